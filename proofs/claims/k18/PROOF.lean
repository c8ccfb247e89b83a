import PyProof.Rows.All
import KE.IntBitsLaws
import KE.KIsAll
import KE.KSortTup
import Lean
import PyProof.EqAt
import PyProof.EqKinds
import PyProof.TupleCall
import PySem.Challenge.RW_sheetfold_k18_skins
set_option Elab.async false
set_option linter.all false
set_option maxRecDepth 100000
namespace HD
open PySem PySem.W PySem.Calls PyProof.Rows
noncomputable def vw : Program := view PySem.Challenge.pw_sheetfold_k18_skins [1, 2, 4, 5, 7, 8, 9, 10, 11, 12, 13, 14]
def tp (i : Nat) : Stmt := PySem.Challenge.pw_sheetfold_k18_skins.main.body.getD i (.Pass ⟨0, 0, 0, 0⟩)
def dA : Stmt → Arguments
  | .FunctionDef _ a _ _ _ _ _ _ _ _ => a
  | _ => default
def dB : Stmt → List Stmt
  | .FunctionDef _ _ b _ _ _ _ _ _ _ => b
  | _ => []
def dS : Stmt → Scope
  | .FunctionDef _ _ _ _ _ _ s _ _ _ => s
  | _ => default
abbrev de (P : Params) (x : String) (t : Nat) (v : Value) : DictEntry := DictEntry.mk (PyData.keyHash P (Str.ofString x)) (Value.str (Str.ofString x) t) v
abbrev S (x : String) (t : Nat) : Value := Value.str (Str.ofString x) t
abbrev I (n : Int) (t : Nat) : Value := Value.int n t
abbrev R (a : Addr) : Value := Value.ref a
abbrev Y (x : String) : Value := Value.type x
abbrev N : Value := Value.none
abbrev tu (a : Array Value) : Obj := Obj.mk (Value.type "tuple") Option.none (Data.seq a) #[]
abbrev cc (x : String) (t1 t2 t3 : Nat) (l n : Int) (a1 : Addr) (k : Int) (a2 : Addr) (u v : Value) (a3 : Addr) (t4 : Int) (t5 : Nat) : Obj := Obj.mk (Value.type "code") Option.none (Data.fields #[S x t1, S x t2, S "/claim/cut.py" t3, I l 0, I n 0, I 0 0, I 0 0, I 3 0, R a1, Value.bool Bool.true, I k 0, R a2, N, u, v, R a3, I t4 0, I l 0, S "/claim/cut.py" t5]) #[]
abbrev xc (x : String) (e a d b : Addr) (t u : Nat) : Obj := Obj.mk (Y "type") Option.none (Data.cls (ClassData.mk (Str.ofString x) [R e] [R a, R e, Y "ValueError", Y "Exception", Y "BaseException", Y "object"] d (Str.ofString x) Bool.true [] [] Bool.false Option.none Bool.false)) #[Option.some (R b), Option.none, Option.some (S x t), Option.some (S x u), Option.some (Value.builtin "ValueError.__new__"), Option.some (Value.bool Bool.true)]
abbrev xd (P : Params) (t1 t2 t3 : Nat) (l : Int) (t4 t5 : Nat) (a : Addr) (t6 : Nat) : Obj := Obj.mk (Y "dict") Option.none (Data.dict #[de P "__module__" t1 (S "sheetfold.errors" t2), de P "__firstlineno__" t3 (I l t4), de P "__static_attributes__" t5 (R a), de P "__doc__" t6 N] 2) #[]
abbrev fu (x : String) (i : Nat) (m : String) (t : Nat) (c : Addr) : Obj := Obj.mk (Value.type "function") Option.none (Data.func (FuncData.mk (Str.ofString x) (Str.ofString x) (dA (tp i)) (FuncBody.stmts (dB (tp i))) (dS (tp i)) 3 [] N N N (S m t) Option.none (R c) N 0)) #[]
set_option maxHeartbeats 0 in
noncomputable def KH : Params → Frag := fun P =>
(nat_lit 2, Obj.mk N Option.none (Data.dict #[]) #[]) ::
(nat_lit 3, Obj.mk (Y "dict") Option.none (Data.dict #[de P "__name__" 165 (S "law_sheetfold_k18_skins" 234), de P "__doc__" 166 N, de P "__package__" 167 N, de P "__loader__" 168 (Value.builtin "__main__.__loader__#opaque"), de P "__spec__" 169 N, de P "__annotations__" 170 (R 6), de P "__builtins__" 171 (R 4), de P "__file__" 173 (S "/claim/cut.py" 172), de P "__cached__" 174 N, de P "UNITS" 210 (R 21), de P "added" 218 (R 28), de P "middle_of" 227 (R 35), de P "skin_of" 233 (R 40), de P "_law_cell_at" 243 (R 47), de P "_law_whole" 250 (R 54), de P "_law_spots" 259 (R 61), de P "_law_base" 268 (R 68), de P "_law_cubes" 280 (R 75), de P "_law_due" 286 (R 80), de P "_law_with_far" 297 (R 87), de P "law" 303 (R 92)] 21) #[]) ::
(nat_lit 6, Obj.mk (Y "dict") Option.none (Data.dict #[]) #[]) ::
(nat_lit 15, tu #[I (-1) 190, I 0 191, I 0 192]) ::
(nat_lit 16, tu #[I 0 193, I (-1) 195, I 0 196]) ::
(nat_lit 17, tu #[I 0 197, I 0 198, I (-1) 200]) ::
(nat_lit 18, tu #[I 0 201, I 0 202, I 1 203]) ::
(nat_lit 19, tu #[I 0 204, I 1 205, I 0 206]) ::
(nat_lit 20, tu #[I 1 207, I 0 208, I 0 209]) ::
(nat_lit 21, tu #[R 15, R 16, R 17, R 18, R 19, R 20]) ::
(nat_lit 22, tu #[]) ::
(nat_lit 24, tu #[S "one" 214, S "other" 215]) ::
(nat_lit 25, tu #[]) ::
(nat_lit 27, cc "added" 211 212 213 3 2 22 181 23 (R 24) (R 25) 26 216 217) ::
(nat_lit 28, fu "added" 2 "sheetfold.turns" 187 27) ::
(nat_lit 29, tu #[]) ::
(nat_lit 31, tu #[S "cube" 224]) ::
(nat_lit 32, tu #[]) ::
(nat_lit 34, cc "middle_of" 221 222 223 6 1 29 181 30 (R 31) (R 32) 33 225 226) ::
(nat_lit 35, fu "middle_of" 4 "sheetfold.squares" 219 34) ::
(nat_lit 36, tu #[]) ::
(nat_lit 39, cc "skin_of" 228 229 230 8 1 36 181 37 N N 38 231 232) ::
(nat_lit 40, fu "skin_of" 5 "sheetfold.squares" 219 39) ::
(nat_lit 41, tu #[]) ::
(nat_lit 43, tu #[S "_law_script" 239, S "_law_k" 240]) ::
(nat_lit 44, tu #[]) ::
(nat_lit 46, cc "_law_cell_at" 236 237 238 16 2 41 181 42 (R 43) (R 44) 45 241 242) ::
(nat_lit 47, fu "_law_cell_at" 7 "law_sheetfold_k18_skins" 234 46) ::
(nat_lit 48, tu #[]) ::
(nat_lit 50, tu #[S "_law_found" 247]) ::
(nat_lit 51, tu #[]) ::
(nat_lit 53, cc "_law_whole" 244 245 246 20 1 48 181 49 (R 50) (R 51) 52 248 249) ::
(nat_lit 54, fu "_law_whole" 8 "law_sheetfold_k18_skins" 234 53) ::
(nat_lit 55, tu #[]) ::
(nat_lit 57, tu #[S "_law_found" 254, S "_law_spot" 255, S "_law_number" 256]) ::
(nat_lit 58, tu #[]) ::
(nat_lit 60, cc "_law_spots" 251 252 253 22 1 55 181 56 (R 57) (R 58) 59 257 258) ::
(nat_lit 61, fu "_law_spots" 9 "law_sheetfold_k18_skins" 234 60) ::
(nat_lit 62, tu #[]) ::
(nat_lit 64, tu #[S "_law_cells" 263, S "_law_base_here" 264, S "_law_cell" 265]) ::
(nat_lit 65, tu #[]) ::
(nat_lit 67, cc "_law_base" 260 261 262 32 1 62 181 63 (R 64) (R 65) 66 266 267) ::
(nat_lit 68, fu "_law_base" 10 "law_sheetfold_k18_skins" 234 67) ::
(nat_lit 69, tu #[]) ::
(nat_lit 71, tu #[S "_law_cells" 272, S "_law_base_here" 273, S "_law_cubes_here" 274, S "_law_cell" 275, S "_law_cube" 276, S "_law_axis" 277]) ::
(nat_lit 72, tu #[]) ::
(nat_lit 74, cc "_law_cubes" 269 270 271 40 2 69 181 70 (R 71) (R 72) 73 278 279) ::
(nat_lit 75, fu "_law_cubes" 11 "law_sheetfold_k18_skins" 234 74) ::
(nat_lit 76, tu #[]) ::
(nat_lit 79, cc "_law_due" 281 282 283 53 1 76 181 77 N N 78 284 285) ::
(nat_lit 80, fu "_law_due" 12 "law_sheetfold_k18_skins" 234 79) ::
(nat_lit 81, tu #[]) ::
(nat_lit 83, tu #[S "_law_cubes_here" 290, S "_law_cell" 291, S "_law_far" 292, S "_law_axis" 293, S "_law_way" 294]) ::
(nat_lit 84, tu #[]) ::
(nat_lit 86, cc "_law_with_far" 287 288 289 65 2 81 181 82 (R 83) (R 84) 85 295 296) ::
(nat_lit 87, fu "_law_with_far" 13 "law_sheetfold_k18_skins" 234 86) ::
(nat_lit 88, tu #[]) ::
(nat_lit 91, cc "law" 298 299 300 71 1 88 181 89 N N 90 301 302) ::
(nat_lit 92, fu "law" 14 "law_sheetfold_k18_skins" 234 91) :: []
def kA : List Addr := [2, 3, 6, 15, 16, 17, 18, 19, 20, 21, 22, 24, 25, 27, 28, 29, 31, 32, 34, 35, 36, 39, 40, 41, 43, 44, 46, 47, 48, 50, 51, 53, 54, 55, 57, 58, 60, 61, 62, 64, 65, 67, 68, 69, 71, 72, 74, 75, 76, 79, 80, 81, 83, 84, 86, 87, 88, 91, 92]
theorem kE (P : Params) : kA = (KH P).map (·.1) := by kernel_rfl
noncomputable abbrev hk : Hook := kHook KH kA kE
noncomputable def tfQ (tr : (String → Option Builtin) → Program → World → Nat → Option Value → Nat → Shared → Thread → Option Shared) (tb : String → Option Builtin) (p : Program) (w : World) (N : Nat) (s : Shared) : Option Shared :=
  match s.heap.isNs mainGlobals && s.gens.size == 0 with
  | true => (tr tb p w s.heap.objs.size (s.heap.nsMap mainGlobals "__annotations__") N s (topStub p)).bind fun u =>
      match staticsOk (importedModules p.main.body) s.heap u.heap && namesBound p u.heap && gensDone u && laidKept s.heap u.heap with
      | true => some u
      | false => none
  | false => none
theorem tf_q (p : Program) (w : World) (N : Nat) : topFrom treeTable p w N = tfQ Fast.tw14082659384304107361 Fast.tw14364793385576792824 p w N := by
  rw [← Fast.te14082659384304107361, ← Fast.te14364793385576792824]
  rfl
noncomputable def opQ (p : Program) (w : World) (N : Nat) : Option Shared :=
  (Fast.tw10274390034422433532 Fast.tw14364793385576792824 (opening p) w N (Fast.tw1435165496053646825 (opening p)).1 (Fast.tw1435165496053646825 (opening p)).2).bind (Fast.tw14289696077712309145 p)
theorem op_q (p : Program) (w : World) (N : Nat) : fencedOpening treeTable p w N = opQ p w N := by
  unfold opQ
  rw [← Fast.te10274390034422433532, ← Fast.te14364793385576792824, ← Fast.te1435165496053646825, ← Fast.te14289696077712309145]
  rfl
noncomputable def endsQ (p : Program) (w : World) (N : Nat) : Option Shared := (opQ p w N).bind (tfQ Fast.tw14082659384304107361 Fast.tw14364793385576792824 p w N)
theorem ends_q (p : Program) (w : World) (N : Nat) : openEnds treeTable p w N = endsQ p w N := by
  unfold openEnds endsQ
  rw [op_q, tf_q]
set_option maxHeartbeats 0 in
theorem left : LeftO PySem.Challenge.pw_sheetfold_k18_skins vw [] (fun s => xlAt vw [] s && recOk (RowW.records (OpenRow.toRowW (OpenLaw.row PySem.Challenge.rw_sheetfold_k18_skins))) s) (Hook.obs hk) (Hook.val hk) 940 := by
  intro w
  rw [ends_q, Fast.te4187177175401517315]
  kernel_rfl
end HD
namespace L2
open PySem PySem.Spec PyProof.Rows
abbrev Key := Sum Int Str
def keyIs : Key → Value → Bool
  | .inl k, v => Value.isInt k v
  | .inr x, v => Value.isStrOf x v
def keyH (w : World) : Key → Int
  | .inl k => hashInt k
  | .inr x => hashStr w x
theorem keyIs_shape : ∀ {k : Key} {v : Value}, keyIs k v = true → (∃ i t, k = Sum.inl i ∧ v = Value.int i t) ∨ (∃ x t, k = Sum.inr x ∧ v = Value.str x t)
  | .inl i, v, h => by
    obtain ⟨t, e⟩ := Value.isInt_shape (k := i) (v := v) h
    exact .inl ⟨i, t, rfl, e⟩
  | .inr x, v, h => by
    obtain ⟨t, e⟩ := Value.isStrOf_shape (x := x) (v := v) h
    exact .inr ⟨x, t, rfl, e⟩
theorem key_ll (a b : Int) : decide ((Sum.inl a : Key) = Sum.inl b) = (a == b) := by
  by_cases e : a = b
  · subst e; simp
  · have h : ¬ (Sum.inl a : Key) = Sum.inl b := fun q => e (Sum.inl.inj q)
    rw [decide_eq_false h]
    exact (beq_eq_false_iff_ne.mpr e).symm
theorem key_rr (a b : Str) : decide ((Sum.inr a : Key) = Sum.inr b) = decide (a = b) := by
  by_cases e : a = b
  · subst e; simp
  · have h : ¬ (Sum.inr a : Key) = Sum.inr b := fun q => e (Sum.inr.inj q)
    rw [decide_eq_false h, decide_eq_false e]
theorem key_lr (a : Int) (b : Str) : decide ((Sum.inl a : Key) = Sum.inr b) = false := decide_eq_false (fun q => nomatch q)
theorem key_rl (a : Str) (b : Int) : decide ((Sum.inr a : Key) = Sum.inl b) = false := decide_eq_false (fun q => nomatch q)
def mixKind (prog : Program) (w : World) : PySem.KeyKind prog w Key where
  is := keyIs
  hash := keyH w
  inj := fun v a b ha hb => by
    rcases keyIs_shape ha with ⟨i, t, rfl, rfl⟩ | ⟨x, t, rfl, rfl⟩
    · rcases keyIs_shape hb with ⟨j, u, rfl, e⟩ | ⟨y, u, rfl, e⟩
      · injection e with e1 _; rw [e1]
      · exact nomatch e
    · rcases keyIs_shape hb with ⟨j, u, rfl, e⟩ | ⟨y, u, rfl, e⟩
      · exact nomatch e
      · injection e with e1 _; rw [e1]
  byValue := fun k v h => by
    rcases keyIs_shape h with ⟨i, t, rfl, rfl⟩ | ⟨x, t, rfl, rfl⟩ <;> rfl
  pyHash := fun hv h => by
    rcases keyIs_shape hv with ⟨i, t, rfl, rfl⟩ | ⟨x, t, rfl, rfl⟩
    · exact wpAny_pyHash_int h
    · exact wpAny_pyHash_str h
  eqBool := fun hu hv h => by
    rcases keyIs_shape hu with ⟨i, t, rfl, rfl⟩ | ⟨x, t, rfl, rfl⟩
    · rcases keyIs_shape hv with ⟨j, u, rfl, rfl⟩ | ⟨y, u, rfl, rfl⟩
      · rw [key_ll] at h; exact wpAny_eqBool_int h
      · rw [key_lr] at h; exact SeqAt.EqAt.int_str i t y u _ _ _ _ h
    · rcases keyIs_shape hv with ⟨j, u, rfl, rfl⟩ | ⟨y, u, rfl, rfl⟩
      · rw [key_rl] at h; exact SeqAt.EqAt.str_int x t j u _ _ _ _ h
      · rw [key_rr] at h; exact wpAny_eqBool_str h
  «strs» := fun k x t v h => by
    rcases keyIs_shape h with ⟨i, u, rfl, e⟩ | ⟨y, u, rfl, e⟩
    · exact nomatch e
    · injection e with e1 _
      subst e1
      cases v <;> rfl
inductive V where
  | non | bl (b : Bool) | int (i : Int) | str (x : Str) | byt (b : Array UInt8) | flt (b : UInt64) | ref (a : Addr) | ty (n : String)
  deriving DecidableEq
def RelV : V → Value → Prop
  | .non, u => u = Value.none
  | .bl b, u => u = Value.bool b
  | .int i, u => ∃ t, u = Value.int i t
  | .str x, u => ∃ t, u = Value.str x t
  | .byt b, u => ∃ t, u = Value.bytes b t
  | .flt b, u => ∃ t, u = Value.float b t
  | .ref a, u => u = Value.ref a
  | .ty n, u => u = Value.type n
abbrev Vals : List V → List Value → Prop := Paired RelV
theorem Vals.length {xs : List V} {us : List Value} (r : Vals xs us) : xs.length = us.length := Paired.length r
theorem Vals.get : ∀ {xs : List V} {us : List Value} {i : Nat} {x : V}, Vals xs us → xs[i]? = some x → ∃ u, us[i]? = some u ∧ RelV x u
  | _, _, _, _, .nil, e => by simp at e
  | _, _, 0, _, .cons r _, e => by simp at e; subst e; exact ⟨_, rfl, r⟩
  | _, _, i + 1, x, .cons _ t, e => by
    obtain ⟨u, h1, h2⟩ := Vals.get (i := i) (x := x) t (by simpa using e)
    exact ⟨u, by simpa using h1, h2⟩
theorem Vals.set {x : V} {u : Value} (r : RelV x u) : ∀ {xs : List V} {us : List Value} (i : Nat), Vals xs us → Vals (xs.set i x) (us.set i u)
  | _, _, _, .nil => .nil
  | _, _, 0, .cons _ t => .cons r t
  | _, _, i + 1, .cons q t => .cons q (Vals.set r i t)
theorem Vals.append {xs ys : List V} {us ws : List Value} (h : Vals xs us) (s : Vals ys ws) : Vals (xs ++ ys) (us ++ ws) := by
  induction h with
  | nil => exact s
  | cons r _ ih => exact .cons r ih
theorem Vals.take : ∀ {xs : List V} {us : List Value} (n : Nat), Vals xs us → Vals (xs.take n) (us.take n)
  | _, _, 0, _ => .nil
  | _, _, _ + 1, .nil => .nil
  | _, _, n + 1, .cons r t => .cons r (Vals.take n t)
theorem Vals.drop : ∀ {xs : List V} {us : List Value} (n : Nat), Vals xs us → Vals (xs.drop n) (us.drop n)
  | _, _, 0, r => r
  | _, _, _ + 1, .nil => .nil
  | _, _, n + 1, .cons _ t => Vals.drop n t
def RelO : Option V → Option Value → Prop
  | some v, some u => RelV v u
  | none, none => True
  | _, _ => False
def KV {κ : Type} : List (κ × V) → List (κ × Value) → Prop := Paired fun (p : κ × V) (q : κ × Value) => p.1 = q.1 ∧ RelV p.2 q.2
def kV : Key → V
  | .inl i => .int i
  | .inr x => .str x
inductive HO where
  /-- a list -/
  | lst (xs : List V)
  /-- a tuple (never changes) -/
  | tup (xs : List V)
  /-- a dict whose keys are ints and texts; one whose keys are tuples of ints and texts (the empty one is both) -/
  | dK (kvs : List (Key × V)) | dT (kvs : List (List Key × V))
  /-- a set of ints: its members, its size -/
  | set (S : Int → Bool) (n : Nat)
  /-- an instance of the class at C, its dict at dx, its attributes -/
  | ins (C dx : Addr) (fs : List (Str × V))
  /-- the dict of the instance at x -/
  | own (x : Addr)
  /-- the dict of an exception -/
  | xd (fs : List (Str × V))
  /-- a bound method, f of x -/
  | met (f x : Addr)
  /-- a range object lo, lo + 1, .. below hi -/
  | rng (lo hi : Int)
  /-- a thing that is known to the object (the script; a dict while a loop walks it): read, never written while it is so -/
  | frz (o : Obj) (u : HO)
  /-- a code object's table -/
  | tbl (ps : Array Value)
  /-- any other thing, by what is true of its one object (a def of one's own: SetO a S n := HO.ext fun h => ..) -/
  | ext (φ : Heap → Prop)
abbrev Hp := Addr → Option HO
def upd (H : Hp) (a : Addr) (o : HO) : Hp := fun b => if b = a then some o else H b
theorem upd_same {H : Hp} {a : Addr} {o : HO} : upd H a o a = some o := by unfold upd; rw [if_pos rfl]
theorem upd_ne {H : Hp} {a b : Addr} {o : HO} (h : b ≠ a) : upd H a o b = H b := by unfold upd; rw [if_neg h]
theorem ne_of_none {H : Hp} {a b : Addr} {o : HO} (h : H a = some o) (h' : H b = none) : a ≠ b := by
  intro e; subst e; rw [h] at h'; cases h'
section
variable (P : Program) (w : World)
def ObjOk (H : Hp) (h : Heap) (a : Addr) : HO → Prop
  | .lst xs => xs.length ≤ sizeLine ∧ ∃ (its : List Value) (n : Nat), Vals xs its ∧ h.get? a = some { cls := .type "list", data := .seq its.toArray n }
  | .tup xs => xs.length ≤ sizeLine ∧ ∃ its : List Value, Vals xs its ∧ IsTup h a its.toArray
  | .dK kvs => kvs.length ≤ sizeLine ∧ (a == sysModules) = false ∧ ∃ vs, KV kvs vs ∧ h.DictOf (mixKind P w) a vs
  | .dT kvs => kvs.length ≤ sizeLine ∧ (a == sysModules) = false ∧ ∃ xs : List (List Key × Addr × Value),
      Paired (fun (p : List Key × V) (q : List Key × Addr × Value) => p.1 = q.1 ∧ H q.2.1 = some (.tup (p.1.map kV)) ∧ RelV p.2 q.2.2) kvs xs ∧
      ∃ o es ep, h.get? a = some o ∧ o.ExactDict ∧ o.data = .dict es ep ∧ es.toList = xs.map (entryOfKey (tupleKind (mixKind P w))) ∧ (xs.map (·.1)).Nodup
  | .set S n => h.SetOf (intKind P w) a S n
  | .ins C dx fs => H dx = some (.own a) ∧ fs.length ≤ 1000 ∧ dx ≠ a ∧ h.get? a = some (PySem.W.instObj C dx) ∧
      ∃ mA, h.Ns1 dx mA ∧ (∀ f, RelO (fs.lookup f) (mA f)) ∧ PySem.Within mA (fs.map (·.1))
  | .own _ => ∃ o, h.get? a = some o
  | .xd fs => ∃ mA, h.Ns1 a mA ∧ ∀ f, RelO (fs.lookup f) (mA f)
  | .rng lo hi => ∃ t u v, h.get? a = some { cls := .type "range", data := .fields #[.int lo t, .int hi u, .int 1 v] }
  | .frz o u => h.get? a = some o ∧ ObjOk H h a u
  | .tbl ps => h.get? a = some { cls := .none, data := .fields ps }
  | .met f x => h.get? a = some (PySem.W.methodObj (.ref f) (.ref x))
  | .ext φ => φ h ∧ (∃ o, h.get? a = some o) ∧ ∀ h1 h2 : Heap, φ h1 → (∀ o, h1.get? a = some o → h2.get? a = some o) → φ h2
def HOk (H : Hp) (h : Heap) : Prop := ∀ a o, H a = some o → ObjOk P w H h a o
end
section
variable {P : Program} {w : World} {H H' : Hp} {h h' : Heap} {a : Addr} {o : HO}
theorem ObjOk.lt (x : ObjOk P w H h a o) : a < h.objs.size := by
  cases o with
  | lst xs => obtain ⟨_, _, _, _, e⟩ := x; exact Heap.lt_size e
  | tup xs => obtain ⟨_, _, _, p⟩ := x; exact p.lt
  | dK kvs => obtain ⟨_, _, _, _, o, _, _, e, _⟩ := x; exact Heap.lt_size e
  | dT kvs => obtain ⟨_, _, _, _, o, _, _, e, _⟩ := x; exact Heap.lt_size e
  | set S n => obtain ⟨o, _, _, _, e, _⟩ := x; exact Heap.lt_size e
  | ins C dx fs => obtain ⟨_, _, _, e, _⟩ := x; exact Heap.lt_size e
  | own y => obtain ⟨_, e⟩ := x; exact Heap.lt_size e
  | xd fs => obtain ⟨_, ⟨_, _, _, e, _⟩, _⟩ := x; exact Heap.lt_size e
  | rng lo hi => obtain ⟨_, _, _, e⟩ := x; exact Heap.lt_size e
  | frz ob u => obtain ⟨e, _⟩ := x; exact Heap.lt_size e
  | tbl ps => exact Heap.lt_size (show h.get? a = some _ from x)
  | met f y => exact Heap.lt_size (show h.get? a = some _ from x)
  | ext φ => obtain ⟨_, ⟨_, e⟩, _⟩ := x; exact Heap.lt_size e
theorem Paired.mapP {α β : Type} {F G : α → β → Prop} : ∀ {l₁ : List α} {l₂ : List β}, Paired F l₁ l₂ → (∀ a b, F a b → G a b) → Paired G l₁ l₂
  | _, _, .nil, _ => .nil
  | _, _, .cons r t, f => .cons (f _ _ r) (Paired.mapP t f)
theorem ObjOk.stay (x : ObjOk P w H h a o) (k : ∀ b u, (b = a ∨ H b = some (.own a)) → h.get? b = some u → h'.get? b = some u)
    (ho : ∀ b, H b = some (.own a) → H' b = some (.own a)) (ht : ∀ b xs, H b = some (.tup xs) → H' b = some (.tup xs)) : ObjOk P w H' h' a o := by
  induction o with
  | lst xs => obtain ⟨z, its, n, r, e⟩ := x; exact ⟨z, its, n, r, k _ _ (.inl rfl) e⟩
  | tup xs => obtain ⟨z, its, r, ob, e, c⟩ := x; exact ⟨z, its, r, ob, k _ _ (.inl rfl) e, c⟩
  | dK kvs => obtain ⟨z, y, vs, r, ob, es, ep, e, c⟩ := x; exact ⟨z, y, vs, r, ob, es, ep, k _ _ (.inl rfl) e, c⟩
  | dT kvs =>
    obtain ⟨z, y, xs, r, ob, es, ep, e, c⟩ := x
    exact ⟨z, y, xs, Paired.mapP r fun p q z => ⟨z.1, ht _ _ z.2.1, z.2.2⟩, ob, es, ep, k _ _ (.inl rfl) e, c⟩
  | set S n => obtain ⟨ob, es, ep, t, e, c⟩ := x; exact ⟨ob, es, ep, t, k _ _ (.inl rfl) e, c⟩
  | ins C dx fs =>
    obtain ⟨d, z, ne, e, mA, ⟨od, es, ep, e2, c⟩, r⟩ := x
    exact ⟨ho _ d, z, ne, k _ _ (.inl rfl) e, mA, ⟨od, es, ep, k _ _ (.inr d) e2, c⟩, r⟩
  | own y => obtain ⟨ob, e⟩ := x; exact ⟨ob, k _ _ (.inl rfl) e⟩
  | xd fs => obtain ⟨mA, ⟨od, es, ep, e, c⟩, r⟩ := x; exact ⟨mA, ⟨od, es, ep, k _ _ (.inl rfl) e, c⟩, r⟩
  | rng lo hi => obtain ⟨t, u, v, e⟩ := x; exact ⟨t, u, v, k _ _ (.inl rfl) e⟩
  | frz ob u ih => obtain ⟨e, q⟩ := x; exact ⟨k _ _ (.inl rfl) e, ih q⟩
  | tbl ps =>
    have e : h.get? a = some { cls := .none, data := .fields ps } := x
    show h'.get? a = some { cls := .none, data := .fields ps }
    exact k a _ (.inl rfl) e
  | met f y =>
    have e : h.get? a = some (PySem.W.methodObj (.ref f) (.ref y)) := x
    show h'.get? a = some (PySem.W.methodObj (.ref f) (.ref y))
    exact k a _ (.inl rfl) e
  | ext φ => obtain ⟨p, ⟨o, e⟩, st⟩ := x; exact ⟨st _ _ p fun o q => k _ _ (.inl rfl) q, ⟨o, k _ _ (.inl rfl) e⟩, st⟩
theorem HOk.lt (x : HOk P w H h) (e : H a = some o) : a < h.objs.size := (x a o e).lt
theorem HOk.fresh (x : HOk P w H h) (e : h.objs.size ≤ a) : H a = none := by
  cases q : H a with
  | none => rfl
  | some u => exact absurd (Nat.lt_of_lt_of_le (x.lt q) e) (Nat.lt_irrefl _)
theorem HOk.kept (x : HOk P w H h) (k : ∀ b u, h.get? b = some u → h'.get? b = some u) : HOk P w H h' := fun a o e =>
  (x a o e).stay (fun b u _ q => k b u q) (fun _ q => q) fun _ _ q => q
theorem HOk.laid (x : HOk P w H h) (k : ∀ b u, h.get? b = some u → h'.get? b = some u) (hp : h.objs.size ≤ a) (new : ObjOk P w (upd H a o) h' a o) : HOk P w (upd H a o) h' := fun b u e => by
  have hn := x.fresh hp
  by_cases hb : b = a
  · subst hb; rw [upd_same] at e; cases e; exact new
  · rw [upd_ne hb] at e
    exact (x b u e).stay (fun c v _ q => k c v q) (fun c q => by rw [upd_ne (ne_of_none q hn)]; exact q) fun c xs q => by rw [upd_ne (ne_of_none q hn)]; exact q
end
def Rd (H : Hp) (a : Addr) (u : HO) : Prop := H a = some u ∨ ∃ o, H a = some (.frz o u)
theorem Rd.ok {P : Program} {w : World} {H : Hp} {h : Heap} {a : Addr} {u : HO} (r : Rd H a u) (x : HOk P w H h) : ObjOk P w H h a u := by
  rcases r with r | ⟨o, r⟩
  · exact x a u r
  · obtain ⟨_, q⟩ := x a _ r
    exact q
def Mut : Option HO → Prop
  | some (.lst _) => True
  | some (.dK _) => True
  | some (.dT _) => True
  | some (.set _ _) => True
  | some (.ins _ _ _) => True
  | some (.ext _) => True
  | _ => False
section
variable {P : Program} {w : World} {H : Hp} {h h' : Heap} {x e : Addr} {o' : HO}
theorem HOk.write (ok : HOk P w H h) (mu : Mut (H x)) (he : e = x ∨ H e = some (.own x)) (k : ∀ b u, b ≠ e → h.get? b = some u → h'.get? b = some u) (heo : ∃ u, h'.get? e = some u)
    (new : ObjOk P w (upd H x o') h' x o') : HOk P w (upd H x o') h' := fun b u q => by
  have nown : ∀ c y, H c = some (.own y) → c ≠ x := fun c y r z => by subst z; rw [r] at mu; exact mu
  have ntup : ∀ c xs, H c = some (.tup xs) → c ≠ x := fun c xs r z => by subst z; rw [r] at mu; exact mu
  by_cases hb : b = x
  · subst hb; rw [upd_same] at q; cases q; exact new
  · rw [upd_ne hb] at q
    by_cases hbe : b = e
    · have q' : H b = some (.own x) := by
        rcases he with z | z
        · exact absurd (hbe.trans z) hb
        · rw [hbe]; exact z
      rw [q] at q'; cases q'
      obtain ⟨v, hv⟩ := heo
      exact ⟨v, by rw [hbe]; exact hv⟩
    · refine (ok b u q).stay (fun c v hc r => k c v ?_ r) (fun c r => by rw [upd_ne (nown c b r)]; exact r) fun c xs r => by rw [upd_ne (ntup c xs r)]; exact r
      rcases hc with rfl | hc
      · exact hbe
      · rintro rfl
        rcases he with z | z
        · exact nown c b hc z
        · rw [hc] at z; cases z; exact hb rfl
end
structure Un (fs ex : List Addr) (H H' : Hp) (h h' : Heap) : Prop where
  keep : ∀ b o, h.get? b = some o → H b = none → b ∉ fs → b ∉ ex → h'.get? b = some o
  slot : ∀ b o, h.get? b = some o → H b = none → b ∈ fs → b ∉ ex → ∃ sl, h'.get? b = some { o with slots := sl }
  free : ∀ b o, h.get? b = some o → H b = none → b ∉ ex → H' b = none
  there : ∀ b o, h.get? b = some o → b ∉ ex → ∃ o', h'.get? b = some o'
  tups : ∀ b xs, H b = some (.tup xs) → H' b = some (.tup xs)
  frzs : ∀ b o u, H b = some (.frz o u) → H' b = some (.frz o u)
  tbls : ∀ b ps, H b = some (.tbl ps) → ∃ more, H' b = some (.tbl (ps ++ more))
section
variable {fs fs' ex ex' : List Addr} {H H1 H2 : Hp} {h h1 h2 h' : Heap} {a x e : Addr} {o : HO}
theorem Un.any (u : Un fs ex H H1 h h1) {b : Addr} {ob : Obj} (q : h.get? b = some ob) (n : H b = none) (hx : b ∉ ex) : ∃ sl, h1.get? b = some { ob with slots := sl } := by
  by_cases hb : b ∈ fs
  · exact u.slot b ob q n hb hx
  · exact ⟨ob.slots, u.keep b ob q n hb hx⟩
theorem Un.kept (k : ∀ b u, h.get? b = some u → h'.get? b = some u) : Un fs ex H H h h' :=
  ⟨fun b ob q _ _ _ => k b ob q, fun b ob q _ _ _ => ⟨ob.slots, k b ob q⟩, fun _ _ _ n _ => n, fun b ob q _ => ⟨ob, k b ob q⟩, fun _ _ q => q, fun _ _ _ q => q, fun _ ps q => ⟨#[], by rw [q]; simp⟩⟩
theorem Un.refl : Un fs ex H H h h := Un.kept fun _ _ q => q
theorem Un.laid (k : ∀ b u, h.get? b = some u → h'.get? b = some u) (hp : h.objs.size ≤ a) (hn : H a = none) : Un fs ex H (upd H a o) h h' where
  keep := fun b u q _ _ _ => k b u q
  slot := fun b u q _ _ _ => ⟨u.slots, k b u q⟩
  free := fun b u q n _ => by rw [upd_ne (Nat.ne_of_lt (Nat.lt_of_lt_of_le (Heap.lt_size q) hp))]; exact n
  there := fun b u q _ => ⟨u, k b u q⟩
  tups := fun b xs q => by rw [upd_ne (ne_of_none q hn)]; exact q
  frzs := fun b u xs q => by rw [upd_ne (ne_of_none q hn)]; exact q
  tbls := fun b ps q => ⟨#[], by rw [upd_ne (ne_of_none q hn), q]; simp⟩
theorem Un.write (mu : Mut (H x)) (he : e = x ∨ H e = some (.own x)) (k : ∀ b u, b ≠ e → h.get? b = some u → h'.get? b = some u) (heo : ∃ u, h'.get? e = some u) : Un fs ex H (upd H x o) h h' := by
  have hx : ∀ b, H b = none → b ≠ x := fun b n z => by subst z; rw [n] at mu; exact mu
  have hb : ∀ b, H b = none → b ≠ e := fun b n z => by
    subst z
    rcases he with r | r
    · exact hx b n r
    · rw [n] at r; cases r
  have hm : ∀ b u, H b = some u → ¬ Mut (some u) → b ≠ x := fun b u q nm z => by subst z; rw [q] at mu; exact nm mu
  refine ⟨fun b u q n _ _ => k b u (hb b n) q, fun b u q n _ _ => ⟨u.slots, k b u (hb b n) q⟩, fun b u q n _ => by rw [upd_ne (hx b n)]; exact n, fun b u q _ => ?_,
    fun b xs q => by rw [upd_ne (hm b _ q fun z => z)]; exact q, fun b u xs q => by rw [upd_ne (hm b _ q fun z => z)]; exact q, fun b ps q => ⟨#[], by rw [upd_ne (hm b _ q fun z => z), q]; simp⟩⟩
  by_cases hbe : b = e
  · subst hbe; exact heo
  · exact ⟨u, k b u hbe q⟩
end
def trk (h : Heap) (H : Hp) : List Addr := (List.range h.objs.size).filter fun a => (H a).isSome
def hidT (h : Heap) (H : Hp) : Heap := PySem.W.hideAll h (trk h H)
theorem hidT_size (h : Heap) (H : Hp) : (hidT h H).objs.size = h.objs.size := PySem.W.hideAll_size _ _
theorem hidT_get {h : Heap} {H : Hp} {b : Addr} {o : Obj} (e : h.get? b = some o) (n : H b = none) : (hidT h H).get? b = some o :=
  PySem.W.hideAll_get _ e fun hm => by
    have q : (H b).isSome = true := (List.mem_filter.mp hm).2
    rw [n] at q; simp at q
theorem of_hidT {h : Heap} {H : Hp} {b : Addr} {o : Obj} (e : (hidT h H).get? b = some o) : h.get? b = some o ∧ H b = none := by
  have e' : h.get? b = some o := PySem.W.of_hideAll (trk h H) e
  refine ⟨e', ?_⟩
  cases q : H b with
  | none => rfl
  | some x =>
    have hm : b ∈ trk h H := List.mem_filter.mpr ⟨List.mem_range.mpr (Heap.lt_size e'), by simp [q]⟩
    have z : (hidT h H).get? b = none := PySem.W.hideAll_none (trk h H) hm
    rw [z] at e; cases e
structure Mod (K : PySem.W.Frag) (mg : Str → Option Value) (base : Heap) : Prop where
  kin : K.In base
  glob : base.Ns mainGlobals mg
  blt : ∃ mb, base.Ns builtinsNs mb ∧ ∀ x : Str, x ≠ "__name__" → mb x = bootBuiltins x
  nolimit : base.NoLimit
structure Cx where
  prog : Program
  w : World
  K : PySem.W.Frag
  mg : Str → Option Value
  base : Heap
  A : Around
  N : List Str
  s₀ : Shared
  H₀ : Hp
  env : Env
  outer : List Env
  stack : List Env
  ex : List Addr
  fn : Str → Bool
  calm : Bool
  pn : List (Addr × Obj)
  xe : Value → Shared → Prop
def frs (l : List Env) : List Addr := l.filterMap (·.frame)
abbrev Cx.fs (X : Cx) : List Addr := frs X.outer
def Vis (sc : Scope) (x : Str) : Prop := sc.names.lookup x = some .local ∨ sc.names.lookup x = some .cell ∨ sc.names.lookup x = some .free
def Loc (sc : Scope) (x : Str) : Prop := sc.names.lookup x = some .local ∨ sc.names.lookup x = some .cell
def Look (env : Env) (h : Heap) (m : Str → Option Value) (x : Str) (u : Value) : Prop :=
  (env.kindOf x = some .local ∧ m x = some u) ∨ ((env.kindOf x = some .cell ∨ env.kindOf x = some .free) ∧ ∃ c, env.cells.lookup x = some c ∧ h.IsCell c (some u))
structure Cx.Ok (X : Cx) : Prop where
  mod : Mod X.K X.mg X.base
  kind : X.env.scope.kind = .function
  glob : X.env.globals = mainGlobals
  blt : X.env.builtins = builtinsNs
  above : X.s₀.heap.objs.size ≤ X.env.locals
  inj : ∀ x y c, X.env.cells.lookup x = some c → X.env.cells.lookup y = some c → x = y
  has : ∀ x, (X.env.kindOf x = some .cell ∨ X.env.kindOf x = some .free) → ∃ c, X.env.cells.lookup x = some c
  cab : ∀ x c, X.fn x = true → X.env.cells.lookup x = some c → X.s₀.heap.objs.size ≤ c
  hd : X.calm = true → X.A.handled = none
  frames : X.A.frames = some X.stack
  stk : X.stack = X.outer ∨ (X.stack = X.env :: X.outer ∧ X.env.frame = some X.env.locals)
  exf : ∀ b ∈ X.ex, b ≠ X.env.locals ∧ ∀ x c, X.env.cells.lookup x = some c → c ≠ b
  bs : ∀ b o, X.base.get? b = some o → X.s₀.heap.get? b = some o ∧ X.H₀ b = none
  bsz : X.base.objs.size ≤ X.s₀.heap.objs.size
  noex : ∀ b o, X.base.get? b = some o → b ∉ X.ex
  exfs : ∀ b ∈ X.ex, b ∉ X.fs
  funs : X.s₀.heap.FunFrames X.base X.outer
  frf : ∀ b ∈ X.fs, X.H₀ b = none
structure Inv (X : Cx) (pins : List (Addr × Obj)) (σ : List (Option V)) (H : Hp) (s : Shared) : Prop where
  ok : X.Ok
  os : s.os = X.s₀.os
  bare : AllBare s.gens
  base : Un X.fs X.ex X.H₀ H X.s₀.heap s.heap
  loc : ∃ m, s.heap.Ns X.env.locals m ∧ ∀ (i : Nat) (x : Str) (v : V), X.N[i]? = some x → σ[i]? = some (some v) → Vis X.env.scope x → ∃ u, RelV v u ∧ Look X.env s.heap m x u
  cell : ∀ x c, X.env.cells.lookup x = some c → ∃ v, s.heap.IsCell c v
  free : H X.env.locals = none
  freeC : ∀ x c, X.env.cells.lookup x = some c → H c = none
  pin : ∀ p ∈ X.pn ++ pins, s.heap.get? p.1 = some p.2 ∧ H p.1 = none ∧ p.1 ≠ X.env.locals ∧ p.1 ∉ X.fs ∧ ∀ v, p.2.data ≠ .cell v
  hok : HOk X.prog X.w H s.heap
  len : σ.length = X.N.length
section
variable {X : Cx} {pins : List (Addr × Obj)} {σ : List (Option V)} {H H' : Hp} {s : Shared} {h' : Heap}
theorem Cx.Ok.nofr (ok : X.Ok) {b : Addr} {o : Obj} (e : X.base.get? b = some o) : b ∉ X.fs := fun hb => by
  have := (ok.funs.mem hb).1
  rw [e] at this; cases this
theorem Inv.bs (I : Inv X pins σ H s) : ∀ b o, X.base.get? b = some o → s.heap.get? b = some o ∧ H b = none := fun b o e =>
  ⟨I.base.keep b o (I.ok.bs b o e).1 (I.ok.bs b o e).2 (I.ok.nofr e) (I.ok.noex b o e), I.base.free b o (I.ok.bs b o e).1 (I.ok.bs b o e).2 (I.ok.noex b o e)⟩
theorem Inv.bk (I : Inv X pins σ H s) : ∀ b o, X.base.get? b = some o → s.heap.get? b = some o := fun b o e => (I.bs b o e).1
theorem Inv.mod (I : Inv X pins σ H s) : Mod X.K X.mg X.base := I.ok.mod
theorem Inv.kIn (I : Inv X pins σ H s) : X.K.In s.heap := I.ok.mod.kin.keeps I.bk
theorem Inv.lt (I : Inv X pins σ H s) : X.env.locals < s.heap.objs.size := let ⟨_, hn, _⟩ := I.loc; hn.lt
theorem Inv.sz (I : Inv X pins σ H s) : X.s₀.heap.objs.size ≤ s.heap.objs.size := Nat.le_trans I.ok.above (Nat.le_of_lt I.lt)
theorem Inv.nofs (I : Inv X pins σ H s) {a : Addr} (h : s.heap.objs.size ≤ a) : a ∉ X.fs := fun hb => by
  obtain ⟨_, o, ho, _⟩ := I.ok.funs.mem hb
  exact absurd (Nat.lt_of_lt_of_le (Heap.lt_size ho) (Nat.le_trans I.sz h)) (Nat.lt_irrefl _)
theorem Inv.cne (I : Inv X pins σ H s) : ∀ x c, X.env.cells.lookup x = some c → c ≠ X.env.locals := fun x c e z => by
  obtain ⟨v, o, ho, hd⟩ := I.cell x c e
  obtain ⟨m, ⟨o', es, ep, ho', hd', _⟩, _⟩ := I.loc
  rw [z, ho'] at ho; cases ho; rw [hd'] at hd; cases hd
theorem Inv.funs (I : Inv X pins σ H s) : s.heap.FunFrames X.base X.outer := by
  have all : ∀ (l : List Env), (∀ b ∈ frs l, b ∈ X.fs) → X.s₀.heap.FunFrames X.base l → s.heap.FunFrames X.base l := by
    intro l
    induction l with
    | nil => intro _ _; trivial
    | cons env r ih =>
      intro hs hl
      obtain ⟨hk, ⟨L, o, hf, hn, ho, hd⟩, hr⟩ := hl
      have hL : L ∈ X.fs := hs L (by unfold frs; rw [List.filterMap_cons, hf]; exact List.mem_cons_self)
      obtain ⟨sl, e⟩ := I.base.slot L o ho (I.ok.frf L hL) hL fun z => I.ok.exfs L z hL
      exact ⟨hk, ⟨L, _, hf, hn, e, hd⟩, ih (fun b hb => hs b (by unfold frs; rw [List.filterMap_cons, hf]; exact List.mem_cons_of_mem _ hb)) hr⟩
  exact all X.outer (fun _ hb => hb) I.ok.funs
theorem Inv.stack (I : Inv X pins σ H s) : s.heap.FunFrames X.base X.stack := by
  rcases I.ok.stk with e | ⟨e, hf⟩
  · rw [e]; exact I.funs
  · rw [e]
    obtain ⟨m, hn, _⟩ := I.loc
    refine .cons (by rw [I.ok.kind]; decide) hf hn ?_ I.funs
    exact Heap.get?_none_of_le (Nat.le_trans I.ok.bsz I.ok.above)
theorem Inv.stkSub (I : Inv X pins σ H s) : ∀ b ∈ frs X.stack, b ∈ X.env.locals :: X.fs := fun b hb => by
  rcases I.ok.stk with e | ⟨e, hf⟩
  · rw [e] at hb; exact List.mem_cons_of_mem _ hb
  · rw [e] at hb
    unfold frs at hb
    rw [List.filterMap_cons, hf] at hb
    exact hb
theorem Inv.stkFree (I : Inv X pins σ H s) : ∀ b ∈ frs X.stack, H b = none := fun b hb => by
  rcases List.mem_cons.mp (I.stkSub b hb) with e | hb
  · rw [e]; exact I.free
  · obtain ⟨_, o, ho, _⟩ := I.ok.funs.mem hb
    exact I.base.free b o ho (I.ok.frf b hb) fun z => I.ok.exfs b z hb
theorem Inv.step {g' : Array GenState} {t' : Nat} {d' : Drawn} {ch : List Addr} (I : Inv X pins σ H s)
    (hch : ∀ b ∈ ch, (b ∈ X.ex ∨ X.s₀.heap.objs.size ≤ b) ∧ b ≠ X.env.locals ∧ (∀ x c, X.env.cells.lookup x = some c → c ≠ b) ∧ ∀ p ∈ X.pn ++ pins, p.1 ≠ b)
    (keep : ∀ b o, b ≠ X.env.locals → b ∉ X.fs → b ∉ ch → s.heap.get? b = some o → H b = none → h'.get? b = some o)
    (slot : ∀ b o, b ≠ X.env.locals → b ∈ X.fs → b ∉ ch → s.heap.get? b = some o → H b = none → ∃ sl, h'.get? b = some { o with slots := sl }) (free : ∀ b o, b ∉ ch → s.heap.get? b = some o → H b = none → H' b = none)
    (there : ∀ b o, b ∉ ch → s.heap.get? b = some o → ∃ o', h'.get? b = some o')
    (tups : ∀ b xs, H b = some (.tup xs) → H' b = some (.tup xs)) (frzs : ∀ b o u, H b = some (.frz o u) → H' b = some (.frz o u)) (tbls : ∀ b ps, H b = some (.tbl ps) → ∃ more, H' b = some (.tbl (ps ++ more)))
    (ns : ∀ m, s.heap.Ns X.env.locals m → h'.Ns X.env.locals m) (hok : HOk X.prog X.w H' h') (hg : AllBare g') :
    Inv X pins σ H' { s with heap := h', gens := g', drawn := d', toks := t' } := by
  have neL : ∀ b o, X.s₀.heap.get? b = some o → b ≠ X.env.locals := fun b o e => Nat.ne_of_lt (Nat.lt_of_lt_of_le (Heap.lt_size e) I.ok.above)
  have neC : ∀ b o, X.s₀.heap.get? b = some o → b ∉ X.ex → b ∉ ch := fun b o e hx hb => by
    rcases (hch b hb).1 with z | z
    · exact hx z
    · exact absurd (Nat.lt_of_lt_of_le (Heap.lt_size e) z) (Nat.lt_irrefl _)
  have cellK : ∀ x c, X.env.cells.lookup x = some c → ∀ v, s.heap.IsCell c v → h'.IsCell c v := fun x c e v ⟨o, ho, hd⟩ => by
    have nch : c ∉ ch := fun z => (hch c z).2.2.1 x c e rfl
    by_cases hc : c ∈ X.fs
    · obtain ⟨sl, q⟩ := slot c o (I.cne x c e) hc nch ho (I.freeC x c e)
      exact ⟨_, q, hd⟩
    · exact ⟨o, keep c o (I.cne x c e) hc nch ho (I.freeC x c e), hd⟩
  refine ⟨I.ok, I.os, hg, ⟨fun b o e n hb hx => ?_, fun b o e n hb hx => ?_, fun b o e n hx => ?_, fun b o e hx => ?_, fun b xs e => tups b xs (I.base.tups b xs e), fun b o xs e => frzs b o xs (I.base.frzs b o xs e), fun b ps e => ?_⟩, ?_, fun x c e => ?_, ?_, fun x c e => ?_, fun p hp => ?_, hok, I.len⟩
  · exact keep b o (neL b o e) hb (neC b o e hx) (I.base.keep b o e n hb hx) (I.base.free b o e n hx)
  · obtain ⟨sl, e1⟩ := I.base.slot b o e n hb hx
    obtain ⟨sl', e2⟩ := slot b _ (neL b o e) hb (neC b o e hx) e1 (I.base.free b o e n hx)
    exact ⟨sl', e2⟩
  · obtain ⟨o', e1⟩ := I.base.there b o e hx
    exact free b o' (neC b o e hx) e1 (I.base.free b o e n hx)
  · obtain ⟨o', e1⟩ := I.base.there b o e hx
    exact there b o' (neC b o e hx) e1
  · obtain ⟨m1, e1⟩ := I.base.tbls b ps e
    obtain ⟨m2, e2⟩ := tbls b _ e1
    exact ⟨m1 ++ m2, by rw [e2, Array.append_assoc]⟩
  · obtain ⟨m, hn, hl⟩ := I.loc
    refine ⟨m, ns m hn, fun i x v e1 e2 e3 => ?_⟩
    obtain ⟨u, r, l⟩ := hl i x v e1 e2 e3
    refine ⟨u, r, ?_⟩
    rcases l with l | ⟨k, c, e, z⟩
    · exact .inl l
    · exact .inr ⟨k, c, e, cellK x c e _ z⟩
  · obtain ⟨v, z⟩ := I.cell x c e
    exact ⟨v, cellK x c e v z⟩
  · obtain ⟨m, ⟨o, _, _, ho, _⟩, _⟩ := I.loc
    exact free _ o (fun z => (hch _ z).2.1 rfl) ho I.free
  · obtain ⟨v, o, ho, hd⟩ := I.cell x c e
    exact free c o (fun z => (hch c z).2.2.1 x c e rfl) ho (I.freeC x c e)
  · obtain ⟨e, n, ne, nf, d⟩ := I.pin p hp
    have nch : p.1 ∉ ch := fun z => (hch p.1 z).2.2.2 p hp rfl
    exact ⟨keep p.1 p.2 ne nf nch e n, free p.1 p.2 nch e n, ne, nf, d⟩
theorem Inv.un {t' : Nat} (I : Inv X pins σ H s) (u : Un X.fs [] H H' s.heap h') (hok : HOk X.prog X.w H' h') : Inv X pins σ H' { s with heap := h', toks := t' } := by
  obtain ⟨m, ⟨o, es, ep, ho, r⟩, _⟩ := id I.loc
  obtain ⟨sl, hL⟩ := u.any ho I.free (by simp)
  exact I.step (g' := s.gens) (d' := s.drawn) (ch := []) (fun _ z => nomatch z) (fun b o _ hb _ e n => u.keep b o e n hb (by simp)) (fun b o _ hb _ e n => u.slot b o e n hb (by simp)) (fun b o _ e n => u.free b o e n (by simp)) (fun b o _ e => u.there b o e (by simp)) u.tups u.frzs u.tbls (fun m' hm => by
    obtain ⟨o', es', ep', ho', r'⟩ := hm
    rw [ho] at ho'; cases ho'
    exact ⟨_, es', ep', hL, r'⟩) hok I.bare
theorem Inv.call {g' : Array GenState} {t' : Nat} {d' : Drawn} {ch : List Addr} (I : Inv X pins σ H s) (u : Un (frs X.stack) ch H H' s.heap h') (hok : HOk X.prog X.w H' h') (hg : AllBare g')
    (hch : ∀ b ∈ ch, (b ∈ X.ex ∨ X.s₀.heap.objs.size ≤ b) ∧ b ≠ X.env.locals ∧ (∀ x c, X.env.cells.lookup x = some c → c ≠ b) ∧ ∀ p ∈ X.pn ++ pins, p.1 ≠ b) :
    Inv X pins σ H' { s with heap := h', gens := g', drawn := d', toks := t' } := by
  obtain ⟨m, ⟨o, es, ep, ho, r⟩, _⟩ := id I.loc
  obtain ⟨sl, hL⟩ := u.any ho I.free fun z => (hch _ z).2.1 rfl
  exact I.step (ch := ch) hch (fun b o hL hb hc e n => u.keep b o e n (fun z => (List.mem_cons.mp (I.stkSub b z)).elim hL hb) hc) (fun b o _ _ hc e n => u.any e n hc) (fun b o hc e n => u.free b o e n hc) (fun b o hc e => u.there b o e hc) u.tups u.frzs u.tbls (fun m' hm => by
    obtain ⟨o', es', ep', ho', r'⟩ := hm
    rw [ho] at ho'; cases ho'
    exact ⟨_, es', ep', hL, r'⟩) hok hg
theorem Inv.turned {t' : Nat} {it : Addr} (I : Inv X pins σ H s) (k : ∀ b o, b ≠ it → s.heap.get? b = some o → h'.get? b = some o) (hn : H it = none) (hL : it ≠ X.env.locals)
    (h1 : it ∈ X.ex ∨ X.s₀.heap.objs.size ≤ it) (h2 : ∀ x c, X.env.cells.lookup x = some c → c ≠ it) (h3 : ∀ p ∈ X.pn ++ pins, p.1 ≠ it) : Inv X pins σ H { s with heap := h', toks := t' } := by
  have nit : ∀ b u, H b = some u → b ≠ it := fun b u e z => by rw [z, hn] at e; cases e
  refine I.step (g' := s.gens) (d' := s.drawn) (ch := [it]) (fun b hb => ?_) (fun b o _ _ hc e _ => k b o (fun z => hc (by simp [z])) e) (fun b o _ _ hc e _ => ⟨o.slots, k b o (fun z => hc (by simp [z])) e⟩) (fun _ _ _ _ n => n)
    (fun b o hc e => ⟨o, k b o (fun z => hc (by simp [z])) e⟩) (fun _ _ e => e) (fun _ _ _ e => e) (fun b ps e => ⟨#[], by rw [e]; simp⟩) (fun m hm => ?_) (fun b u e => ?_) I.bare
  · have e : b = it := by simpa using hb
    subst e
    exact ⟨h1, hL, h2, h3⟩
  · obtain ⟨o, es, ep, ho, r⟩ := hm
    exact ⟨o, es, ep, k _ o (Ne.symm hL) ho, r⟩
  · refine (I.hok b u e).stay (fun c v hc q => k c v ?_ q) (fun _ q => q) fun _ _ q => q
    rcases hc with z | z
    · rw [z]; exact nit b u e
    · exact nit c _ z
theorem Inv.tok (I : Inv X pins σ H s) (t : Nat) : Inv X pins σ H { s with toks := t } := I.un (h' := s.heap) (t' := t) Un.refl I.hok
theorem Inv.kept {t' : Nat} (I : Inv X pins σ H s) (k : ∀ b u, s.heap.get? b = some u → h'.get? b = some u) : Inv X pins σ H { s with heap := h', toks := t' } := I.un (Un.kept k) (I.hok.kept k)
theorem Inv.laid {a : Addr} {o : HO} {t' : Nat} (I : Inv X pins σ H s) (k : ∀ b u, s.heap.get? b = some u → h'.get? b = some u) (hp : s.heap.objs.size ≤ a) (new : ObjOk X.prog X.w (upd H a o) h' a o) :
    Inv X pins σ (upd H a o) { s with heap := h', toks := t' } := I.un (Un.laid k hp (I.hok.fresh hp)) (I.hok.laid k hp new)
theorem Inv.write {x e : Addr} {o : HO} {t' : Nat} (I : Inv X pins σ H s) (mu : Mut (H x)) (he : e = x ∨ H e = some (.own x)) (k : ∀ b u, b ≠ e → s.heap.get? b = some u → h'.get? b = some u) (heo : ∃ u, h'.get? e = some u)
    (new : ObjOk X.prog X.w (upd H x o) h' x o) : Inv X pins σ (upd H x o) { s with heap := h', toks := t' } := I.un (Un.write mu he k heo) (I.hok.write mu he k heo new)
theorem Inv.pins_of {pins' : List (Addr × Obj)} (I : Inv X pins σ H s) (h : ∀ p ∈ pins', s.heap.get? p.1 = some p.2 ∧ H p.1 = none ∧ p.1 ≠ X.env.locals ∧ p.1 ∉ X.fs ∧ ∀ v, p.2.data ≠ .cell v) : Inv X pins' σ H s :=
  ⟨I.ok, I.os, I.bare, I.base, I.loc, I.cell, I.free, I.freeC, fun p hp => (List.mem_append.mp hp).elim (fun z => I.pin p (List.mem_append_left _ z)) (h p), I.hok, I.len⟩
theorem nodup_ix {N : List Str} (hN : N.Nodup) {i j : Nat} {x : Str} (a : N[i]? = some x) (b : N[j]? = some x) : i = j := by
  obtain ⟨h1, e1⟩ := List.getElem?_eq_some_iff.mp a
  obtain ⟨h2, e2⟩ := List.getElem?_eq_some_iff.mp b
  exact (List.getElem_inj hN).mp (e1.trans e2.symm)
theorem store_ok2 {M : Model} {A : Around} {E : Value → Shared → Prop} {i : Nat} {x : Str} {v : V} {u : Value} {Q : Unit → Shared → Prop} (I : Inv X pins σ H s) (hN : X.N.Nodup) (hi : X.N[i]? = some x) (hx : Loc X.env.scope x) (r : RelV v u)
    (h : ∀ s', Inv X pins (σ.set i (some v)) H s' → (∃ a, Heap.SameBut a s.heap s'.heap ∧ (a = X.env.locals ∨ X.env.cells.lookup x = some a)) → Q () s') (hf : X.fn x = true ∨ X.env.scope.names.lookup x = some .local := by first | exact .inl rfl | exact .inr rfl | assumption) : wpAny M A (storeName X.env x u) Q E s := by
  obtain ⟨m, hn, hl⟩ := id I.loc
  have hcls : (X.env.scope.kind == .class || (X.env.scope.kind == .module && X.env.locals != X.env.globals)) = false := by rw [I.ok.kind]; rfl
  have hiσ : i < σ.length := by rw [I.len]; exact (List.getElem?_eq_some_iff.mp hi).1
  have cne := I.cne
  have tracked : ∀ {a : Addr} {h' : Heap}, (∃ o, s.heap.get? a = some o ∧ H a = none) → Heap.SameBut a s.heap h' → HOk X.prog X.w H h' := fun {a h'} ha hs b ob e => by
    obtain ⟨_, _, hfree⟩ := ha
    refine (I.hok b ob e).stay (fun c w' hc q => (hs.2 c ?_).trans q) (fun _ q => q) fun _ _ q => q
    rintro rfl
    rcases hc with rfl | hc
    · rw [hfree] at e; cases e
    · rw [hfree] at hc; cases hc
  rcases hx with hk | hk
  · refine wpAny_storeName_local hk hn (fun h' hn' hs => ?_) hcls
    obtain ⟨oL, _, _, hoL, _⟩ := id hn
    refine h _ ⟨I.ok, I.os, I.bare, ⟨fun b o e n hb hx => ?_, fun b o e n hb hx => ?_, I.base.free, fun b o e hx => ?_, I.base.tups, I.base.frzs, I.base.tbls⟩, ⟨_, hn', fun j y v' e1 e2 e3 => ?_⟩, fun y c e => ?_, I.free, I.freeC, fun p hp => ?_, tracked ⟨oL, hoL, I.free⟩ hs, by simpa using I.len⟩ ⟨_, hs, .inl rfl⟩
    · exact (hs.2 b (Nat.ne_of_lt (Nat.lt_of_lt_of_le (Heap.lt_size e) I.ok.above))).trans (I.base.keep b o e n hb hx)
    · obtain ⟨sl, e1⟩ := I.base.slot b o e n hb hx
      exact ⟨sl, (hs.2 b (Nat.ne_of_lt (Nat.lt_of_lt_of_le (Heap.lt_size e) I.ok.above))).trans e1⟩
    · obtain ⟨o', e1⟩ := I.base.there b o e hx
      exact ⟨o', (hs.2 b (Nat.ne_of_lt (Nat.lt_of_lt_of_le (Heap.lt_size e) I.ok.above))).trans e1⟩
    · by_cases hj : j = i
      · subst hj
        rw [hi] at e1; cases e1
        rw [List.getElem?_set_self hiσ] at e2
        cases e2
        exact ⟨u, r, .inl ⟨hk, by simp⟩⟩
      · rw [List.getElem?_set_ne (Ne.symm hj)] at e2
        obtain ⟨u', r', q⟩ := hl j y v' e1 e2 e3
        refine ⟨u', r', ?_⟩
        rcases q with ⟨k, e⟩ | ⟨k, c, e, z⟩
        · refine .inl ⟨k, ?_⟩
          have : y ≠ x := fun e => hj (nodup_ix hN e1 (e ▸ hi))
          simp [this, e]
        · exact .inr ⟨k, c, e, z.sameBut hs (cne y c e)⟩
    · obtain ⟨w', z⟩ := I.cell y c e
      exact ⟨w', z.sameBut hs (cne y c e)⟩
    · obtain ⟨e, n, ne, nf, d⟩ := I.pin p hp
      exact ⟨(hs.2 p.1 ne).trans e, n, ne, nf, d⟩
  · have hfn : X.fn x = true := by
      rcases hf with z | z
      · exact z
      · rw [z] at hk; cases hk
    obtain ⟨c, hc⟩ := I.ok.has x (.inl hk)
    obtain ⟨w', z⟩ := I.cell x c hc
    refine wpAny_storeName_cell I.ok.kind hk hc z (fun h' hc' hs => ?_)
    obtain ⟨oc, hoc, hocd⟩ := id z
    refine h { s with heap := h' } ⟨I.ok, I.os, I.bare, ⟨fun b o e n hb hx => ?_, fun b o e n hb hx => ?_, I.base.free, fun b o e hx => ?_, I.base.tups, I.base.frzs, I.base.tbls⟩, ⟨m, hn.sameBut hs (Ne.symm (cne x c hc)), fun j y v' e1 e2 e3 => ?_⟩, fun y c' e => ?_, I.free, I.freeC, fun p hp => ?_, tracked ⟨oc, hoc, I.freeC x c hc⟩ hs, by simpa using I.len⟩ ⟨c, hs, .inr hc⟩
    · exact (hs.2 b (Nat.ne_of_lt (Nat.lt_of_lt_of_le (Heap.lt_size e) (I.ok.cab x c hfn hc)))).trans (I.base.keep b o e n hb hx)
    · obtain ⟨sl, e1⟩ := I.base.slot b o e n hb hx
      exact ⟨sl, (hs.2 b (Nat.ne_of_lt (Nat.lt_of_lt_of_le (Heap.lt_size e) (I.ok.cab x c hfn hc)))).trans e1⟩
    · obtain ⟨o', e1⟩ := I.base.there b o e hx
      exact ⟨o', (hs.2 b (Nat.ne_of_lt (Nat.lt_of_lt_of_le (Heap.lt_size e) (I.ok.cab x c hfn hc)))).trans e1⟩
    · by_cases hj : j = i
      · subst hj
        rw [hi] at e1; cases e1
        rw [List.getElem?_set_self hiσ] at e2
        cases e2
        exact ⟨u, r, .inr ⟨.inl hk, c, hc, hc'⟩⟩
      · rw [List.getElem?_set_ne (Ne.symm hj)] at e2
        obtain ⟨u', r', q⟩ := hl j y v' e1 e2 e3
        refine ⟨u', r', ?_⟩
        rcases q with q | ⟨k, c', e, z'⟩
        · exact .inl q
        · refine .inr ⟨k, c', e, z'.sameBut hs ?_⟩
          rintro rfl
          exact hj (nodup_ix hN e1 (I.ok.inj _ _ _ e hc ▸ hi))
    · by_cases hcc : c' = c
      · subst hcc; exact ⟨_, hc'⟩
      · obtain ⟨w2, z2⟩ := I.cell y c' e
        exact ⟨w2, z2.sameBut hs hcc⟩
    · obtain ⟨e, n, ne, nf, d⟩ := I.pin p hp
      refine ⟨(hs.2 p.1 ?_).trans e, n, ne, nf, d⟩
      intro q
      rw [q, hoc] at e
      have q' : oc = p.2 := Option.some.inj e
      exact d w' (by rw [← q']; exact hocd)
theorem store_ok {M : Model} {A : Around} {E : Value → Shared → Prop} {i : Nat} {x : Str} {v : V} {u : Value} {Q : Unit → Shared → Prop} (I : Inv X pins σ H s) (hN : X.N.Nodup) (hi : X.N[i]? = some x) (hx : Loc X.env.scope x) (r : RelV v u)
    (h : ∀ s', Inv X pins (σ.set i (some v)) H s' → Q () s') (hf : X.fn x = true ∨ X.env.scope.names.lookup x = some .local := by first | exact .inl rfl | exact .inr rfl | assumption) : wpAny M A (storeName X.env x u) Q E s :=
  store_ok2 I hN hi hx r (fun s' I' _ => h s' I') hf
theorem Inv.call' {s' : Shared} {ch : List Addr} (I : Inv X pins σ H s) (ho : s'.os = s.os) (u : Un (frs X.stack) ch H H' s.heap s'.heap) (hok : HOk X.prog X.w H' s'.heap) (hg : AllBare s'.gens)
    (hch : ∀ b ∈ ch, (b ∈ X.ex ∨ X.s₀.heap.objs.size ≤ b) ∧ b ≠ X.env.locals ∧ (∀ x c, X.env.cells.lookup x = some c → c ≠ b) ∧ ∀ p ∈ X.pn ++ pins, p.1 ≠ b) : Inv X pins σ H' s' := by
  obtain ⟨h', g', d', t', o'⟩ := s'
  have e : o' = s.os := ho
  subst e
  exact I.call (g' := g') (t' := t') (d' := d') u hok hg hch
end
abbrev XK := Value → Option Addr → Hp → Prop
abbrev St := List (Option V)
abbrev VK := V → Hp → Prop
abbrev TE := St → Hp → VK → Prop
abbrev TT := St → Hp → (Bool → Hp → Prop) → Prop
abbrev TA := St → Hp → (List V → Hp → Prop) → Prop
structure Ends where
  nx : St → Hp → Prop
  rt : VK
  bk : St → Hp → Prop := fun _ _ => False
  ct : St → Hp → Prop := fun _ _ => False
abbrev TS := Ends → St → Hp → Prop
def EP (X : Cx) (pins : List (Addr × Obj)) (σ : St) (Q : VK) (u : Value) (s' : Shared) : Prop := ∃ v H', Inv X pins σ H' s' ∧ RelV v u ∧ Q v H'
def TP (X : Cx) (pins : List (Addr × Obj)) (σ : St) (Q : Bool → Hp → Prop) (b : Bool) (s' : Shared) : Prop := ∃ H', Inv X pins σ H' s' ∧ Q b H'
def AP (X : Cx) (pins : List (Addr × Obj)) (σ : St) (Q : List V → Hp → Prop) (us : List Value) (s' : Shared) : Prop := ∃ vs H', Inv X pins σ H' s' ∧ Vals vs us ∧ Q vs H'
def SP (X : Cx) (pins : List (Addr × Obj)) (D : Ends) (f : Flow) (s' : Shared) : Prop :=
  match f with
  | .next => ∃ σ' H', Inv X pins σ' H' s' ∧ D.nx σ' H'
  | .brk => ∃ σ' H', Inv X pins σ' H' s' ∧ D.bk σ' H'
  | .cont => ∃ σ' H', Inv X pins σ' H' s' ∧ D.ct σ' H'
  | .ret u => ∃ v σ' H', Inv X pins σ' H' s' ∧ RelV v u ∧ D.rt v H'
def PE (X : Cx) (e : Expr) (t : TE) : Prop :=
  ∀ (pins : List (Addr × Obj)) (s : Shared) (σ : St) (H : Hp) (Q : VK), Inv X pins σ H s → t σ H Q → wpAny (model X.prog X.w) X.A (eval e X.env) (EP X pins σ Q) X.xe s
def PT (X : Cx) (e : Expr) (t : TT) : Prop :=
  ∀ (pins : List (Addr × Obj)) (s : Shared) (σ : St) (H : Hp) (Q : Bool → Hp → Prop), Inv X pins σ H s → t σ H Q → wpAny (model X.prog X.w) X.A (isTrue e X.env (eval e X.env)) (TP X pins σ Q) X.xe s
def PW (X : Cx) (e : Expr) (t : TT) : Prop :=
  ∀ (whole : Sem Value) (pins : List (Addr × Obj)) (s : Shared) (σ : St) (H : Hp) (Q : Bool → Hp → Prop), Inv X pins σ H s → t σ H Q → wpAny (model X.prog X.w) X.A (isTrue e X.env whole) (TP X pins σ Q) X.xe s
theorem PW.pt {X : Cx} {e : Expr} {t : TT} (h : PW X e t) : PT X e t := h _
def PA (X : Cx) (es : List Expr) (t : TA) : Prop :=
  ∀ (pos : Pos) (pins : List (Addr × Obj)) (s : Shared) (σ : St) (H : Hp) (Q : List V → Hp → Prop), Inv X pins σ H s → t σ H Q → wpAny (model X.prog X.w) X.A (spliced (backTo pos (starEach es X.env))) (AP X pins σ Q) X.xe s
def PS (X : Cx) (st : Stmt) (t : TS) : Prop :=
  ∀ (pins : List (Addr × Obj)) (s : Shared) (σ : St) (H : Hp) (D : Ends), Inv X pins σ H s → t D σ H → wpAny (model X.prog X.w) X.A (exec st X.env) (SP X pins D) X.xe s
def PSs (X : Cx) (st : List Stmt) (t : TS) : Prop :=
  ∀ (pins : List (Addr × Obj)) (s : Shared) (σ : St) (H : Hp) (D : Ends), Inv X pins σ H s → t D σ H → wpAny (model X.prog X.w) X.A (execs st X.env) (SP X pins D) X.xe s
theorem thn {α : Type} {t : Sem α} {Q Q' : α → Shared → Prop} {M : Model} {A : Around} {E : Value → Shared → Prop} {s : Shared} (h : wpAny M A t Q E s) (hQ : ∀ a s, Q a s → Q' a s) : wpAny M A t Q' E s := wpAny_mono h hQ fun _ _ x => x
section
variable {X : Cx}
def tVar (i : Nat) : TE := fun σ H Q => ∃ v, σ[i]? = some (some v) ∧ Q v H
def tC (v : V) : TE := fun _ H Q => Q v H
theorem pe_var {i : Nat} {x : Str} {pos : Pos} (hN : X.N[i]? = some x) (hv : Vis X.env.scope x) (hd : (x == ("__debug__" : Str)) = false := by decide) (hcd : (x == ("__classdict__" : Str)) = false := by decide) : PE X (.Name x pos) (tVar i) := by
  intro pins s σ H Q I h
  obtain ⟨v, e, h⟩ := h
  obtain ⟨m, hn, hl⟩ := I.loc
  obtain ⟨u, r, l⟩ := hl i x v hN e hv
  have fin : EP X pins σ Q u s := ⟨v, H, I, r, h⟩
  rcases l with ⟨hk, hm⟩ | ⟨hk, c, hc, hcell⟩
  · exact wpAny_Name (wpAny_loadName_local I.ok.kind hk hn hm fin) hd
  · rcases hk with hk | hk
    · exact wpAny_Name (wpAny_loadName_cell I.ok.kind hk hc hcell fin) hd
    · exact wpAny_Name (wpAny_loadName_free I.ok.kind hk hc hcell fin hcd) hd
theorem pe_int {i j pos} : PE X (.Constant (.int i) j pos) (tC (.int i)) := fun _ _ _ H _ I h => wpAny_Constant_int ⟨.int i, H, I.tok _, ⟨_, rfl⟩, h⟩
theorem pe_bl {b j pos} : PE X (.Constant (.bool b) j pos) (tC (.bl b)) := fun _ _ _ H _ I h => Constant_bool ⟨.bl b, H, I, rfl, h⟩
def Gl (X : Cx) (x : Str) : Prop := X.env.kindOf x = some .globalImplicit
theorem ld_glob {E : Value → Shared → Prop} {pins : List (Addr × Obj)} {s : Shared} {σ : St} {H : Hp} {x : Str} {u : Value} {pos : Pos} {Q : Value → Shared → Prop} (I : Inv X pins σ H s) (hg : Gl X x) (hm : X.mg x = some u) (h : Q u s)
    (hd : (x == ("__debug__" : Str)) = false := by decide) : wpAny (model X.prog X.w) X.A (eval (.Name x pos) X.env) Q E s :=
  Calls.Name_function_global I.ok.kind hg (Calls.loadGlobal_global (by rw [I.ok.glob]; exact I.mod.glob.keeps I.bk) hm h) hd
theorem ld_blt {E : Value → Shared → Prop} {pins : List (Addr × Obj)} {s : Shared} {σ : St} {H : Hp} {x : Str} {u : Value} {pos : Pos} {Q : Value → Shared → Prop} (I : Inv X pins σ H s) (hg : Gl X x) (hm : X.mg x = none) (hv : bootBuiltins x = some u) (h : Q u s)
    (hn : x ≠ "__name__" := by decide) (hd : (x == ("__debug__" : Str)) = false := by decide) : wpAny (model X.prog X.w) X.A (eval (.Name x pos) X.env) Q E s := by
  obtain ⟨mb, h1, h2⟩ := I.mod.blt
  exact Calls.Name_function_global I.ok.kind hg (Calls.loadGlobal_builtin (by rw [I.ok.glob]; exact I.mod.glob.keeps I.bk) hm (by rw [I.ok.blt]; exact h1.keeps I.bk) ((h2 x hn).trans hv) h) hd
theorem pe_glob {x : Str} {v : V} {u : Value} {pos : Pos} (hg : Gl X x) (hm : X.mg x = some u) (r : RelV v u) (hd : (x == ("__debug__" : Str)) = false := by decide) : PE X (.Name x pos) (tC v) :=
  fun _ _ _ H _ I h => ld_glob I hg hm ⟨v, H, I, r, h⟩ hd
theorem pe_bltn {x : Str} {v : V} {u : Value} {pos : Pos} (hg : Gl X x) (hm : X.mg x = none) (hv : bootBuiltins x = some u) (r : RelV v u) (hn : x ≠ "__name__" := by decide) (hd : (x == ("__debug__" : Str)) = false := by decide) : PE X (.Name x pos) (tC v) :=
  fun _ _ _ H _ I h => ld_blt I hg hm hv ⟨v, H, I, r, h⟩ hn hd
variable {a b : Expr} {ta tb : TE} {pos : Pos}
def tB (t : TE) : TT := fun σ H Q => t σ H fun x H1 => ∃ c, x = .bl c ∧ Q c H1
theorem pt_val {e : Expr} {t : TE} (h : PE X e t) (he : ∀ whole, isTrue e X.env whole = (do let v ← whole; standAt e.pos; holding [v] (truthy v)) := by intro _; rfl) : PT X e (tB t) := by
  intro pins s σ H Q I hw
  refine isTrue_plain (thn (h pins s σ H _ I hw) fun v s1 ⟨x, H1, I1, r1, q1⟩ => ?_) (he _)
  obtain ⟨d, rfl, q⟩ := q1
  cases r1
  exact wpAny_truthy_bool ⟨H1, I1, q⟩
variable {tA tB' : TT} {rest : List Expr}
def tAnd (t u : TT) : TT := fun σ H Q => t σ H fun c H1 => if c = true then u σ H1 Q else Q false H1
def tOr (t u : TT) : TT := fun σ H Q => t σ H fun c H1 => if c = true then Q true H1 else u σ H1 Q
def tNot (t : TT) : TT := fun σ H Q => t σ H fun c H1 => Q (!c) H1
theorem pw_and1 (ha : PT X a tA) : PW X (.BoolOp .And [a] pos) tA := by
  intro wh pins s σ H Q I h
  refine isTrue_and (thn (ha pins s σ H Q I h) fun c s1 e => ?_)
  cases c with
  | true => exact isTrue_and_nil e
  | false => exact e
theorem pw_or1 (ha : PT X a tA) : PW X (.BoolOp .Or [a] pos) tA := by
  intro wh pins s σ H Q I h
  refine isTrue_or (thn (ha pins s σ H Q I h) fun c s1 e => ?_)
  cases c with
  | false => exact isTrue_or_nil e
  | true => exact e
theorem pw_and (ha : PT X a tA) (hb : PW X (.BoolOp .And (b :: rest) pos) tB') : PW X (.BoolOp .And (a :: b :: rest) pos) (tAnd tA tB') := by
  intro wh pins s σ H Q I h
  refine isTrue_and (thn (ha pins s σ H _ I h) fun c s1 ⟨H1, I1, q1⟩ => ?_)
  cases c with
  | true => exact hb wh pins s1 σ H1 Q I1 q1
  | false => exact ⟨H1, I1, q1⟩
theorem pw_or (ha : PT X a tA) (hb : PW X (.BoolOp .Or (b :: rest) pos) tB') : PW X (.BoolOp .Or (a :: b :: rest) pos) (tOr tA tB') := by
  intro wh pins s σ H Q I h
  refine isTrue_or (thn (ha pins s σ H _ I h) fun c s1 ⟨H1, I1, q1⟩ => ?_)
  cases c with
  | true => exact ⟨H1, I1, q1⟩
  | false => exact hb wh pins s1 σ H1 Q I1 q1
theorem pt_not (ha : PT X a tA) : PT X (.UnaryOp .Not a pos) (tNot tA) := by
  intro pins s σ H Q I h
  exact isTrue_not (ha pins s σ H (fun c H1 => Q (!c) H1) I h)
def tAndV (ta tb : TE) : TE := fun σ H Q => ta σ H fun x H1 => ∃ c, x = .bl c ∧ if c = true then tb σ H1 Q else Q (.bl false) H1
def tNotV (ta : TE) : TE := fun σ H Q => ta σ H fun x H1 => ∃ c, x = .bl c ∧ Q (.bl (!c)) H1
theorem pe_one {op} {t : TE} (h : PE X a t) : PE X (.BoolOp op [a] pos) t := fun pins s σ H Q I hw => BoolOp_one (h pins s σ H Q I hw)
theorem pe_and (ha : PE X a ta) (hb : PE X (.BoolOp .And (b :: rest) pos) tb) : PE X (.BoolOp .And (a :: b :: rest) pos) (tAndV ta tb) := by
  intro pins s σ H Q I h
  refine BoolOp_and (thn (ha pins s σ H _ I h) fun v s1 ⟨x, H1, I1, r1, q1⟩ => ?_)
  obtain ⟨c, rfl, q1⟩ := q1
  cases r1
  refine wpAny_truthy_bool ?_
  cases c with
  | true => exact hb pins s1 σ H1 Q I1 q1
  | false => exact ⟨.bl false, H1, I1, rfl, q1⟩
theorem pe_not (ha : PE X a ta) : PE X (.UnaryOp .Not a pos) (tNotV ta) := by
  intro pins s σ H Q I h
  refine UnaryOp_ (thn (ha pins s σ H _ I h) fun v s1 ⟨x, H1, I1, r1, q1⟩ => ?_)
  obtain ⟨c, rfl, q1⟩ := q1
  cases r1
  exact not_of (wpAny_truthy_bool ⟨.bl (!c), H1, I1, rfl, q1⟩)
end
def SqL (K : PySem.W.Frag) (H : Hp) (a : Addr) (xs : List V) : Prop :=
  Rd H a (.lst xs) ∨
    ∃ (o : Obj) (its : Array Value) (n : Nat), K.lookup a = some o ∧ o.cls = .type "list" ∧ o.dict = none ∧ o.data = .seq its n ∧ its.size ≤ sizeLine ∧ Vals xs its.toList
def SqT (K : PySem.W.Frag) (H : Hp) (a : Addr) (xs : List V) : Prop :=
  Rd H a (.tup xs) ∨
    ∃ (o : Obj) (its : Array Value) (n : Nat), K.lookup a = some o ∧ o.cls = .type "tuple" ∧ o.data = .seq its n ∧ its.size ≤ sizeLine ∧ Vals xs its.toList
def absV : Value → Option V
  | .none => some .non
  | .bool b => some (.bl b)
  | .int i _ => some (.int i)
  | .str x _ => some (.str x)
  | .bytes b _ => some (.byt b)
  | .float b _ => some (.flt b)
  | .ref a => some (.ref a)
  | .type n => some (.ty n)
  | _ => none
theorem RelV.abs {x : V} {u : Value} (r : RelV x u) : absV u = some x := by
  cases x with
  | non => cases r; rfl
  | bl _ => cases r; rfl
  | int _ => obtain ⟨t, rfl⟩ := r; rfl
  | str _ => obtain ⟨t, rfl⟩ := r; rfl
  | byt _ => obtain ⟨t, rfl⟩ := r; rfl
  | flt _ => obtain ⟨t, rfl⟩ := r; rfl
  | ref _ => cases r; rfl
  | ty _ => cases r; rfl
theorem RelV.inj {x y : V} {u : Value} (r : RelV x u) (q : RelV y u) : x = y := Option.some.inj (r.abs.symm.trans q.abs)
theorem Vals.inj {xs ys : List V} {us : List Value} (h : Vals xs us) (g : Vals ys us) : xs = ys := by
  induction h generalizing ys with
  | nil => cases g; rfl
  | cons r _ ih =>
    cases g with
    | cons r' t' => rw [r.inj r', ih t']
section
variable {X : Cx} {pins : List (Addr × Obj)} {σ : St} {H : Hp} {s : Shared} {a : Addr} {xs ys : List V}
theorem SqL.of {K : PySem.W.Frag} (h : H a = some (.lst xs)) : SqL K H a xs := .inl (.inl h)
theorem SqT.of {K : PySem.W.Frag} (h : H a = some (.tup xs)) : SqT K H a xs := .inl (.inl h)
theorem Inv.list (I : Inv X pins σ H s) (h : SqL X.K H a xs) : ∃ its : List Value, Vals xs its ∧ PlainL s.heap a its.toArray ∧ xs.length ≤ sizeLine := by
  rcases h with h | ⟨o, its, n, hk, hc, hd, hs, hz, r⟩
  · obtain ⟨z, its, n, r, e⟩ := h.ok I.hok
    exact ⟨its, r, ⟨_, n, e, rfl, rfl, rfl⟩, z⟩
  · refine ⟨its.toList, r, ⟨o, n, I.kIn a o hk, hc, hd, by simpa using hs⟩, ?_⟩
    have e := r.length
    simp only [Array.length_toList] at e
    omega
theorem Inv.tuple (I : Inv X pins σ H s) (h : SqT X.K H a xs) : ∃ its : List Value, Vals xs its ∧ IsTup s.heap a its.toArray ∧ xs.length ≤ sizeLine := by
  rcases h with h | ⟨o, its, n, hk, hc, hs, hz, r⟩
  · obtain ⟨z, its, r, p⟩ := h.ok I.hok
    exact ⟨its, r, p, z⟩
  · refine ⟨its.toList, r, ⟨o, I.kIn a o hk, hc, n, by simpa using hs⟩, ?_⟩
    have e := r.length
    simp only [Array.length_toList] at e
    omega
theorem Inv.list_inj (I : Inv X pins σ H s) (h : SqL X.K H a xs) (h' : SqL X.K H a ys) : xs = ys := by
  obtain ⟨its, r, ⟨o, n, e, _, _, d⟩, _⟩ := I.list h
  obtain ⟨its', r', ⟨o', n', e', _, _, d'⟩, _⟩ := I.list h'
  rw [e] at e'; cases e'
  rw [d] at d'
  injection d' with d1 _
  have : its = its' := by simpa using congrArg Array.toList d1
  subst this
  exact r.inj r'
theorem Inv.tuple_inj (I : Inv X pins σ H s) (h : SqT X.K H a xs) (h' : SqT X.K H a ys) : xs = ys := by
  obtain ⟨its, r, ⟨o, e, _, n, d⟩, _⟩ := I.tuple h
  obtain ⟨its', r', ⟨o', e', _, n', d'⟩, _⟩ := I.tuple h'
  rw [e] at e'; cases e'
  rw [d] at d'
  injection d' with d1 _
  have : its = its' := by simpa using congrArg Array.toList d1
  subst this
  exact r.inj r'
end
abbrev Cx.wish (X : Cx) (E : Value → Shared → Prop) : Cx := { X with xe := E }
abbrev Cx.nox (X : Cx) : Cx := X.wish fun _ _ => False
theorem Cx.Ok.wish {X : Cx} (ok : X.Ok) (E : Value → Shared → Prop) : (X.wish E).Ok :=
  ⟨ok.mod, ok.kind, ok.glob, ok.blt, ok.above, ok.inj, ok.has, ok.cab, ok.hd, ok.frames, ok.stk, ok.exf, ok.bs, ok.bsz, ok.noex, ok.exfs, ok.funs, ok.frf⟩
theorem Cx.Ok.unwish {X : Cx} {E : Value → Shared → Prop} (ok : (X.wish E).Ok) : X.Ok :=
  ⟨ok.mod, ok.kind, ok.glob, ok.blt, ok.above, ok.inj, ok.has, ok.cab, ok.hd, ok.frames, ok.stk, ok.exf, ok.bs, ok.bsz, ok.noex, ok.exfs, ok.funs, ok.frf⟩
section
variable {X : Cx} {pins : List (Addr × Obj)} {σ : St} {H : Hp} {s : Shared} {E : Value → Shared → Prop}
theorem Inv.wish (I : Inv X pins σ H s) (E : Value → Shared → Prop) : Inv (X.wish E) pins σ H s := ⟨I.ok.wish E, I.os, I.bare, I.base, I.loc, I.cell, I.free, I.freeC, I.pin, I.hok, I.len⟩
theorem Inv.unwish (I : Inv (X.wish E) pins σ H s) : Inv X pins σ H s := ⟨I.ok.unwish, I.os, I.bare, I.base, I.loc, I.cell, I.free, I.freeC, I.pin, I.hok, I.len⟩
theorem SP.unwish {D : Ends} {f : Flow} {s' : Shared} (h : SP (X.wish E) pins D f s') : SP X pins D f s' := by
  cases f with
  | next => obtain ⟨σ', H', I, q⟩ := h; exact ⟨σ', H', I.unwish, q⟩
  | brk => obtain ⟨σ', H', I, q⟩ := h; exact ⟨σ', H', I.unwish, q⟩
  | cont => obtain ⟨σ', H', I, q⟩ := h; exact ⟨σ', H', I.unwish, q⟩
  | ret u => obtain ⟨v, σ', H', I, r, q⟩ := h; exact ⟨v, σ', H', I.unwish, r, q⟩
theorem PE.nox {e : Expr} {t : TE} (h : PE X.nox e t) : PE X e t := fun pins s σ H Q I hw =>
  wpAny_mono (h pins s σ H Q (I.wish _) hw) (fun _ _ ⟨v, H', I', r, q⟩ => ⟨v, H', I'.unwish, r, q⟩) fun _ _ z => False.elim z
theorem PT.nox {e : Expr} {t : TT} (h : PT X.nox e t) : PT X e t := fun pins s σ H Q I hw =>
  wpAny_mono (h pins s σ H Q (I.wish _) hw) (fun _ _ ⟨H', I', q⟩ => ⟨H', I'.unwish, q⟩) fun _ _ z => False.elim z
theorem PSs.nox {st : List Stmt} {t : TS} (h : PSs X.nox st t) : PSs X st t := fun pins s σ H D I hw =>
  wpAny_mono (h pins s σ H D (I.wish _) hw) (fun _ _ q => q.unwish) fun _ _ z => False.elim z
end
section
variable {X : Cx} {st : Stmt} {rest : List Stmt} {t u : TS} {e : Expr} {te : TE} {pos : Pos}
def tNext : TS := fun D σ H => D.nx σ H
def tSeq (t u : TS) : TS := fun D σ H => t { D with nx := u D } σ H
theorem pss_nil : PSs X [] tNext := fun _ _ σ H _ I h => wpAny_execs_nil ⟨σ, H, I, h⟩
theorem pss_cons (h1 : PS X st t) (h2 : PSs X rest u) : PSs X (st :: rest) (tSeq t u) := by
  intro pins s σ H D I h
  refine wpAny_execs_cons (thn (h1 pins s σ H { D with nx := u D } I h) fun f s1 q => ?_)
  cases f with
  | next =>
    obtain ⟨σ', H', I', q⟩ := q
    exact h2 pins s1 σ' H' D I' q
  | ret v => exact q
  | brk => exact q
  | cont => exact q
theorem pss_one (h1 : PS X st t) : PSs X [st] t := by
  intro pins s σ H D I h
  refine wpAny_execs_cons (thn (h1 pins s σ H D I h) fun f s1 q => ?_)
  cases f with
  | next => exact wpAny_execs_nil q
  | ret v => exact q
  | brk => exact q
  | cont => exact q
theorem Inv.quiet {pins : List (Addr × Obj)} {σ : St} {H : Hp} {s : Shared} (I : Inv X pins σ H s) : interactive X.env = false := by simp [interactive, I.ok.kind]
def tDrop (te : TE) : TS := fun D σ H => te σ H fun _ H1 => D.nx σ H1
theorem ps_expr (he : PE X e te) (hs : swapsWith e none pos.line X.env = pure false := by rfl) : PS X (.Expr e pos) (tDrop te) := by
  intro pins s σ H D I h
  exact wpAny_Expr_any (thn (he pins s σ H _ I h) fun v s1 ⟨x, H1, I1, r1, q1⟩ => ⟨σ, H1, I1, q1⟩) I.quiet hs
def tRet (te : TE) : TS := fun D σ H => te σ H D.rt
theorem ps_ret (he : PE X e te) : PS X (.Return (some e) pos) (tRet te) := by
  intro pins s σ H D I h
  exact wpAny_Return_some (thn (he pins s σ H _ I h) fun v s1 ⟨x, H1, I1, r1, q1⟩ => ⟨x, σ, H1, I1, r1, q1⟩)
def tIfS (c : TT) (t u : TS) : TS := fun D σ H => c σ H fun b H1 => if b = true then t D σ H1 else u D σ H1
theorem ps_if {c : Expr} {a b : List Stmt} {tc : TT} (hc : PT X c tc) (ha : PSs X a t) (hb : PSs X b u) : PS X (.If c a b pos) (tIfS tc t u) := by
  intro pins s σ H D I h
  refine wpAny_If (thn (hc pins s σ H _ I h) fun d s1 ⟨H1, I1, q1⟩ => ?_)
  cases d with
  | true => exact ha pins s1 σ H1 D I1 q1
  | false => exact hb pins s1 σ H1 D I1 q1
end
abbrev TG := V → St → Hp → (St → Hp → Prop) → Prop
def PG (X : Cx) (target : Expr) (t : TG) : Prop :=
  ∀ (pins : List (Addr × Obj)) (s : Shared) (σ : St) (H : Hp) (v : V) (u : Value) (Q : St → Hp → Prop), Inv X pins σ H s → RelV v u → t v σ H Q →
    wpAny (model X.prog X.w) X.A (assign target X.env u) (fun _ s' => ∃ σ' H', Inv X pins σ' H' s' ∧ Q σ' H') X.xe s
abbrev TSet := V → V → V → Hp → (Hp → Prop) → Prop
def PSet (X : Cx) (t : TSet) : Prop :=
  ∀ (pins : List (Addr × Obj)) (s : Shared) (σ : St) (H : Hp) (o i v : V) (ov iv u : Value) (Q : Hp → Prop), Inv X pins σ H s → RelV o ov → RelV i iv → RelV v u → t o i v H Q →
    wpAny (model X.prog X.w) X.A (setItem ov iv u) (fun _ s' => ∃ H', Inv X pins σ H' s' ∧ Q H') X.xe s
section
variable {X : Cx} {pos : Pos}
def gName (i : Nat) : TG := fun v σ H Q => Q (σ.set i (some v)) H
theorem pg_name {i : Nat} {x : Str} (hN : X.N.Nodup) (hi : X.N[i]? = some x) (hx : Loc X.env.scope x) (hf : X.fn x = true ∨ X.env.scope.names.lookup x = some .local := by first | exact .inl rfl | exact .inr rfl | assumption) : PG X (.Name x pos) (gName i) := by
  intro pins s σ H v u Q I r h
  exact wpAny_assign_Name (store_ok I hN hi hx r (fun s' I' => ⟨_, H, I', h⟩) hf)
def gSub (to ti : TE) (t : TSet) : TG := fun v σ H Q => to σ H fun o H1 => ti σ H1 fun i H2 => t o i v H2 fun H3 => Q σ H3
theorem pg_sub {o i : Expr} {to ti : TE} {t : TSet} (ho : PE X o to) (hi : PE X i ti) (hs : PSet X t)
    (ha : ∀ v, assign (.Subscript o i pos) X.env v = (do
      let ov ← holding [v] (eval o X.env)
      let iv ← holding [v, ov] (eval i X.env)
      standAt pos
      holding [v, ov, iv] (setItem ov iv v)
      release [v, ov, iv] []) := by intro _; rfl) : PG X (.Subscript o i pos) (gSub to ti t) := by
  intro pins s σ H v u Q I r h
  rw [ha]
  refine wpAny_bind (wpAny_holding (thn (ho pins s σ H _ I h) fun ov s1 ⟨x, H1, I1, r1, q1⟩ => ?_))
  refine wpAny_bind (wpAny_holding (thn (hi pins s1 σ H1 _ I1 q1) fun iv s2 ⟨y, H2, I2, r2, q2⟩ => ?_))
  refine wpAny_bind (wpAny_standAt (wpAny_bind (wpAny_holding (thn (hs pins s2 σ H2 x y v ov iv u _ I2 r1 r2 r q2) fun _ s3 ⟨H3, I3, q3⟩ => ?_))))
  exact wpAny_release ⟨σ, H3, I3, q3⟩
def tAsg (te : TE) (g : TG) : TS := fun D σ H => te σ H fun x H1 => g x σ H1 D.nx
theorem ps_asg {tg e : Expr} {te : TE} {g : TG} (he : PE X e te) (hg : PG X tg g) (hs : swapsWithSole [tg] e pos.line X.env = pure false := by rfl) (hw : swappedStores [tg] e X.env = pure none := by rfl)
    (h1 : (assignEach [tg] X.env).map (·.2) = [assign tg X.env] := by rfl) : PS X (.Assign [tg] e pos) (tAsg te g) := by
  intro pins s σ H D I h
  refine wpAny_Assign_stores (thn (he pins s σ H _ I h) fun v s1 ⟨x, H1, I1, r1, q1⟩ => ?_) hs hw
  rw [h1]
  exact thn (hg pins s1 σ H1 x v _ I1 r1 q1) fun _ s2 q => q
theorem ps_set {i : Nat} {x : Str} {e : Expr} {te : TE} {pos' : Pos} (hN : X.N.Nodup) (hi : X.N[i]? = some x) (hx : Loc X.env.scope x) (he : PE X e te) (hs : swapsWith e (some (.Name x pos')) pos.line X.env = pure false := by rfl) (hf : X.fn x = true ∨ X.env.scope.names.lookup x = some .local := by first | exact .inl rfl | exact .inr rfl | assumption) :
    PS X (.Assign [.Name x pos'] e pos) (tAsg te (gName i)) := by
  intro pins s σ H D I h
  refine wpAny_Assign_Name (thn (he pins s σ H _ I h) fun v s1 ⟨y, H1, I1, r1, q1⟩ => ?_) hs
  exact store_ok I1 hN hi hx r1 (fun s2 I2 => ⟨_, H1, I2, q1⟩) hf
end
structure It where
  go : Nat → Hp → Prop
  yld : Nat → Hp → V → Hp → Prop
  stop : Nat → Hp → Prop
def FpOk (X : Cx) (pins : List (Addr × Obj)) (H : Hp) (b : Addr) : Prop :=
  H b = none ∧ b ≠ X.env.locals ∧ b ∉ X.fs ∧ (b ∈ X.ex ∨ X.s₀.heap.objs.size ≤ b) ∧ (∀ x c, X.env.cells.lookup x = some c → c ≠ b) ∧ ∀ p ∈ X.pn ++ pins, p.1 ≠ b
theorem Inv.fpOk {X : Cx} {pins : List (Addr × Obj)} {σ : St} {H H' : Hp} {s : Shared} {b : Addr} (I : Inv X pins σ H s) (hb : s.heap.objs.size ≤ b) (hn : H' b = none) : FpOk X pins H' b := by
  refine ⟨hn, Nat.ne_of_gt (Nat.lt_of_lt_of_le I.lt hb), I.nofs hb, .inr (Nat.le_trans I.sz hb), fun x c e z => ?_, fun p hp z => ?_⟩
  · obtain ⟨v, q⟩ := I.cell x c e
    exact absurd (Nat.lt_of_lt_of_le q.lt (by rw [z]; exact hb)) (Nat.lt_irrefl _)
  · exact absurd (Nat.lt_of_lt_of_le (Heap.lt_size (I.pin p hp).1) (by rw [z]; exact hb)) (Nat.lt_irrefl _)
structure Turn (P : Program) (w : World) (K : PySem.W.Frag) (tg : Expr) (J : It) (fp : List Addr) (it : Addr) (tn : Nat → Heap → Prop) : Prop where
  mem : it ∈ fp
  obj : ∀ i h, tn i h → ∀ b ∈ fp, ∃ o, h.get? b = some o ∧ ∀ v, o.data ≠ .cell v
  keep : ∀ i h h', tn i h → (∀ b ∈ fp, ∀ o, h.get? b = some o → h'.get? b = some o) → tn i h'
  item : ∀ (X : Cx), X.prog = P → X.w = w → X.K = K → X.calm = true → ∀ (i : Nat) (pins : List (Addr × Obj)) (s : Shared) (σ : St) (H : Hp) (E : Value → Shared → Prop), Inv X pins σ H s → (∀ b ∈ fp, FpOk X pins H b) → tn i s.heap → J.go i H →
    wpAny (model P w) X.A (pyNext (.ref it)) (fun r s1 => ∃ u, r = some u ∧
      wpAny (model P w) X.A (letOwnedTupleGo tg (.ref it) u) (fun _ s2 => ∃ x H', Inv X pins σ H' s2 ∧ RelV x u ∧ J.yld i H x H' ∧ tn (i + 1) s2.heap ∧ ∀ b ∈ fp, H' b = none) E s1) E s
  done : ∀ (X : Cx), X.prog = P → X.w = w → X.K = K → X.calm = true → ∀ (i : Nat) (pins : List (Addr × Obj)) (s : Shared) (σ : St) (H : Hp) (E : Value → Shared → Prop), Inv X pins σ H s → (∀ b ∈ fp, FpOk X pins H b) → tn i s.heap → J.stop i H →
    wpAny (model P w) X.A (pyNext (.ref it)) (fun r s1 => r = none ∧ Inv X pins σ H s1) E s
  self : ∀ (A : Around) (i : Nat) (s : Shared) (Q : Value → Shared → Prop) (E : Value → Shared → Prop), tn i s.heap → Q (.ref it) s → wpAny (model P w) A (pyIter (.ref it)) Q E s
abbrev TI := St → Hp → (It → Hp → Prop) → Prop
def PIE (X : Cx) (pins : List (Addr × Obj)) (σ : St) (tg : Expr) (R : It → Hp → Prop) (itv : Value) (s2 : Shared) : Prop :=
  ∃ (it : Addr) (fp : List Addr) (tn : Nat → Heap → Prop) (J : It) (H' : Hp), itv = .ref it ∧ Inv X pins σ H' s2 ∧ Turn X.prog X.w X.K tg J fp it tn ∧ tn 0 s2.heap ∧ (∀ b ∈ fp, FpOk X pins H' b) ∧ R J H'
def PI (X : Cx) (tg iter : Expr) (wi : TI) : Prop :=
  ∀ (pins : List (Addr × Obj)) (s : Shared) (σ : St) (H : Hp) (R : It → Hp → Prop), Inv X pins σ H s → wi σ H R →
    wpAny (model X.prog X.w) X.A (eval iter X.env) (fun v s1 => wpAny (model X.prog X.w) X.A (pyIter v) (PIE X pins σ tg R) X.xe s1) X.xe s
theorem go_of {M : Model} {A : Around} {E : Value → Shared → Prop} {s : Shared} {tg : Expr} {it : Addr} {u : Value} {o : Obj} {n : String} {vs : Array Value} {Q : Unit → Shared → Prop} (ho : s.heap.get? it = some o) (hc : o.cls = .type n) (hd : o.data = .fields vs)
    (hn : ["enumerate", "zip", "dict_itemiterator", "dict_reverseitemiterator", "odict_iterator", "itertools.zip_longest", "itertools.pairwise"].contains n = false) (hQ : Q () s) : wpAny M A (letOwnedTupleGo tg (.ref it) u) Q E s := by
  unfold letOwnedTupleGo
  cases tg <;> first
    | exact wpAny_pure hQ
    | (cases u <;> first
        | exact wpAny_pure hQ
        | (refine wpAny_bind (wpAny_load ho ?_)
           rw [hc, hd]
           show wpAny M A (if (["enumerate", "zip", "dict_itemiterator", "dict_reverseitemiterator", "odict_iterator", "itertools.zip_longest", "itertools.pairwise"].contains n && vs[0]? == some (rawInt _)) = true then _ else _) Q E s
           rw [if_neg (by intro h; rw [hn, Bool.false_and] at h; cases h)]
           exact wpAny_pure hQ))
def Itl (K : PySem.W.Frag) (a : Addr) : It :=
  ⟨fun i H => ∃ xs x, SqL K H a xs ∧ xs[i]? = some x, fun i H x H' => H' = H ∧ ∀ xs, SqL K H a xs → xs[i]? = some x, fun i H => ∃ xs, SqL K H a xs ∧ xs.length ≤ i⟩
def Itt (K : PySem.W.Frag) (a : Addr) : It :=
  ⟨fun i H => ∃ xs x, SqT K H a xs ∧ xs[i]? = some x, fun i H x H' => H' = H ∧ ∀ xs, SqT K H a xs → xs[i]? = some x, fun i H => ∃ xs, SqT K H a xs ∧ xs.length ≤ i⟩
def Itr (lo : Int) (n : Nat) : It := ⟨fun i _ => i < n, fun i H x H' => H' = H ∧ x = .int (lo + i), fun i _ => n ≤ i⟩
theorem turn_list {P : Program} {w : World} {K : PySem.W.Frag} {tg : Expr} (a it : Addr) : Turn P w K tg (Itl K a) [it] it (fun i h => h.IsListIter it a i) where
  mem := by simp
  obj := fun i h st b hb => by
    have e : b = it := by simpa using hb
    subst e
    obtain ⟨o, e, c, d⟩ := st
    exact ⟨o, e, fun v z => by rw [d] at z; cases z⟩
  keep := fun i h h' st k => st.at fun o e => k it (by simp) o e
  item := by
    intro X hP hw hK hc i pins s σ H E I hf st hg
    subst hP hw hK
    obtain ⟨xs, x, hq, hx⟩ := hg
    obtain ⟨its, rv, p, hz⟩ := I.list hq
    obtain ⟨u, hu, ru⟩ := rv.get hx
    obtain ⟨f0, f1, f2, f3, f4, f5⟩ := hf it (by simp)
    refine wpAny_pyNext_list_item st p.isList (x := u) (by simpa using hu) fun h' st' sb => ?_
    have I1 : Inv X pins σ H { s with heap := h' } := I.turned (t' := s.toks) (fun b o hb e => (sb.2 b hb).trans e) f0 f1 f3 f4 f5
    obtain ⟨o, e, c, d⟩ := id st'
    exact ⟨u, rfl, go_of (s := { s with heap := h' }) e c d (by decide) ⟨x, H, I1, ru, ⟨rfl, fun ys hy => by rw [I.list_inj hy hq]; exact hx⟩, st', fun b hb => (hf b hb).1⟩⟩
  done := by
    intro X hP hw hK hc i pins s σ H E I hf st hg
    subst hP hw hK
    obtain ⟨xs, hq, hx⟩ := hg
    obtain ⟨its, rv, p, hz⟩ := I.list hq
    obtain ⟨f0, f1, f2, f3, f4, f5⟩ := hf it (by simp)
    have hl := rv.length
    exact wpAny_pyNext_list_end (I.ok.hd hc) st p.isList (by simp; omega) fun h' eb => ⟨rfl, I.turned (t' := s.toks) (fun b o hb e => eb b o hb e) f0 f1 f3 f4 f5⟩
  self := fun _ _ _ _ _ st h => wpAny_pyIter_listiter st h
theorem turn_tuple {P : Program} {w : World} {K : PySem.W.Frag} {tg : Expr} (a it : Addr) : Turn P w K tg (Itt K a) [it] it (fun i h => h.IsTupleIter it a i) where
  mem := by simp
  obj := fun i h st b hb => by
    have e : b = it := by simpa using hb
    subst e
    obtain ⟨o, e, c, d⟩ := st
    exact ⟨o, e, fun v z => by rw [d] at z; cases z⟩
  keep := fun i h h' st k => st.at fun o e => k it (by simp) o e
  item := by
    intro X hP hw hK hc i pins s σ H E I hf st hg
    subst hP hw hK
    obtain ⟨xs, x, hq, hx⟩ := hg
    obtain ⟨its, rv, p, hz⟩ := I.tuple hq
    obtain ⟨u, hu, ru⟩ := rv.get hx
    obtain ⟨f0, f1, f2, f3, f4, f5⟩ := hf it (by simp)
    refine wpAny_pyNext_tuple_item st (show s.heap.IsTuple a its.toArray from p) (x := u) (by simpa using hu) fun h' st' sb => ?_
    have I1 : Inv X pins σ H { s with heap := h' } := I.turned (t' := s.toks) (fun b o hb e => (sb.2 b hb).trans e) f0 f1 f3 f4 f5
    obtain ⟨o, e, c, d⟩ := id st'
    exact ⟨u, rfl, go_of (s := { s with heap := h' }) e c d (by decide) ⟨x, H, I1, ru, ⟨rfl, fun ys hy => by rw [I.tuple_inj hy hq]; exact hx⟩, st', fun b hb => (hf b hb).1⟩⟩
  done := by
    intro X hP hw hK hc i pins s σ H E I hf st hg
    subst hP hw hK
    obtain ⟨xs, hq, hx⟩ := hg
    obtain ⟨its, rv, p, hz⟩ := I.tuple hq
    obtain ⟨f0, f1, f2, f3, f4, f5⟩ := hf it (by simp)
    have hl := rv.length
    exact wpAny_pyNext_tuple_end (I.ok.hd hc) st (show s.heap.IsTuple a its.toArray from p) (by simp; omega) fun h' eb => ⟨rfl, I.turned (t' := s.toks) (fun b o hb e => eb b o hb e) f0 f1 f3 f4 f5⟩
  self := fun _ _ _ _ _ st h => wpAny_pyIter_tupleiter st h
theorem turn_range {P : Program} {w : World} {K : PySem.W.Frag} {tg : Expr} (it : Addr) (lo : Int) (n : Nat) : Turn P w K tg (Itr lo n) [it] it (fun i h => IsRangeIter h it (lo + (i : Nat) * 1) ((n : Int) - (i : Nat)) 1) where
  mem := by simp
  obj := fun i h st b hb => by
    have e : b = it := by simpa using hb
    subst e
    exact ⟨_, st, fun v z => by
      have z' : Data.fields _ = Data.cell v := z
      cases z'⟩
  keep := fun i h h' st k => k it (by simp) _ st
  item := by
    intro X hP hw hK hc i pins s σ H E I hf st hg
    subst hP hw hK
    obtain ⟨f0, f1, f2, f3, f4, f5⟩ := hf it (by simp)
    have W := Walks.range (prog := X.prog) (w := X.w) (I.ok.hd hc) it lo 1 n
    refine W.item i s _ _ hg st fun v h' tk hv st' kk => ?_
    obtain ⟨t, rfl⟩ := hv
    have I1 : Inv X pins σ H { s with heap := h', toks := tk } := I.turned (fun b o hb e => kk b o (by simpa using hb) e) f0 f1 f3 f4 f5
    refine ⟨_, rfl, go_of (s := { s with heap := h', toks := tk }) (n := "range_iterator") st' rfl rfl (by decide) ⟨.int (lo + i), H, I1, ⟨t, ?_⟩, ⟨rfl, rfl⟩, st', fun b hb => (hf b hb).1⟩⟩
    rw [Int.mul_one]
  done := by
    intro X hP hw hK hc i pins s σ H E I hf st hg
    subst hP hw hK
    obtain ⟨f0, f1, f2, f3, f4, f5⟩ := hf it (by simp)
    exact wpAny_pyNext_range_end (I.ok.hd hc) st (by have : n ≤ i := hg; omega) fun h' eb => ⟨rfl, I.turned (t' := s.toks) (fun b o hb e => eb b o hb e) f0 f1 f3 f4 f5⟩
  self := fun _ _ _ _ _ st h => wpAny_pyIter_rangeiter st h
section
variable {X : Cx} {tg : Expr}
theorem range_it {pins : List (Addr × Obj)} {σ : St} {H : Hp} {s : Shared} {R : It → Hp → Prop} {E : Value → Shared → Prop} {lo hi : Int} {t u v : Tok} {tk : Nat} (I : Inv X pins σ H s) (h1 : -(2 ^ 62) ≤ lo) (h2 : lo < 2 ^ 62) (h3 : -(2 ^ 62) ≤ hi) (h4 : hi < 2 ^ 62)
    (q : R (Itr lo (hi - lo).toNat) H) : wpAny (model X.prog X.w) X.A (pyIter (.ref s.heap.objs.size)) (PIE X pins σ tg R) E { s with heap := s.heap.push { cls := .type "range", data := .fields #[.int lo t, .int hi u, .int 1 v] }, toks := tk } := by
  refine wpAny_pyIter_range (IsRange.new ..) (small_one h1 h2 h3 h4) ?_
  have I1 : Inv X pins σ H { s with heap := s.heap.push { cls := .type "range", data := .fields #[.int lo t, .int hi u, .int 1 v] }, toks := tk } := I.kept fun b o e => Heap.get?_push_of_some _ e
  refine ⟨(s.heap.push { cls := .type "range", data := .fields #[.int lo t, .int hi u, .int 1 v] }).objs.size, [(s.heap.push { cls := .type "range", data := .fields #[.int lo t, .int hi u, .int 1 v] }).objs.size], _, _, H, rfl,
    I1.kept (t' := tk) fun b o e => Heap.get?_push_of_some _ e, turn_range _ lo (hi - lo).toNat, ?_, fun b hb => ?_, q⟩
  · have e1 : lo + ((0 : Nat) : Int) * 1 = lo := by simp
    have e2 : (((hi - lo).toNat : Nat) : Int) - ((0 : Nat) : Int) = Builtin.Range.rangeSize lo hi 1 := by rw [rangeSize_one]; split <;> omega
    show IsRangeIter _ _ (lo + ((0 : Nat) : Int) * 1) ((((hi - lo).toNat : Nat) : Int) - ((0 : Nat) : Int)) 1
    rw [e1, e2]
    exact Heap.get?_push_size _ rfl
  · have e : b = (s.heap.push { cls := .type "range", data := .fields #[.int lo t, .int hi u, .int 1 v] }).objs.size := by simpa using hb
    subst e
    exact I1.fpOk (Nat.le_refl _) (I1.hok.fresh (Nat.le_refl _))
def iRng1 (ta : TA) : TI := fun σ H R => ta σ H fun vs H1 => ∃ j : Int, vs = [.int j] ∧ -(2 ^ 62) ≤ j ∧ j < 2 ^ 62 ∧ R (Itr 0 j.toNat) H1
theorem pi_range1 {a : Expr} {ta : TA} {p pos : Pos} (hg : Gl X "range") (hm : X.mg "range" = none) (ha : PA X [a] ta) (hs : starEach [a] X.env = [(false, eval a X.env)] := by rfl) : PI X tg (.Call (.Name "range" p) [a] [] pos) (iRng1 ta) := by
  intro pins s σ H R I h
  refine Call_ (ld_blt I hg hm boot_range (PyProof.Rows.callWith_type1 (thn (ha pos pins s σ H _ I h) fun us s1 ⟨vs, H1, I1, r1, q1⟩ => ?_) hs rfl))
  obtain ⟨j, e, q1, q2, q⟩ := q1
  subst e
  cases r1 with
  | cons r rr =>
    cases rr
    obtain ⟨t, rfl⟩ := r
    exact call_range_1 (range_it I1 (by omega) (by omega) q1 q2 (by simpa using q))
def tFor (wi : TI) (g : TG) (tb : TS) : TS := fun D σ H => wi σ H fun J H1 => ∃ W : Nat → Nat → St → Hp → Prop, (∃ m, W 0 m σ H1) ∧ ∀ i m σ H, W i m σ H →
  (J.stop i H ∧ D.nx σ H) ∨ (J.go i H ∧ ∃ N : St → Hp → Prop, (∀ σ' H', N σ' H' → ∃ m', m' < m ∧ W (i + 1) m' σ' H') ∧ ∀ x H', J.yld i H x H' → g x σ H' fun σ2 H2 => tb { D with nx := N, ct := N, bk := D.nx } σ2 H2)
def pinsAt (fp : List Addr) (h : Heap) : List (Addr × Obj) := fp.filterMap fun b => (h.get? b).map fun o => (b, o)
theorem mem_pinsAt {fp : List Addr} {h : Heap} {b : Addr} {o : Obj} (hb : b ∈ fp) (e : h.get? b = some o) : (b, o) ∈ pinsAt fp h := List.mem_filterMap.mpr ⟨b, hb, by rw [e]; rfl⟩
theorem of_pinsAt {fp : List Addr} {h : Heap} {p : Addr × Obj} (hp : p ∈ pinsAt fp h) : p.1 ∈ fp ∧ h.get? p.1 = some p.2 := by
  obtain ⟨b, hb, e⟩ := List.mem_filterMap.mp hp
  cases q : h.get? b with
  | none => rw [q] at e; cases e
  | some o =>
    rw [q] at e
    have e' : (b, o) = p := Option.some.inj e
    subst e'
    exact ⟨hb, q⟩
theorem Inv.pinned {pins : List (Addr × Obj)} {σ : St} {H : Hp} {s : Shared} {fp : List Addr} (I : Inv X pins σ H s) (hf : ∀ b ∈ fp, FpOk X pins H b) (ho : ∀ b ∈ fp, ∃ o, s.heap.get? b = some o ∧ ∀ v, o.data ≠ .cell v) : Inv X (pins ++ pinsAt fp s.heap) σ H s :=
  I.pins_of fun p hp => (List.mem_append.mp hp).elim (fun z => I.pin p (List.mem_append_right _ z)) fun z => by
    obtain ⟨hb, e⟩ := of_pinsAt z
    obtain ⟨f0, f1, f2, _⟩ := hf p.1 hb
    obtain ⟨o, e', d⟩ := ho p.1 hb
    rw [e] at e'; cases e'
    exact ⟨e, f0, f1, f2, d⟩
theorem Inv.unpinned {pins pl : List (Addr × Obj)} {σ : St} {H : Hp} {s : Shared} (I : Inv X (pins ++ pl) σ H s) : Inv X pins σ H s := I.pins_of fun p hp => I.pin p (List.mem_append_right _ (List.mem_append_left _ hp))
theorem ps_for {iter : Expr} {body : List Stmt} {wi : TI} {g : TG} {tb : TS} {pos : Pos} (hp : PassesOwn (model X.prog X.w) X.A X.env X.xe) (hc : X.calm = true) (hi : PI X tg iter wi) (hg : PG X tg g) (hb : PSs X body tb)
    (hs : ∀ x, foldedSetIterable iter X.env x = pure x := by intro _; rfl) : PS X (.For tg iter body [] pos) (tFor wi g tb) := by
  intro pins s σ H D I h
  refine wpAny_For (thn (hi pins s σ H _ I h) fun v s1 h1 => thn h1 fun itv s2 h2 => ?_) hs
  obtain ⟨it, fp, tn, J, H2, e, I2, T, st2, f2, W, ⟨m0, w0⟩, turn⟩ := h2
  subst e
  -- what stays true of the iterator's objects through the loop
  have stat : ∀ {H' : Hp}, (∀ b ∈ fp, H' b = none) → ∀ b ∈ fp, FpOk X pins H' b := fun hn b hb => ⟨hn b hb, (f2 b hb).2⟩
  refine codeAny_forLoop_any (fun n s' => ∃ i σ' H', Inv X pins σ' H' s' ∧ tn i s'.heap ∧ (∀ b ∈ fp, H' b = none) ∧ W i n σ' H') ?_ m0 ⟨0, σ, H2, I2, st2, fun b hb => (f2 b hb).1, w0⟩
  rintro n s3 ⟨i, σ3, H3, I3, st3, fr3, w3⟩
  rcases turn i n σ3 H3 w3 with ⟨stop, qn⟩ | ⟨go, N, hN, step⟩
  · refine wpAny_passesOwn hp (thn (T.done X rfl rfl rfl hc i pins s3 σ3 H3 X.xe I3 (stat fr3) st3 stop) fun r s4 ⟨hr, I4⟩ => ?_)
    subst hr
    exact wpAny_execs_nil ⟨σ3, H3, I4, qn⟩
  · refine wpAny_passesOwn hp (thn (T.item X rfl rfl rfl hc i pins s3 σ3 H3 X.xe I3 (stat fr3) st3 go) fun r s4 ⟨u, hr, h4⟩ => ?_)
    subst hr
    refine wpAny_passesOwn hp (thn h4 fun _ s5 ⟨x, H5, I5, r5, y5, st5, fr5⟩ => ?_)
    have I5' := I5.pinned (stat fr5) (T.obj _ _ st5)
    refine wpAny_passesOwn hp (thn (hg _ s5 σ3 H5 x u _ I5' r5 (step x H5 y5)) fun _ s6 ⟨σ6, H6, I6, q6⟩ => ?_)
    refine wpAny_passesOwn hp (thn (hb _ s6 σ6 H6 _ I6 q6) fun f s7 q7 => ?_)
    have again : ∀ {σ7 : St} {H7 : Hp}, Inv X (pins ++ pinsAt fp s5.heap) σ7 H7 s7 → N σ7 H7 → ∃ m, m < n ∧ ∃ i σ' H', Inv X pins σ' H' s7 ∧ tn i s7.heap ∧ (∀ b ∈ fp, H' b = none) ∧ W i m σ' H' := fun {σ7 H7} I7 n7 => by
      obtain ⟨m', hm, w7⟩ := hN σ7 H7 n7
      refine ⟨m', hm, i + 1, σ7, H7, I7.unpinned, T.keep _ _ _ st5 fun b hb o e => (I7.pin (b, o) (List.mem_append_right _ (List.mem_append_right _ (mem_pinsAt hb e)))).1, fun b hb => ?_, w7⟩
      obtain ⟨o, e, d⟩ := T.obj _ _ st5 b hb
      exact (I7.pin (b, o) (List.mem_append_right _ (List.mem_append_right _ (mem_pinsAt hb e)))).2.1
    cases f with
    | next => obtain ⟨σ7, H7, I7, n7⟩ := q7; exact again I7 n7
    | cont => obtain ⟨σ7, H7, I7, n7⟩ := q7; exact again I7 n7
    | brk => obtain ⟨σ7, H7, I7, q7⟩ := q7; exact ⟨σ7, H7, I7.unpinned, q7⟩
    | ret v => obtain ⟨x7, σ7, H7, I7, r7, q7⟩ := q7; exact ⟨x7, σ7, H7, I7.unpinned, r7, q7⟩
end
abbrev R2 := V → V → Hp → VK → Prop
def OpR (X : Cx) (f : Value → Value → Sem Value) (r : R2) : Prop :=
  ∀ (pins : List (Addr × Obj)) (s : Shared) (σ : St) (H : Hp) (x y : V) (v u : Value) (Q : VK), Inv X pins σ H s → RelV x v → RelV y u → r x y H Q →
    wpAny (model X.prog X.w) X.A (f v u) (EP X pins σ Q) X.xe s
def UnR (X : Cx) (f : Value → Sem Value) (r : V → Hp → VK → Prop) : Prop :=
  ∀ (pins : List (Addr × Obj)) (s : Shared) (σ : St) (H : Hp) (x : V) (v : Value) (Q : VK), Inv X pins σ H s → RelV x v → r x H Q →
    wpAny (model X.prog X.w) X.A (f v) (EP X pins σ Q) X.xe s
def CallR (X : Cx) (f : Value) (r : List V → Hp → VK → Prop) : Prop :=
  ∀ (pins : List (Addr × Obj)) (s : Shared) (σ : St) (H : Hp) (xs : List V) (us : List Value) (Q : VK), Inv X pins σ H s → Vals xs us → r xs H Q →
    wpAny (model X.prog X.w) X.A (call f us) (EP X pins σ Q) X.xe s
def tOp (r : R2) (ta tb : TE) : TE := fun σ H Q => ta σ H fun x H1 => tb σ H1 fun y H2 => r x y H2 Q
def tUn (r : V → Hp → VK → Prop) (ta : TE) : TE := fun σ H Q => ta σ H fun x H1 => r x H1 Q
def rI (C : Int → Int → Prop) (g : Int → Int → V) : R2 := fun x y H Q => ∃ i j, x = .int i ∧ y = .int j ∧ C i j ∧ Q (g i j) H
def rI0 (g : Int → Int → V) : R2 := fun x y H Q => ∃ i j, x = .int i ∧ y = .int j ∧ Q (g i j) H
def rU (g : Int → V) : V → Hp → VK → Prop := fun x H Q => ∃ i, x = .int i ∧ Q (g i) H
section
variable {X : Cx} {a b c : Expr} {ta tb tc : TE} {pos : Pos}
theorem binT (ha : PE X a ta) (hb : PE X b tb) {pins : List (Addr × Obj)} {s : Shared} {σ : St} {H : Hp} {R : V → V → Hp → Prop} (I : Inv X pins σ H s)
    (h : ta σ H fun x H1 => tb σ H1 fun y H2 => R x y H2) {Q : Value → Shared → Prop} {f : Value → Value → Sem Value}
    (hf : ∀ v u s2 x y H2, Inv X pins σ H2 s2 → RelV x v → RelV y u → R x y H2 → wpAny (model X.prog X.w) X.A (f v u) Q X.xe s2) :
    wpAny (model X.prog X.w) X.A (eval a X.env) (fun v s₁ => wpAny (model X.prog X.w) X.A (eval b X.env) (fun u s₂ => wpAny (model X.prog X.w) X.A (f v u) Q X.xe s₂) X.xe s₁) X.xe s := by
  refine thn (ha pins s σ H _ I h) fun v s1 ⟨x, H1, I1, r1, q1⟩ => ?_
  refine thn (hb pins s1 σ H1 _ I1 q1) fun u s2 ⟨y, H2, I2, r2, q2⟩ => ?_
  exact hf v u s2 x y H2 I2 r1 r2 q2
theorem pe_op {op : Operator} {r : R2} (ho : OpR X (binaryOp op) r) (ha : PE X a ta) (hb : PE X b tb) : PE X (.BinOp a op b pos) (tOp r ta tb) := by
  intro pins s σ H Q I h
  exact wpAny_BinOp (binT ha hb I h fun v u s2 x y H2 I2 rx ry q => ho pins s2 σ H2 x y v u Q I2 rx ry q)
theorem pe_un {op : UnaryOp} {r : V → Hp → VK → Prop} (ho : UnR X (unaryOp op) r) (ha : PE X a ta) : PE X (.UnaryOp op a pos) (tUn r ta) := by
  intro pins s σ H Q I h
  exact UnaryOp_ (thn (ha pins s σ H _ I h) fun v s1 ⟨x, H1, I1, r1, q1⟩ => ho pins s1 σ H1 x v Q I1 r1 q1)
theorem opI {f : Value → Value → Sem Value} {C : Int → Int → Prop} {g : Int → Int → Int}
    (rule : ∀ (i j : Int) (t u : Tok) (s : Shared) (Q : Value → Shared → Prop) (E : Value → Shared → Prop), C i j → Q (.int (g i j) s.toks) { s with toks := s.toks + 1 } → wpAny (model X.prog X.w) X.A (f (.int i t) (.int j u)) Q E s) :
    OpR X f (rI C fun i j => .int (g i j)) := by
  intro pins s σ H x y v u Q I rx ry h
  obtain ⟨i, j, rfl, rfl, hc, q⟩ := h
  obtain ⟨t, rfl⟩ := rx
  obtain ⟨t', rfl⟩ := ry
  exact rule i j t t' s _ _ hc ⟨.int (g i j), H, I.tok _, ⟨_, rfl⟩, q⟩
theorem opI0 {f : Value → Value → Sem Value} {g : Int → Int → Int}
    (rule : ∀ (i j : Int) (t u : Tok) (s : Shared) (Q : Value → Shared → Prop) (E : Value → Shared → Prop), Q (.int (g i j) s.toks) { s with toks := s.toks + 1 } → wpAny (model X.prog X.w) X.A (f (.int i t) (.int j u)) Q E s) :
    OpR X f (rI0 fun i j => .int (g i j)) := by
  intro pins s σ H x y v u Q I rx ry h
  obtain ⟨i, j, rfl, rfl, q⟩ := h
  obtain ⟨t, rfl⟩ := rx
  obtain ⟨t', rfl⟩ := ry
  exact rule i j t t' s _ _ ⟨.int (g i j), H, I.tok _, ⟨_, rfl⟩, q⟩
theorem opB0 {f : Value → Value → Sem Value} {g : Int → Int → Bool}
    (rule : ∀ (i j : Int) (t u : Tok) (s : Shared) (Q : Value → Shared → Prop) (E : Value → Shared → Prop), Q (.bool (g i j)) s → wpAny (model X.prog X.w) X.A (f (.int i t) (.int j u)) Q E s) :
    OpR X f (rI0 fun i j => .bl (g i j)) := by
  intro pins s σ H x y v u Q I rx ry h
  obtain ⟨i, j, rfl, rfl, q⟩ := h
  obtain ⟨t, rfl⟩ := rx
  obtain ⟨t', rfl⟩ := ry
  exact rule i j t t' s _ _ ⟨.bl (g i j), H, I, rfl, q⟩
def CDiv (i j : Int) : Prop := 0 < j ∧ j < 1073741824
def CPow (i j : Int) : Prop := 0 ≤ j ∧ j ≤ 1000000 ∧ i.natAbs < 2 ^ 64
def CMul (i j : Int) : Prop := (-(2 ^ 64) < i ∧ i < 2 ^ 64) ∨ (-(2 ^ 64) < j ∧ j < 2 ^ 64)
theorem CMul.ok {i j : Int} (h : CMul i j) : IntMulOk i j := by
  rcases h with ⟨h1, h2⟩ | ⟨h1, h2⟩
  · exact .of_left (intBits_le_64 h1 h2)
  · exact .of_right (intBits_le_64 h1 h2)
theorem op_add : OpR X (binaryOp .Add) (rI0 fun i j => .int (i + j)) := opI0 fun _ _ _ _ _ _ _ q => add_int q
theorem op_sub : OpR X (binaryOp .Sub) (rI0 fun i j => .int (i - j)) := opI0 fun _ _ _ _ _ _ _ q => sub_int q
theorem op_fdiv : OpR X (binaryOp .FloorDiv) (rI CDiv fun i j => .int (i / j)) := opI fun i j _ _ _ _ _ hc q => by
  have h1 : (0 : Int) < j := hc.1
  have h2 : j < 1073741824 := hc.2
  exact floordiv_int (by omega) (by rw [Int.fdiv_eq_ediv_of_nonneg i (by omega)]; exact q) (.inl (PyProof.noPylong_small (by omega)))
theorem op_mod : OpR X (binaryOp .Mod) (rI (fun _ j => 0 < j) fun i j => .int (i % j)) := opI fun i j _ _ _ _ _ hc q => by
  have h1 : (0 : Int) < j := hc
  exact mod_int' (by omega) (by rw [Int.fmod_eq_emod_of_nonneg i (by omega)]; exact q)
theorem op_pow : OpR X (binaryOp .Pow) (rI CPow fun i j => .int (i ^ j.toNat)) := opI fun _ _ _ _ _ _ _ hc q => pow_int_small hc.1 hc.2.1 hc.2.2 q
theorem unI {f : Value → Sem Value} {g : Int → Int}
    (rule : ∀ (i : Int) (t : Tok) (s : Shared) (Q : Value → Shared → Prop) (E : Value → Shared → Prop), Q (.int (g i) s.toks) { s with toks := s.toks + 1 } → wpAny (model X.prog X.w) X.A (f (.int i t)) Q E s) :
    UnR X f (rU fun i => .int (g i)) := by
  intro pins s σ H x v Q I rx h
  obtain ⟨i, rfl, q⟩ := h
  obtain ⟨t, rfl⟩ := rx
  exact rule i t s _ _ ⟨.int (g i), H, I.tok _, ⟨_, rfl⟩, q⟩
theorem un_neg : UnR X (unaryOp .USub) (rU fun i => .int (-i)) := unI fun _ _ _ _ _ q => neg_int q
end
section
variable {X : Cx} {a b c : Expr} {ta tb tc : TE} {pos : Pos}
theorem fin_bl {pins : List (Addr × Obj)} {σ : St} {H : Hp} {s : Shared} {Q : VK} {k k' : Bool} (I : Inv X pins σ H s) (q : Q (.bl k) H) (e : k = k') : EP X pins σ Q (.bool k') s := by
  subst e
  exact ⟨.bl k, H, I, rfl, q⟩
theorem op_gt : OpR X (compareOp .Gt) (rI0 fun i j => .bl (decide (j < i))) := opB0 fun _ _ _ _ _ _ _ q => gt_int q
theorem OpR.or {f : Value → Value → Sem Value} {r r' : R2} (h : OpR X f r) (h' : OpR X f r') : OpR X f (fun x y H Q => r x y H Q ∨ r' x y H Q) := by
  intro pins s σ H x y v u Q I rx ry q
  rcases q with q | q
  · exact h pins s σ H x y v u Q I rx ry q
  · exact h' pins s σ H x y v u Q I rx ry q
theorem nomark (b : Expr) {op : CmpOp} (h : op ≠ .In := by decide) (h2 : op ≠ .NotIn := by decide) : behindInMarks op b = false := by
  have e1 : (op == CmpOp.In) = false := by cases op <;> first | rfl | exact absurd rfl h
  have e2 : (op == CmpOp.NotIn) = false := by cases op <;> first | rfl | exact absurd rfl h2
  cases b <;> simp [behindInMarks, e1, e2]
theorem pe_cmpR {op : CmpOp} {r : R2} (ho : OpR X (compareOp op) r) (ha : PE X a ta) (hb : PE X b tb) (hm : behindInMarks op b = false) : PE X (.Compare a [op] [b] pos) (tOp r ta tb) := by
  intro pins s σ H Q I h
  exact wpAny_Compare1 (binT ha hb I h fun v u s2 x y H2 I2 rx ry q => ho pins s2 σ H2 x y v u Q I2 rx ry q) hm
def tTest (t : TE) : TT := fun σ H Q => t σ H fun x H' => ∃ k, x = .bl k ∧ Q k H'
theorem pt_cmpR {op : CmpOp} {r : R2} (ho : OpR X (compareOp op) r) (ha : PE X a ta) (hb : PE X b tb) (hm : behindInMarks op b = false) : PT X (.Compare a [op] [b] pos) (tTest (tOp r ta tb)) := by
  intro pins s σ H Q I h
  refine wpAny_isTrue_Compare1 (thn (ha pins s σ H _ I h) fun v s1 ⟨x, H1, I1, r1, q1⟩ => thn (hb pins s1 σ H1 _ I1 q1) fun u s2 ⟨y, H2, I2, r2, q2⟩ =>
    thn (ho pins s2 σ H2 x y v u _ I2 r1 r2 q2) fun c s3 ⟨z, H3, I3, r3, k, e, q3⟩ => ?_) hm
  subst e
  cases r3
  exact wpAny_truthy_bool ⟨H3, I3, q3⟩
def tChain (r r' : R2) (ta tb tc : TE) : TE := fun σ H Q => ta σ H fun x H1 => tb σ H1 fun y H2 => r x y H2 fun z H3 => ∃ k, z = .bl k ∧
  (if k = true then tc σ H3 fun w' H4 => r' y w' H4 Q else Q (.bl false) H3)
theorem pt_chain {op op' : CmpOp} {r r' : R2} (ho : OpR X (compareOp op) r) (ho' : OpR X (compareOp op') r') (ha : PE X a ta) (hb : PE X b tb) (hc : PE X c tc)
    (hm : lastMarks [op, op'] [b, c] = false := by with_unfolding_all rfl) : PT X (.Compare a [op, op'] [b, c] pos) (tTest (tChain r r' ta tb tc)) := by
  intro pins s σ H Q I h
  refine isTrue_chain (thn (ha pins s σ H _ I h) fun v s1 ⟨x, H1, I1, r1, q1⟩ => test_link (thn (hb pins s1 σ H1 _ I1 q1) fun u s2 ⟨y, H2, I2, r2, q2⟩ =>
    thn (ho pins s2 σ H2 x y v u _ I2 r1 r2 q2) fun d s3 ⟨z, H3, I3, r3, k, e, q3⟩ => ?_)) hm
  subst e
  cases r3
  refine wpAny_truthy_bool ?_
  cases k with
  | false =>
    obtain ⟨k', e', q'⟩ := q3
    cases e'
    exact ite_ff ⟨H3, I3, q'⟩
  | true =>
    refine ite_tt (test_last (thn (hc pins s3 σ H3 _ I3 q3) fun w' s4 ⟨z', H4, I4, r4, q4⟩ => thn (ho' pins s4 σ H4 y z' u w' _ I4 r2 r4 q4) fun d' s5 ⟨z2, H5, I5, r5, k2, e2, q5⟩ => ?_))
    subst e2
    cases r5
    exact wpAny_truthy_bool ⟨H5, I5, q5⟩
theorem line63 : (sizeLine : Nat) < 2 ^ 63 := by rw [sizeLine_eq]; decide
theorem vals1 {x : V} {us : List Value} (r : Vals [x] us) : ∃ u, us = [u] ∧ RelV x u := by
  cases r with
  | cons r1 r2 => cases r2; exact ⟨_, rfl, r1⟩
end
structure ObjM (h : Heap) (x dx C : Addr) (mA : Str → Option Value) : Prop where
  obj : h.get? x = some (PySem.W.instObj C dx)
  ns : h.Ns1 dx mA
  ne : dx ≠ x
theorem lookIn_ns {h : Heap} {dx : Addr} {mA : Str → Option Value} (n : h.Ns1 dx mA) : ∃ od, h.get? dx = some od ∧ ∀ name, PySem.W.lookIn name od = some (mA name) := by
  obtain ⟨o, es, ep, ho, hd, hk, _, hm⟩ := n
  refine ⟨o, ho, fun name => ?_⟩
  have e := hm name
  unfold nsFind findBy at e
  rw [← Array.find?_toList] at e
  unfold PySem.W.lookIn
  rw [hd]
  dsimp only
  split
  · rename_i y q
    rw [q] at e
    exact congrArg some e
  · rename_i q
    rw [q] at e
    have a : es.toList.any (·.refKey) = false := by
      rw [List.any_eq_false]
      intro y hy
      obtain ⟨z, t, hkey⟩ := hk y (Array.mem_toList_iff.mp hy)
      simp [DictEntry.refKey, hkey]
    have a' : ¬ es.toList.any (·.refKey) = true := by rw [a]; exact Bool.false_ne_true
    rw [if_neg a']
    exact congrArg some e
theorem ObjM.look {h : Heap} {x dx C : Addr} {mA : Str → Option Value} (I : ObjM h x dx C mA) : ∃ od, PySem.W.InstAt h x (PySem.W.instObj C dx) C (some od) ∧ ∀ name, PySem.W.lookIn name od = some (mA name) :=
  let ⟨od, ho, hl⟩ := lookIn_ns I.ns
  ⟨od, ⟨I.obj, rfl, rfl, ho⟩, hl⟩
section
variable {P : Program} {w : World} {H H' : Hp} {h h' : Heap} {a C dx : Addr} {fs fs' : List (Str × V)}
theorem ins_get (hok : HOk P w H h) (e : H a = some (.ins C dx fs)) : ∃ mA, ObjM h a dx C mA ∧ (∀ f, RelO (fs.lookup f) (mA f)) ∧ PySem.Within mA (fs.map (·.1)) ∧ fs.length ≤ 1000 ∧ H dx = some (.own a) := by
  obtain ⟨d, z, ne, ob, mA, n, r, q⟩ := (show ObjOk P w H h a (.ins C dx fs) from hok a _ e)
  exact ⟨mA, ⟨ob, n, ne⟩, r, q, z, d⟩
end
structure Cls (K : PySem.W.Frag) (C : Addr) : Prop where
  pg : PySem.W.plainGet K C Str.empty = true
  hd : PySem.W.hasDictIn K C = true
  po : PySem.W.plainOver K C = true
  sa : PySem.W.findIn K (.ref C) "__setattr__" = some (some (.builtin "object.__setattr__"))
theorem Cls.get {K : PySem.W.Frag} {C : Addr} (c : Cls K C) (f : Str) : PySem.W.plainGet K C f = true := c.pg
section
variable {X : Cx} {pins : List (Addr × Obj)} {σ : St} {H : Hp} {s : Shared} {A : Around} {E : Value → Shared → Prop} {Q : Value → Shared → Prop} {c : Value} {b : Bool}
inductive TyOf (K : PySem.W.Frag) (H : Hp) : V → Value → Prop where
  | non : TyOf K H .non (.type "NoneType")
  | bl (x : Bool) : TyOf K H (.bl x) (.type "bool")
  | int (i : Int) : TyOf K H (.int i) (.type "int")
  | str (x : Str) : TyOf K H (.str x) (.type "str")
  | flt (x : UInt64) : TyOf K H (.flt x) (.type "float")
  | lst {a : Addr} {xs : List V} (e : H a = some (.lst xs)) : TyOf K H (.ref a) (.type "list")
  | frz {a : Addr} {o : Obj} {xs : List V} (e : H a = some (.frz o (.lst xs))) : TyOf K H (.ref a) (.type "list")
  | tup {a : Addr} {xs : List V} (e : H a = some (.tup xs)) : TyOf K H (.ref a) (.type "tuple")
  | dK {a : Addr} {kvs : List (Key × V)} (e : H a = some (.dK kvs)) : TyOf K H (.ref a) (.type "dict")
  | dT {a : Addr} {kvs : List (List Key × V)} (e : H a = some (.dT kvs)) : TyOf K H (.ref a) (.type "dict")
  | ins {a C dx : Addr} {fs : List (Str × V)} (e : H a = some (.ins C dx fs)) (cl : Cls K C) (ha : PySem.W.findIn K (.ref C) "__class__" = some (some (.builtin "object.__class__")))
      (hn : PySem.W.specialIn K (.builtin "object.__class__") "__get__" = some (some (.builtin "getset_descriptor.__get__"))) (htk : PySem.W.takesIn K (.builtin "object.__class__") = some true)
      (hm : PySem.W.mroIn K C (.type "object") = some true) : TyOf K H (.ref a) (.ref C)
theorem isinst_ok {x : V} {u t : Value} (I : Inv X pins σ H s) (rx : RelV x u) (ty : TyOf X.K H x t) (e : PySem.W.kitOne X.K t c = some b) (h : ∀ tk, Q (.bool b) { s with toks := tk }) :
    wpAny (model X.prog X.w) A (call (.builtin "isinstance") [u, c]) Q E s := by
  cases ty with
  | non => cases (show u = Value.none from rx); exact PySem.W.kia_one PySem.W.kitx_none I.kIn True.intro e (fun z => nomatch z) h
  | bl y => cases (show u = Value.bool y from rx); exact PySem.W.kia_one PySem.W.kitx_bool I.kIn True.intro e (fun z => nomatch z) h
  | int i => obtain ⟨t, q⟩ := (show ∃ t, u = Value.int i t from rx); cases q; exact PySem.W.kia_one PySem.W.kitx_int I.kIn True.intro e (fun z => nomatch z) h
  | str y => obtain ⟨t, q⟩ := (show ∃ t, u = Value.str y t from rx); cases q; exact PySem.W.kia_one PySem.W.kitx_str I.kIn True.intro e (fun z => nomatch z) h
  | flt y => obtain ⟨t, q⟩ := (show ∃ t, u = Value.float y t from rx); cases q; exact PySem.W.kia_one PySem.W.kitx_float I.kIn True.intro e (fun z => nomatch z) h
  | @lst a xs ea =>
    cases (show u = Value.ref a from rx)
    obtain ⟨_, _, n, _, h1⟩ := (show ObjOk X.prog X.w H s.heap a (.lst xs) from I.hok a _ ea)
    exact PySem.W.kia_one PySem.W.kitx_list I.kIn ⟨_, h1, rfl⟩ e (fun z => nomatch z) h
  | @frz a ob xs ea =>
    cases (show u = Value.ref a from rx)
    obtain ⟨_, _, _, n, _, h1⟩ := (show ObjOk X.prog X.w H s.heap a (.frz ob (.lst xs)) from I.hok a _ ea)
    exact PySem.W.kia_one PySem.W.kitx_list I.kIn ⟨_, h1, rfl⟩ e (fun z => nomatch z) h
  | @tup a xs ea =>
    cases (show u = Value.ref a from rx)
    obtain ⟨_, _, _, p⟩ := (show ObjOk X.prog X.w H s.heap a (.tup xs) from I.hok a _ ea)
    obtain ⟨o, h1, h2, _⟩ := p
    exact PySem.W.kia_one PySem.W.kitx_tuple I.kIn ⟨o, h1, h2⟩ e (fun z => nomatch z) h
  | @dK a kvs ea =>
    cases (show u = Value.ref a from rx)
    obtain ⟨_, _, vs, _, p⟩ := (show ObjOk X.prog X.w H s.heap a (.dK kvs) from I.hok a _ ea)
    obtain ⟨o, es, ep, h1, h2, _⟩ := p
    exact PySem.W.kia_one PySem.W.kitx_dict I.kIn ⟨o, h1, h2.1⟩ e (fun z => nomatch z) h
  | @dT a kvs ea =>
    cases (show u = Value.ref a from rx)
    obtain ⟨_, _, xs, _, o, es, ep, h1, h2, _⟩ := (show ObjOk X.prog X.w H s.heap a (.dT kvs) from I.hok a _ ea)
    exact PySem.W.kia_one PySem.W.kitx_dict I.kIn ⟨o, h1, h2.1⟩ e (fun z => nomatch z) h
  | @ins a C dx fs ea cl ha hn htk hm =>
    cases (show u = Value.ref a from rx)
    obtain ⟨mA, O, _⟩ := ins_get I.hok ea
    obtain ⟨od, J, _⟩ := O.look
    exact PySem.W.kia_one (PySem.W.kitx_own (cl.get _) cl.hd ha hn htk hm) I.kIn J e (fun z => nomatch z) h
end
structure Room (k : Nat) (A : Around) : Prop where
  hd : A.handled = none
  dp : A.depth + 3 * k + 5 < recursionLimit
  un : A.units + 16 * k + 200 < cLine
  gd : A.guards = some []
theorem Room.mono {j k : Nat} {A : Around} (r : Room k A) (h : j ≤ k) : Room j A := ⟨r.hd, by have := r.dp; omega, by have := r.un; omega, r.gd⟩
theorem Room.deeper {k : Nat} {A : Around} (r : Room (k + 1) A) (env : Env) : Room k (A.deeper env) :=
  ⟨r.hd, by have := r.dp; show A.depth + 1 + 3 * k + 5 < _; omega, by have := r.un; show A.units + 3 + 16 * k + 200 < _; omega, r.gd⟩
theorem Room.depth {k : Nat} {A : Around} (r : Room k A) : A.depth < recursionLimit := by have := r.dp; omega
theorem Room.units {k : Nat} {A : Around} (r : Room k A) : A.units + 64 < cLine := by have := r.un; omega
def tNil : TA := fun _ H Q => Q [] H
def tCons (ta : TE) (tr : TA) : TA := fun σ H Q => ta σ H fun x H1 => tr σ H1 fun xs H2 => Q (x :: xs) H2
section
variable {X : Cx} {e : Expr} {es : List Expr} {te : TE} {t : TA} {pos : Pos}
theorem pa_nil : PA X [] tNil := fun _ _ _ _ H Q I h => Calls.spliced_nil ⟨[], H, I, .nil, h⟩
theorem pa_cons (ha : PE X e te) (hr : PA X es t) (hs : starEach (e :: es) X.env = (false, eval e X.env) :: starEach es X.env := by rfl) : PA X (e :: es) (tCons te t) := by
  intro pos pins s σ H Q I h
  rw [hs]
  show wpAny _ _ (spliced ((false, eval e X.env) :: backTo pos (starEach es X.env))) _ _ s
  refine Calls.spliced_cons (thn (ha pins s σ H _ I h) fun u s1 ⟨x, H1, I1, r1, q1⟩ => ?_)
  exact thn (hr pos pins s1 σ H1 _ I1 q1) fun us s2 ⟨xs, H2, I2, r2, q2⟩ => ⟨x :: xs, H2, I2, .cons r1 r2, q2⟩
def tTup (t : TA) : TE := fun σ H Q => t σ H fun xs H1 => xs.length ≤ sizeLine ∧ ∀ p, H1 p = none → Q (.ref p) (upd H1 p (.tup xs))
def tLst (t : TA) : TE := fun σ H Q => t σ H fun xs H1 => xs.length ≤ sizeLine ∧ ∀ p, H1 p = none → Q (.ref p) (upd H1 p (.lst xs))
theorem pe_tup {x1} (h : PA X es t) : PE X (.Tuple es x1 pos) (tTup t) := by
  intro pins s σ H Q I hq
  refine wpAny_Tuple_spliced (thn (h pos pins s σ H _ I hq) fun us s1 ⟨xs, H1, I1, r, z, q⟩ => ⟨by rw [← r.length]; exact z, ?_⟩)
  have hf : H1 s1.heap.objs.size = none := I1.hok.fresh (Nat.le_refl _)
  refine ⟨.ref s1.heap.objs.size, upd H1 s1.heap.objs.size (.tup xs), I1.laid (t' := s1.toks) (fun b u e => Heap.get?_push_of_some _ e) (Nat.le_refl _) ?_, rfl, q _ hf⟩
  exact ⟨z, us, r, ⟨_, Heap.get?_push_size _ rfl, rfl, _, rfl⟩⟩
theorem pe_lst (h : PA X es t) : PE X (.List es pos) (tLst t) := by
  intro pins s σ H Q I hq
  refine wpAny_List_spliced (thn (h pos pins s σ H _ I hq) fun us s1 ⟨xs, H1, I1, r, z, q⟩ => ⟨by rw [← r.length]; exact z, ?_⟩)
  have hf : H1 s1.heap.objs.size = none := I1.hok.fresh (Nat.le_refl _)
  refine ⟨.ref s1.heap.objs.size, upd H1 s1.heap.objs.size (.lst xs), I1.laid (t' := s1.toks) (fun b u e => Heap.get?_push_of_some _ e) (Nat.le_refl _) ?_, rfl, q _ hf⟩
  exact ⟨z, us, 0, r, Heap.get?_push_size _ rfl⟩
end
abbrev Sp := List V → Hp → VK → XK → Prop
abbrev CXT := List Env → Hp → Shared → XK → Value → Shared → Prop
structure Env0 (P : Program) (w : World) (K : PySem.W.Frag) (mg : Str → Option Value) (base : Heap) (A : Around) (outer : List Env) (s : Shared) (H : Hp) : Prop where
  frames : A.frames = some outer
  mod : Mod K mg base
  bs : ∀ b o, base.get? b = some o → s.heap.get? b = some o ∧ H b = none
  bsz : base.objs.size ≤ s.heap.objs.size
  funs : s.heap.FunFrames base outer
  frf : ∀ b ∈ frs outer, H b = none
  hok : HOk P w H s.heap
  bare : AllBare s.gens
def CE (outer : List Env) (P : Program) (w : World) (H : Hp) (s : Shared) (Q : VK) (u : Value) (s' : Shared) : Prop :=
  ∃ v H', s'.os = s.os ∧ AllBare s'.gens ∧ Un (frs outer) [] H H' s.heap s'.heap ∧ HOk P w H' s'.heap ∧ RelV v u ∧ Q v H'
def CR (CX : CXT) (outer : List Env) (P : Program) (w : World) (H : Hp) (s : Shared) (Q : VK) (E : XK) (r : Result) (s' : Shared) : Prop :=
  match r with
  | .ok (.ret u) => CE outer P w H s Q u s'
  | .ok _ => False
  | .error e => CX outer H s E e s'
structure FnOk (P : Program) (w : World) (K : PySem.W.Frag) (mg : Str → Option Value) (base : Heap) (CX : CXT) (k : Nat) (f : Addr) (fd : FuncData) (ps : List Str) (sp : Sp) : Prop where
  len : ∀ vs H Q E, sp vs H Q E → vs.length = ps.length
  run : ∀ (A : Around) (outer : List Env) (s : Shared) (H : Hp) (args : Args) (us : List Value) (vs : List V) (Q : VK) (E : XK), Room k A → Env0 P w K mg base A outer s H → BindsTo s fd args (ps.zip us) → Vals vs us → sp vs H Q E →
    codeAny (model P w) A (.call (.ref f) args) (CR CX outer P w H s Q E) s
theorem FnOk.imp {P : Program} {w : World} {K : PySem.W.Frag} {mg : Str → Option Value} {base : Heap} {CX : CXT} {k : Nat} {f : Addr} {fd : FuncData} {ps : List Str} {sp sp' : Sp} (F : FnOk P w K mg base CX k f fd ps sp)
    (h : ∀ vs H Q E, sp' vs H Q E → sp vs H Q E) : FnOk P w K mg base CX k f fd ps sp' :=
  ⟨fun vs H Q E q => F.len vs H Q E (h _ _ _ _ q), fun A outer s H args us vs Q E hr he hb hv hs => F.run A outer s H args us vs Q E hr he hb hv (h _ _ _ _ hs)⟩
section
variable {X : Cx} {pins : List (Addr × Obj)} {σ : St} {H : Hp} {s s' : Shared}
theorem Inv.env0 (I : Inv X pins σ H s) : Env0 X.prog X.w X.K X.mg X.base X.A X.stack s H :=
  ⟨I.ok.frames, I.ok.mod, I.bs, Nat.le_trans I.ok.bsz I.sz, I.stack, I.stkFree, I.hok, I.bare⟩
theorem Inv.after {Q : VK} {u : Value} (I : Inv X pins σ H s) (h : CE X.stack X.prog X.w H s Q u s') : EP X pins σ Q u s' := by
  obtain ⟨v, H', os, bare, un, hok, r, q⟩ := h
  obtain ⟨hh, g, d, t, os'⟩ := s'
  obtain rfl : os' = s.os := os
  exact ⟨v, H', I.call (h' := hh) (g' := g) (d' := d) (t' := t) (ch := []) un hok bare (fun b z => absurd z (by simp)), r, q⟩
end
def tCall (sp : Sp) (dvs : List V) (E : XK) (t : TA) : TE := fun σ H Q => t σ H fun vs H1 => sp (vs ++ dvs) H1 Q E
def Binds (K : PySem.W.Frag) (fd : FuncData) (ps : List Str) (ds : List Value) : Prop :=
  ∀ (s : Shared) (us : List Value), K.In s.heap → (us ++ ds).length = ps.length → BindsTo s fd ⟨us, []⟩ (ps.zip (us ++ ds))
theorem Binds.all {K : PySem.W.Frag} {fd : FuncData} {ps : List Str} (h : ∀ us : List Value, us.length = ps.length → bindArgs fd ⟨us, []⟩ = pure (ps.zip us)) : Binds K fd ps [] := fun s us _ hl => by
  rw [List.append_nil] at hl ⊢
  exact .of_eq (h us hl)
def Passes (CX : CXT) (X : Cx) (E : XK) : Prop := ∀ (pins : List (Addr × Obj)) (σ : St) (H : Hp) (s : Shared) (e : Value) (s' : Shared), Inv X pins σ H s → CX X.stack H s E e s' → X.xe e s'
section
variable {X : Cx} {CX : CXT} {k : Nat} {f C : Addr} {fd : FuncData} {ps : List Str} {sp : Sp} {dvs : List V} {ds : List Value} {E : XK} {x m : Str} {p pos apos : Pos} {e o : Expr} {es : List Expr} {ta : TE} {t : TA}
theorem run_fn {pins : List (Addr × Obj)} {σ : St} {H : Hp} {s : Shared} {Q : VK} {us : List Value} {vs : List V} (F : FnOk X.prog X.w X.K X.mg X.base CX k f fd ps sp) (hr : Room k X.A) (hb : Binds X.K fd ps ds) (hd : Vals dvs ds) (hx : Passes CX X E)
    (I : Inv X pins σ H s) (r : Vals vs us) (h : sp (vs ++ dvs) H Q E) : wpAny (model X.prog X.w) X.A (call (.ref f) us) (EP X pins σ Q) X.xe s := by
  have r2 : Vals (vs ++ dvs) (us ++ ds) := r.append hd
  have hl : (us ++ ds).length = ps.length := by rw [← r2.length]; exact F.len _ _ _ _ h
  refine wpAny_call (codeAny_mono (F.run X.A X.stack s H ⟨us, []⟩ (us ++ ds) (vs ++ dvs) Q E hr I.env0 (hb s us I.kIn hl) r2 h) fun r s' hq => ?_)
  cases r with
  | error e => exact hx pins σ H s e s' I hq
  | ok fl =>
    cases fl with
    | ret u => exact I.after hq
    | next => exact False.elim hq
    | brk => exact False.elim hq
    | cont => exact False.elim hq
theorem pe_call (F : FnOk X.prog X.w X.K X.mg X.base CX k f fd ps sp) (hr : Room k X.A) (hg : Gl X x) (hm : X.mg x = some (.ref f)) (hk : PySem.W.keepIn X.K (.ref f) = true) (hb : Binds X.K fd ps ds) (hd : Vals dvs ds) (hx : Passes CX X E)
    (ha : PA X (e :: es) t) (hdb : (x == ("__debug__" : Str)) = false := by decide) (he : starEach (e :: es) X.env = (false, eval e X.env) :: starEach es X.env := by rfl) (hpl : (backTo pos (starEach es X.env)).any (·.1) = false := by rfl) :
    PE X (.Call (.Name x p) (e :: es) [] pos) (tCall sp dvs E t) := by
  intro pins s σ H Q I h
  refine wpAny_Call_Name_kw (ld_glob I hg hm ?_ hdb)
  refine PySem.W.callWith_K (h₀ := X.base) I.ok.mod.kin hk (thn (ha pos pins s σ H _ I h) fun us s1 ⟨vs, H1, I1, r, q⟩ => ⟨I1.kIn, ?_⟩) he hpl
  exact run_fn F hr hb hd hx I1 r q
end
structure FnScope (N P : List Str) (sc : Scope) : Prop where
  kind : sc.kind = .function
  co : sc.isCoroutine = false
  gen : sc.isGenerator = false
  nd : N.Nodup
  pre : N.take P.length = P
  par : ∀ x ∈ P, sc.names.lookup x = some .local ∨ sc.names.lookup x = some .cell
  nofree : ∀ y ∈ sc.names, y.2 ≠ .free
theorem bindL_out {kindOf : Str → Option NameKind} {x : Str} : ∀ {binds : List (Str × Value)} {m : Str → Option Value}, (∀ v, (x, v) ∉ binds) → bindL kindOf binds m x = m x
  | [], _, _ => rfl
  | (n, v) :: r, m, h => by
    unfold bindL
    rw [bindL_out fun w hw => h w (List.mem_cons_of_mem _ hw)]
    split
    · have : x ≠ n := by rintro rfl; exact h v List.mem_cons_self
      simp [this]
    · rfl
theorem bindC_out {kindOf : Str → Option NameKind} {x : Str} : ∀ {binds : List (Str × Value)} {m : Str → Option Value}, (∀ v, (x, v) ∉ binds) → bindC kindOf binds m x = m x
  | [], _, _ => rfl
  | (n, v) :: r, m, h => by
    unfold bindC
    rw [bindC_out fun w hw => h w (List.mem_cons_of_mem _ hw)]
    split
    · rfl
    · have : x ≠ n := by rintro rfl; exact h v List.mem_cons_self
      simp [this]
theorem bindL_get {kindOf : Str → Option NameKind} {x : Str} {v : Value} : ∀ {P : List Str} {vs : List Value} {i : Nat} {m : Str → Option Value}, P.Nodup → P[i]? = some x → vs[i]? = some v → kindOf x = some .local →
    bindL kindOf (P.zip vs) m x = some v
  | [], _, _, _, _, h, _, _ => by simp at h
  | _ :: _, [], _, _, _, _, h, _ => by simp at h
  | p :: P, w :: vs, 0, m, nd, h1, h2, hk => by
    simp at h1 h2; subst h1; subst h2
    show bindL kindOf ((p, w) :: P.zip vs) m p = _
    unfold bindL
    rw [bindL_out fun v hv => (List.nodup_cons.mp nd).1 (List.of_mem_zip hv).1, if_pos hk]
    simp
  | p :: P, w :: vs, i + 1, m, nd, h1, h2, hk => by
    show bindL kindOf ((p, w) :: P.zip vs) m x = _
    unfold bindL
    exact bindL_get (i := i) (List.nodup_cons.mp nd).2 (by simpa using h1) (by simpa using h2) hk
theorem bindC_get {kindOf : Str → Option NameKind} {x : Str} {v : Value} : ∀ {P : List Str} {vs : List Value} {i : Nat} {m : Str → Option Value}, P.Nodup → P[i]? = some x → vs[i]? = some v → kindOf x ≠ some .local →
    bindC kindOf (P.zip vs) m x = some v
  | [], _, _, _, _, h, _, _ => by simp at h
  | _ :: _, [], _, _, _, _, h, _ => by simp at h
  | p :: P, w :: vs, 0, m, nd, h1, h2, hk => by
    simp at h1 h2; subst h1; subst h2
    show bindC kindOf ((p, w) :: P.zip vs) m p = _
    unfold bindC
    rw [bindC_out fun v hv => (List.nodup_cons.mp nd).1 (List.of_mem_zip hv).1, if_neg hk]
    simp
  | p :: P, w :: vs, i + 1, m, nd, h1, h2, hk => by
    show bindC kindOf ((p, w) :: P.zip vs) m x = _
    unfold bindC
    exact bindC_get (i := i) (List.nodup_cons.mp nd).2 (by simpa using h1) (by simpa using h2) hk
def start (N : List Str) (vs : List V) : St := vs.map some ++ List.replicate (N.length - vs.length) none
def cxOf (CX : CXT) (P : Program) (w : World) (K : PySem.W.Frag) (mg : Str → Option Value) (base : Heap) (N : List Str) (qual : Str) (scope : Scope) (f : Addr) (cd : Value) (A : Around) (outer : List Env) (s : Shared) (H : Hp) (E : XK) : Cx where
  prog := P
  w := w
  K := K
  mg := mg
  base := base
  A := A.deeper (envOfC qual scope s.heap.objs.size f cd)
  N := N
  s₀ := s
  H₀ := H
  env := envOfC qual scope s.heap.objs.size f cd
  outer := outer
  stack := envOfC qual scope s.heap.objs.size f cd :: outer
  ex := []
  calm := true
  fn := fun _ => true
  pn := []
  xe := fun e s' => wpAny (model P w) (A.deeper (envOfC qual scope s.heap.objs.size f cd)) (leaving (envOfC qual scope s.heap.objs.size f cd) e) (fun _ s'' => CX outer H s E e s'') (fun e' s'' => CX outer H s E e' s'') s'
theorem cell_has {sc : Scope} {n : Nat} {x : Str} (h : sc.names.lookup x = some .cell) : ∃ c, (cellsFrom n sc.names []).lookup x = some c := by
  have q := PySem.W.cellsFrom_some sc.names n [] (.inl h)
  exact Option.isSome_iff_exists.mp q
theorem inv_start {CX : CXT} {P : Program} {w : World} {K : PySem.W.Frag} {mg : Str → Option Value} {base : Heap} {N ps : List Str} {qual : Str} {scope : Scope} {f : Addr} {cd : Value} {A : Around} {outer : List Env} {s s1 : Shared} {H : Hp} {E : XK} {us : List Value} {vs : List V}
    (S : FnScope N ps scope) (hd : A.handled = none) (e0 : Env0 P w K mg base A outer s H) (hl : vs.length = ps.length) (r : Vals vs us)
    (x : InCallC s s.heap.objs.size (bindL (envOfC qual scope s.heap.objs.size f cd).kindOf (ps.zip us) fun _ => none) (cellsFrom (s.heap.objs.size + 1) scope.names []) (bindC (envOfC qual scope s.heap.objs.size f cd).kindOf (ps.zip us) fun _ => none) s1) :
    Inv (cxOf CX P w K mg base N qual scope f cd A outer s H E) [] (start N vs) H s1 := by
  have hpl : ps.length ≤ N.length := by have := congrArg List.length S.pre; rw [List.length_take] at this; omega
  obtain ⟨h1, tk, rfl, hk⟩ := x.done
  have noA : ∀ b : Addr, b ∉ (cxOf CX P w K mg base N qual scope f cd A outer s H E).ex := fun b z => absurd (show b ∈ ([] : List Addr) from z) (by simp)
  refine ⟨⟨e0.mod, S.kind, rfl, rfl, Nat.le_refl _, fun y z c h1 h2 => ?_, fun y hy => ?_, fun y c _ h => ?_, fun _ => hd, Around.frames_deeper e0.frames, .inr ⟨rfl, rfl⟩, fun b z => absurd z (noA b), e0.bs, e0.bsz, fun b _ _ => noA b, fun b z => absurd z (noA b), e0.funs, e0.frf⟩,
    rfl, e0.bare, Un.kept hk, ⟨_, x.toInCall.ns, fun i y v h1 h2 h3 => ?_⟩, fun y c h => ⟨_, x.cell y c h⟩, e0.hok.fresh (Nat.le_refl _), fun y c h => ?_, fun p hp => absurd (show p ∈ ([] : List (Addr × Obj)) from hp) (by simp), e0.hok.kept hk, ?_⟩
  · exact name_of_addr x.apart (PySem.mem_of_lookup h1) (PySem.mem_of_lookup h2)
  · have hy : scope.names.lookup y = some .cell ∨ scope.names.lookup y = some .free := hy
    rcases hy with hy | hy
    · exact cell_has hy
    · exact absurd rfl (S.nofree _ (PySem.mem_of_lookup hy))
  · exact Nat.le_of_lt (x.above y c (PySem.mem_of_lookup h))
  · have hi : i < vs.length := by
      unfold start at h2
      by_cases hi : i < vs.length
      · exact hi
      · rw [List.getElem?_append_right (by simpa using hi)] at h2
        rw [List.getElem?_replicate] at h2
        split at h2 <;> cases h2
    have ha : vs[i]? = some v := by
      unfold start at h2
      rw [List.getElem?_append_left (by simpa using hi), List.getElem?_map] at h2
      cases e : vs[i]? with
      | none => rw [e] at h2; cases h2
      | some a => rw [e] at h2; cases h2; rfl
    obtain ⟨u, hu, rv⟩ := r.get ha
    have hp : ps[i]? = some y := by
      rw [← S.pre, List.getElem?_take_of_lt (by omega)]; exact h1
    have ndP : ps.Nodup := by rw [← S.pre]; exact S.nd.sublist (List.take_sublist _ _)
    refine ⟨u, rv, ?_⟩
    rcases S.par y (List.mem_of_getElem? hp) with k | k
    · exact .inl ⟨k, bindL_get ndP hp hu k⟩
    · obtain ⟨c, e⟩ := cell_has (n := s.heap.objs.size + 1) k
      refine .inr ⟨.inl k, c, e, ?_⟩
      have q := x.cell y c e
      rw [bindC_get ndP hp hu (by show scope.names.lookup y ≠ _; rw [k]; decide)] at q
      exact q
  · exact e0.hok.fresh (Nat.le_of_lt (x.above y c (PySem.mem_of_lookup h)))
  · unfold start
    show _ = N.length
    rw [List.length_append, List.length_map, List.length_replicate]
    omega
theorem fn_of {CX : CXT} {P : Program} {w : World} {K : PySem.W.Frag} {mg : Str → Option Value} {base : Heap} {k : Nat} {f : Addr} {name qual : Str} {params : Arguments} {body : List Stmt} {scope : Scope} {dV kV doc pm cdv ct oc : Value} {an od : Option Addr}
    {osl : Array (Option Value)} {N ps : List Str} {sp : Sp} (lk : K.lookup f = some ⟨oc, od, .func (PySem.W.fnOf name qual params body scope dV kV doc pm an cdv ct), osl⟩) (hcd : PySem.W.codeIn K cdv qual = true) (S : FnScope N ps scope)
    (len : ∀ vs H Q E, sp vs H Q E → vs.length = ps.length)
    (hbody : ∀ (A : Around) (outer : List Env) (s : Shared) (H : Hp) (vs : List V) (Q : VK) (E : XK), Room k (A.deeper (envOfC qual scope s.heap.objs.size f cdv)) → sp vs H Q E →
      ∃ t, PSs (cxOf CX P w K mg base N qual scope f cdv A outer s H E) body t ∧ t { nx := fun _ H' => Q .non H', rt := Q } (start N vs) H) :
    FnOk P w K mg base CX (k + 1) f (PySem.W.fnOf name qual params body scope dV kV doc pm an cdv ct) ps sp := by
  refine ⟨len, fun A outer s H args us vs Q E hr e0 hb r hsp => ?_⟩
  have hl := len _ _ _ _ hsp
  have KX : K.In s.heap := e0.mod.kin.keeps fun b o e => (e0.bs b o e).1
  have lim : s.heap.NoLimit := e0.mod.nolimit.keeps fun b o e => (e0.bs b o e).1
  have hkind : ∀ y ∈ ps.zip us, scope.names.lookup y.1 = some .local ∨ (scope.names.lookup y.1 = some .cell ∧ ((cellsFrom (s.heap.objs.size + 1) scope.names []).lookup y.1).isSome = true) := fun ⟨n, v⟩ hy => by
    rcases S.par n (List.of_mem_zip hy).1 with q | q
    · exact .inl q
    · exact .inr ⟨q, PySem.W.cellsFrom_some _ _ _ (.inl q)⟩
  refine codeAny_call_function hr.depth (KX _ _ lk) rfl S.co S.gen rfl (PySem.W.codeRec_of KX hcd) (hb _ _ _ _ ?_)
  refine wpAny_newFunctionEnv_cells S.kind hkind fun env he s1 x => ?_
  subst he
  refine ⟨lim.keeps x.toInCall.keep, codeAny_func ?_⟩
  obtain ⟨t, ht, hq⟩ := hbody A outer s H vs Q E (hr.deeper _) hsp
  have I : Inv (cxOf CX P w K mg base N qual scope f cdv A outer s H E) [] (start N vs) H s1 := inv_start S hr.hd e0 hl r x
  refine wpAny_mono (ht [] s1 (start N vs) H _ I hq) (fun fl s' hs => ?_) fun e s' hs => hs
  have fin : ∀ {σ' : St} {H' : Hp} {v : V} {u : Value}, Inv (cxOf CX P w K mg base N qual scope f cdv A outer s H E) [] σ' H' s' → RelV v u → Q v H' → CE outer P w H s Q u s' :=
    fun {σ' H' v u} J rv q => ⟨v, H', J.os, J.bare, J.base, J.hok, rv, q⟩
  cases fl with
  | ret u =>
    obtain ⟨v, σ', H', J, rv, q⟩ := hs
    exact fin J rv q
  | next =>
    obtain ⟨σ', H', J, q⟩ := hs
    exact fin (v := V.non) (u := Value.none) J rfl q
  | brk =>
    obtain ⟨_, _, _, q⟩ := hs
    exact False.elim q
  | cont =>
    obtain ⟨_, _, _, q⟩ := hs
    exact False.elim q
section
variable {X : Cx} {x : Str} {p pos : Pos} {e : Expr} {es : List Expr} {t : TA} {id T : String} {r : List V → Hp → VK → Prop}
def tCB (r : List V → Hp → VK → Prop) (t : TA) : TE := fun σ H Q => t σ H fun vs H1 => r vs H1 Q
theorem pe_callB (hc : CallR X (.builtin id) r) (hg : Gl X x) (hm : X.mg x = none) (hv : bootBuiltins x = some (.builtin id)) (ha : PA X (e :: es) t) (hn : x ≠ "__name__" := by decide) (hdb : (x == ("__debug__" : Str)) = false := by decide)
    (he : starEach (e :: es) X.env = (false, eval e X.env) :: starEach es X.env := by rfl) (hpl : (backTo pos (starEach es X.env)).any (·.1) = false := by rfl) : PE X (.Call (.Name x p) (e :: es) [] pos) (tCB r t) := by
  intro pins s σ H Q I h
  refine wpAny_Call_Name_kw (ld_blt I hg hm hv ?_ hn hdb)
  exact PyProof.Rows.callWith_builtin1 (thn (ha pos pins s σ H _ I h) fun us s1 ⟨vs, H1, I1, r1, q1⟩ => hc pins s1 σ H1 vs us Q I1 r1 q1) he hpl
theorem pe_callTy (hc : CallR X (.type T) r) (hg : Gl X x) (hm : X.mg x = none) (hv : bootBuiltins x = some (.type T)) (ha : PA X (e :: es) t) (hn : x ≠ "__name__" := by decide) (hdb : (x == ("__debug__" : Str)) = false := by decide)
    (he : starEach (e :: es) X.env = (false, eval e X.env) :: starEach es X.env := by rfl) (hpl : (backTo pos (starEach es X.env)).any (·.1) = false := by rfl) : PE X (.Call (.Name x p) (e :: es) [] pos) (tCB r t) := by
  intro pins s σ H Q I h
  refine wpAny_Call_Name_kw (ld_blt I hg hm hv ?_ hn hdb)
  exact PyProof.Rows.callWith_type1 (thn (ha pos pins s σ H _ I h) fun us s1 ⟨vs, H1, I1, r1, q1⟩ => hc pins s1 σ H1 vs us Q I1 r1 q1) he hpl
end
end L2
namespace HT
open PySem PyProof.Rows
def lexLt : List Int → List Int → Bool
  | [], [] => false
  | [], _ :: _ => true
  | _ :: _, [] => false
  | x :: xs, y :: ys => if x = y then lexLt xs ys else decide (x < y)
theorem lexLt_cons (x y : Int) (xs ys : List Int) : lexLt (x :: xs) (y :: ys) = if x = y then lexLt xs ys else decide (x < y) := rfl
theorem rcLt_int (A : Around) (s : Shared) (a : Int) (t : Tok) (c : Int) (u : Tok) (prog : Program) (w : World) (E : Value → Shared → Prop) (Q : Value → Shared → Prop) (h : Q (.bool (decide (a < c))) s) :
    wpAny (model prog w) A (richCompare .Lt (.int a t) (.int c u)) Q E s :=
  (PyProof.Rows.lt_int h : wpAny (model prog w) A (compareOp .Lt (.int a t) (.int c u)) Q E s)
section
open PySem.SeqAt
open PySem.AutoSeq1 (wpAny_loadPart')
open PySem.MeetsSeq PySem.MeetsSeq2 PySem.MeetsSeq3
end
section
variable {prog : Program} {w : World} {A : Around} {E : Value → Shared → Prop} {s : Shared}
theorem cat_tup {t b : Addr} {vs ws : List Value} {Q : Value → Shared → Prop} (ht : IsTup s.heap t vs.toArray) (hb : IsTup s.heap b ws.toArray) (hv : vs ≠ [])
    (h1 : ws = [] → Q (.ref t) s) (h2 : ws ≠ [] → Q (.ref s.heap.objs.size) { s with heap := s.heap.push { cls := .type "tuple", data := .seq (vs ++ ws).toArray } })
    (hsz : vs.length + ws.length ≤ sizeLine) : wpAny (model prog w) A (binaryOp .Add (.ref t) (.ref b)) Q E s := by
  obtain ⟨⟨cls, dd, data, sl⟩, ho, hc, n, hd⟩ := id ht
  obtain ⟨⟨cls2, dd2, data2, sl2⟩, ho2, hc2, n2, hd2⟩ := id hb
  simp only at hc hd hc2 hd2
  subst hc hd hc2 hd2
  have e : vs.toArray ++ ws.toArray = (vs ++ ws).toArray := by simp
  by_cases hw : ws = []
  · exact concat_meets ⟨_, ho, rfl⟩ ⟨_, ho2, rfl⟩ noFill_tuple_add seq_tuple_add PySem.F.slot_tuple_add PySem.F.entry_tuple_add (PySem.F.args_tuple_add_2 _ _)
      (tuple_addW1 t b vs.toArray ws.toArray n n2 dd dd2 sl sl2 (by simpa using hv) (by simp [hw])) ⟨ho, ho2, h1 hw⟩
  · refine concat_meets ⟨_, ho, rfl⟩ ⟨_, ho2, rfl⟩ noFill_tuple_add seq_tuple_add PySem.F.slot_tuple_add PySem.F.entry_tuple_add (PySem.F.args_tuple_add_2 _ _)
      (tuple_addW2 t b vs.toArray ws.toArray n n2 dd dd2 sl sl2 (by simpa using hv) (by simpa using hw) (by rw [List.size_toArray, List.size_toArray]; exact hsz)) ⟨ho, ho2, ?_⟩
    rw [e]
    exact h2 hw
def sIx (n d : Nat) : Option Int → Nat
  | none => d
  | some v => if v < 0 then (v + (n : Int)).toNat else min v.toNat n
theorem sIx_nat (n d k : Nat) : sIx n d (some (k : Int)) = min k n := by
  show (if (k : Int) < 0 then ((k : Int) + (n : Int)).toNat else min (k : Int).toNat n) = min k n
  rw [if_neg (by omega), Int.toNat_natCast]
theorem sIx_le (n d : Nat) (hd : d ≤ n) (o : Option Int) : sIx n d o ≤ n := by
  cases o with
  | none => exact hd
  | some v =>
    show (if v < 0 then (v + (n : Int)).toNat else min v.toNat n) ≤ n
    by_cases hv : v < 0
    · rw [if_pos hv]; omega
    · rw [if_neg hv]; exact Nat.min_le_right _ _
theorem clip_eq (v : Int) (n d : Nat) : (if v < 0 then max (v + (n : Int)) 0 else min v (n : Int)) = ((sIx n d (some v) : Nat) : Int) := by
  show (if v < 0 then max (v + (n : Int)) 0 else min v (n : Int)) = (((if v < 0 then (v + (n : Int)).toNat else min v.toNat n) : Nat) : Int)
  by_cases hv : v < 0
  · simp only [if_pos hv]; omega
  · simp only [if_neg hv]; omega
theorem adjust_gen (lo hi : Option Int) (n : Nat) : Builtin.Slice.sliceAdjust lo hi 1 (n : Int) = (((sIx n 0 lo : Nat) : Int), ((sIx n n hi : Nat) : Int)) := by
  have h1 : ¬ ((1 : Int) < 0) := by omega
  unfold Builtin.Slice.sliceAdjust
  simp only [h1, if_false]
  refine Prod.ext ?_ ?_
  · cases lo with
    | none => rfl
    | some v => exact clip_eq v n 0
  · cases hi with
    | none => rfl
    | some v => exact clip_eq v n n
theorem places_gen (i j : Nat) : Builtin.Slice.slicePlaces (i : Int) (j : Int) 1 = j - i := by
  unfold Builtin.Slice.slicePlaces
  have h1 : (1 : Int) > 0 := by omega
  simp only [h1, if_true, Int.ediv_one]
  split <;> omega
theorem slicePart_ {v : Value} {o : Option Int} {Q : Option Int → Shared → Prop} (p : IsPart v o) (h : Q o s) : wpAny (model prog w) A (Builtin.Slice.slicePartIndex v) Q E s := by
  cases p with
  | none => exact slicePart_none h
  | int i t => exact slicePart_int h
theorem sliceApplied_gen {sl : Addr} {vl vu : Value} {lo hi : Option Int} {n : Nat} {Q : Int × Int × Nat → Shared → Prop} (hs : s.heap.IsSliceOf sl vl vu .none) (pl : IsPart vl lo) (pu : IsPart vu hi)
    (h : Q (((sIx n 0 lo : Nat) : Int), 1, sIx n n hi - sIx n 0 lo) s) : wpAny (model prog w) A (Builtin.Slice.sliceApplied (.ref sl) (pure (n : Int))) Q E s := by
  obtain ⟨os, hos, hcs, hds⟩ := id hs
  unfold Builtin.Slice.sliceApplied Builtin.Slice.sliceFields
  refine wpAny_bind (wpAny_bind (wpAny_field hos hds (x := vl) rfl (wpAny_bind (wpAny_field hos hds (x := vu) rfl (wpAny_bind (wpAny_field hos hds (x := .none) rfl (wpAny_pure ?_)))))))
  refine wpAny_bind (slicePart_none ?_)
  show wpAny _ _ (if ((1 : Int) == 0) = true then _ else _) _ _ s
  rw [if_neg (by decide)]
  refine wpAny_bind (slicePart_ pl (wpAny_bind (slicePart_ pu (wpAny_bind (wpAny_pure ?_)))))
  show wpAny _ _ (match Builtin.Slice.sliceAdjust lo hi 1 (n : Int) with | (lo, hi) => pure (lo, (1 : Int), Builtin.Slice.slicePlaces lo hi 1)) _ _ s
  rw [adjust_gen lo hi n]
  show wpAny _ _ (pure (((sIx n 0 lo : Nat) : Int), (1 : Int), Builtin.Slice.slicePlaces ((sIx n 0 lo : Nat) : Int) ((sIx n n hi : Nat) : Int) 1)) _ _ s
  rw [places_gen]
  exact wpAny_pure h
theorem pick_gen (xs : Array Value) (i k : Nat) : ((List.range k).filterMap fun (m : Nat) => xs[((i : Int) + (m : Int) * 1).toNat]?).toArray = ((xs.toList.drop i).take k).toArray := by
  have e : (fun (m : Nat) => xs[((i : Int) + (m : Int) * 1).toNat]?) = fun m => xs[i + m]? := by
    funext m
    have : ((i : Int) + (m : Int) * 1).toNat = i + m := by omega
    rw [this]
  rw [e]
  have := pick_run xs i k
  rw [List.filterMap_map] at this
  have e2 : ((fun x => xs[x]?) ∘ fun x => i + x) = fun m => xs[i + m]? := rfl
  rw [e2] at this
  rw [this]
theorem getItem_tuple_cut {t sl : Addr} {items : Array Value} {vl vu : Value} {lo hi : Option Int} {Q : Value → Shared → Prop} (ht : IsTup s.heap t items) (hs : s.heap.IsSliceOf sl vl vu .none) (pl : IsPart vl lo) (pu : IsPart vu hi)
    (hw : ¬ (sIx items.size 0 lo = 0 ∧ sIx items.size items.size hi = items.size))
    (h : Q (.ref s.heap.objs.size) { s with heap := s.heap.push { cls := .type "tuple", data := .seq ((items.toList.drop (sIx items.size 0 lo)).take (sIx items.size items.size hi - sIx items.size 0 lo)).toArray } })
    (hsz : items.size ≤ sizeLine) : wpAny (model prog w) A (getItem (.ref t) (.ref sl)) Q E s := by
  have htake : sizeOk (.seq ((items.toList.drop (sIx items.size 0 lo)).take (sIx items.size items.size hi - sIx items.size 0 lo)).toArray) := by
    show ((items.toList.drop (sIx items.size 0 lo)).take (sIx items.size items.size hi - sIx items.size 0 lo)).toArray.size ≤ sizeLine
    rw [List.size_toArray, List.length_take, List.length_drop, Array.length_toList]
    omega
  have hj : sIx items.size items.size hi ≤ items.size := sIx_le _ _ (Nat.le_refl _) hi
  obtain ⟨os, hos, hcs, hds⟩ := id hs
  have hTs : s.TypeIs (.ref sl) "slice" := ⟨os, hos, hcs⟩
  unfold getItem
  try with_reducible refine wpAny_holding ?_
  first | refine wpAny_bind (wpAny_pure ?_) | skip
  refine wpAny_bind (wpAny_sequenceKey ht.typeIs (by decide) ?_)
  refine wpAny_bind (wpAny_callSpecial?_slot (name := Str.ofString "__getitem__") ht.typeIs PyProof.Rows.slot_tuple_getitem
    (wpAny_call_entry PyProof.Rows.slot_tuple_getitem ht.typeIs entry_tuple_getitem ?_ (args_tuple_getitem _ _)))
  show wpAny _ _ (Builtin.Tuple.tupleItemsOf (.ref t) >>= _) _ _ s
  refine wpAny_bind (tupleItemsOf_ ht ?_)
  refine wpAny_bind (wpAny_typeOf hTs ?_)
  rw [if_pos (by decide)]
  refine wpAny_bind (sliceApplied_gen hs pl pu ?_)
  have hno : ¬ ((((sIx items.size 0 lo : Nat) : Int) == 0 && (1 : Int) == 1 && (sIx items.size items.size hi - sIx items.size 0 lo) == items.size) = true) := by
    intro q
    rw [Bool.and_eq_true, Bool.and_eq_true] at q
    have q1 : ((sIx items.size 0 lo : Nat) : Int) = 0 := eq_of_beq q.1.1
    have q2 : sIx items.size items.size hi - sIx items.size 0 lo = items.size := eq_of_beq q.2
    exact hw ⟨by omega, by omega⟩
  show wpAny _ _ (if (((sIx items.size 0 lo : Nat) : Int) == 0 && (1 : Int) == 1 && (sIx items.size items.size hi - sIx items.size 0 lo) == items.size) = true then _ else _) _ _ s
  rw [if_neg hno, pick_gen]
  first
    | exact wpAny_bind (m := Builtin.Tuple.tupleExact _) (wpAny_newObj_type (wpAny_pure ⟨_, rfl, wpAny_pure h⟩) htake)
    | exact wpAny_bind (m := Builtin.Tuple.tupleExact _) (wpAny_newObj_type (wpAny_bind (wpAny_pure (wpAny_pure ⟨_, rfl, wpAny_pure h⟩))) htake)
    | exact wpAny_bind (wpAny_bind (m := Builtin.Tuple.tupleExact _) (wpAny_newObj_type (wpAny_pure (wpAny_pure ⟨_, rfl, wpAny_pure h⟩)) htake))
    | exact wpAny_bind (wpAny_bind (m := Builtin.Tuple.tupleExact _) (wpAny_newObj_type (wpAny_pure ⟨_, rfl, wpAny_pure h⟩) htake))
end
end HT
namespace L2
open PySem PySem.Spec PyProof.Rows
abbrev TO := St → Hp → (Option Int → Hp → Prop) → Prop
def PO (X : Cx) (e : Option Expr) (t : TO) : Prop :=
  ∀ (pins : List (Addr × Obj)) (s : Shared) (σ : St) (H : Hp) (Q : Option Int → Hp → Prop), Inv X pins σ H s → t σ H Q →
    wpAny (model X.prog X.w) X.A (evalPart e X.env) (fun u s' => ∃ o H', Inv X pins σ H' s' ∧ IsPart u o ∧ Q o H') X.xe s
def tNoPart : TO := fun _ H Q => Q none H
def tPart (t : TE) : TO := fun σ H Q => t σ H fun x H1 => ∃ i, x = .int i ∧ Q (some i) H1
section
variable {X : Cx} {e : Expr} {te : TE} {lo hi : Option Expr} {tl th : TO} {pos p2 : Pos}
theorem po_none : PO X none tNoPart := by
  intro pins s σ H Q I h
  rw [evalPart_none]
  exact wpAny_pure ⟨none, H, I, .none, h⟩
theorem po_some (h : PE X e te) : PO X (some e) (tPart te) := by
  intro pins s σ H Q I hw
  rw [evalPart_some]
  refine thn (h pins s σ H _ I hw) fun u s1 ⟨x, H1, I1, r1, q1⟩ => ?_
  obtain ⟨i, rfl, q⟩ := q1
  obtain ⟨t, rfl⟩ := r1
  exact ⟨some i, H1, I1, .int i t, q⟩
def SlR (X : Cx) (r : V → Option Int → Option Int → Hp → VK → Prop) : Prop :=
  ∀ (pins : List (Addr × Obj)) (s : Shared) (σ : St) (H : Hp) (x : V) (v vl vu : Value) (lo hi : Option Int) (sl : Addr) (Q : VK), Inv X pins σ H s → RelV x v → s.heap.IsSliceOf sl vl vu .none → IsPart vl lo → IsPart vu hi → r x lo hi H Q →
    ∃ T id, typeLookup (.type T) "__getitem__" = pure (some (.builtin id)) ∧ s.TypeIs v T ∧ wpAny (model X.prog X.w) X.A (getItem v (.ref sl)) (EP X pins σ Q) X.xe s
theorem SlR.or {r r' : V → Option Int → Option Int → Hp → VK → Prop} (h : SlR X r) (h' : SlR X r') : SlR X (fun x lo hi H Q => r x lo hi H Q ∨ r' x lo hi H Q) := by
  intro pins s σ H x v vl vu lo hi sl Q I rx hs pl pu q
  rcases q with q | q
  · exact h pins s σ H x v vl vu lo hi sl Q I rx hs pl pu q
  · exact h' pins s σ H x v vl vu lo hi sl Q I rx hs pl pu q
def tSl (r : V → Option Int → Option Int → Hp → VK → Prop) (te : TE) (tl th : TO) : TE := fun σ H Q => te σ H fun x H1 => tl σ H1 fun l H2 => th σ H2 fun u H3 => r x l u H3 Q
theorem pe_slice {r : V → Option Int → Option Int → Hp → VK → Prop} (hr : SlR X r) (he : PE X e te) (hl : PO X lo tl) (hu : PO X hi th) : PE X (.Subscript e (.Slice lo hi none p2) pos) (tSl r te tl th) := by
  intro pins s σ H Q I h
  refine Subscript_ (thn (he pins s σ H _ I h) fun v s1 ⟨x, H1, I1, r1, q1⟩ => ?_)
  refine wpAny_Slice (thn (hl pins s1 σ H1 _ I1 q1) fun vl s2 ⟨l, H2, I2, pl, q2⟩ => thn (hu pins s2 σ H2 _ I2 q2) fun vu s3 ⟨u, H3, I3, pu, q3⟩ => ?_)
  rw [evalPart_none]
  refine wpAny_pure ?_
  have I4 : Inv X pins σ H3 { s3 with heap := s3.heap.push { cls := .type "slice", data := .fields #[vl, vu, .none] } } := I3.kept (t' := s3.toks) fun b ob q => Heap.get?_push_of_some _ q
  obtain ⟨T, id, hT, ht, hg⟩ := hr pins { s3 with heap := s3.heap.push { cls := .type "slice", data := .fields #[vl, vu, .none] } } σ H3 x v vl vu l u s3.heap.objs.size Q I4 r1 (Heap.IsSliceOf.new ..) pl pu q3
  show wpAny (model X.prog X.w) X.A (subscriptTail e (.Slice lo hi none p2) v (.ref s3.heap.objs.size)) (EP X pins σ Q) X.xe { s3 with heap := s3.heap.push { cls := .type "slice", data := .fields #[vl, vu, .none] } }
  exact tail_any (ops := [.ref s3.heap.objs.size, v]) ht hT hg (by with_unfolding_all rfl)
def cutV (xs : List V) (lo hi : Option Int) : List V := (xs.drop (HT.sIx xs.length 0 lo)).take (HT.sIx xs.length xs.length hi - HT.sIx xs.length 0 lo)
theorem cutV_length (xs : List V) (lo hi : Option Int) : (cutV xs lo hi).length ≤ xs.length := by
  unfold cutV
  rw [List.length_take, List.length_drop]
  omega
def rSlT (K : PySem.W.Frag) : V → Option Int → Option Int → Hp → VK → Prop := fun x lo hi H Q => ∃ a xs, x = .ref a ∧ SqT K H a xs ∧
  ¬ (HT.sIx xs.length 0 lo = 0 ∧ HT.sIx xs.length xs.length hi = xs.length) ∧ ∀ p, H p = none → Q (.ref p) (upd H p (.tup (cutV xs lo hi)))
theorem sl_tup : SlR X (rSlT X.K) := by
  intro pins s σ H x v vl vu lo hi sl Q I rx hs pl pu h
  obtain ⟨a, xs, rfl, hx, hw, q⟩ := h
  cases rx
  obtain ⟨its, r, ht, hz⟩ := I.tuple hx
  have hlen : its.toArray.size = xs.length := by rw [List.size_toArray]; exact r.length.symm
  refine ⟨"tuple", _, PyProof.Rows.slot_tuple_getitem.lookup, ht.typeIs, ?_⟩
  refine HT.getItem_tuple_cut ht hs pl pu (by rw [hlen]; exact hw) ?_ (by rw [hlen]; exact hz)
  rw [hlen]
  refine ⟨.ref s.heap.objs.size, _, I.laid (t' := s.toks) (o := .tup (cutV xs lo hi)) (fun b ob q => Heap.get?_push_of_some _ q) (Nat.le_refl _) ?_, rfl, q _ (I.hok.fresh (Nat.le_refl _))⟩
  exact ⟨Nat.le_trans (cutV_length xs lo hi) hz, _, (r.drop (HT.sIx xs.length 0 lo)).take (HT.sIx xs.length xs.length hi - HT.sIx xs.length 0 lo), IsTup.new _ _⟩
def rCatT (K : PySem.W.Frag) : R2 := fun x y H Q => ∃ a b xs ys, x = .ref a ∧ y = .ref b ∧ SqT K H a xs ∧ SqT K H b ys ∧ xs ≠ [] ∧ xs.length + ys.length ≤ sizeLine ∧
  (ys = [] → Q (.ref a) H) ∧ (ys ≠ [] → ∀ p, H p = none → Q (.ref p) (upd H p (.tup (xs ++ ys))))
theorem Vals.nil_iff {xs : List V} {us : List Value} (r : Vals xs us) : us = [] ↔ xs = [] := by
  cases r with
  | nil => simp
  | cons _ _ => simp
theorem op_catT : OpR X (binaryOp .Add) (rCatT X.K) := by
  intro pins s σ H x y v u Q I rx ry h
  obtain ⟨a, b, xs, ys, rfl, rfl, ha, hb, hx, hz, q1, q2⟩ := h
  cases rx
  cases ry
  obtain ⟨its, r1, p1, _⟩ := I.tuple ha
  obtain ⟨its2, r2, p2, _⟩ := I.tuple hb
  refine HT.cat_tup p1 p2 (fun z => hx (r1.nil_iff.mp z)) (fun z => ⟨.ref a, H, I, rfl, q1 (r2.nil_iff.mp z)⟩) (fun z => ?_) (by rw [← r1.length, ← r2.length]; exact hz)
  refine ⟨.ref s.heap.objs.size, _, I.laid (t' := s.toks) (o := .tup (xs ++ ys)) (fun b ob q => Heap.get?_push_of_some _ q) (Nat.le_refl _) ?_, rfl, q2 (fun w => z (r2.nil_iff.mpr w)) _ (I.hok.fresh (Nat.le_refl _))⟩
  exact ⟨by rw [List.length_append]; exact hz, _, r1.append r2, IsTup.new _ _⟩
end
def ixN (n : Nat) (i : Int) : Option Nat := if 0 ≤ i then (if i < n then some i.toNat else none) else if -(n : Int) ≤ i then some (i + n).toNat else none
def atI {α : Type} (xs : List α) (i : Int) : Option α := (ixN xs.length i).bind fun j => xs[j]?
theorem ixN_seq {n : Nat} {i : Int} {j : Nat} (h : ixN n i = some j) : seqIndex? i n = some j ∧ j < n ∧ -(n : Int) ≤ i ∧ i < n := by
  unfold ixN at h
  by_cases h0 : 0 ≤ i
  · rw [if_pos h0] at h
    by_cases h1 : i < n
    · rw [if_pos h1] at h
      have e : i.toNat = j := Option.some.inj h
      exact ⟨by rw [seqIndex_of h0 h1, e], by omega, by omega, h1⟩
    · rw [if_neg h1] at h; cases h
  · rw [if_neg h0] at h
    by_cases h1 : -(n : Int) ≤ i
    · rw [if_pos h1] at h
      have e : (i + n).toNat = j := Option.some.inj h
      exact ⟨by rw [seqIndex_neg (by omega) h1, e], by omega, h1, by omega⟩
    · rw [if_neg h1] at h; cases h
theorem atI_get {α : Type} {xs : List α} {i : Int} {v : α} (h : atI xs i = some v) : ∃ j, seqIndex? i xs.length = some j ∧ xs[j]? = some v ∧ j < xs.length ∧ -(xs.length : Int) ≤ i ∧ i < xs.length := by
  unfold atI at h
  cases e : ixN xs.length i with
  | none => rw [e] at h; cases h
  | some j =>
    rw [e] at h
    obtain ⟨h1, h2, h3, h4⟩ := ixN_seq e
    exact ⟨j, h1, h, h2, h3, h4⟩
theorem atI_nat {α : Type} {xs : List α} {j : Nat} {v : α} (h : xs[j]? = some v) : atI xs (j : Int) = some v := by
  have hj : j < xs.length := (List.getElem?_eq_some_iff.mp h).1
  have e : ixN xs.length (j : Int) = some j := by
    unfold ixN
    rw [if_pos (by omega), if_pos (by omega)]; simp
  unfold atI; rw [e]; exact h
def PlainIx (b : Expr) : Prop := ∀ o i, subscripted b false o i = operate [o, i] (getItem o i)
def IxR (X : Cx) (r : R2) : Prop :=
  ∀ (value slice : Expr) (pins : List (Addr × Obj)) (s : Shared) (σ : St) (H : Hp) (x y : V) (v u : Value) (Q : VK), Inv X pins σ H s → RelV x v → RelV y u → r x y H Q →
    subscripted slice false v u = operate [v, u] (getItem v u) → wpAny (model X.prog X.w) X.A (subscriptTail value slice v u) (EP X pins σ Q) X.xe s
def MtR (X : Cx) (id : String) (r : V → List V → Hp → VK → Prop) : Prop :=
  ∀ (pins : List (Addr × Obj)) (s : Shared) (σ : St) (H : Hp) (x : V) (xs : List V) (v : Value) (us : List Value) (Q : VK), Inv X pins σ H s → RelV x v → Vals xs us → r x xs H Q →
    wpAny (model X.prog X.w) X.A (call (.builtin id) (v :: us)) (EP X pins σ Q) X.xe s
section
variable {X : Cx} {a b : Expr} {ta tb : TE} {pos : Pos}
theorem IxR.or {r r' : R2} (h : IxR X r) (h' : IxR X r') : IxR X (fun x y H Q => r x y H Q ∨ r' x y H Q) := by
  intro value slice pins s σ H x y v u Q I rx ry q hs
  rcases q with q | q
  · exact h value slice pins s σ H x y v u Q I rx ry q hs
  · exact h' value slice pins s σ H x y v u Q I rx ry q hs
theorem pe_ix {r : R2} (hr : IxR X r) (ha : PE X a ta) (hb : PE X b tb) (hs : PlainIx b) : PE X (.Subscript a b pos) (tOp r ta tb) := by
  intro pins s σ H Q I h
  exact Subscript_ (binT ha hb I h fun v u s2 x y H2 I2 rx ry q => hr a b pins s2 σ H2 x y v u Q I2 rx ry q (hs _ _))
def rIxL (K : PySem.W.Frag) : R2 := fun x y H Q => ∃ p xs i v, x = .ref p ∧ y = .int i ∧ SqL K H p xs ∧ atI xs i = some v ∧ Q v H
def rIxT (K : PySem.W.Frag) : R2 := fun x y H Q => ∃ p xs i v, x = .ref p ∧ y = .int i ∧ SqT K H p xs ∧ atI xs i = some v ∧ Q v H
theorem ix_list : IxR X (rIxL X.K) := by
  intro value slice pins s σ H x y v u Q I rx ry h hs
  obtain ⟨p, xs, i, z, rfl, rfl, hq, he, q⟩ := h
  cases rx
  obtain ⟨t, rfl⟩ := ry
  obtain ⟨its, r, pl, hz⟩ := I.list hq
  obtain ⟨j, h1, h2, h3, h4, h5⟩ := atI_get he
  obtain ⟨w, ew, rw'⟩ := r.get h2
  have hl := r.length
  have hn := line63
  have fin : EP X pins σ Q w s := ⟨z, H, I, rw', q⟩
  by_cases h0 : 0 ≤ i
  · have hj : i.toNat = j := by
      rw [seqIndex_of h0 h5] at h1
      exact Option.some.inj h1
    exact item_listR pl.isList h0 (by omega) (by rw [hj]; simpa using ew) fin hs
  · have hj : (i + (its.toArray.size : Int)).toNat = j := by
      rw [seqIndex_neg (by omega) h4] at h1
      rw [List.size_toArray, ← hl]
      exact Option.some.inj h1
    exact subscriptTail_builtinR (x := w) pl.isList.typeIs slot_list_getitem.lookup
      (wpAny_getItem_list_neg (Q := fun r s' => r = w ∧ EP X pins σ Q r s') pl.isList (by omega) (by rw [List.size_toArray] <;> omega) (by omega) (by rw [hj]; simpa using ew) ⟨rfl, fin⟩) hs
theorem ix_tup : IxR X (rIxT X.K) := by
  intro value slice pins s σ H x y v u Q I rx ry h hs
  obtain ⟨p, xs, i, z, rfl, rfl, hq, he, q⟩ := h
  cases rx
  obtain ⟨t, rfl⟩ := ry
  obtain ⟨its, r, pl, hz⟩ := I.tuple hq
  obtain ⟨j, h1, h2, h3, h4, h5⟩ := atI_get he
  obtain ⟨w, ew, rw'⟩ := r.get h2
  have hl := r.length
  have hn := line63
  have fin : EP X pins σ Q w s := ⟨z, H, I, rw', q⟩
  exact subscriptTail_builtinR (x := w) pl.typeIs slot_tuple_getitem.lookup
    (getItem_tuple (j := j) (Q := fun r s' => r = w ∧ EP X pins σ Q r s') pl (by omega) (by omega) (by rw [List.size_toArray, ← hl]; exact h1) (by simpa using ew) ⟨rfl, fin⟩) hs
theorem mapSeq_set (its : List Value) (n j : Nat) (u : Value) : Obj.mapSeq (·.setIfInBounds j u) { cls := .type "list", data := .seq its.toArray n } = { cls := .type "list", data := .seq (its.set j u).toArray n } := by
  simp [Obj.mapSeq]
theorem Inv.lst {pins : List (Addr × Obj)} {σ : St} {H : Hp} {s : Shared} {p : Addr} {xs : List V} (I : Inv X pins σ H s) (h : H p = some (.lst xs)) :
    ∃ (its : List Value) (n : Nat), Vals xs its ∧ s.heap.get? p = some { cls := .type "list", data := .seq its.toArray n } ∧ xs.length ≤ sizeLine := by
  obtain ⟨z, its, n, r, e⟩ := I.hok p _ h
  exact ⟨its, n, r, e, z⟩
theorem Inv.lstUpd {pins : List (Addr × Obj)} {σ : St} {H : Hp} {s : Shared} {p : Addr} {xs ys : List V} {its its' : List Value} {n n' : Nat} {f : Obj → Obj} (I : Inv X pins σ H s) (h : H p = some (.lst xs))
    (ho : s.heap.get? p = some { cls := .type "list", data := .seq its.toArray n }) (hf : f { cls := .type "list", data := .seq its.toArray n } = { cls := .type "list", data := .seq its'.toArray n' }) (r : Vals ys its') (hz : ys.length ≤ sizeLine) (t : Nat) :
    Inv X pins σ (upd H p (.lst ys)) { s with heap := s.heap.update p f, toks := t } := by
  have e : (s.heap.update p f).get? p = some { cls := .type "list", data := .seq its'.toArray n' } := by
    rw [Heap.get?_update_self f ho (by rw [hf] <;> rfl), hf]
  refine I.write (x := p) (e := p) (by rw [h]; trivial) (.inl rfl) (fun b u hb q => (Heap.get?_update_other _ _ (Ne.symm hb)).trans q) ⟨_, e⟩ ?_
  exact ⟨hz, its', n', r, e⟩
def rSetL : V → V → V → Hp → (Hp → Prop) → Prop := fun o i v H Q => ∃ p xs k j, o = .ref p ∧ i = .int k ∧ H p = some (.lst xs) ∧ ixN xs.length k = some j ∧ Q (upd H p (.lst (xs.set j v)))
theorem set_list : PSet X rSetL := by
  intro pins s σ H o i v ov iv u Q I ro ri rv h
  obtain ⟨p, xs, k, j, rfl, rfl, hp, hj, q⟩ := h
  cases ro
  obtain ⟨t, rfl⟩ := ri
  obtain ⟨its, n, r, ho, hz⟩ := I.lst hp
  obtain ⟨h1, h2, h3, h4⟩ := ixN_seq hj
  have hl := r.length
  have hn := line63
  have I' : Inv X pins σ (upd H p (.lst (xs.set j v))) { s with heap := s.heap.update p (Obj.mapSeq (·.setIfInBounds j u)) } :=
    I.lstUpd hp ho (mapSeq_set its n j u) (r.set rv j) (by rw [List.length_set]; exact hz) s.toks
  by_cases h0 : 0 ≤ k
  · have hk : k.toNat = j := by
      rw [seqIndex_of h0 h4] at h1
      exact Option.some.inj h1
    exact PySem.W.ki_setAt ho h0 (by omega) (by rw [List.size_toArray, ← hl]; exact h4) (by rw [hk]; exact ⟨_, I', q⟩)
  · have hk : (k + (its.toArray.size : Int)).toNat = j := by
      rw [seqIndex_neg (by omega) h3] at h1
      rw [List.size_toArray, ← hl]
      exact Option.some.inj h1
    exact PySem.W.ki_setBack ho (by omega) (by rw [List.size_toArray, ← hl]; exact h3) (by omega) (by rw [hk]; exact ⟨_, I', q⟩)
theorem slice_bounds (lo hi : Option Int) (n : Nat) : (sliceBounds lo hi none n).1 = ((HT.sIx n 0 lo : Nat) : Int) ∧ (sliceBounds lo hi none n).2.1 = ((HT.sIx n n hi : Nat) : Int) ∧ (sliceBounds lo hi none n).2.2 = 1 := by
  refine ⟨?_, ?_, rfl⟩
  · cases lo with
    | none => simp [sliceBounds, HT.sIx]
    | some i =>
      simp only [sliceBounds, HT.sIx, Option.getD_none, show (1 : Int) > 0 by decide, if_true]
      by_cases h : i < 0
      · simp only [h, if_true] <;> omega
      · simp only [h, if_false] <;> omega
  · cases hi with
    | none => simp [sliceBounds, HT.sIx]
    | some i =>
      simp only [sliceBounds, HT.sIx, Option.getD_none, show (1 : Int) > 0 by decide, if_true]
      by_cases h : i < 0
      · simp only [h, if_true] <;> omega
      · simp only [h, if_false] <;> omega
theorem slicePick_cut (its : List Value) (lo hi : Option Int) : slicePick its.toArray lo hi none = ((its.drop (HT.sIx its.length 0 lo)).take (HT.sIx its.length its.length hi - HT.sIx its.length 0 lo)).toArray := by
  obtain ⟨h1, h2, h3⟩ := slice_bounds lo hi its.toArray.size
  unfold slicePick
  rw [h1, h2, h3]
  simp only [sliceRange_one, pick_run, List.size_toArray] <;> rfl
def rSlL (K : PySem.W.Frag) : V → Option Int → Option Int → Hp → VK → Prop := fun x lo hi H Q => ∃ a xs, x = .ref a ∧ SqL K H a xs ∧ ∀ p, H p = none → Q (.ref p) (upd H p (.lst (cutV xs lo hi)))
theorem sl_list : SlR X (rSlL X.K) := by
  intro pins s σ H x v vl vu lo hi sl Q I rx hs pl pu h
  obtain ⟨a, xs, rfl, hx, q⟩ := h
  cases rx
  obtain ⟨its, r, ht, hz⟩ := I.list hx
  have hlen := r.length
  refine ⟨"list", _, slot_list_getitem.lookup, ht.isList.typeIs, ?_⟩
  refine wpAny_getItem_list_slice ht.isList hs pl pu .none (by simp) ?_ (by rw [List.size_toArray] <;> omega)
  rw [slicePick_cut, ← hlen]
  refine ⟨.ref s.heap.objs.size, _, I.laid (t' := s.toks) (o := .lst (cutV xs lo hi)) (fun b ob q => Heap.get?_push_of_some _ q) (Nat.le_refl _) ?_, rfl, q _ (I.hok.fresh (Nat.le_refl _))⟩
  exact ⟨Nat.le_trans (cutV_length xs lo hi) hz, _, 0, (r.drop (HT.sIx xs.length 0 lo)).take (HT.sIx xs.length xs.length hi - HT.sIx xs.length 0 lo), Heap.get?_push_size _ rfl⟩
theorem call_len_seq : CallR X (.builtin "len") (fun xs H Q => ∃ p ys, xs = [.ref p] ∧ (SqL X.K H p ys ∨ SqT X.K H p ys) ∧ Q (.int ys.length) H) := by
  intro pins s σ H xs us Q I r h
  obtain ⟨p, ys, rfl, hq, q⟩ := h
  obtain ⟨u, rfl, rx⟩ := vals1 r
  cases rx
  have hn := line63
  rcases hq with hq | hq
  · obtain ⟨its, r', pl, hz⟩ := I.list hq
    have hlen := r'.length
    exact Calls.call_len_list pl.isList (by simp only [List.size_toArray] <;> omega) ⟨.int ys.length, H, I.tok _, ⟨s.toks + 1, by rw [List.size_toArray, hlen]⟩, q⟩
  · obtain ⟨its, r', pl, hz⟩ := I.tuple hq
    have hlen := r'.length
    exact len_tuple pl (by simp only [List.size_toArray] <;> omega) ⟨.int ys.length, H, I.tok _, ⟨s.toks + 1, by rw [List.size_toArray, hlen]⟩, q⟩
theorem CallR.or {f : Value} {r r' : List V → Hp → VK → Prop} (h : CallR X f r) (h' : CallR X f r') : CallR X f (fun xs H Q => r xs H Q ∨ r' xs H Q) := by
  intro pins s σ H xs us Q I rs q
  rcases q with q | q
  · exact h pins s σ H xs us Q I rs q
  · exact h' pins s σ H xs us Q I rs q
theorem call_list_of : CallR X (.type "list") (fun xs H Q => ∃ p ys, xs = [.ref p] ∧ (SqL X.K H p ys ∨ SqT X.K H p ys) ∧ ∀ l, H l = none → Q (.ref l) (upd H l (.lst ys))) := by
  intro pins s σ H xs us Q I r h
  obtain ⟨p, ys, rfl, hq, q⟩ := h
  obtain ⟨u, rfl, rx⟩ := vals1 r
  cases rx
  have fin : ∀ (its : List Value), Vals ys its → ys.length ≤ sizeLine → ∀ (h' : Heap) (c' : Nat), (∀ b o', s.heap.get? b = some o' → h'.get? b = some o') →
      h'.get? s.heap.objs.size = some { cls := .type "list", dict := none, data := .seq its.toArray c', slots := #[] } → EP X pins σ Q (.ref s.heap.objs.size) { s with heap := h' } := fun its r' hz h' c' kp e =>
    ⟨.ref s.heap.objs.size, _, I.laid (t' := s.toks) kp (Nat.le_refl _) (show ObjOk X.prog X.w _ h' _ (.lst ys) from ⟨hz, its, c', r', e⟩), rfl, q _ (I.hok.fresh (Nat.le_refl _))⟩
  rcases hq with hq | hq
  · obtain ⟨its, r', pl, hz⟩ := I.list hq
    have hlen := r'.length
    obtain ⟨o, ho, hc, n, hd⟩ := pl.isList
    exact call_list_seq p (.inl rfl) ho hc hd (fun h' c' kp e => fin its r' hz h' c' kp e) (by simp only [List.size_toArray] <;> omega)
  · obtain ⟨its, r', pl, hz⟩ := I.tuple hq
    have hlen := r'.length
    obtain ⟨o, ho, hc, n, hd⟩ := pl
    exact call_list_seq p (.inr rfl) ho hc hd (fun h' c' kp e => fin its r' hz h' c' kp e) (by simp only [List.size_toArray] <;> omega)
theorem call_tuple_of : CallR X (.type "tuple") (fun xs H Q => ∃ p ys, xs = [.ref p] ∧ ((SqL X.K H p ys ∧ ∀ l, H l = none → Q (.ref l) (upd H l (.tup ys))) ∨ (SqT X.K H p ys ∧ Q (.ref p) H))) := by
  intro pins s σ H xs us Q I r h
  obtain ⟨p, ys, rfl, h⟩ := h
  obtain ⟨u, rfl, rx⟩ := vals1 r
  cases rx
  rcases h with ⟨hq, q⟩ | ⟨hq, q⟩
  · obtain ⟨its, r', pl, hz⟩ := I.list hq
    have hlen := r'.length
    refine call_tuple_list pl.isList (fun h' kp => ?_) (by simp only [List.size_toArray] <;> omega)
    have I1 : Inv X pins σ H { s with heap := h' } := I.kept (t' := s.toks) kp
    have I2 : Inv X pins σ (upd H h'.objs.size (.tup ys)) { s with heap := h'.push { cls := .type "tuple", data := .seq its.toArray } } :=
      I1.laid (t' := s.toks) (fun b o e => Heap.get?_push_of_some _ e) (Nat.le_refl _) (show ObjOk X.prog X.w _ _ _ (.tup ys) from ⟨hz, its, r', IsTup.new _ _⟩)
    exact ⟨.ref h'.objs.size, _, I2, rfl, q _ (I1.hok.fresh (Nat.le_refl _))⟩
  · obtain ⟨its, r', pl, hz⟩ := I.tuple hq
    exact call_tuple_same pl ⟨.ref p, H, I, rfl, q⟩
def tyV (K : PySem.W.Frag) (T : String) (x : V) (H : Hp) : Prop := match x with
  | .str _ => T = "str"
  | .int _ => T = "int"
  | .ref p => (T = "list" ∧ ∃ xs, SqL K H p xs) ∨ (T = "tuple" ∧ ∃ o, K.lookup p = some o ∧ o.cls = .type "tuple" ∧ o.dict = none) ∨
      (T = "dict" ∧ ((∃ kvs, H p = some (.dK kvs)) ∨ ∃ kvs, H p = some (.dT kvs))) ∨ (T = "set" ∧ ∃ S n, H p = some (.set S n))
  | _ => False
theorem tyV_is {pins : List (Addr × Obj)} {σ : St} {H : Hp} {s : Shared} {T : String} {x : V} {v : Value} (I : Inv X pins σ H s) (r : RelV x v) (ty : tyV X.K T x H) :
    s.TypeIs v T ∧ ∀ a, v = .ref a → ∃ ob, s.heap.get? a = some ob ∧ ob.dict = none := by
  cases x with
  | str z =>
    obtain ⟨t, rfl⟩ := r
    cases (show T = "str" from ty)
    exact ⟨typeIs_str s z t, fun _ e => nomatch e⟩
  | int i =>
    obtain ⟨t, rfl⟩ := r
    cases (show T = "int" from ty)
    exact ⟨typeIs_int s i t, fun _ e => nomatch e⟩
  | ref p =>
    cases r
    rcases ty with ⟨rfl, xs, hq⟩ | ⟨rfl, o, hk, hc, hd⟩ | ⟨rfl, hk⟩ | ⟨rfl, S, n, hk⟩
    · obtain ⟨its, _, pl, _⟩ := I.list hq
      refine ⟨pl.isList.typeIs, fun a e => ?_⟩
      cases e
      obtain ⟨o, n, e, c, hd, _⟩ := pl
      exact ⟨o, e, hd⟩
    · refine ⟨⟨o, I.kIn p o hk, hc⟩, fun a e => ?_⟩
      cases e
      exact ⟨o, I.kIn _ o hk, hd⟩
    · have z : ∃ o, s.heap.get? p = some o ∧ o.ExactDict := by
        rcases hk with ⟨kvs, hk⟩ | ⟨kvs, hk⟩
        · obtain ⟨_, _, _, _, o, _, _, e, ex, _⟩ := I.hok p _ hk
          exact ⟨o, e, ex⟩
        · obtain ⟨_, _, _, _, o, _, _, e, ex, _⟩ := I.hok p _ hk
          exact ⟨o, e, ex⟩
      obtain ⟨o, e, ex⟩ := z
      refine ⟨⟨o, e, ex.1⟩, fun a e2 => ?_⟩
      cases e2
      exact ⟨o, e, ex.2.1⟩
    · obtain ⟨o, _, _, _, e, ex, _⟩ := I.hok p _ hk
      refine ⟨⟨o, e, ex.1⟩, fun a e2 => ?_⟩
      cases e2
      exact ⟨o, e, ex.2.1⟩
  | _ => exact False.elim ty
def tBM (K : PySem.W.Frag) (T : String) (r : V → List V → Hp → VK → Prop) (to : TE) (t : TA) : TE := fun σ H Q => to σ H fun x H1 => tyV K T x H1 ∧ t σ H1 fun xs H2 => r x xs H2 Q
variable {o e : Expr} {es : List Expr} {to : TE} {t : TA} {name : Str} {apos cpos : Pos} {T id : String} {r : V → List V → Hp → VK → Prop}
theorem pe_bm (pa : PlainAttrs T) (slot : Slot T name id) (hty : typeOf (.builtin id) = pure (.type "method_descriptor")) (hm : MtR X id r) (ho : PE X o to) (ha : PA X (e :: es) t)
    (hbase : attributeBase o name X.env (eval o X.env) = eval o X.env := by rfl)
    (hfew : ((backTo cpos (starEach (e :: es) X.env)).all (fun x => !x.1) && (backToKw cpos (keywordEach [] X.env)).all (fun x => x.1.isSome)
      && decide ((e :: es).length + ([] : List Keyword).length + (if ([] : List Keyword).isEmpty then 0 else 1) < 30)) = true := by rfl)
    (hline : (apos.endLine == cpos.line) = true := by rfl) (hs : starEach (e :: es) X.env = (false, eval e X.env) :: starEach es X.env := by rfl) (hplain : (backTo cpos (starEach es X.env)).any (·.1) = false := by rfl) :
    PE X (.Call (.Attribute o name apos) (e :: es) [] cpos) (tBM X.K T r to t) := by
  intro pins s σ H Q I h
  refine wpAny_Call_method_late hbase hfew hline rfl (thn (ho pins s σ H _ I h) fun v s1 ⟨x, H1, I1, r1, ty, q1⟩ => ?_)
  obtain ⟨h1, h2⟩ := tyV_is I1 r1 ty
  refine ⟨T, id, pa, slot, hty, h1, h2, ?_⟩
  have hA := ha cpos pins s1 σ H1 _ I1 q1
  rw [hs] at hA ⊢
  refine Calls.callWith_builtin (by show (false || (backTo cpos (starEach es X.env)).any (·.1)) = false; rw [hplain] <;> rfl) (Calls.evalArgs_plain ?_)
  exact thn hA fun us s2 ⟨vs, H2, I2, r2, q2⟩ => hm pins s2 σ H2 x vs v us Q I2 r1 r2 q2
end
def MtM (X : Cx) (id : String) (r : V → List V → Hp → VK → Prop) : Prop :=
  ∀ (pins : List (Addr × Obj)) (s : Shared) (σ : St) (H : Hp) (x : V) (xs : List V) (v : Value) (us : List Value) (Q : VK), Inv X pins σ H s → RelV x v → Vals xs us → r x xs H Q →
    wpAny (model X.prog X.w) X.A (call (.builtin id) (v :: us)) (EP X pins σ Q) X.xe s
theorem Vals.one {x : V} {us : List Value} (h : Vals [x] us) : ∃ u, us = [u] ∧ RelV x u := by
  cases h with
  | cons r t => cases t; exact ⟨_, rfl, r⟩
theorem Vals.two {x y : V} {us : List Value} (h : Vals [x, y] us) : ∃ u v, us = [u, v] ∧ RelV x u ∧ RelV y v := by
  cases h with
  | cons r t =>
    obtain ⟨v, rfl, q⟩ := Vals.one t
    exact ⟨_, _, rfl, r, q⟩
theorem Vals.eraseIdx : ∀ {xs : List V} {us : List Value} (i : Nat), Vals xs us → Vals (xs.eraseIdx i) (us.eraseIdx i)
  | _, _, _, .nil => .nil
  | _, _, 0, .cons _ t => t
  | _, _, i + 1, .cons r t => .cons r (Vals.eraseIdx i t)
theorem len_erase {α : Type} : ∀ (l : List α) (i : Nat), (l.eraseIdx i).length ≤ l.length
  | [], _ => Nat.le_refl _
  | _ :: _, 0 => Nat.le_succ _
  | _ :: r, i + 1 => Nat.succ_le_succ (len_erase r i)
section
variable {X : Cx} {pins : List (Addr × Obj)} {σ : St} {H : Hp} {s : Shared} {l b : Addr} {xs ys zs : List V}
theorem Inv.lset {its its' : List Value} {n : Nat} {f : Array Value → Array Value} {t' : Nat} (I : Inv X pins σ H s) (hH : H l = some (.lst xs))
    (e : s.heap.get? l = some { cls := .type "list", data := .seq its.toArray n }) (hf : f its.toArray = its'.toArray) (hv : Vals ys its') (hz : ys.length ≤ sizeLine) :
    Inv X pins σ (upd H l (.lst ys)) { s with heap := s.heap.update l (Obj.mapSeq f), toks := t' } := by
  have q := PySem.IsL.update e f
  rw [hf] at q
  refine I.write (x := l) (e := l) (by rw [hH]; exact trivial) (.inl rfl) (fun b' u hb hu => (Heap.get?_update_other s.heap (Obj.mapSeq f) (Ne.symm hb)).trans hu) ⟨_, q⟩ ?_
  exact ⟨hz, its', _, hv, q⟩
theorem Inv.lnew {its : List Value} {t' : Nat} (I : Inv X pins σ H s) (hv : Vals ys its) (hz : ys.length ≤ sizeLine) :
    Inv X pins σ (upd H s.heap.objs.size (.lst ys)) { s with heap := s.heap.push { cls := .type "list", data := .seq its.toArray }, toks := t' } :=
  I.laid (fun _ _ q => Heap.get?_push_of_some _ q) (Nat.le_refl _) ⟨hz, its, 0, hv, Heap.get?_push_size _ rfl⟩
theorem Inv.fresh (I : Inv X pins σ H s) : H s.heap.objs.size = none := I.hok.fresh (Nat.le_refl _)
theorem Inv.lstM (I : Inv X pins σ H s) (hH : H l = some (.lst xs)) : xs.length ≤ sizeLine ∧ ∃ (its : List Value) (n : Nat), Vals xs its ∧ xs.length = its.length ∧ s.heap.get? l = some { cls := .type "list", data := .seq its.toArray n } := by
  obtain ⟨z, its, n, r, e⟩ := I.hok l _ hH
  exact ⟨z, its, n, r, r.length, e⟩
end
section
variable {X : Cx}
def rAppend : V → List V → Hp → VK → Prop := fun x vs H Q => ∃ l xs y, x = .ref l ∧ vs = [y] ∧ H l = some (.lst xs) ∧ xs.length < sizeLine ∧ Q .non (upd H l (.lst (xs ++ [y])))
theorem mt_append : MtM X "list.append" rAppend := by
  intro pins s σ H x vs v us Q I rx rv h
  obtain ⟨l, xs, y, rfl, rfl, hH, hz, q⟩ := h
  cases rx
  obtain ⟨u, rfl, ru⟩ := rv.one
  obtain ⟨z, its, n, r, hl, e⟩ := I.lstM hH
  refine call_meets F.slot_list_append ⟨_, e, rfl⟩ F.entry_list_append (F.args_list_append_2 _ _) (PySem.list_append l its.toArray n u (by rw [List.size_toArray]; omega)) ⟨e, ?_⟩
  refine ⟨.non, _, I.lset (its' := its ++ [u]) hH e (by simp) (r.append (.cons ru .nil)) ?_, rfl, q⟩
  rw [List.length_append, List.length_singleton]
  omega
def rPopAt : V → List V → Hp → VK → Prop := fun x vs H Q => ∃ l xs i k y, x = .ref l ∧ vs = [.int i] ∧ H l = some (.lst xs) ∧ -(2 ^ 63) ≤ i ∧ i < 2 ^ 63 ∧ seqIndex? i xs.length = some k ∧ xs[k]? = some y ∧ Q y (upd H l (.lst (xs.eraseIdx k)))
theorem mt_popAt : MtM X "list.pop" rPopAt := by
  intro pins s σ H x vs v us Q I rx rv h
  obtain ⟨l, xs, i, k, y, rfl, rfl, hH, h1, h2, hk, hy, q⟩ := h
  cases rx
  obtain ⟨u, rfl, ru⟩ := rv.one
  obtain ⟨t, rfl⟩ := ru
  obtain ⟨z, its, n, r, hl, e⟩ := I.lstM hH
  obtain ⟨w, hw, rw'⟩ := r.get hy
  refine call_meets F.slot_list_pop ⟨_, e, rfl⟩ F.entry_list_pop (F.args_list_pop_2 _ _)
    (MeetsSeq.list_pop_at l its.toArray n i t k w (fitsIndex_both h1 h2) (by rw [List.size_toArray, ← hl]; exact hk) (by rw [← Array.getElem?_toList]; exact hw) (by rw [List.size_toArray]; omega)) ⟨e, ?_⟩
  refine ⟨y, _, I.lset (its' := its.eraseIdx k) hH e ?_ (r.eraseIdx k) ?_, rw', q⟩
  · show its.toArray.eraseIdxIfInBounds k = (its.eraseIdx k).toArray
    rw [List.eraseIdxIfInBounds_toArray]
  · have := len_erase xs k
    omega
end
section
variable {prog : Program} {w : World} {A : Around} {E : Value → Shared → Prop} {s : Shared}
set_option maxRecDepth 100000 in
end
end L2
namespace Att
open PySem PySem.W PySem.Calls PyProof.Rows
theorem ints_of_wellAll {P : Params} {h : Heap} : ∀ (ns : List Int) (vs : List Value), WellAll P h vs (ns.map WData.int) → IntsAre vs ns := by
  intro ns
  induction ns with
  | nil =>
    intro vs w
    rw [List.map_nil] at w
    cases w
    exact .nil
  | cons n ns ih =>
    intro vs w
    rw [List.map_cons] at w
    cases w with
    | cons a b =>
      cases a
      exact .cons _ _ (ih _ b)
theorem script_of {l : OpenLaw} {n : Nat} (hn : l.most = some n) {P : Params} {h : Heap} {args : List WData} {vals : List Value}
    (hpre : l.row.toRowW.claim.pre args = true) (hwl : WellAll P h vals args) :
    ∃ a vs ns, vals = [Value.ref a] ∧ args = [WData.list (ns.map WData.int)] ∧ h.get? a = some { cls := .type "list", data := .seq vs.toArray } ∧ IntsAre vs ns ∧ ns.length ≤ n := by
  have hsh : WShape.hasAll [] args [.list .int] = true := (pre_splitW hpre).1
  have hc : l.pre.holds [] { args := args } = true := (pre_splitW hpre).2
  obtain ⟨d, r, rfl, h1, h2⟩ := hasAllW_cons hsh
  obtain rfl := hasAllW_nil h2
  obtain ⟨xs, rfl, h3⟩ := hasW_list h1
  obtain ⟨ns, rfl⟩ := items_int h3
  have hlen : ns.length ≤ n := by
    unfold OpenLaw.pre at hc
    have h4 : (WTm.not (.lt (.lit (.int (n : Int))) (.len (.arg 0)))).holds [] { args := [.list (ns.map .int)] } = true := by
      have h4 := (holds_andW hc).1
      rw [hn] at h4
      exact h4
    have h5 := condW_of h4 (w_not (w_lt w_lit (w_len_list (w_arg rfl))))
    rw [List.length_map] at h5
    refine Nat.le_of_not_lt fun q => ?_
    have q' : (n : Int) < ((ns.length : Nat) : Int) := by omega
    first
      | (rw [decide_eq_true q'] at h5; exact absurd h5 (by decide))
      | (simp at h5; omega)
  cases hwl with
  | cons w1 w2 =>
    cases w2
    cases w1 with
    | list ho hall => exact ⟨_, _, ns, rfl, rfl, ho, ints_of_wellAll ns _ hall, hlen⟩
theorem post_true (l : OpenLaw) (args : List WData) : l.row.toRowW.claim.post args (.bool true) args = true :=
  postW_of (r := l.row.toRowW) (X := (true == true))
    (show WShape.has [] (.bool true) .bool = true by first | rfl | decide | simp [WShape.has, WShape.arms, WShape.armsAll])
    (show (WTm.eq .res (.lit (.bool true))).value [] { args := args, res := some (.bool true), after := args } = some (.bool (true == true)) from w_eq_bool (w_res rfl) w_lit) rfl
end Att
namespace L2
open PySem PySem.Spec PyProof.Rows
theorem vals_ints : ∀ {vs : List Value} {ns : List Int}, IntsAre vs ns → Vals (ns.map V.int) vs
  | _, _, .nil => .nil
  | _, _, .cons n t h => .cons ⟨t, rfl⟩ (vals_ints h)
def Only (H : Hp) : Prop := ∀ b, H b = none ∨ ∃ o xs, H b = some (.frz o (.lst xs))
theorem law_call {P : Program} {w : World} {K : PySem.W.Frag} {mg mb : Str → Option Value} {CX : CXT} {k : Nat} {fa a : Addr} {fd : FuncData} {x : Str} {sp : Sp} {s₁ : Shared} {vs : List Value} {ns : List Int}
    (KX : K.In s₁.heap) (hns : s₁.heap.Ns mainGlobals mg) (hb : s₁.heap.Ns builtinsNs mb) (hbb : ∀ x : Str, x ≠ "__name__" → mb x = bootBuiltins x) (hlim : s₁.heap.NoLimit) (hg : s₁.gens = #[])
    (ha : s₁.heap.get? a = some { cls := .type "list", data := .seq vs.toArray }) (hi : IntsAre vs ns) (hl : ns.length ≤ sizeLine) (hr : Room k callerA)
    (F : ∀ base : Heap, K.In base → base.Ns mainGlobals mg → FnOk P w K mg base CX k fa fd [x] sp) (hbind : ∀ (s : Shared) (u : Value), BindsTo s fd ⟨[u], []⟩ [(x, u)])
    (hsp : ∀ H : Hp, Only H → SqL K H a (ns.map V.int) → sp [.ref a] H (fun v _ => v = .bl true) fun _ _ _ => False)
    (hCX : ∀ H e s', CX [] H s₁ (fun _ _ _ => False) e s' → False) :
    codeAny (model P w) callerA (.call (.ref fa) ⟨[.ref a], []⟩) (fun r s' => r = .ok (.ret (.bool true)) ∧ OldK s₁.heap s'.heap ∧ s'.os = s₁.os ∧ AllBare s'.gens) s₁ := by
  have rv := vals_ints hi
  have lenV := hi.length
  -- from an abstract heap in which nothing but the script may be tracked
  have core : ∀ H : Hp, Only H → SqL K H a (ns.map V.int) → HOk P w H s₁.heap → (∀ b, H b ≠ none → b = a) → (H a ≠ none → K.lookup a = none) →
      codeAny (model P w) callerA (.call (.ref fa) ⟨[.ref a], []⟩) (fun r s' => r = .ok (.ret (.bool true)) ∧ OldK s₁.heap s'.heap ∧ s'.os = s₁.os ∧ AllBare s'.gens) s₁ := by
    intro H hO hS hok hA hK
    have base_of : ∀ {b : Addr} {o : Obj}, s₁.heap.get? b = some o → H b = none → (hidT s₁.heap H).get? b = some o := fun e n => hidT_get e n
    have noA : ∀ {b : Addr} {o : Obj} {es : Array DictEntry} {ep : Nat}, s₁.heap.get? b = some o → o.data = .dict es ep → H b = none := fun {b o es ep} e d => by
      cases q : H b with
      | none => rfl
      | some u =>
        have e' : b = a := hA b (by rw [q]; simp)
        subst e'
        rw [ha] at e; cases e
        have d' : Data.seq vs.toArray _ = Data.dict es ep := d
        cases d'
    have nsK : ∀ {b : Addr} {m : Str → Option Value}, s₁.heap.Ns b m → (hidT s₁.heap H).Ns b m := fun {b m} ⟨o, es, ep, e, d, r⟩ => ⟨o, es, ep, base_of e (noA e d), d, r⟩
    have hKb : K.In (hidT s₁.heap H) := fun b o e => base_of (KX b o e) (by
      cases q : H b with
      | none => rfl
      | some u =>
        have e' : b = a := hA b (by rw [q]; simp)
        subst e'
        rw [hK (by rw [q]; simp)] at e; cases e)
    have hM : Mod K mg (hidT s₁.heap H) := ⟨hKb, nsK hns, ⟨mb, nsK hb, hbb⟩, let ⟨mc, h1, h2⟩ := hlim; ⟨mc, nsK h1, h2⟩⟩
    have e0 : Env0 P w K mg (hidT s₁.heap H) callerA [] s₁ H := ⟨rfl, hM, fun b o e => of_hidT e, Nat.le_of_eq (hidT_size _ _), trivial, fun b hb => absurd (show b ∈ ([] : List Addr) from hb) (by simp), hok, .of_eq hg⟩
    refine codeAny_mono ((F _ hKb (nsK hns)).run callerA [] s₁ H ⟨[.ref a], []⟩ [.ref a] [.ref a] _ _ hr e0 (hbind s₁ (.ref a)) (.cons rfl .nil) (hsp H hO hS)) fun r s' h => ?_
    cases r with
    | error e => exact (hCX H e s' h).elim
    | ok fl =>
      cases fl with
      | next => exact False.elim h
      | brk => exact False.elim h
      | cont => exact False.elim h
      | ret u =>
        obtain ⟨v, H', os, bare, un, hok', r', q⟩ := h
        have q' : v = .bl true := q
        subst q'
        obtain rfl : u = Value.bool true := r'
        refine ⟨rfl, OldK.of_keep fun b o e => ?_, os, bare⟩
        cases q : H b with
        | none => exact un.keep b o e q (by intro z; exact absurd (show b ∈ ([] : List Addr) from z) (by simp)) (by simp)
        | some u =>
          rcases hO b with z | ⟨ob, xs, z⟩
          · rw [q] at z; cases z
          · have z2 := un.frzs b ob _ z
            obtain ⟨e1, _⟩ := hok b _ z
            obtain ⟨e2, _⟩ := hok' b _ z2
            rw [e] at e1; cases e1
            exact e2
  cases hk : K.lookup a with
  | some o =>
    -- the script is one of the module's own objects
    have e := KX a o hk
    rw [ha] at e
    cases e
    refine core (fun _ => none) (fun _ => .inl rfl) (.inr ⟨_, vs.toArray, _, hk, rfl, rfl, rfl, by rw [List.size_toArray, lenV]; exact hl, by simpa using rv⟩) (fun b u z => by have z' : (none : Option HO) = some u := z; cases z') (fun b z => absurd rfl z) fun z => absurd rfl z
  | none =>
    refine core (fun b => if b = a then some (.frz { cls := .type "list", data := .seq vs.toArray } (.lst (ns.map V.int))) else none) (fun b => ?_) (.inl (.inr ⟨{ cls := .type "list", data := .seq vs.toArray }, if_pos rfl⟩)) (fun b u z => ?_) (fun b z => ?_) fun _ => hk
    · by_cases hb : b = a
      · exact .inr ⟨_, _, if_pos hb⟩
      · exact .inl (if_neg hb)
    · by_cases hb : b = a
      · have z' := (if_pos hb).symm.trans z
        cases z'
        subst hb
        exact ⟨ha, by rw [List.length_map]; exact hl, vs, _, rv, ha⟩
      · have z' := (if_neg hb).symm.trans z
        cases z'
    · by_cases hb : b = a
      · exact hb
      · exact absurd (if_neg hb) z
def defArgs (s : Stmt) : Arguments := match s with
  | .FunctionDef _ a _ _ _ _ _ _ _ _ => a
  | _ => { posonlyargs := [], args := [], vararg := none, kwonlyargs := [], kw_defaults := [], kwarg := none, defaults := [] }
def defBody (s : Stmt) : List Stmt := match s with
  | .FunctionDef _ _ b _ _ _ _ _ _ _ => b
  | _ => []
def defScope (s : Stmt) : Scope := match s with
  | .FunctionDef _ _ _ _ _ _ sc _ _ _ => sc
  | _ => { kind := .function, names := [], isGenerator := false, isCoroutine := false }
abbrev CX0 : CXT := fun _ _ _ _ _ _ => False
abbrev E0 : XK := fun _ _ _ => False
theorem pass0 {X : Cx} : Passes CX0 X E0 := fun _ _ _ _ _ _ _ h => h.elim
structure Fun (K : PySem.W.Frag) (x qual : Str) (st : Stmt) (f : Addr) (fd : FuncData) : Prop where
  ex : ∃ (oc : Value) (od : Option Addr) (kV doc pm : Value) (an : Option Addr) (cdv ct : Value) (osl : Array (Option Value)),
    fd = PySem.W.fnOf x qual (defArgs st) (defBody st) (defScope st) .none kV doc pm an cdv ct ∧ K.lookup f = some ⟨oc, od, .func fd, osl⟩ ∧ PySem.W.codeIn K cdv qual = true
  kp : PySem.W.keepIn K (.ref f) = true
section
variable {P : Program} {w : World} {K : PySem.W.Frag} {mg : Str → Option Value} {base : Heap}
theorem Fun.ok {x qual : Str} {st : Stmt} {f : Addr} {fd : FuncData} {N ps : List Str} {k : Nat} {sp : Sp} (F : Fun K x qual st f fd) (S : FnScope N ps (defScope st)) (len : ∀ vs H Q E, sp vs H Q E → vs.length = ps.length)
    (hbody : ∀ (cdv : Value) (A : Around) (outer : List Env) (s : Shared) (H : Hp) (vs : List V) (Q : VK) (E : XK), Room k (A.deeper (envOfC qual (defScope st) s.heap.objs.size f cdv)) → sp vs H Q E →
      ∃ t, PSs (cxOf CX0 P w K mg base N qual (defScope st) f cdv A outer s H E).nox (defBody st) t ∧ t { nx := fun _ H' => Q .non H', rt := Q } (start N vs) H) : FnOk P w K mg base CX0 (k + 1) f fd ps sp := by
  obtain ⟨oc, od, kV, doc, pm, an, cdv, ct, osl, rfl, lk, hcd⟩ := F.ex
  refine fn_of lk hcd S len fun A outer s H vs Q E hr hsp => ?_
  obtain ⟨t, h, q⟩ := hbody cdv A outer s H vs Q E hr hsp
  exact ⟨t, h.nox, q⟩
theorem Fun.binds {x qual : Str} {st : Stmt} {f : Addr} {fd : FuncData} {ps : List Str} (F : Fun K x qual st f fd)
    (h : ∀ (kV doc pm : Value) (an : Option Addr) (cdv ct : Value) (us : List Value), us.length = ps.length → bindArgs (PySem.W.fnOf x qual (defArgs st) (defBody st) (defScope st) .none kV doc pm an cdv ct) ⟨us, []⟩ = pure (ps.zip us)) : Binds K fd ps [] := by
  obtain ⟨oc, od, kV, doc, pm, an, cdv, ct, osl, rfl, lk, hcd⟩ := F.ex
  exact .all (h kV doc pm an cdv ct)
theorem fun_mk {x qual : Str} {st : Stmt} {f : Addr} {oc : Value} {od an : Option Addr} {osl : Array (Option Value)} {kV doc pm cdv ct : Value} (l : K.lookup f = some ⟨oc, od, .func (PySem.W.fnOf x qual (defArgs st) (defBody st) (defScope st) .none kV doc pm an cdv ct), osl⟩)
    (c : PySem.W.codeIn K cdv qual = true) (k : PySem.W.keepIn K (.ref f) = true) : Fun K x qual st f (PySem.W.fnOf x qual (defArgs st) (defBody st) (defScope st) .none kV doc pm an cdv ct) := ⟨⟨oc, od, kV, doc, pm, an, cdv, ct, osl, rfl, l, c⟩, k⟩
end
theorem small1000 {n : Nat} (h : n ≤ 1000) : n < sizeLine := Nat.lt_of_le_of_lt h (by decide)
theorem iteF {A B : Prop} (h : B) : if false = true then A else B := by
  rw [if_neg Bool.false_ne_true]
  exact h
theorem iteT {A B : Prop} (h : A) : if true = true then A else B := by
  rw [if_pos rfl]
  exact h
def Same (H H' : Hp) : Prop := ∀ b o, H b = some o → H' b = some o
theorem Same.refl (H : Hp) : Same H H := fun _ _ h => h
theorem Same.trans {H H1 H2 : Hp} (a : Same H H1) (b : Same H1 H2) : Same H H2 := fun c o h => b c o (a c o h)
theorem Same.free {H H' : Hp} (e : Same H H') {l : Addr} (h : H' l = Option.none) : H l = Option.none := by
  cases q : H l with
  | none => rfl
  | some o =>
    rw [e l o q] at h
    cases h
theorem Same.seq {K : PySem.W.Frag} {H H' : Hp} {a : Addr} {xs : List V} (e : Same H H') (h : SqL K H a xs) : SqL K H' a xs := by
  rcases h with (h | ⟨o, h⟩) | h
  · exact .inl (.inl (e _ _ h))
  · exact .inl (.inr ⟨o, e _ _ h⟩)
  · exact .inr h
end L2
set_option maxHeartbeats 4000000
namespace L2
open PySem PySem.Spec PyProof.Rows
theorem closure_aux {env : Env} (body : (Str × NameKind) → List (Str × Addr) → Sem (ForInStep (List (Str × Addr))))
    (hf : ∀ n k acc c, k = NameKind.free → env.cells.lookup n = some c → body (n, k) acc = pure (.yield ((n, c) :: acc)))
    (hn : ∀ n k acc, k ≠ NameKind.free → body (n, k) acc = pure (.yield acc)) :
    ∀ (names : List (Str × NameKind)) (acc : List (Str × Addr)), (∀ y ∈ names, y.2 = .free → ∃ c, env.cells.lookup y.1 = some c) →
      (∀ y c, acc.lookup y = some c → env.cells.lookup y = some c) →
      ∃ cl, forIn names acc body = pure cl ∧ (∀ y c, cl.lookup y = some c → env.cells.lookup y = some c) ∧ (∀ y, (∃ c, acc.lookup y = some c) → ∃ c, cl.lookup y = some c) ∧ ∀ y, (y, NameKind.free) ∈ names → ∃ c, cl.lookup y = some c := by
  intro names
  induction names with
  | nil => exact fun acc _ ha => ⟨acc, rfl, ha, fun _ h => h, fun _ h => by cases h⟩
  | cons p r ih =>
    obtain ⟨n, k⟩ := p
    intro acc h ha
    by_cases hk : k = NameKind.free
    · obtain ⟨c, hc⟩ := h (n, k) List.mem_cons_self hk
      obtain ⟨cl, e, h1, h2, h3⟩ := ih ((n, c) :: acc) (fun y hy => h y (List.mem_cons_of_mem _ hy)) (fun y c' e => by
        rw [List.lookup_cons] at e
        split at e
        · rename_i q
          have q' : y = n := by simpa using q
          subst q'; cases e; exact hc
        · exact ha y c' e)
      refine ⟨cl, ?_, h1, fun y hy => h2 y ?_, fun y hy => ?_⟩
      · rw [List.forIn_cons, hf n k acc c hk hc]
        exact e
      · obtain ⟨c', e'⟩ := hy
        rw [List.lookup_cons]
        split
        · exact ⟨_, rfl⟩
        · exact ⟨_, e'⟩
      · rcases List.mem_cons.mp hy with q | q
        · cases q
          exact h2 _ ⟨c, by rw [List.lookup_cons]; simp⟩
        · exact h3 y q
    · obtain ⟨cl, e, h1, h2, h3⟩ := ih acc (fun y hy => h y (List.mem_cons_of_mem _ hy)) ha
      refine ⟨cl, ?_, h1, h2, fun y hy => ?_⟩
      · rw [List.forIn_cons, hn n k acc hk]
        exact e
      · rcases List.mem_cons.mp hy with q | q
        · cases q; exact absurd rfl hk
        · exact h3 y q
theorem closure_of {sc : Scope} {env : Env} (h : ∀ y ∈ sc.names, y.2 = .free → ∃ c, env.cells.lookup y.1 = some c) :
    ∃ cl, closureFor sc env = pure cl ∧ (∀ y c, cl.lookup y = some c → env.cells.lookup y = some c) ∧ ∀ y, (y, NameKind.free) ∈ sc.names → ∃ c, cl.lookup y = some c := by
  simp only [closureFor]
  obtain ⟨cl, e, h1, _, h3⟩ := closure_aux (env := env) (fun x cs => if (x.2 == NameKind.free) = true then (do let a ← cellOf env x.1; pure (ForInStep.yield ((x.1, a) :: cs))) else pure (ForInStep.yield cs)) (fun n k acc c hk hc => by
      subst hk
      simp only [cellOf, hc, beq_self_eq_true, if_true]; rfl) (fun n k acc hk => by
      have : (k == NameKind.free) = false := by simpa using hk
      simp only [this, Bool.false_eq_true, if_false]) sc.names [] h (fun y c e => by cases e)
  refine ⟨cl, ?_, h1, h3⟩
  exact (congrArg (· >>= fun r => pure r) e).trans rfl
def compCx (X : Cx) (N' : List Str) (sc : Scope) (cl : List (Str × Addr)) (C : Addr) (fp : List Addr) (pins : List (Addr × Obj)) (s : Shared) (H : Hp) : Cx where
  prog := X.prog
  w := X.w
  K := X.K
  mg := X.mg
  base := X.base
  A := X.A
  N := N'
  s₀ := s
  H₀ := H
  env := compEnvC sc cl C X.env
  outer := X.stack
  stack := X.stack
  ex := fp
  fn := fun x => decide (sc.names.lookup x = some .cell)
  calm := X.calm
  pn := X.pn ++ pins
  xe := fun _ _ => False
def PTs (X : Cx) (ifs : List Expr) (t : TT) : Prop :=
  ∀ (pins : List (Addr × Obj)) (s : Shared) (σ : St) (H : Hp) (Q : Bool → Hp → Prop), Inv X pins σ H s → t σ H Q →
    wpAny (model X.prog X.w) X.A (forIn ifs true fun c r => if r = true then do let ok ← isTrue c X.env (eval c X.env); pure (ForInStep.yield ok) else pure (ForInStep.yield r)) (TP X pins σ Q) X.xe s
def tTru : TT := fun _ H Q => Q true H
theorem pts_nil : PTs X [] tTru := fun _ _ _ H _ I h => wpAny_tests_nil ⟨H, I, h⟩
theorem pts_one  (h : PT X c t) : PTs X [c] t := fun pins s σ H Q I q => wpAny_tests_one (h pins s σ H Q I q)
theorem thF {α : Type} {t : Sem α} {Q Q' : α → Shared → Prop} {M : Model} {A : Around} {E : Value → Shared → Prop} {s : Shared} (h : wpAny M A t Q (fun _ _ => False) s) (hQ : ∀ a s, Q a s → Q' a s) : wpAny M A t Q' E s := wpAny_mono h hQ fun _ _ x => x.elim
theorem loop_tests {prog : Program} {w : World} {A : Around} {R : Result → Shared → Prop} {s : Shared} {elt target iter : Expr} {ifs : List Expr} {scope : Scope} {pos : Pos} {it acc : Value} {env : Env} (I : Nat → Shared → Prop)
    (turn : ∀ n s, I n s → wpAny (model prog w) A (pyNext it) (fun r s₁ => match r with
      | none => R (.ok .next) s₁
      | some v => wpAny (model prog w) A (letOwnedTupleGo target it v) (fun _ s₁ => wpAny (model prog w) A (assign target env v) (fun _ s₂ =>
          wpAny (model prog w) A (forIn ifs true fun c r => if r = true then do let ok ← isTrue c env (eval c env); pure (ForInStep.yield ok) else pure (ForInStep.yield r)) (fun ok s₃ =>
            if ok = true then wpAny (model prog w) A (eval elt env) (fun x s₄ =>
              wpAny (model prog w) A (call (.builtin "list.append") [acc, x]) (fun _ s₅ => ∃ m, m < n ∧ I m s₅) (notedBy (model prog w) A env fun e s' => R (.error e) s') s₄) (notedBy (model prog w) A env fun e s' => R (.error e) s') s₃
            else ∃ m, m < n ∧ I m s₃) (notedBy (model prog w) A env fun e s' => R (.error e) s') s₂) (notedBy (model prog w) A env fun e s' => R (.error e) s') s₁) (notedBy (model prog w) A env fun e s' => R (.error e) s') s₁) (notedBy (model prog w) A env fun e s' => R (.error e) s') s)
    (n : Nat) (h : I n s) :
    codeAny (model prog w) A (.compLoop (.ListComp elt [⟨target, iter, ifs, 0⟩] scope pos) 0 it acc env) R s := by
  refine codeAny_loop rfl I (fun n s hI => ?_) n h
  show wpAny _ A ((compTurn (.ListComp elt [⟨target, iter, ifs, 0⟩] scope pos) 0 it acc env).onRaise (fun x => do noteFrame x env; theTreesLotGoes x)) _ _ s
  refine wpAny_noted ?_
  rw [compTurn_list]
  refine wpAny_bind (wpAny_standAt (wpAny_bind (wpAny_mono (turn n s hI) (fun r s₁ h₁ => ?_) fun _ _ h' => h')))
  cases r with
  | none => exact wpAny_pure h₁
  | some v =>
    refine wpAny_bind (wpAny_mono h₁ (fun _ s₁' h₁' => ?_) fun _ _ h' => h')
    refine wpAny_bind (wpAny_mono h₁' (fun _ s₂ h₂ => wpAny_bind (wpAny_mono h₂ (fun ok s₃ h₃ => ?_) fun _ _ h' => h')) fun _ _ h' => h')
    cases ok with
    | false => exact wpAny_pure ⟨rfl, h₃⟩
    | true =>
      exact wpAny_bind (wpAny_bind (wpAny_mono h₃ (fun x s₄ h₄ => wpAny_bind (wpAny_mono h₄ (fun _ s₅ h₅ => wpAny_pure (wpAny_pure ⟨rfl, h₅⟩)) fun _ _ h' => h')) fun _ _ h' => h'))
structure CompOk (X : Cx) (N' : List Str) (k : Nat) (sc : Scope) : Prop where
  calm : X.calm = true
  kind : sc.kind = .function
  nd : X.N.Nodup
  nd' : N'.Nodup
  len : N'.length = X.N.length + k
  cells : ∀ y ∈ sc.names, y.2 = .cell → sc.names.lookup y.1 = some .cell
  names : ∀ y ∈ sc.names, y.2 = .local → sc.names.lookup y.1 = some .local
  old : ∀ i y, i < X.N.length → N'[i]? = some y → (X.N[i]? = some y ∧ sc.names.lookup y ≠ some .local ∧ sc.names.lookup y ≠ some .cell) ∨ sc.names.lookup y = none
  free : ∀ y ∈ sc.names, y.2 = .free → X.env.kindOf y.1 = some .cell ∨ X.env.kindOf y.1 = some .free
theorem cf_ok (lo : Nat) : ∀ (names : List (Str × NameKind)) (h : Heap) (acc : List (Str × Addr)), lo ≤ h.objs.size → (∀ y c, acc.lookup y = some c → lo ≤ c → c < h.objs.size) → (∀ y z c, lo ≤ c → acc.lookup y = some c → acc.lookup z = some c → y = z) →
    (∀ y c, (cellsFrom h.objs.size names acc).lookup y = some c → acc.lookup y = some c ∨ (h.objs.size ≤ c ∧ (pushCells h names).IsCell c none)) ∧ (∀ y, (∃ c, acc.lookup y = some c) → ∃ c, (cellsFrom h.objs.size names acc).lookup y = some c) ∧
    (∀ y, (y, NameKind.cell) ∈ names → ∃ c, (cellsFrom h.objs.size names acc).lookup y = some c ∧ h.objs.size ≤ c) ∧ (∀ y, (y, NameKind.cell) ∉ names → (cellsFrom h.objs.size names acc).lookup y = acc.lookup y) ∧
    ∀ y z c, lo ≤ c → (cellsFrom h.objs.size names acc).lookup y = some c → (cellsFrom h.objs.size names acc).lookup z = some c → y = z := by
  intro names
  induction names with
  | nil => exact fun h acc _ _ inj => ⟨fun _ _ e => .inl e, fun _ e => e, (fun _ e => by cases e), fun _ _ => rfl, inj⟩
  | cons p r ih =>
    obtain ⟨name, kind⟩ := p
    intro h acc hl hb inj
    by_cases hk : kind = .cell
    · subst hk
      have sz : (h.push { cls := .type "cell", data := .cell none }).objs.size = h.objs.size + 1 := Heap.size_push ..
      have lk : ∀ y, List.lookup y ((name, h.objs.size) :: acc) = if y = name then some h.objs.size else acc.lookup y := fun y => by
        rw [List.lookup_cons]
        by_cases q : y = name
        · rw [if_pos q, beq_iff_eq.mpr q]
        · rw [if_neg q, beq_eq_false_iff_ne.mpr q]
      obtain ⟨a1, a2, a3, a4, a5⟩ := ih (h.push { cls := .type "cell", data := .cell none }) ((name, h.objs.size) :: acc) (by omega) (fun y c e q => by
          rw [lk] at e
          rw [sz]
          split at e
          · cases e; exact Nat.lt_succ_self _
          · exact Nat.lt_succ_of_lt (hb y c e q)) (fun y z c q e1 e2 => by
          rw [lk] at e1 e2
          split at e1 <;> split at e2
          · rename_i u v; rw [u, v]
          · cases e1; exact absurd (hb z _ e2 q) (Nat.lt_irrefl _)
          · cases e2; exact absurd (hb y _ e1 q) (Nat.lt_irrefl _)
          · exact inj y z c q e1 e2)
      rw [sz] at a1 a2 a3 a4 a5
      have e0 : cellsFrom h.objs.size ((name, NameKind.cell) :: r) acc = cellsFrom (h.objs.size + 1) r ((name, h.objs.size) :: acc) := rfl
      have e1 : pushCells h ((name, NameKind.cell) :: r) = pushCells (h.push { cls := .type "cell", data := .cell none }) r := rfl
      rw [e0, e1]
      have b1 : ∀ y c, (cellsFrom (h.objs.size + 1) r ((name, h.objs.size) :: acc)).lookup y = some c → acc.lookup y = some c ∨ (h.objs.size ≤ c ∧ (pushCells (h.push { cls := .type "cell", data := .cell none }) r).IsCell c none) := fun y c e => by
        rcases a1 y c e with q | ⟨q1, q2⟩
        · rw [lk] at q
          split at q
          · cases q
            exact .inr ⟨Nat.le_refl _, _, pushCells_keeps r _ _ _ (Heap.get?_push_size _ rfl), rfl⟩
          · exact .inl q
        · exact .inr ⟨by omega, q2⟩
      refine ⟨b1, fun y e => a2 y ?_, fun y e => ?_, fun y e => ?_, a5⟩
      · obtain ⟨c, e⟩ := e
        rw [lk]
        split
        · exact ⟨_, rfl⟩
        · exact ⟨_, e⟩
      · rcases List.mem_cons.mp e with q | q
        · cases q
          obtain ⟨c, q⟩ := a2 name ⟨h.objs.size, by rw [lk, if_pos rfl]⟩
          refine ⟨c, q, ?_⟩
          rcases a1 name c q with z | z
          · rw [lk, if_pos rfl] at z; cases z; exact Nat.le_refl _
          · omega
        · obtain ⟨c, q1, q2⟩ := a3 y q
          exact ⟨c, q1, by omega⟩
      · rw [a4 y fun z => e (List.mem_cons_of_mem _ z), lk, if_neg fun z => e (by rw [z]; exact List.mem_cons_self)]
    · have hb' : (kind == NameKind.cell) = false := beq_eq_false_iff_ne.mpr hk
      have e0 : cellsFrom h.objs.size ((name, kind) :: r) acc = cellsFrom h.objs.size r acc := by rw [cellsFrom, hb']; rfl
      have e1 : pushCells h ((name, kind) :: r) = pushCells h r := by rw [pushCells, hb']; rfl
      rw [e0, e1]
      obtain ⟨a1, a2, a3, a4, a5⟩ := ih h acc hl hb inj
      refine ⟨a1, a2, fun y e => ?_, fun y e => a4 y fun z => e (List.mem_cons_of_mem _ z), a5⟩
      rcases List.mem_cons.mp e with q | q
      · cases q; exact absurd rfl hk
      · exact a3 y q
theorem new_env {M : Model} {A : Around} {E : Value → Shared → Prop} {s : Shared} {sc : Scope} {gl : Addr} {cl : List (Str × Addr)} {qual : Str} {func : Option Addr} {code : Value} {env : Env} {bl : Addr} {Q : Env → Shared → Prop}
    (hQ : Q (newEnv sc s.heap.objs.size gl (cellsFrom (s.heap.objs.size + 1) sc.names cl) qual func code (some env) bl) { s with heap := pushCells (s.heap.push { cls := .type "dict", data := .dict #[] }) sc.names }) :
    wpAny M A (newFunctionEnv sc gl cl [] qual func code (some env) bl) Q E s := by
  simp only [newFunctionEnv, Option.isSome_some, if_true]
  refine wpAny_bind (wpAny_alloc (wpAny_bind (wpAny_layCells _ (fun name kind cells => by cases hkc : kind == NameKind.cell <;> simp [hkc]) _ _ _ _ ?_)))
  rw [show ({ s with heap := s.heap.push { cls := .type "dict", data := .dict #[] } } : Shared).heap.objs.size = s.heap.objs.size + 1 from Heap.size_push ..]
  rw [List.forIn_nil]
  exact wpAny_bind (wpAny_pure (wpAny_pure hQ))
structure ClOk (X : Cx) (sc : Scope) (cl : List (Str × Addr)) (n : Nat) (h : Heap) : Prop where
  old : ∀ y c, cl.lookup y = some c → X.env.cells.lookup y = some c ∨ (n < c ∧ ∃ v, h.IsCell c v)
  free : ∀ y, sc.names.lookup y = some .free → ∃ c, cl.lookup y = some c ∧ X.env.cells.lookup y = some c
  cell : ∀ y, sc.names.lookup y = some .cell → ∃ c, cl.lookup y = some c ∧ n < c
  inj : ∀ y z c, cl.lookup y = some c → cl.lookup z = some c → y = z
def tCompT (J : It) (wg : TG) (tt : TT) (te : TE) (W : Nat → Nat → List V → St → Hp → Prop) (i m : Nat) (ys : List V) (σ : St) (H : Hp) : Prop :=
  ∀ x H2, J.yld i H x H2 → wg x σ H2 fun σ3 H3 => tt σ3 H3 fun b H4 => if b = true then te σ3 H4 fun v H5 => ys.length < sizeLine ∧ ∃ m', m' < m ∧ W (i + 1) m' (ys ++ [v]) σ3 H5
    else ∃ m', m' < m ∧ W (i + 1) m' ys σ3 H4
def tCompW (k : Nat) (J : It) (wg : TG) (tt : TT) (te : TE) (σ : St) (H : Hp) (Q : VK) : Prop :=
  ∃ W : Nat → Nat → List V → St → Hp → Prop, (∃ m, W 0 m [] (σ ++ List.replicate k none) H) ∧ ∀ i m ys σ' H', W i m ys σ' H' →
    (J.stop i H' ∧ ∀ D, H' D = none → Q (.ref D) (upd H' D (.lst ys))) ∨ (J.go i H' ∧ tCompT J wg tt te W i m ys σ' H')
def tComp (k : Nat) (wi : TI) (wg : TG) (tt : TT) (te : TE) : TE := fun σ H Q => wi σ H fun J H1 => tCompW k J wg tt te σ H1 Q
theorem lookup_relabel {env : Env} : ∀ {names : List (Str × NameKind)} {x : Str} {k : NameKind},
    (names.map fun (n, k) => if (k == NameKind.free && env.scope.kind == .function && env.kindOf n == some .cell) then (n, NameKind.cell) else (n, k)).lookup x = some k →
      (names.lookup x = some k) ∨ (k = .cell ∧ names.lookup x = some .free) := by
  intro names x k
  induction names with
  | nil => intro h; cases h
  | cons q r ih =>
    intro h
    obtain ⟨n, k'⟩ := q
    have h' : List.lookup x ((if (k' == NameKind.free && env.scope.kind == .function && env.kindOf n == some .cell) = true then (n, NameKind.cell) else (n, k')) :: (r.map fun (n, k) => if (k == NameKind.free && env.scope.kind == .function && env.kindOf n == some .cell) then (n, NameKind.cell) else (n, k))) = some k := h
    cases hx : x == n with
    | true =>
      by_cases hc : (k' == NameKind.free && env.scope.kind == .function && env.kindOf n == some .cell) = true
      · rw [if_pos hc] at h'
        simp only [List.lookup_cons, hx] at h' ⊢
        cases h'
        have : k' = .free := by
          rw [Bool.and_eq_true, Bool.and_eq_true] at hc
          simpa using hc.1.1
        subst this
        exact .inr ⟨rfl, rfl⟩
      · rw [if_neg hc] at h'
        simp only [List.lookup_cons, hx] at h' ⊢
        exact .inl h'
    | false =>
      by_cases hc : (k' == NameKind.free && env.scope.kind == .function && env.kindOf n == some .cell) = true
      · rw [if_pos hc] at h'
        simp only [List.lookup_cons, hx] at h' ⊢
        exact ih h'
      · rw [if_neg hc] at h'
        simp only [List.lookup_cons, hx] at h' ⊢
        exact ih h'
section
variable {X : Cx} {elt iter : Expr} {ifs : List Expr} {tg : Expr} {N' : List Str} {sc : Scope} {pos : Pos} {wi : TI} {wg : TG} {tt : TT} {te : TE} {k : Nat}
theorem comp_inv {pins : List (Addr × Obj)} {σ : St} {H : Hp} {s s' : Shared} {cl : List (Str × Addr)} {fp : List Addr} {m : Str → Option Value} (O : CompOk X N' k sc) (I : Inv X pins σ H s) (cK : ClOk X sc cl s.heap.objs.size s'.heap)
    (hf : ∀ b ∈ fp, FpOk X pins H b) (hlt : ∀ b ∈ fp, b < s.heap.objs.size) (hos : s'.os = s.os) (hg : s'.gens = s.gens) (hk : ∀ b o, s.heap.get? b = some o → s'.heap.get? b = some o) (hns : s'.heap.Ns s.heap.objs.size m) :
    Inv (compCx X N' sc cl s.heap.objs.size fp pins s H) [] (σ ++ List.replicate k none) H s' := by
  have stk : ∀ b, b ≠ X.env.locals → b ∉ X.fs → b ∉ frs X.stack := fun b h1 h2 hb => by
    rcases List.mem_cons.mp (I.stkSub b hb) with z | z
    · exact h1 z
    · exact h2 z
  have hr : ∀ {y : Str}, (relabel sc X.env).names.lookup y = some .cell ∨ (relabel sc X.env).names.lookup y = some .free → sc.names.lookup y = some .free ∨ sc.names.lookup y = some .cell := fun {y} h => by
    rcases h with h | h
    · rcases lookup_relabel h with q | q
      · exact .inr q
      · exact .inl q.2
    · rcases lookup_relabel h with q | q
      · exact .inl q
      · exact .inl q.2
  refine ⟨⟨I.ok.mod, O.kind, I.ok.glob, I.ok.blt, Nat.le_refl _, cK.inj, fun y hy => ?_, fun y c z e => ?_, I.ok.hd, I.ok.frames, .inl rfl, fun b hb => ?_, I.bs, Nat.le_trans I.ok.bsz I.sz, fun b o e hb => ?_, fun b hb => ?_, I.stack, I.stkFree⟩,
    hos, ?_, Un.kept hk, ⟨m, hns, fun i y v h1 h2 h3 => ?_⟩, fun y c h => ?_, I.hok.fresh (Nat.le_refl _), fun y c h => (cK.old y c h).elim (I.freeC y c) fun z => I.hok.fresh (Nat.le_of_lt z.1), fun p hp => ?_, I.hok.kept hk, ?_⟩
  · rcases hr hy with q | q
    · obtain ⟨c, e, _⟩ := cK.free y q; exact ⟨c, e⟩
    · obtain ⟨c, e, _⟩ := cK.cell y q; exact ⟨c, e⟩
  · obtain ⟨c', e', q⟩ := cK.cell y (of_decide_eq_true z)
    have e : cl.lookup y = some c := e
    rw [e'] at e; cases e
    exact Nat.le_of_lt q
  · have q := hf b hb
    exact ⟨Nat.ne_of_lt (hlt b hb), fun z c e => (cK.old z c e).elim (q.2.2.2.2.1 z c) fun w => Nat.ne_of_gt (Nat.lt_trans (hlt b hb) w.1)⟩
  · have hb' : b ∈ fp := hb
    rcases (hf b hb').2.2.2.1 with z | z
    · exact I.ok.noex b o e z
    · exact absurd (Nat.lt_of_lt_of_le (Heap.lt_size (I.ok.bs b o e).1) z) (Nat.lt_irrefl _)
  · exact stk b (hf b hb).2.1 (hf b hb).2.2.1
  · rw [hg]; exact I.bare
  · have hl := I.len
    have hi : i < X.N.length := by
      by_cases hi : i < X.N.length
      · exact hi
      · rw [List.getElem?_append_right (by omega)] at h2
        have := List.getElem?_replicate (a := (none : Option V)) (n := k) (i := i - σ.length)
        rw [this] at h2
        split at h2 <;> cases h2
    have h1' : X.N[i]? = some y ∧ sc.names.lookup y ≠ some .local ∧ sc.names.lookup y ≠ some .cell := by
      rcases O.old i y hi h1 with q | q
      · exact q
      · have no : ∀ kk, (relabel sc X.env).names.lookup y ≠ some kk := fun kk z => by
          rcases lookup_relabel z with w | w
          · rw [q] at w; cases w
          · rw [q] at w; cases w.2
        rcases h3 with h3 | h3 | h3
        · exact absurd h3 (no _)
        · exact absurd h3 (no _)
        · exact absurd h3 (no _)
    obtain ⟨h1', h1n, h1c⟩ := h1'
    have h2' : σ[i]? = some (some v) := by
      rw [List.getElem?_append_left (by omega)] at h2
      exact h2
    have key : sc.names.lookup y = some .free ∧ ((relabel sc X.env).names.lookup y = some .cell ∨ (relabel sc X.env).names.lookup y = some .free) := by
      rcases h3 with h3 | h3 | h3
      · rcases lookup_relabel h3 with q | q
        · exact absurd q h1n
        · cases q.1
      · exact ⟨(hr (.inl h3)).resolve_right h1c, .inl h3⟩
      · exact ⟨(hr (.inr h3)).resolve_right h1c, .inr h3⟩
    obtain ⟨q, kd⟩ := key
    have mem := PySem.mem_of_lookup q
    have kx := O.free _ mem rfl
    obtain ⟨m0, hn, hl'⟩ := I.loc
    obtain ⟨u, r, l⟩ := hl' i y v h1' h2' (by rcases kx with z | z; exact .inr (.inl z); exact .inr (.inr z))
    rcases l with ⟨l, _⟩ | ⟨_, c, e, z⟩
    · rcases kx with z | z
      · rw [l] at z; cases z
      · rw [l] at z; cases z
    · obtain ⟨c', e', e2⟩ := cK.free y q
      rw [e] at e2; cases e2
      obtain ⟨o, ho, hd⟩ := z
      exact ⟨u, r, .inr ⟨kd, c, e', o, hk _ _ ho, hd⟩⟩
  · rcases cK.old y c h with z | z
    · obtain ⟨v, o, ho, hd⟩ := I.cell y c z
      exact ⟨v, o, hk _ _ ho, hd⟩
    · exact z.2
  · have hp' : p ∈ X.pn ++ pins := by
      rcases List.mem_append.mp hp with z | z
      · exact z
      · cases z
    obtain ⟨e, n, ne, nf, d⟩ := I.pin p hp'
    exact ⟨hk _ _ e, n, Nat.ne_of_lt (Heap.lt_size e), stk p.1 ne nf, d⟩
  · show (σ ++ List.replicate k none).length = N'.length
    rw [List.length_append, List.length_replicate, I.len, O.len]
theorem comp_back {σ σ' : St} {H H' : Hp} {s s1 : Shared} {cl : List (Str × Addr)} {C : Addr} (I : Inv X pins σ H s) (hf : ∀ b ∈ fp, FpOk X pins H b)
    (J : Inv (compCx X N' sc cl C fp pins s H) [] σ' H' s1) : Inv X pins σ H' s1 :=
  I.call' (ch := fp) J.os J.base J.hok J.bare fun b hb => ⟨(hf b hb).2.2.2.1, (hf b hb).2.1, (hf b hb).2.2.2.2.1, (hf b hb).2.2.2.2.2⟩
theorem Inv.track   {o : HO} (I : Inv X pins σ H s) (hn : H D = none) (hL : D ≠ X.env.locals) (h1 : D ∈ X.ex ∨ X.s₀.heap.objs.size ≤ D) (h2 : ∀ x c, X.env.cells.lookup x = some c → c ≠ D) (h3 : ∀ p ∈ X.pn ++ pins, p.1 ≠ D)
    (ok : ObjOk X.prog X.w (upd H D o) s.heap D o) : Inv X pins σ (upd H D o) s := by
  have ne : ∀ b u, H b = some u → b ≠ D := fun b u e => ne_of_none e hn
  exact I.step (g' := s.gens) (d' := s.drawn) (t' := s.toks) (ch := [D]) (h' := s.heap) (fun b hb => by
      have e : b = D := by simpa using hb
      subst e
      exact ⟨h1, hL, h2, h3⟩) (fun b o _ _ _ e _ => e) (fun b o _ _ _ e _ => ⟨o.slots, e⟩) (fun b o hc e n => by rw [upd_ne (fun z => hc (by simp [z]))]; exact n) (fun b o _ e => ⟨o, e⟩)
    (fun b xs e => by rw [upd_ne (ne b _ e)]; exact e) (fun b o u e => by rw [upd_ne (ne b _ e)]; exact e) (fun b ps e => ⟨#[], by rw [upd_ne (ne b _ e), e]; simp⟩) (fun m hm => hm) (fun b u e => by
      by_cases hb : b = D
      · subst hb; rw [upd_same] at e; cases e; exact ok
      · rw [upd_ne hb] at e
        exact (I.hok b u e).stay (fun c v _ q => q) (fun c q => by rw [upd_ne (ne c _ q)]; exact q) fun c xs q => by rw [upd_ne (ne c _ q)]; exact q) I.bare
theorem comp_loop {pins : List (Addr × Obj)} {σ : St} {H : Hp} {s s' : Shared} {cl : List (Str × Addr)} {fp : List Addr} {m : Str → Option Value} {it D : Addr} {tn : Nat → Heap → Prop} {J : It} {R : Result → Shared → Prop} {Qd : List V → Hp → Prop} (O : CompOk X N' k sc)
    (I : Inv X pins σ H s) (cK : ClOk X sc cl s.heap.objs.size s'.heap) (hf : ∀ b ∈ D :: fp, FpOk X pins H b) (hlt : ∀ b ∈ D :: fp, b < s.heap.objs.size)
    (hos : s'.os = s.os) (hg : s'.gens = s.gens) (hk : ∀ b o, s.heap.get? b = some o → s'.heap.get? b = some o) (hns : s'.heap.Ns s.heap.objs.size m)
    (T : Turn X.prog X.w X.K tg J fp it tn) (hDf : D ∉ fp) (st : tn 0 s'.heap) (hD : s'.heap.PlainList D #[])
    (pg : PG (compCx X N' sc cl s.heap.objs.size (D :: fp) pins s H) tg wg) (hq : PTs (compCx X N' sc cl s.heap.objs.size (D :: fp) pins s H) ifs tt) (he : PE (compCx X N' sc cl s.heap.objs.size (D :: fp) pins s H) elt te)
    (W : Nat → Nat → List V → St → Hp → Prop) (m0 : Nat) (w0 : W 0 m0 [] (σ ++ List.replicate k none) H) (turn : ∀ i m ys σ' H', W i m ys σ' H' → (J.stop i H' ∧ Qd ys H') ∨ (J.go i H' ∧ tCompT J wg tt te W i m ys σ' H'))
    (fin : ∀ s1 H1 σ1 (ys : List V) (its : List Value), Inv (compCx X N' sc cl s.heap.objs.size (D :: fp) pins s H) [] σ1 H1 s1 → H1 D = none → s1.heap.PlainList D its.toArray → Vals ys its → ys.length ≤ sizeLine → Qd ys H1 → R (.ok .next) s1) :
    codeAny (model X.prog X.w) X.A (.compLoop (.ListComp elt [⟨tg, iter, ifs, 0⟩] sc pos) 0 (.ref it) (.ref D) (compEnvC sc cl s.heap.objs.size X.env)) R s' := by
  have I0 : Inv (compCx X N' sc cl s.heap.objs.size (D :: fp) pins s H) [] (σ ++ List.replicate k none) H s' := comp_inv O I cK hf hlt hos hg hk hns
  have stk : ∀ b, b ≠ X.env.locals → b ∉ X.fs → b ∉ frs X.stack := fun b h1 h2 hb => by
    rcases List.mem_cons.mp (I.stkSub b hb) with z | z
    · exact h1 z
    · exact h2 z
  have stat : ∀ {H' : Hp}, (∀ b ∈ D :: fp, H' b = none) → ∀ b ∈ D :: fp, FpOk (compCx X N' sc cl s.heap.objs.size (D :: fp) pins s H) [] H' b := fun hn b hb =>
    ⟨hn b hb, Nat.ne_of_lt (hlt b hb), stk b (hf b hb).2.1 (hf b hb).2.2.1, .inl hb, fun z c e => (cK.old z c e).elim ((hf b hb).2.2.2.2.1 z c) fun w => Nat.ne_of_gt (Nat.lt_trans (hlt b hb) w.1), fun p hp => by
      have hp' : p ∈ X.pn ++ pins := by
        rcases List.mem_append.mp hp with z | z
        · exact z
        · cases z
      exact (hf b hb).2.2.2.2.2 p hp'⟩
  have statF : ∀ {H' : Hp}, (∀ b ∈ D :: fp, H' b = none) → ∀ b ∈ fp, FpOk (compCx X N' sc cl s.heap.objs.size (D :: fp) pins s H) [] H' b := fun hn b hb => stat hn b (List.mem_cons_of_mem _ hb)
  refine loop_tests (fun kk s1 => ∃ i ys its σ' H', Inv (compCx X N' sc cl s.heap.objs.size (D :: fp) pins s H) [] σ' H' s1 ∧ tn i s1.heap ∧ (∀ b ∈ D :: fp, H' b = none) ∧ s1.heap.PlainList D its.toArray ∧ Vals ys its ∧ ys.length ≤ sizeLine ∧ W i kk ys σ' H') ?_ m0 ⟨0, [], [], σ ++ List.replicate k none, H, I0, st, fun b hb => (hf b hb).1, hD, .nil, Nat.zero_le _, w0⟩
  rintro kk s3 ⟨i, ys, its, σ3, H3, I3, st3, fr3, pl3, rv3, hz3, w3⟩
  rcases turn i kk ys σ3 H3 w3 with ⟨stop, qn⟩ | ⟨go, step⟩
  · have J3 := I3.pinned (fp := [D]) (fun b hb => by
      have e : b = D := by simpa using hb
      subst e
      exact stat fr3 b List.mem_cons_self) (fun b hb => by
      have e : b = D := by simpa using hb
      subst e
      obtain ⟨n, e⟩ := pl3
      exact ⟨_, e, fun v z => by cases z⟩)
    have fpo : ∀ b ∈ fp, FpOk (compCx X N' sc cl s.heap.objs.size (D :: fp) pins s H) ([] ++ pinsAt [D] s3.heap) H3 b := fun b hb => by
      obtain ⟨a1, a2, a3, a4, a5, a6⟩ := statF fr3 b hb
      refine ⟨a1, a2, a3, a4, a5, fun p hp => ?_⟩
      rcases List.mem_append.mp hp with z | z
      · exact a6 p (List.mem_append_left _ z)
      · have z' : p ∈ pinsAt [D] s3.heap := by simpa using z
        have := (of_pinsAt z').1
        have e : p.1 = D := by simpa using this
        rw [e]
        intro z2
        subst z2
        exact hDf hb
    refine thn (T.done (compCx X N' sc cl s.heap.objs.size (D :: fp) pins s H) rfl rfl rfl O.calm i _ s3 σ3 H3 _ J3 fpo st3 stop) fun r s4 ⟨hr, I4⟩ => ?_
    subst hr
    obtain ⟨n, e⟩ := pl3
    have e4 := (I4.pin (D, _) (List.mem_append_right _ (List.mem_append_right _ (mem_pinsAt (by simp) e)))).1
    exact fin s4 H3 σ3 ys its I4.unpinned (fr3 D List.mem_cons_self) ⟨n, e4⟩ rv3 hz3 qn
  · have J3 := I3.pinned (fp := [D]) (fun b hb => by
      have e : b = D := by simpa using hb
      subst e
      exact stat fr3 b List.mem_cons_self) (fun b hb => by
      have e : b = D := by simpa using hb
      subst e
      obtain ⟨n, e⟩ := pl3
      exact ⟨_, e, fun v z => by cases z⟩)
    have fpo : ∀ {H' : Hp}, (∀ b ∈ fp, H' b = none) → ∀ b ∈ fp, FpOk (compCx X N' sc cl s.heap.objs.size (D :: fp) pins s H) ([] ++ pinsAt [D] s3.heap) H' b := fun {H'} hn b hb => by
      obtain ⟨_, a2, a3, a4, a5, a6⟩ := statF fr3 b hb
      refine ⟨hn b hb, a2, a3, a4, a5, fun p hp => ?_⟩
      rcases List.mem_append.mp hp with z | z
      · exact a6 p (List.mem_append_left _ z)
      · have z' : p ∈ pinsAt [D] s3.heap := by simpa using z
        have := (of_pinsAt z').1
        have e : p.1 = D := by simpa using this
        rw [e]
        intro z2
        subst z2
        exact hDf hb
    refine thn (T.item (compCx X N' sc cl s.heap.objs.size (D :: fp) pins s H) rfl rfl rfl O.calm i _ s3 σ3 H3 _ J3 (fpo fun b hb => fr3 b (List.mem_cons_of_mem _ hb)) st3 go) fun r s4 ⟨u, hr, h4⟩ => ?_
    subst hr
    refine thn h4 fun _ s5 ⟨y, H5, I5, r5, y5, st5, fr5⟩ => ?_
    have I5' := I5.pinned (fpo fr5) (T.obj _ _ st5)
    have step' := step y H5 y5
    obtain ⟨n3, e3⟩ := pl3
    have dpin : ∀ {σ7 : St} {H7 : Hp} {s7 : Shared}, Inv (compCx X N' sc cl s.heap.objs.size (D :: fp) pins s H) ([] ++ pinsAt [D] s3.heap ++ pinsAt fp s5.heap) σ7 H7 s7 → s7.heap.get? D = some { cls := .type "list", data := .seq its.toArray n3 } ∧ H7 D = none := fun {σ7 H7 s7} I7 => by
      have q := I7.pin (D, _) (List.mem_append_right _ (List.mem_append_left _ (List.mem_append_right _ (mem_pinsAt (by simp) e3))))
      exact ⟨q.1, q.2.1⟩
    have tkeep : ∀ {σ7 : St} {H7 : Hp} {s7 : Shared}, Inv (compCx X N' sc cl s.heap.objs.size (D :: fp) pins s H) ([] ++ pinsAt [D] s3.heap ++ pinsAt fp s5.heap) σ7 H7 s7 → tn (i + 1) s7.heap ∧ ∀ b ∈ D :: fp, H7 b = none := fun {σ7 H7 s7} I7 => by
      refine ⟨T.keep _ _ _ st5 fun b hb o e => (I7.pin (b, o) (List.mem_append_right _ (List.mem_append_right _ (mem_pinsAt hb e)))).1, fun b hb => ?_⟩
      rcases List.mem_cons.mp hb with rfl | hb
      · exact (dpin I7).2
      · obtain ⟨o, e, d⟩ := T.obj _ _ st5 b hb
        exact (I7.pin (b, o) (List.mem_append_right _ (List.mem_append_right _ (mem_pinsAt hb e)))).2.1
    refine thF (pg _ s5 σ3 H5 y u _ I5' r5 step') fun _ s6 ⟨σ6, H6, I6, step6⟩ => ?_
    refine thF (hq _ s6 _ H6 _ I6 step6) fun b s7 ⟨H7, I7, q7⟩ => ?_
    cases b with
    | false =>
      simp only [Bool.false_eq_true, if_false] at q7 ⊢
      obtain ⟨m', hm, w8⟩ := q7
      obtain ⟨t8, f8⟩ := tkeep I7
      exact ⟨m', hm, i + 1, ys, its, _, H7, I7.unpinned.unpinned, t8, f8, ⟨n3, (dpin I7).1⟩, rv3, hz3, w8⟩
    | true =>
      simp only [if_true] at q7 ⊢
      refine thF (he _ s7 _ H7 _ I7 q7) fun v s8 ⟨vv, H8, I8, r8, hz, m', hm, w8⟩ => ?_
      have hlen := rv3.length
      refine wpAny_list_append_plain ⟨n3, (dpin I8).1⟩ (fun h9 pl9 sb9 => ?_) (by rw [List.size_toArray]; omega)
      obtain ⟨t8, f8⟩ := tkeep I8
      have st8 := stat f8 D List.mem_cons_self
      have I9 : Inv (compCx X N' sc cl s.heap.objs.size (D :: fp) pins s H) [] σ6 H8 { s8 with heap := h9 } :=
        I8.unpinned.unpinned.turned (t' := s8.toks) (fun b o hb e => (sb9.2 b hb).trans e) st8.1 st8.2.1 st8.2.2.2.1 st8.2.2.2.2.1 st8.2.2.2.2.2
      refine ⟨m', hm, i + 1, ys ++ [vv], its ++ [v], _, H8, I9, T.keep _ _ _ t8 fun b hb o e => (sb9.2 b (fun z => hDf (z ▸ hb))).trans e, f8, by simpa using pl9, rv3.append (.cons r8 .nil), ?_, w8⟩
      rw [List.length_append, List.length_singleton]
      omega
theorem comp_block {E : Value → Shared → Prop} {pins : List (Addr × Obj)} {σ : St} {H : Hp} {s : Shared} {cl : List (Str × Addr)} {fp : List Addr} {it : Addr} {tn : Nat → Heap → Prop} {J : It} {RR : Value → Addr → Result → Shared → Prop} {Qd : V → Hp → Prop} (O : CompOk X N' k sc)
    (I : Inv X pins σ H s) (hcl1 : ∀ y c, cl.lookup y = some c → X.env.cells.lookup y = some c) (hcl2 : ∀ y, (y, NameKind.free) ∈ sc.names → ∃ c, cl.lookup y = some c) (hf : ∀ b ∈ fp, FpOk X pins H b)
    (T : Turn X.prog X.w X.K tg J fp it tn) (st : tn 0 s.heap)
    (hg : ∀ cl C fp pins s H, PG (compCx X N' sc cl C fp pins s H) tg wg) (hq : ∀ cl C fp pins s H, PTs (compCx X N' sc cl C fp pins s H) ifs tt) (he : ∀ cl C fp pins s H, PE (compCx X N' sc cl C fp pins s H) elt te)
    (turn : tCompW k J wg tt te σ H Qd)
    (fin : ∀ D C s1 H1 m, Inv X pins σ H1 s1 → s1.heap.Ns C m → H1 C = none → C ≠ X.env.locals → (X.s₀.heap.objs.size ≤ C) → (∀ z c, X.env.cells.lookup z = some c → c ≠ C) → (∀ p ∈ X.pn ++ pins, p.1 ≠ C) → Qd (.ref D) H1 → RR (.ref D) C (.ok .next) s1) :
    wpAny (model X.prog X.w) X.A (newList []) (fun acc s₃ => wpAny (model X.prog X.w) X.A (newFunctionEnv sc X.env.globals cl [] X.env.qual none .none (some X.env)) (fun cenv s₄ =>
      codeAny (model X.prog X.w) X.A (.compStart (.ListComp elt [⟨tg, iter, ifs, 0⟩] sc pos) 0 (.ref it) acc { cenv with scope := relabel sc X.env }) (RR acc cenv.locals) s₄) E s₃) E s := by
  refine wpAny_newObj_type (new_env ?_)
  dsimp only
  have hD := I.hok.fresh (Nat.le_refl s.heap.objs.size)
  have I3 : Inv X pins σ H { s with heap := s.heap.push { cls := .type "list", dict := none, data := .seq ([] : List Value).toArray } } :=
    I.kept (t' := s.toks) (fun b u e => Heap.get?_push_of_some _ e)
  have fpl : ∀ b ∈ fp, b < s.heap.objs.size := fun b hb => by
    obtain ⟨o, e, _⟩ := T.obj _ _ st b hb
    exact Heap.lt_size e
  have fD : FpOk X pins H s.heap.objs.size := I.fpOk (Nat.le_refl _) hD
  have hf3 : ∀ b ∈ s.heap.objs.size :: fp, FpOk X pins H b := fun b hb => by
    rcases List.mem_cons.mp hb with rfl | hb
    · exact fD
    · exact hf b hb
  have eD : (s.heap.push { cls := .type "list", dict := none, data := .seq ([] : List Value).toArray }).get? s.heap.objs.size = some { cls := .type "list", dict := none, data := .seq ([] : List Value).toArray } := Heap.get?_push_size _ rfl
  generalize hH2 : s.heap.push { cls := .type "list", dict := none, data := .seq ([] : List Value).toArray } = H2 at I3 eD ⊢
  have hC : H2.objs.size = s.heap.objs.size + 1 := by rw [← hH2, Heap.size_push]
  have sz2 : (H2.push { cls := .type "dict", data := .dict #[] }).objs.size = H2.objs.size + 1 := Heap.size_push ..
  obtain ⟨a1, a2, a3, a4, a5⟩ := cf_ok H2.objs.size sc.names (H2.push { cls := .type "dict", data := .dict #[] }) cl (by omega) (fun y c e q => by
    obtain ⟨v, z⟩ := I3.cell y c (hcl1 y c e)
    exact Nat.lt_of_lt_of_le z.lt (by rw [sz2]; exact Nat.le_succ _)) (fun y z c q e1 e2 => I3.ok.inj y z c (hcl1 _ _ e1) (hcl1 _ _ e2))
  rw [sz2] at a1 a2 a3 a4 a5
  generalize hcl' : cellsFrom (H2.objs.size + 1) sc.names cl = cl' at a1 a2 a3 a4 a5 ⊢
  have old3 : ∀ b o, H2.get? b = some o → (pushCells (H2.push { cls := .type "dict", data := .dict #[] }) sc.names).get? b = some o := fun b o e => pushCells_keeps _ _ _ _ (Heap.get?_push_of_some _ e)
  have hns₁ : (pushCells (H2.push { cls := .type "dict", data := .dict #[] }) sc.names).Ns H2.objs.size (fun _ => none) := (Heap.Ns.new H2 (.type "dict")).keeps (pushCells_keeps _ _)
  have cK : ClOk X sc cl' H2.objs.size (pushCells (H2.push { cls := .type "dict", data := .dict #[] }) sc.names) := by
    have fr : ∀ y, sc.names.lookup y = some .free → ∃ c, cl'.lookup y = some c ∧ X.env.cells.lookup y = some c := fun y e => by
      obtain ⟨c, q⟩ := hcl2 y (PySem.mem_of_lookup e)
      refine ⟨c, ?_, hcl1 y c q⟩
      rw [a4 y fun z => by have := O.cells _ z rfl; rw [e] at this; cases this]
      exact q
    have ol : ∀ y c, cl'.lookup y = some c → X.env.cells.lookup y = some c ∨ (H2.objs.size < c ∧ ∃ v, (pushCells (H2.push { cls := .type "dict", data := .dict #[] }) sc.names).IsCell c v) := fun y c e => by
      rcases a1 y c e with z | ⟨z1, z2⟩
      · exact .inl (hcl1 y c z)
      · exact .inr ⟨by omega, none, z2⟩
    refine ⟨ol, fr, fun y e => ?_, fun y z c e1 e2 => ?_⟩
    · obtain ⟨c, q1, q2⟩ := a3 y (PySem.mem_of_lookup e)
      exact ⟨c, q1, by omega⟩
    · by_cases hc : H2.objs.size ≤ c
      · exact a5 y z c hc e1 e2
      · rcases ol y c e1 with q | q
        · rcases ol z c e2 with r | r
          · exact I3.ok.inj y z c q r
          · omega
        · omega
  generalize pushCells (H2.push { cls := .type "dict", data := .dict #[] }) sc.names = h₁ at *
  have old2 : ∀ b o, s.heap.get? b = some o → H2.get? b = some o := fun b o e => hH2 ▸ Heap.get?_push_of_some _ e
  obtain ⟨W, ⟨m0, w0⟩, tr⟩ := turn
  have st1 : tn 0 h₁ := T.keep _ _ _ st fun b _ o e => old3 b o (old2 b o e)
  have loop : codeAny (model X.prog X.w) X.A (.compLoop (.ListComp elt [⟨tg, iter, ifs, 0⟩] sc pos) 0 (.ref it) (.ref s.heap.objs.size) (compEnvC sc cl' H2.objs.size X.env)) (RR (.ref s.heap.objs.size) H2.objs.size)
      { s with heap := h₁ } := by
    refine comp_loop (s := { s with heap := H2 }) (s' := { s with heap := h₁ }) (Qd := fun ys H' => ∀ D, H' D = none → Qd (.ref D) (upd H' D (.lst ys))) O I3 cK hf3 (fun b hb => ?_) rfl rfl old3 hns₁ T (fun z => Nat.lt_irrefl _ (fpl _ z)) st1 ⟨0, old3 _ _ eD⟩ (hg _ _ _ _ _ _) (hq _ _ _ _ _ _) (he _ _ _ _ _ _) W m0 w0 tr ?_
    · show b < H2.objs.size
      rw [hC]
      rcases List.mem_cons.mp hb with hb | hb
      · rw [hb]; exact Nat.lt_succ_self _
      · exact Nat.lt_succ_of_lt (fpl b hb)
    intro s1 H1 σ1 ys its J1 hD1 pl1 rv1 hz1 q1
    obtain ⟨m, hn1, _⟩ := J1.loc
    obtain ⟨n1, e1⟩ := pl1
    have I4 := (comp_back I3 hf3 J1).track (D := s.heap.objs.size) (o := .lst ys) hD1 fD.2.1 fD.2.2.2.1 fD.2.2.2.2.1 fD.2.2.2.2.2 ⟨hz1, its, n1, rv1, e1⟩
    refine fin _ _ s1 _ m I4 hn1 (by rw [upd_ne (by show H2.objs.size ≠ s.heap.objs.size; omega)]; exact J1.free) (Nat.ne_of_gt I3.lt) I3.sz (fun z c e h => ?_) (fun p hp h => ?_) (q1 _ hD1)
    · obtain ⟨v, q⟩ := I3.cell z c e
      have := q.lt
      rw [h] at this
      exact Nat.lt_irrefl _ this
    · have := Heap.lt_size (I3.pin p hp).1
      rw [h] at this
      exact Nat.lt_irrefl _ this
  exact codeAny_compStart_list loop (T.self _ 0 _ _ _ st1 loop)
theorem pe_comp (O : CompOk X N' k sc) (hi : PI X tg iter wi) (hg : ∀ cl C fp pins s H, PG (compCx X N' sc cl C fp pins s H) tg wg) (hq : ∀ cl C fp pins s H, PTs (compCx X N' sc cl C fp pins s H) ifs tt) (he : ∀ cl C fp pins s H, PE (compCx X N' sc cl C fp pins s H) elt te)
    (hs : ∀ v, foldedSetIterable iter X.env v = pure v := by intro _; rfl) : PE X (.ListComp elt [⟨tg, iter, ifs, 0⟩] sc pos) (tComp k wi wg tt te) := by
  intro pins s σ H Q I h
  rw [eval_ListComp]
  obtain ⟨cl, hcl, hcl1, hcl2⟩ := closure_of (sc := sc) (env := X.env) (fun y hy hf => I.ok.has y.1 (O.free y hy hf))
  refine wpAny_comprehension_free (use := none) rfl hs hcl O.kind O.names ?_
  refine thn (hi pins s σ H _ I h) fun v s1 h1 => thn h1 fun itv s2 h2 => ?_
  obtain ⟨it, fp, tn, J, H2, e, I2, T, st2, f2, q⟩ := h2
  subst e
  refine comp_block (RR := fun acc C => compPost (model X.prog X.w) X.A X.xe none (EP X pins σ Q) acc C) (Qd := Q) O I2 hcl1 hcl2 f2 T st2 hg hq he q ?_
  intro D C s3 H3 m I3 hn3 hC3 hL hsz hcl3 hp3 q3
  exact ⟨m, hn3, fun h' sb => ⟨.ref D, H3, I3.turned (t' := s3.toks) (fun b o hb e => (sb.2 b hb).trans e) hC3 hL (.inr hsz) hcl3 hp3, rfl, q3⟩⟩
theorem ps_comp {py spos : Pos} (O : CompOk X N' k sc) (hj : X.N[j]? = some y) (hy : X.env.scope.names.lookup y = some .local) (hi : PI X tg iter wi) (hg : ∀ cl C fp pins s H, PG (compCx X N' sc cl C fp pins s H) tg wg) (hq : ∀ cl C fp pins s H, PTs (compCx X N' sc cl C fp pins s H) ifs tt) (he : ∀ cl C fp pins s H, PE (compCx X N' sc cl C fp pins s H) elt te)
    (hsw : swapsWith (.ListComp elt [⟨tg, iter, ifs, 0⟩] sc pos) (some (.Name y py)) spos.line X.env = pure true := by rfl)
    (hs : ∀ v, foldedSetIterable iter X.env v = pure v := by intro _; rfl) : PS X (.Assign [.Name y py] (.ListComp elt [⟨tg, iter, ifs, 0⟩] sc pos) spos) (tAsg (tComp k wi wg tt te) (gName j)) := by
  intro pins s σ H D I h
  rw [exec_Assign_Name_used _ _ _ _ hsw]
  refine wpAny_bind (wpAny_standAt (wpAny_bind ?_))
  show wpAny _ X.A (do let _ ← comprehension (.ListComp elt [⟨tg, iter, ifs, 0⟩] sc pos) sc X.env _ (newList []) false (eval iter X.env) (some (assign (.Name y py) X.env))) _ _ s
  obtain ⟨cl, hcl, hcl1, hcl2⟩ := closure_of (sc := sc) (env := X.env) (fun y hy hf => I.ok.has y.1 (O.free y hy hf))
  refine wpAny_bind (wpAny_mono (wpAny_comprehension_free (use := some (assign (.Name y py) X.env)) (Q := fun _ s' => SP X pins D .next s') rfl hs hcl O.kind O.names ?_) (fun _ s' hq => wpAny_pure (wpAny_pure hq)) fun _ _ e => e)
  refine thn (hi pins s σ H _ I h) fun v s1 h1 => thn h1 fun itv s2 h2 => ?_
  obtain ⟨it, fp, tn, J, H2, e, I2, T, st2, f2, q⟩ := h2
  subst e
  refine comp_block (RR := fun acc C => compPost (model X.prog X.w) X.A X.xe (some (assign (.Name y py) X.env)) (fun _ s' => SP X pins D .next s') acc C) (Qd := fun x H1 => gName j x σ H1 D.nx) O I2 hcl1 hcl2 f2 T st2 hg hq he q ?_
  intro B C s3 H3 m I3 hn3 hC3 hL hsz hcl3 hp3 q3
  refine wpAny_assign_Name (store_ok2 I3 O.nd hj (.inl hy) (v := .ref B) rfl (fun s4 I4 ⟨a, sb, ha⟩ => ?_) (.inr hy))
  have hCa : C ≠ a := by
    rcases ha with ha | ha
    · rw [ha]; exact hL
    · exact Ne.symm (hcl3 _ _ ha)
  refine ⟨m, hn3.sameBut sb hCa, fun h' sb' => ⟨_, H3, I4.turned (t' := s4.toks) (fun b o hb e => (sb'.2 b hb).trans e) hC3 hL (.inr hsz) hcl3 hp3, q3⟩⟩
end
abbrev K2 := List (Int ⊕ List Int)
def k2D (k : Int ⊕ List Int) : PyData := match k with
  | .inl i => .int i
  | .inr js => .tuple (js.map .int)
def k2T (ks : K2) : PyData := .tuple (ks.map k2D)
def k2H (k : Int ⊕ List Int) : Int := match k with
  | .inl i => hashInt i
  | .inr js => reduceHash (Builtin.Tuple.tupleHashOf (js.map hashInt))
def k2N (k : Int ⊕ List Int) : Nat := match k with
  | .inl _ => 1
  | .inr js => js.length + 1
theorem map_int_inj : ∀ {a b : List Int}, a.map PyData.int = b.map PyData.int → a = b
  | [], [], _ => rfl
  | [], _ :: _, e => by simp at e
  | _ :: _, [], e => by simp at e
  | x :: xs, y :: ys, e => by
    rw [List.map_cons, List.map_cons] at e
    injection e with e1 e2
    injection e1 with e1
    rw [e1, map_int_inj e2]
theorem k2D_inj (e : k2D a = k2D b) : a = b := by
  cases a with
  | inl i => cases b with
    | inl j => injection (show PyData.int i = PyData.int j from e) with e; rw [e]
    | inr js => cases (show PyData.int i = PyData.tuple _ from e)
  | inr is => cases b with
    | inl j => cases (show PyData.tuple _ = PyData.int j from e)
    | inr js => injection (show PyData.tuple (is.map .int) = PyData.tuple (js.map .int) from e) with e; rw [map_int_inj e]
theorem k2Ds_inj : ∀ {a b : K2}, a.map k2D = b.map k2D → a = b
  | [], [], _ => rfl
  | [], _ :: _, e => by simp at e
  | _ :: _, [], e => by simp at e
  | x :: xs, y :: ys, e => by
    rw [List.map_cons, List.map_cons] at e
    injection e with e1 e2
    rw [k2D_inj e1, k2Ds_inj e2]
theorem k2T_inj (e : k2T a = k2T b) : a = b := by
  injection (show PyData.tuple (a.map k2D) = PyData.tuple (b.map k2D) from e) with e
  exact k2Ds_inj e
theorem can_is (ns : List Int) : PyData.canLayAll0 (ns.map .int) = true ∧ PyData.depthAll (ns.map .int) = 0 := by
  induction ns with
  | nil => exact ⟨rfl, rfl⟩
  | cons n ns ih => exact ⟨ih.1, by show max 0 (PyData.depthAll (ns.map .int)) = 0; rw [ih.2]; rfl⟩
theorem can_k2 (ks : K2) : PyData.canLayAll0 (ks.map k2D) = true ∧ PyData.depthAll (ks.map k2D) ≤ 1 := by
  induction ks with
  | nil => exact ⟨rfl, Nat.zero_le _⟩
  | cons k ks ih =>
    have hk : (k2D k).canLay0 = true ∧ (k2D k).depth ≤ 1 := by
      cases k with
      | inl i => exact ⟨rfl, Nat.zero_le _⟩
      | inr js => exact ⟨(can_is js).1, by show PyData.depthAll (js.map .int) + 1 ≤ 1; rw [(can_is js).2]; exact Nat.le_refl _⟩
    refine ⟨?_, ?_⟩
    · show ((k2D k).canLay0 && PyData.canLayAll0 (ks.map k2D)) = true
      rw [hk.1, ih.1]; rfl
    · show max (k2D k).depth (PyData.depthAll (ks.map k2D)) ≤ 1
      exact Nat.max_le.mpr ⟨hk.2, ih.2⟩
theorem can_k2T (ks : K2) : (k2T ks).canLay0 = true ∧ (k2T ks).depth ≤ 2 := ⟨(can_k2 ks).1, Nat.succ_le_succ (can_k2 ks).2⟩
def Is2 (h : Heap) (ks : K2) (a : Addr) : Prop := ∃ as, Reads h (.ref a) (k2T ks) as
section
variable {prog : Program} {w : World} {A : Around} {E : Value → Shared → Prop} {s : Shared}
def HashOk (prog : Program) (w : World) (A : Around) (h : Heap) (v : Value) (p : Int × Nat) : Prop :=
  ∀ (E : Value → Shared → Prop) (s : Shared) (Q : Int → Shared → Prop), s.heap = h → Q p.1 { s with toks := s.toks + p.2 } → wpAny (model prog w) A (pyHash v) Q E s
theorem hash_tup {o : Obj}  {hs : List (Int × Nat)} {Q : Int → Shared → Prop} (hu : A.units < cLine) (ho : s.heap.get? a = some o) (hc : o.cls = .type "tuple") (hd : o.data = .seq items n)
    (hi : Paired (HashOk prog w A.in1 s.heap) items.toList hs) (h : Q (reduceHash (Builtin.Tuple.tupleHashOf (hs.map (·.1)))) { s with toks := s.toks + ((hs.map (·.2)).sum + 1) }) : wpAny (model prog w) A (pyHash (.ref a)) Q E s := by
  have hT : s.TypeIs (.ref a) "tuple" := ⟨o, ho, hc⟩
  unfold pyHash
  first | unfold pyHashByItsType | skip
  first | exact wpAny_bind (wpAny_cRoomFor_or (.inr hu) ?_) | skip
  first | refine wpAny_bind (wpAny_cRoomFor_or (.inr hu) (wpAny_bind (wpAny_specialOf hT F.slot_tuple_hash.lookup ?_))) | refine wpAny_bind (wpAny_specialOf hT F.slot_tuple_hash.lookup (id ?_))
  refine (id ?_ : wpAny _ _ (if (some (Value.builtin "tuple.__hash__") == some Value.none) = true then _ else _) Q E s)
  rw [if_neg (fun z => by rw [beq_builtin_none] at z; cases z)]
  refine wpAny_bind (wpAny_specialOf hT F.slot_tuple_hash.lookup (id ?_ : wpAny _ _ (callSpecialIfBoundUnlessNone? (.ref a) "__hash__" _ >>= _) Q E s))
  refine wpAny_bind (wpAny_callSpecialIfBoundUnlessNone?_slot hT F.slot_tuple_hash (wpAny_call_entry F.slot_tuple_hash hT F.entry_tuple_hash (?_ : wpAny _ _ (Builtin.Tuple.tupleItemsOf (.ref a) >>= _) _ _ s) (F.args_tuple_hash_1 _)))
  refine wpAny_bind (wpAny_tupleItemsOf ho hd (wpAny_bind ?_))
  rw [← Array.forIn_toList]
  refine wpAny_forIn_list _ (fun rest (b : Array Int) s' => ∃ done left, hs = done ++ left ∧ Paired (HashOk prog w A.in1 s.heap) rest left ∧ b.toList = done.map (·.1) ∧ s' = { s with toks := s.toks + (done.map (·.2)).sum }) _ ?_ ?_ _ _ ⟨[], hs, rfl, hi, rfl, rfl⟩
  · rintro x rest b s' ⟨done, left, rfl, hl, hb, rfl⟩
    cases hl with
    | @cons _ p _ ps h1 hl' =>
      refine wpAny_bind (h1 _ _ _ rfl ?_)
      first
        | exact wpAny_pure ⟨done ++ [p], ps, by simp, hl', by simp [hb], by simp [Nat.add_assoc]⟩
        | exact wpAny_bind (wpAny_pure (wpAny_pure ⟨done ++ [p], ps, by simp, hl', by simp [hb], by simp [Nat.add_assoc]⟩))
  · rintro b s' ⟨done, left, rfl, hl, hb, rfl⟩
    cases hl
    rw [List.append_nil] at h
    refine (id ?_ : wpAny _ _ (retInt (Builtin.Tuple.tupleHashOf b.toList)) _ _ _)
    rw [hb]
    refine wpAny_ret_mkInt (id ?_ : wpAny _ _ (if (decide (-(2 : Int) ^ 63 ≤ Builtin.Tuple.tupleHashOf (done.map (·.1))) && decide (Builtin.Tuple.tupleHashOf (done.map (·.1)) < 2 ^ 63)) = true then _ else _) Q E _)
    unfold reduceHash at h
    by_cases hr : (decide (-(2 : Int) ^ 63 ≤ Builtin.Tuple.tupleHashOf (done.map (·.1))) && decide (Builtin.Tuple.tupleHashOf (done.map (·.1)) < 2 ^ 63)) = true
    · rw [if_pos hr] at h ⊢
      exact wpAny_pure (by simpa [Nat.add_assoc] using h)
    · rw [if_neg hr] at h ⊢
      exact wpAny_bind (wpAny_rule (wpAny_pure (by simpa [Nat.add_assoc] using h)))
theorem hash_int (i : Int) (t : Tok) : HashOk prog w A h (.int i t) (hashInt i, 1) := fun _ _ _ _ q => wpAny_pyHash_int q
theorem hash_ints {h : Heap} : ∀ {vs : List Value} {ns : List Int} {as : List Addr}, ReadsAll h vs (ns.map .int) as → Paired (HashOk prog w A h) vs (ns.map fun i => (hashInt i, 1)) := by
  intro vs ns
  induction ns generalizing vs with
  | nil => intro as r; cases r; exact .nil
  | cons n ns ih =>
    intro as r
    cases r with
    | cons a t => cases a; exact .cons (hash_int _ _) (ih t)
theorem sum_ones (ns : List Int) : ((ns.map fun i => (hashInt i, 1)).map (·.2)).sum = ns.length := by
  induction ns with
  | nil => rfl
  | cons n ns ih => rw [List.map_cons, List.map_cons, List.sum_cons, ih, List.length_cons]; omega
theorem hash_item  (hu : A.units < cLine) (r : Reads h v (k2D k) as) : HashOk prog w A h v (k2H k, k2N k) := by
  cases k with
  | inl i =>
    cases (show Reads h v (.int i) as from r)
    exact hash_int _ _
  | inr js =>
    cases (show Reads h v (.tuple (js.map .int)) as from r) with
    | tuple h1 h2 h3 h4 =>
      intro E s Q e q
      subst e
      refine hash_tup hu h1 h2 h3 (hash_ints h4) ?_
      have e : (js.map fun i => (hashInt i, 1)).map (·.1) = js.map hashInt := by rw [List.map_map]; rfl
      rw [e, sum_ones]
      exact q
theorem hash_itemsK (hu : A.units < cLine) : ∀ {vs : List Value} {ks : K2} {as : List Addr}, ReadsAll h vs (ks.map k2D) as → Paired (HashOk prog w A h) vs (ks.map fun k => (k2H k, k2N k))
  | _, [], _, r => by cases r; exact .nil
  | _, k :: ks, _, r => by
    cases r with
    | cons a t => exact .cons (hash_item hu a) (hash_itemsK hu t)
theorem quiet_v   (r : Reads h v (.int i) as) : eqIsQuiet n v = pure true := by
  cases r
  cases n <;> rfl
theorem quiet_tup {m : Nat} {o : Obj}  {Q : Bool → Shared → Prop} (ho : s.heap.get? a = some o) (hc : o.cls = .type "tuple") (hd : o.data = .seq items n)
    (hi : ∀ v ∈ items.toList, ∀ Q' : Bool → Shared → Prop, Q' true s → wpAny (model prog w) A (eqIsQuiet m v) Q' E s) (h : Q true s) : wpAny (model prog w) A (eqIsQuiet (m + 1) (.ref a)) Q E s := by
  have hT : s.TypeIs (.ref a) "tuple" := ⟨o, ho, hc⟩
  unfold eqIsQuiet
  refine wpAny_bind (wpAny_specialOf hT F.slot_tuple_eq.lookup (?_ : wpAny _ _ (isInstance (.ref a) (.type "tuple") >>= _) _ _ s))
  refine wpAny_bind (wpAny_isInstance hT isSubtype_tuple_tuple (id ?_))
  simp only [Bool.not_true, if_false, Bool.false_eq_true]
  refine wpAny_bind (wpAny_seqItems ho hd (wpAny_bind (?_ : wpAny _ _ (forIn items _ _) _ _ s)))
  rw [← Array.forIn_toList]
  refine wpAny_forIn_list _ (fun rest r s' => r.1 = none ∧ s' = s ∧ ∀ v ∈ rest, ∀ Q' : Bool → Shared → Prop, Q' true s → wpAny (model prog w) A (eqIsQuiet m v) Q' E s) _ ?_ ?_ _ _ ⟨rfl, rfl, hi⟩
  · rintro v rest r s' ⟨hr, rfl, hall⟩
    refine wpAny_bind (hall v List.mem_cons_self _ ?_)
    simp only [Bool.not_true, if_false, Bool.false_eq_true]
    exact wpAny_pure ⟨rfl, rfl, fun u hu' => hall u (List.mem_cons_of_mem _ hu')⟩
  · rintro ⟨r1, r2⟩ s' ⟨hr, rfl, _⟩
    simp only at hr
    subst hr
    exact wpAny_pure h
theorem readsAll_each : ∀ {vs : List Value} {ds : List PyData} {as : List Addr}, ReadsAll h vs ds as → ∀ v ∈ vs, ∃ d ∈ ds, ∃ bs, Reads h v d bs
  | _, _, _, .nil, v, hv => by cases hv
  | _, _, _, .cons r t, v, hv => by
    rcases List.mem_cons.mp hv with rfl | hv
    · exact ⟨_, .head _, _, r⟩
    · obtain ⟨d, hd, bs, q⟩ := readsAll_each t v hv
      exact ⟨d, .tail _ hd, bs, q⟩
theorem Is2.quiet  (x : Is2 s.heap ks a) (h : Q true s) : wpAny (model prog w) A (eqIsQuiet 8 (.ref a)) Q E s := by
  obtain ⟨as, r⟩ := x
  cases r with
  | tuple h1 h2 h3 h4 =>
    refine quiet_tup h1 h2 h3 (fun v hv Q' q => ?_) h
    obtain ⟨d, hd, bs, rv⟩ := readsAll_each h4 v hv
    obtain ⟨k, _, rfl⟩ := List.mem_map.mp hd
    cases k with
    | inl i => rw [quiet_v (show Reads s.heap v (.int i) bs from rv)]; exact wpAny_pure q
    | inr js =>
      cases (show Reads s.heap v (.tuple (js.map .int)) bs from rv) with
      | tuple g1 g2 g3 g4 =>
        refine quiet_tup g1 g2 g3 (fun u hu Q2 q2 => ?_) q
        obtain ⟨d, hd, cs, ru⟩ := readsAll_each g4 u hu
        obtain ⟨i, _, rfl⟩ := List.mem_map.mp hd
        rw [quiet_v ru]
        exact wpAny_pure q2
theorem Is2.inj  (hx : Is2 h x a) (hy : Is2 h y a) : x = y := by
  obtain ⟨as, r⟩ := hx
  obtain ⟨bs, q⟩ := hy
  exact k2T_inj (SeqAt.Reads.unique _ _ _ _ _ (can_k2T x).1 r q)
theorem readsI_keeps {h h' : Heap} {d : Addr} (k : ∀ b o, b ≠ d → h.get? b = some o → h'.get? b = some o) : ∀ {vs : List Value} {ns : List Int} {as : List Addr}, ReadsAll h vs (ns.map .int) as → ReadsAll h' vs (ns.map .int) as := by
  intro vs ns
  induction ns generalizing vs with
  | nil => intro as r; cases r; exact .nil
  | cons n ns ih =>
    intro as r
    cases r with
    | cons a t => cases a; exact .cons (.int _ _) (ih t)
theorem Is2.keeps {h h' : Heap}  {o : Obj}  (x : Is2 h ks a) (ho : h.get? d = some o) (hd : o.data = .dict es ep) (hs : Heap.SameBut d h h') : Is2 h' ks a := by
  have k : ∀ b o, b ≠ d → h.get? b = some o → h'.get? b = some o := fun b o hb e => (hs.2 b hb).trans e
  have ne : ∀ {b : Addr} {ob : Obj} {items : Array Value} {n : Nat}, h.get? b = some ob → ob.data = .seq items n → b ≠ d := fun e q z => by
    subst z
    rw [ho] at e
    cases e
    rw [hd] at q
    cases q
  have item : ∀ {vs : List Value} {ks : K2} {as : List Addr}, ReadsAll h vs (ks.map k2D) as → ReadsAll h' vs (ks.map k2D) as := by
    intro vs ks
    induction ks generalizing vs with
    | nil => intro as r; cases r; exact .nil
    | cons k1 ks ih =>
      intro as r
      cases r with
      | cons a t =>
        refine .cons ?_ (ih t)
        cases k1 with
        | inl i => cases (show Reads h _ (.int i) _ from a); exact .int _ _
        | inr js =>
          cases (show Reads h _ (.tuple (js.map .int)) _ from a) with
          | tuple g1 g2 g3 g4 => exact .tuple (k _ _ (ne g1 g3) g1) g2 g3 (readsI_keeps k g4)
  obtain ⟨as, r⟩ := x
  cases r with
  | tuple h1 h2 h3 h4 => exact ⟨_, .tuple (k _ _ (ne h1 h3) h1) h2 h3 (item h4)⟩
theorem eqv_ints : ∀ a b : List Int, PyData.eqv (.tuple (a.map .int)) (.tuple (b.map .int)) = decide (a = b)
  | [], [] => rfl
  | [], _ :: _ => rfl
  | _ :: _, [] => rfl
  | x :: xs, y :: ys => by
    have : PyData.eqv (.tuple ((x :: xs).map .int)) (.tuple ((y :: ys).map .int)) = ((x == y) && PyData.eqv (.tuple (xs.map .int)) (.tuple (ys.map .int))) := rfl
    rw [this, eqv_ints xs ys, Bool.eq_iff_iff]
    simp
theorem eqv_k2D (a b : Int ⊕ List Int) : PyData.eqv (k2D a) (k2D b) = decide (a = b) := by
  cases a with
  | inl i => cases b with
    | inl j =>
      have : PyData.eqv (k2D (.inl i)) (k2D (.inl j)) = (i == j) := rfl
      rw [this, Bool.eq_iff_iff]
      simp
    | inr js => exact (decide_eq_false (fun z => by cases z)).symm
  | inr is => cases b with
    | inl j => exact (decide_eq_false (fun z => by cases z)).symm
    | inr js =>
      have : PyData.eqv (k2D (.inr is)) (k2D (.inr js)) = PyData.eqv (.tuple (is.map .int)) (.tuple (js.map .int)) := rfl
      rw [this, eqv_ints, Bool.eq_iff_iff]
      simp
theorem eqv_k2T : ∀ a b : K2, PyData.eqv (k2T a) (k2T b) = decide (a = b)
  | [], [] => rfl
  | [], _ :: _ => rfl
  | _ :: _, [] => rfl
  | x :: xs, y :: ys => by
    have : PyData.eqv (k2T (x :: xs)) (k2T (y :: ys)) = (PyData.eqv (k2D x) (k2D y) && PyData.eqv (k2T xs) (k2T ys)) := rfl
    rw [this, eqv_k2D, eqv_k2T xs ys, Bool.eq_iff_iff]
    simp
end
def kind2 (prog : Program) (w : World) : HeapKind prog w K2 where
  is := Is2
  hash := fun ks => reduceHash (Builtin.Tuple.tupleHashOf (ks.map k2H))
  draws := fun ks => ((ks.map fun k => (k2H k, k2N k)).map (·.2)).sum + 1
  room := fun A => A.units + 3 < cLine
  inj := fun hx hy => hx.inj hy
  keeps := fun x ho hd hs => x.keeps ho hd hs
  pyHash := fun {A E s k a Q} hu hk h => by
    obtain ⟨as, r⟩ := hk
    cases r with
    | tuple h1 h2 h3 h4 =>
      have hu1 : A.in1.units < cLine := by show A.units + 1 < cLine; omega
      refine hash_tup (by omega) h1 h2 h3 (hash_itemsK hu1 h4) ?_
      have e : (k.map fun x => (k2H x, k2N x)).map (·.1) = k.map k2H := by rw [List.map_map]; rfl
      rw [e]
      exact h
  eqBool := fun {A E s x y a b Q} hu hx hy h => by
    obtain ⟨as, r⟩ := hx
    obtain ⟨bs, q⟩ := hy
    refine SeqAt.eqAt_reads _ _ A s _ _ _ _ r q (can_k2T x).1 (can_k2T y).1 ?_ prog w E Q (by rw [eqv_k2T]; exact h)
    have := (can_k2T x).2
    have := Nat.min_le_left (k2T x).depth (k2T y).depth
    omega
  quiet := fun hk h => hk.quiet h
def k2Hash (ks : K2) : Int := reduceHash (Builtin.Tuple.tupleHashOf (ks.map k2H))
abbrev KX := Int ⊕ K2
def kxD (k : KX) : PyData := match k with
  | .inl i => .int i
  | .inr ks => k2T ks
def kxV (k : KX) (b : Addr) : V := match k with
  | .inl i => .int i
  | .inr _ => .ref b
def kxI (k : KX) : Bool := match k with
  | .inl _ => true
  | .inr _ => false
def isIntD : PyData → Bool
  | .int _ => true
  | _ => false
theorem isIntD_kxD (k : KX) : isIntD (kxD k) = kxI k := by cases k <;> rfl
theorem eqv_kxD (a b : KX) : PyData.eqv (kxD a) (kxD b) = decide (a = b) := by
  cases a with
  | inl i => cases b with
    | inl j =>
      have : PyData.eqv (kxD (.inl i)) (kxD (.inl j)) = (i == j) := rfl
      rw [this, Bool.eq_iff_iff]
      simp
    | inr js => exact (decide_eq_false (fun z => by cases z)).symm
  | inr is => cases b with
    | inl j => exact (decide_eq_false (fun z => by cases z)).symm
    | inr js =>
      have : PyData.eqv (kxD (.inr is)) (kxD (.inr js)) = PyData.eqv (k2T is) (k2T js) := rfl
      rw [this, eqv_k2T, Bool.eq_iff_iff]
      simp
abbrev PkT (p : KX × Addr × V) (q : K2 × Addr × Value) : Prop := p.1 = .inr q.1 ∧ p.2.1 = q.2.1 ∧ RelV p.2.2 q.2.2
abbrev PkI (p : KX × Addr × V) (q : Int × Value) : Prop := p.1 = .inl q.1 ∧ RelV p.2.2 q.2
abbrev EnI (e : DictEntry) (q : Int × Value) : Prop := e.hash = hashInt q.1 ∧ (∃ t, e.key = .int q.1 t) ∧ e.val = q.2
def DctT (a : Addr) (kvs : List (KX × Addr × V)) (ep : Nat) (h : Heap) : Prop :=
  ∃ xs : List (K2 × Addr × Value), Paired PkT kvs xs ∧ ∃ o es, h.get? a = some o ∧ o.ExactDict ∧ o.data = .dict es ep ∧ es.toList = xs.map (fun x => (⟨k2Hash x.1, .ref x.2.1, x.2.2⟩ : DictEntry)) ∧ (xs.map (·.1)).Nodup
def DctI (a : Addr) (kvs : List (KX × Addr × V)) (ep : Nat) (h : Heap) : Prop :=
  ∃ vs : List (Int × Value), Paired PkI kvs vs ∧ ∃ o es, h.get? a = some o ∧ o.ExactDict ∧ o.data = .dict es ep ∧ Paired EnI es.toList vs ∧ (vs.map (·.1)).Nodup
def DctAt (a : Addr) (kvs : List (KX × Addr × V)) (ep : Nat) (h : Heap) : Prop :=
  kvs.length ≤ sizeLine ∧ (a == sysModules) = false ∧ (DctT a kvs ep h ∨ DctI a kvs ep h)
def DctO (a : Addr) (kvs : List (KX × Addr × V)) (ep : Nat) : HO := .ext (DctAt a kvs ep)
theorem DctAt.ok    (d : DctAt a kvs ep h) : ObjOk P w H h a (DctO a kvs ep) := by
  refine ⟨d, ?_, fun h1 h2 ⟨z, y, e⟩ k => ⟨z, y, e.imp (fun ⟨xs, r, o, es, g1, g2⟩ => ⟨xs, r, o, es, k o g1, g2⟩) fun ⟨xs, r, o, es, g1, g2⟩ => ⟨xs, r, o, es, k o g1, g2⟩⟩⟩
  obtain ⟨_, _, ⟨_, _, o, _, g1, _⟩ | ⟨_, _, o, _, g1, _⟩⟩ := d
  · exact ⟨o, g1⟩
  · exact ⟨o, g1⟩
theorem DctAt.of    (x : ObjOk P w H h a (DctO a kvs ep)) : DctAt a kvs ep h := x.1
def dkv (kvs : List (KX × Addr × V)) (ds : List PyData) : List (PyData × PyData) := (kvs.map fun p => kxD p.1).zip ds
theorem dkv_keys {kvs : List (KX × Addr × V)} {ds : List PyData} (h : kvs.length = ds.length) : (dkv kvs ds).map (·.1) = kvs.map fun p => kxD p.1 := by
  unfold dkv
  rw [List.map_fst_zip (by rw [List.length_map, h]; exact Nat.le_refl _)]
theorem pkT_vals {kvs : List (KX × Addr × V)} {xs : List (K2 × Addr × Value)} (r : Paired PkT kvs xs) : Vals (kvs.map fun p => kxV p.1 p.2.1) (xs.map fun x => Value.ref x.2.1) ∧ Vals (kvs.map (·.2.2)) (xs.map (·.2.2)) := by
  induction r with
  | nil => exact ⟨.nil, .nil⟩
  | cons h t ih => exact ⟨.cons (by dsimp only; rw [h.1, h.2.1]; rfl) ih.1, .cons h.2.2 ih.2⟩
theorem pkI_vals : ∀ {kvs : List (KX × Addr × V)} {vs : List (Int × Value)} {es : List DictEntry}, Paired PkI kvs vs → Paired EnI es vs → Vals (kvs.map fun p => kxV p.1 p.2.1) (es.map (·.key)) ∧ Vals (kvs.map (·.2.2)) (es.map (·.val))
  | _, _, _, .nil, .nil => ⟨.nil, .nil⟩
  | _, _, _, .cons h t, .cons g u => by
    obtain ⟨i1, i2⟩ := pkI_vals t u
    obtain ⟨_, ⟨tk, g1⟩, g2⟩ := g
    exact ⟨.cons (by dsimp only; rw [h.1, g1]; exact ⟨tk, rfl⟩) i1, .cons (by dsimp only; rw [g2]; exact h.2) i2⟩
theorem DctAt.vals {h : Heap} {kvs : List (KX × Addr × V)} (d : DctAt a kvs ep h) : ∃ o es, h.get? a = some o ∧ o.ExactDict ∧ o.data = .dict es ep ∧ Vals (kvs.map fun p => kxV p.1 p.2.1) (es.toList.map (·.key)) ∧ Vals (kvs.map (·.2.2)) (es.toList.map (·.val)) := by
  obtain ⟨_, _, ⟨xs, r, o, es, g1, g2, g3, g4, _⟩ | ⟨vs, r, o, es, g1, g2, g3, g4, _⟩⟩ := d
  · refine ⟨o, es, g1, g2, g3, ?_⟩
    rw [g4, List.map_map, List.map_map]
    exact pkT_vals r
  · exact ⟨o, es, g1, g2, g3, pkI_vals r g4⟩
theorem DctAt.tup  (d : DctAt a kvs ep h) (hk : ∀ p ∈ kvs, kxI p.1 = false) : DctT a kvs ep h := by
  obtain ⟨_, _, d | ⟨vs, r, o, es, g1, g2, g3, g4, g5⟩⟩ := d
  · exact d
  · cases r with
    | nil =>
      have he : es.toList = [] := by cases h : es.toList with
        | nil => rfl
        | cons => rw [h] at g4; cases g4
      exact ⟨[], .nil, o, es, g1, g2, g3, he, List.nodup_nil⟩
    | @cons p q _ _ h t =>
      have := hk p (.head _)
      rw [h.1] at this
      cases this
theorem DctAt.int  (d : DctAt a kvs ep h) (hk : ∀ p ∈ kvs, kxI p.1 = true) : DctI a kvs ep h := by
  obtain ⟨_, _, ⟨xs, r, o, es, g1, g2, g3, g4, g5⟩ | d⟩ := d
  · cases r with
    | nil => exact ⟨[], .nil, o, es, g1, g2, g3, by rw [g4]; exact .nil, List.nodup_nil⟩
    | @cons p q _ _ h t =>
      have := hk p (.head _)
      rw [h.1] at this
      cases this
  · exact d
def excTs : List String := ["int", "bool", "tuple", "list", "str"]
def xcB (K : PySem.W.Frag) (C : Addr) : Bool :=
  (PySem.W.clsIn K C).isSome && (PySem.W.findIn K (.ref C) "__getattribute__" == some (some (.builtin "BaseException.__getattribute__"))) && (PySem.W.findIn K (.ref C) "__getattr__" == some none)
  && (PySem.W.findIn K (.ref C) "__class__" == some (some (.builtin "object.__class__"))) && (PySem.W.mroIn K C (.type "object") == some true) && (PySem.W.mroIn K C (.type "BaseException") == some true)
  && excTs.all fun T => PySem.W.kitOne K (.ref C) (.type T) == some false
structure XcK (K : PySem.W.Frag) (C : Addr) : Prop where
  cls : (PySem.W.clsIn K C).isSome = true
  ga : PySem.W.findIn K (.ref C) "__getattribute__" = some (some (.builtin "BaseException.__getattribute__"))
  gt : PySem.W.findIn K (.ref C) "__getattr__" = some none
  cl : PySem.W.findIn K (.ref C) "__class__" = some (some (.builtin "object.__class__"))
  mo : PySem.W.mroIn K C (.type "object") = some true
  mb : PySem.W.mroIn K C (.type "BaseException") = some true
  ts : ∀ T ∈ excTs, PySem.W.kitOne K (.ref C) (.type T) = some false
theorem xcK_of {K : PySem.W.Frag} {C : Addr} (h : xcB K C = true) : XcK K C := by
  unfold xcB at h
  simp only [Bool.and_eq_true, beq_iff_eq, List.all_eq_true] at h
  obtain ⟨⟨⟨⟨⟨⟨h1, h2⟩, h3⟩, h4⟩, h5⟩, h6⟩, h7⟩ := h
  exact ⟨h1, h2, h3, h4, h5, h6, h7⟩
section
variable {prog : Program} {w : World} {A : Around} {E : Value → Shared → Prop} {s : Shared} {K : PySem.W.Frag} {x C : Addr}
def OfC (h : Heap) (x C : Addr) : Prop := ∃ o, h.get? x = some o ∧ o.cls = .ref C
theorem OfC.ty (I : OfC h x C) : PySem.W.Looks M h (typeOf (.ref x)) (.ref C) := by
  obtain ⟨o, h1, h2⟩ := I
  exact h2 ▸ (PySem.W.Looks.ld h1).andThen .now
open PySem.W in
theorem exc_ga_check {M : Model} {nameV : Value} (Z : XcK K C) (X : K.In s.heap) (I : OfC s.heap x C) (hq : Q () s) :
    wpAny M A (checkBuiltinCall "BaseException.__getattribute__" ⟨[.ref x, nameV], []⟩) Q E s := by
  obtain ⟨hh, g, d, t, os⟩ := s
  have hk : builtinKind "BaseException.__getattribute__" = some .slot := by decide +kernel
  have hs : splitId "BaseException.__getattribute__" = some ("BaseException", "__getattribute__") := by decide +kernel
  have L0 := I.ty (M := M)
  have L1 := looks_mroIn (M := M) X Z.mb
  have ha := F.args_bexc_ga (.ref x) nameV
  simp only [checkBuiltinCall, hk, hs]
  refine wpAny_bind ?_
  unfold isInstance
  repeat (first | with_reducible refine Looks.at (by assumption) ?_ | wp_step)
  exact hq
open PySem.W in
theorem exc_class_get (Z : XcK K C) (X : K.In s.heap) (I : OfC s.heap x C) (hq : R (.ok (.ret (.ref C))) s) :
    codeAny (model prog w) A (.call (.builtin "getset_descriptor.__get__") ⟨[.builtin "object.__class__", .ref x, .ref C], []⟩) R s := by
  obtain ⟨hh, g, d, t, os⟩ := s
  have hT5 : (⟨hh, g, d, t, os⟩ : Shared).TypeIs (.builtin "object.__class__") "getset_descriptor" := F.typeOf_object_class
  have L0 := I.ty (M := model prog w)
  have L1 : Looks (model prog w) hh (isSubtype (.ref C) (.type (".".intercalate ("object.__class__".cutAt '.').dropLast))) true := by
    rw [F.owner_object_class]
    exact looks_mroIn (M := model prog w) X Z.mo
  refine codeAny_call_builtin F.slot_gs_get.plain F.entry_gs_get (F.slot_gs_get.check _ _ _ _ _ _ _ _ hT5 (F.args_gs_get _ _ _) ?_)
  repeat (any_goals (first | assumption | with_reducible refine Looks.at (by assumption) ?_ | wp_step))
  refine ⟨Code.quiet_builtin _ (by decide +kernel), codeAny_builtin F.entry_object_class ?_⟩
  repeat (any_goals (first | assumption | with_reducible refine Looks.at (by assumption) ?_ | wp_step))
open PySem.W in
theorem exc_class_entry {tk : Tok} (Z : XcK K C) (X : K.In s.heap) (I : OfC s.heap x C) (hq : Q (.done (.ret (.ref C))) s) :
    wpAny (model prog w) A (Builtin.«object.__getattribute__» ⟨[.ref x, .str "__class__" tk], []⟩) Q E s := by
  obtain ⟨hh, g, d, t, os⟩ := s
  have hT5 : (⟨hh, g, d, t, os⟩ : Shared).TypeIs (.builtin "object.__class__") "getset_descriptor" := F.typeOf_object_class
  have L0 := I.ty (M := model prog w)
  have L1 := looks_findIn (M := model prog w) X Z.cl
  have f5 := F.typeOf_object_class; have f6 := F.slot_gs_get.lookup; have f7 := F.slot_gs_set.lookup
  repeat (any_goals (first | assumption | with_reducible refine Looks.at (by assumption) ?_ | wp_step))
  refine exc_class_get Z X I ?_
  repeat (any_goals (first | assumption | wp_step))
open PySem.W in
theorem exc_class_by {tk : Tok} (Z : XcK K C) (X : K.In s.heap) (I : OfC s.heap x C) (hq : Q (.ref C) s) :
    wpAny (model prog w) A (getAttrBy (.ref x) (.str "__class__" tk) false) Q E s := by
  obtain ⟨hh, g, d, t, os⟩ := s
  have L0 := I.ty (M := model prog w)
  have L1 := looks_findIn (M := model prog w) X Z.ga
  have L2 := looks_findIn (M := model prog w) X Z.gt
  have f3 := F.excAttr_ValueError.ga.bind (.ref x)
  have hx2 : (Value.builtin "BaseException.__getattribute__" == Value.builtin "object.__getattribute__") = false := by decide +kernel
  have hx1 : (onTheHeap (Value.ref C) && Value.builtin "BaseException.__getattribute__" == Value.builtin "object.__getattribute__") = false := by rw [hx2]; exact Bool.and_false _
  repeat (any_goals (first | assumption | with_reducible refine Looks.at (by assumption) ?_ | wp_step))
  refine codeAny_call_builtin F.excAttr_ValueError.ga.plain F.entry_bexc_ga (exc_ga_check Z X I (exc_class_entry Z X I ?_))
  repeat (any_goals (first | assumption | wp_step))
open PySem.W in
theorem exc_class (Z : XcK K C) (X : K.In s.heap) (I : OfC s.heap x C) (hq : Q (some (.ref C)) { s with toks := s.toks + 1 }) :
    wpAny (model prog w) A (getAttr? (.ref x) "__class__") Q E s := by
  obtain ⟨hh, g, d, t, os⟩ := s
  unfold getAttr? getAttrBy?
  refine wpAny_bind (wpAny_mkText (wpAny_bind (wpAny_attempt (exc_class_by (s := ⟨hh, g, d, t + 1, os⟩) Z X I ?_))))
  exact wpAny_pure hq
end
open PySem.W in
theorem kitx_exc {K : Frag} {a C : Addr} (Z : XcK K C) : KitX K (.ref a) (.ref C) (fun h => OfC h a C) where
  ty := fun _ _ _ I => I.ty
  it := fun _ _ X _ => by
    have z := Z.cls
    unfold clsIn at z
    split at z
    · rename_i c' d' cd' sl' ho
      intro A' Q' E' s' k q; unfold isType loadHead
      exact wpAny_bind (wpAny_loadPart (k _ _ (X _ _ ho)) (wpAny_pure q))
    · cases z
  ne := fun h tp dd its n sl X htp => by
    have z := Z.cls
    refine Bool.eq_false_iff.mpr fun q => ?_
    have e : C = tp := Value.ref.inj (beq_iff_eq.mp q)
    subst e; unfold clsIn at z
    split at z
    · rename_i c' d' cd' sl' ho
      have y := (X _ _ ho).symm.trans htp
      cases y
    · cases z
  ca := fun X I k => exc_class Z X I k
def icB (K : PySem.W.Frag) (C : Addr) : Bool :=
  PySem.W.plainGet K C Str.empty && PySem.W.hasDictIn K C && PySem.W.plainOver K C && (PySem.W.findIn K (.ref C) "__setattr__" == some (some (.builtin "object.__setattr__")))
  && (PySem.W.findIn K (.ref C) "__class__" == some (some (.builtin "object.__class__"))) && (PySem.W.specialIn K (.builtin "object.__class__") "__get__" == some (some (.builtin "getset_descriptor.__get__")))
  && (PySem.W.takesIn K (.builtin "object.__class__") == some true) && (PySem.W.mroIn K C (.type "object") == some true) && excTs.all fun T => PySem.W.kitOne K (.ref C) (.type T) == some false
structure IcK (K : PySem.W.Frag) (C : Addr) : Prop where
  cl : Cls K C
  ha : PySem.W.findIn K (.ref C) "__class__" = some (some (.builtin "object.__class__"))
  hn : PySem.W.specialIn K (.builtin "object.__class__") "__get__" = some (some (.builtin "getset_descriptor.__get__"))
  tk : PySem.W.takesIn K (.builtin "object.__class__") = some true
  mo : PySem.W.mroIn K C (.type "object") = some true
  ts : ∀ T ∈ excTs, PySem.W.kitOne K (.ref C) (.type T) = some false
theorem icK_of {K : PySem.W.Frag} {C : Addr} (h : icB K C = true) : IcK K C := by
  unfold icB at h
  simp only [Bool.and_eq_true, beq_iff_eq, List.all_eq_true] at h
  obtain ⟨⟨⟨⟨⟨⟨⟨⟨h1, h2⟩, h3⟩, h4⟩, h5⟩, h6⟩, h7⟩, h8⟩, h9⟩ := h
  exact ⟨⟨h1, h2, h3, h4⟩, h5, h6, h7, h8, h9⟩
theorem IcK.ty {K : PySem.W.Frag} {H : Hp} {a C dx : Addr} {fs : List (Str × V)} (Z : IcK K C) (e : H a = some (.ins C dx fs)) : TyOf K H (.ref a) (.ref C) := .ins e Z.cl Z.ha Z.hn Z.tk Z.mo
abbrev Av := Addr → Prop
def isMut : HO → Bool
  | .lst _ => true
  | .dK _ => true
  | .dT _ => true
  | .ext _ => true
  | _ => false
def Dm (S : Av) (H : Hp) : Prop := ∀ a, S a → ∃ o, H a = some o ∧ isMut o = true
def Off (S : Av) (H H' : Hp) : Prop := ∀ b o, ¬ S b → H b = some o → H' b = some o
def KqL (K : PySem.W.Frag) (a : Addr) (xs : List V) : Prop := ∃ (o : Obj) (its : Array Value) (n : Nat), K.lookup a = some o ∧ o.cls = .type "list" ∧ o.dict = none ∧ o.data = .seq its n ∧ its.size ≤ sizeLine ∧ Vals xs its.toList
def SqLS (K : PySem.W.Frag) (H : Hp) (S : Av) (a : Addr) (xs : List V) : Prop := (Rd H a (.lst xs) ∧ ¬ S a) ∨ KqL K a xs
def ExcO (K : PySem.W.Frag) (o : Obj) (c : Str) : Prop := ∃ C vs, o.cls = .ref C ∧ o.data = .fields vs ∧ PySem.W.nsIn K mainGlobals c = some (some (.ref C)) ∧ xcB K C = true
def excD (c : Str) (d : PyData) : PyData := .dict [(.str c, d), (.int 0, .none)]
def excK : List (PyData × PyData) → Bool
  | (.str _, _) :: _ => true
  | _ => false
theorem excK_dkv : excK (dkv kvs ds) = false := by
  cases kvs with
  | nil => rfl
  | cons p ps =>
    cases ds with
    | nil => rfl
    | cons d ds => obtain ⟨k | k, _⟩ := p <;> rfl
def objD (c : Str) : PyData := .dict [(.str c, .none), (.int 1, .none)]
mutual
inductive Den (K : PySem.W.Frag) (H : Hp) (S : Av) : V → PyData → Prop
  | none : Den K H S .non .none
  | bool (b : Bool) : Den K H S (.bl b) (.bool b)
  | int (i : Int) : Den K H S (.int i) (.int i)
  | str (x : Str) : Den K H S (.str x) (.str x)
  | list {a : Addr} {xs : List V} {ds : List PyData} : SqLS K H S a xs → DenL K H S xs ds → Den K H S (.ref a) (.list ds)
  | tuple {a : Addr} {xs : List V} {ds : List PyData} : SqT K H a xs → DenL K H S xs ds → Den K H S (.ref a) (.tuple ds)
  | dict {a : Addr} {kvs : List (KX × Addr × V)} {ep : Nat} {ds : List PyData} : (H a = some (DctO a kvs ep) ∧ ¬ S a) → DenL K H S (kvs.map fun p => kxV p.1 p.2.1) (kvs.map fun p => kxD p.1) → DenL K H S (kvs.map (·.2.2)) ds → Den K H S (.ref a) (.dict (dkv kvs ds))
  | exc0 {a : Addr} {o : Obj} {c : Str} : H a = some (.frz o (.own a)) → ExcO K o c → Den K H S (.ref a) (excD c .none)
  | exc1 {a dx : Addr} {o : Obj} {c n : Str} {v : V} {d : PyData} : H a = some (.frz o (.own a)) → ExcO K o c → o.dict = some dx → H dx = some (.xd [(n, v)]) → Den K H S v d → Den K H S (.ref a) (excD c (.tuple [.str n, d]))
  | ins {a dx C : Addr} {c : Str} : H a = some (.ins C dx []) → (PySem.W.nsIn K mainGlobals c = some (some (.ref C)) ∧ icB K C = true) → Den K H S (.ref a) (objD c)
inductive DenL (K : PySem.W.Frag) (H : Hp) (S : Av) : List V → List PyData → Prop
  | nil : DenL K H S [] []
  | cons {x : V} {d : PyData} {xs : List V} {ds : List PyData} : Den K H S x d → DenL K H S xs ds → DenL K H S (x :: xs) (d :: ds)
end
mutual
def flat : PyData → Bool
  | .none => true
  | .bool _ => true
  | .int _ => true
  | .str _ => true
  | .list _ => false
  | .tuple ds => flatL ds
  | .dict _ => false
def flatL : List PyData → Bool
  | [] => true
  | d :: ds => flat d && flatL ds
end
section
variable {K : PySem.W.Frag} {H H' : Hp} {S S' : Av}
theorem SqLS.sq (h : SqLS K H S a xs) : SqL K H a xs := h.imp (·.1) id
theorem SqLS.new (h : H a = some (.lst xs)) (n : ¬ S a) : SqLS K H S a xs := .inl ⟨.inl h, n⟩
theorem Dm.free (m : Dm S H) (h : H p = none) : ¬ S p := fun q => by
  obtain ⟨o, e, _⟩ := m p q
  rw [h] at e; cases e
theorem Dm.same (e : Same H H') (m : Dm S H) : Dm S H' := fun a q => by
  obtain ⟨o, h, w⟩ := m a q
  exact ⟨o, e a o h, w⟩
theorem Dm.sub (m : Dm S H) (h : ∀ a, S' a → S a) : Dm S' H := fun a q => m a (h a q)
theorem Dm.tup (m : Dm S H) (h : Rd H a (.tup xs)) : ¬ S a := fun q => by
  obtain ⟨o, e, w⟩ := m a q
  rcases h with h | ⟨u, h⟩
  · rw [h] at e; cases e; cases w
  · rw [h] at e; cases e; cases w
theorem Dm.not (m : Dm S H) (h : H a = some u) (n : isMut u = false) : ¬ S a := fun q => by
  obtain ⟨o, e, w⟩ := m a q
  rw [h] at e; cases e; rw [n] at w; cases w
theorem Rd.off (e : Off S H H') (n : ¬ S a) (h : Rd H a o) : Rd H' a o := by
  rcases h with h | ⟨u, h⟩
  · exact .inl (e _ _ n h)
  · exact .inr ⟨u, e _ _ n h⟩
theorem Rd.dom (h : Rd H a o) : H a ≠ none := by
  rcases h with h | ⟨u, h⟩ <;> (rw [h]; exact fun z => nomatch z)
theorem Same.off (e : Same H H') : Off S H H' := fun b o _ h => e b o h
theorem Same.sqT (e : Same H H') (h : SqT K H a xs) : SqT K H' a xs := by
  rcases h with (h | ⟨o, h⟩) | h
  · exact .inl (.inl (e _ _ h))
  · exact .inl (.inr ⟨o, e _ _ h⟩)
  · exact .inr h
theorem Same.lay (hn : H p = none) : Same H (L2.upd H p o) := fun b u q => by rw [upd_ne (ne_of_none q hn)]; exact q
theorem Same.lay'  (e : Same H0 H) (hn : H p = none) : Same H0 (L2.upd H p o) := e.trans (Same.lay hn)
theorem Den.off (m : Dm S H) (e : Off S H H') {v : V} {d : PyData} (h : Den K H S v d) : Den K H' S v d :=
  Den.rec (motive_1 := fun v d _ => Den K H' S v d) (motive_2 := fun vs ds _ => DenL K H' S vs ds) .none .bool .int .str (fun h _ t => .list (h.imp (fun q => ⟨q.1.off e q.2, q.2⟩) id) t) (fun h _ t => .tuple (h.imp (fun q => q.off e (m.tup q)) id) t)
    (fun h _ _ k t => .dict ⟨e _ _ h.2 h.1, h.2⟩ k t) (fun h o => .exc0 (e _ _ (m.not h rfl) h) o) (fun h o x y _ t => .exc1 (e _ _ (m.not h rfl) h) o x (e _ _ (m.not y rfl) y) t) (fun h o => .ins (e _ _ (m.not h rfl) h) o) .nil (fun _ _ h t => .cons h t) h
theorem DenL.byE {K : PySem.W.Frag} {H : Hp} {S : Av} {P : List V → List PyData → Prop} (n : P [] []) (c : ∀ {x : V} {d : PyData} {xs : List V} {ds : List PyData}, Den K H S x d → DenL K H S xs ds → P xs ds → P (x :: xs) (d :: ds)) {vs : List V} {ds : List PyData} (h : DenL K H S vs ds) : P vs ds :=
  DenL.rec (motive_1 := fun _ _ _ => True) (motive_2 := fun vs ds _ => P vs ds) trivial (fun _ => trivial) (fun _ => trivial) (fun _ => trivial) (fun _ _ _ => trivial) (fun _ _ _ => trivial) (fun _ _ _ _ _ => trivial) (fun _ _ => trivial) (fun _ _ _ _ _ _ => trivial) (fun _ _ => trivial) n (fun h t _ p => c h t p) h
theorem DenL.off (m : Dm S H) (e : Off S H H') {vs : List V} {ds : List PyData} (h : DenL K H S vs ds) : DenL K H' S vs ds := h.byE (P := fun vs ds => DenL K H' S vs ds) .nil fun h _ t => .cons (h.off m e) t
theorem Den.same (e : Same H H') {v : V} {d : PyData} (h : Den K H S v d) : Den K H' S v d :=
  Den.rec (motive_1 := fun v d _ => Den K H' S v d) (motive_2 := fun vs ds _ => DenL K H' S vs ds) .none .bool .int .str (fun h _ t => .list (h.imp (fun q => ⟨q.1.off (S := S) e.off q.2, q.2⟩) id) t) (fun h _ t => .tuple (e.sqT h) t)
    (fun h _ _ k t => .dict ⟨e _ _ h.1, h.2⟩ k t) (fun h o => .exc0 (e _ _ h) o) (fun h o x y _ t => .exc1 (e _ _ h) o x (e _ _ y) t) (fun h o => .ins (e _ _ h) o) .nil (fun _ _ h t => .cons h t) h
theorem DenL.same (e : Same H H') {vs : List V} {ds : List PyData} (h : DenL K H S vs ds) : DenL K H' S vs ds := h.byE (P := fun vs ds => DenL K H' S vs ds) .nil fun h _ t => .cons (h.same e) t
theorem Den.sub (e : ∀ a, H a ≠ Option.none → S' a → S a) {v : V} {d : PyData} (h : Den K H S v d) : Den K H S' v d :=
  Den.rec (motive_1 := fun v d _ => Den K H S' v d) (motive_2 := fun vs ds _ => DenL K H S' vs ds) .none .bool .int .str (fun h _ t => .list (h.imp (fun q => ⟨q.1, fun z => q.2 (e _ q.1.dom z)⟩) id) t) (fun h _ t => .tuple h t)
    (fun h _ _ k t => .dict ⟨h.1, fun z => h.2 (e _ (by rw [h.1]; exact fun y => nomatch y) z)⟩ k t) (fun h o => .exc0 h o) (fun h o x y _ t => .exc1 h o x y t) (fun h o => .ins h o) .nil (fun _ _ h t => .cons h t) h
theorem DenL.sub (e : ∀ a, H a ≠ none → S' a → S a) {vs : List V} {ds : List PyData} (h : DenL K H S vs ds) : DenL K H S' vs ds := h.byE (P := fun vs ds => DenL K H S' vs ds) .nil fun h _ t => .cons (h.sub e) t
theorem Den.flat {v : V} {d : PyData} (f : L2.flat d = true) (h : Den K H S v d) : Den K H S' v d :=
  Den.rec (motive_1 := fun v d _ => L2.flat d = true → Den K H S' v d) (motive_2 := fun vs ds _ => flatL ds = true → DenL K H S' vs ds) (fun _ => .none) (fun b _ => .bool b) (fun i _ => .int i) (fun x _ => .str x) (fun _ _ _ f => nomatch f) (fun h _ t f => .tuple h (t (by rw [L2.flat] at f; exact f)))
    (fun _ _ _ _ _ f => nomatch f) (fun _ _ f => nomatch f) (fun _ _ _ _ _ _ f => nomatch f) (fun _ _ f => nomatch f) (fun _ => .nil) (fun _ _ h t f => by rw [flatL, Bool.and_eq_true] at f; exact .cons (h f.1) (t f.2)) h f
theorem DenL.flat {vs : List V} {ds : List PyData} (f : flatL ds = true) (h : DenL K H S vs ds) : DenL K H S' vs ds :=
  h.byE (P := fun vs ds => flatL ds = true → DenL K H S' vs ds) (fun _ => .nil) (fun h _ t f => by rw [flatL, Bool.and_eq_true] at f; exact .cons (h.flat f.1) (t f.2)) f
theorem DenL.length {vs : List V} {ds : List PyData} (h : DenL K H S vs ds) : vs.length = ds.length := h.byE (P := fun vs ds => vs.length = ds.length) rfl fun _ _ t => by rw [List.length_cons, List.length_cons, t]
theorem DenL.append {vs ws : List V} {ds es : List PyData} (h : DenL K H S vs ds) (q : DenL K H S ws es) : DenL K H S (vs ++ ws) (ds ++ es) := h.byE (P := fun vs ds => DenL K H S (vs ++ ws) (ds ++ es)) q fun h _ t => .cons h t
theorem DenL.snoc {vs : List V} {ds : List PyData} {v : V} {d : PyData} (h : DenL K H S vs ds) (q : Den K H S v d) : DenL K H S (vs ++ [v]) (ds ++ [d]) := h.append (.cons q .nil)
theorem DenL.get : ∀ {vs : List V} {ds : List PyData} {i : Nat} {d : PyData}, DenL K H S vs ds → ds[i]? = some d → ∃ v, vs[i]? = some v ∧ Den K H S v d
  | _, _, _, _, .nil, e => by simp at e
  | _, _, 0, _, .cons h _, e => by simp at e; subst e; exact ⟨_, rfl, h⟩
  | _, _, i + 1, d, .cons _ t, e => by
    obtain ⟨v, h1, h2⟩ := DenL.get (i := i) (d := d) t (by simpa using e)
    exact ⟨v, by simpa using h1, h2⟩
theorem DenL.drop : ∀ {vs : List V} {ds : List PyData} (n : Nat), DenL K H S vs ds → DenL K H S (vs.drop n) (ds.drop n)
  | _, _, 0, h => h
  | _, _, _ + 1, .nil => .nil
  | _, _, n + 1, .cons _ t => t.drop n
theorem DenL.take : ∀ {vs : List V} {ds : List PyData} (n : Nat), DenL K H S vs ds → DenL K H S (vs.take n) (ds.take n)
  | _, _, 0, _ => .nil
  | _, _, _ + 1, .nil => .nil
  | _, _, n + 1, .cons h t => .cons h (t.take n)
theorem DenL.ints : ∀ ns : List Int, DenL K H S (ns.map V.int) (ns.map PyData.int)
  | [] => .nil
  | n :: ns => .cons (.int n) (DenL.ints ns)
theorem Den.int_inv (h : Den K H S v (.int i)) : v = .int i := by cases h; rfl
theorem Den.bool_inv (h : Den K H S v (.bool b)) : v = .bl b := by cases h; rfl
theorem Den.list_inv (h : Den K H S v (.list ds)) : ∃ a xs, v = .ref a ∧ SqLS K H S a xs ∧ DenL K H S xs ds := by
  cases h with
  | list h t => exact ⟨_, _, rfl, h, t⟩
theorem Den.tuple_inv (h : Den K H S v (.tuple ds)) : ∃ a xs, v = .ref a ∧ SqT K H a xs ∧ DenL K H S xs ds := by
  cases h with
  | tuple h t => exact ⟨_, _, rfl, h, t⟩
theorem DenL.inv1 (h : DenL K H S vs [d]) : ∃ v, vs = [v] ∧ Den K H S v d := by
  cases h with
  | cons a t => cases t; exact ⟨_, rfl, a⟩
end
section
variable {X : Cx} {pins : List (Addr × Obj)} {σ : St} {H : Hp} {s : Shared} {S : Av}
theorem DenL.readsE (I : Inv X pins σ H s) {vs : List V} {ds : List PyData} (h : DenL X.K H S vs ds) (f : ∀ {x : V} {d : PyData} {u : Value}, Den X.K H S x d → d.canLay0 = true → RelV x u → ∃ as, Reads s.heap u d as) {us : List Value} (c : PyData.canLayAll0 ds = true) (r : Vals vs us) : ∃ as, ReadsAll s.heap us ds as :=
  h.byE (P := fun vs ds => ∀ us, PyData.canLayAll0 ds = true → Vals vs us → ∃ as, ReadsAll s.heap us ds as) (fun _ _ r => by cases r; exact ⟨_, .nil⟩) (fun h _ t _ c r => by
    cases r with
    | cons r rr =>
      rw [PyData.canLayAll0, Bool.and_eq_true] at c
      obtain ⟨as, q⟩ := f h c.1 r
      obtain ⟨bs, q'⟩ := t _ c.2 rr
      exact ⟨_, .cons q q'⟩) us c r
theorem Den.reads (I : Inv X pins σ H s) {v : V} {d : PyData} {u : Value} (h : Den X.K H S v d) (c : d.canLay0 = true) (r : RelV v u) : ∃ as, Reads s.heap u d as :=
  Den.rec (motive_1 := fun v d _ => ∀ u, d.canLay0 = true → RelV v u → ∃ as, Reads s.heap u d as) (motive_2 := fun vs ds _ => ∀ us, PyData.canLayAll0 ds = true → Vals vs us → ∃ as, ReadsAll s.heap us ds as)
    (fun u _ r => by cases (show u = Value.none from r); exact ⟨_, .none⟩) (fun b u _ r => by cases (show u = Value.bool b from r); exact ⟨_, .bool b⟩) (fun i u _ r => by obtain ⟨t, e⟩ := (show ∃ t, u = Value.int i t from r); cases e; exact ⟨_, .int i t⟩) (fun x u _ r => by obtain ⟨t, e⟩ := (show ∃ t, u = Value.str x t from r); cases e; exact ⟨_, .str x t⟩)
    (@fun a xs ds h _ t u c0 r => by
      cases (show u = Value.ref a from r)
      obtain ⟨its, rv, ⟨o, n, e, c, _, d⟩, _⟩ := I.list h.sq
      obtain ⟨as, q⟩ := t its (by rw [PyData.canLay0] at c0; exact c0) rv
      exact ⟨_, .list e c d (by rw [List.toList_toArray]; exact q)⟩)
    (@fun a xs ds h _ t u c0 r => by
      cases (show u = Value.ref a from r)
      obtain ⟨its, rv, ⟨o, e, c, n, d⟩, _⟩ := I.tuple h
      obtain ⟨as, q⟩ := t its (by rw [PyData.canLay0] at c0; exact c0) rv
      exact ⟨_, .tuple e c d (by rw [List.toList_toArray]; exact q)⟩)
    (fun _ _ _ _ _ _ c0 _ => by rw [PyData.canLay0] at c0; cases c0) (fun _ _ _ c0 _ => by unfold excD at c0; rw [PyData.canLay0] at c0; cases c0) (fun _ _ _ _ _ _ _ c0 _ => by unfold excD at c0; rw [PyData.canLay0] at c0; cases c0) (fun _ _ _ c0 _ => by unfold objD at c0; rw [PyData.canLay0] at c0; cases c0)
    (fun _ _ r => by cases r; exact ⟨_, .nil⟩) (fun _ _ h t _ c r => by
      cases r with
      | cons r rr =>
        rw [PyData.canLayAll0, Bool.and_eq_true] at c
        obtain ⟨as, q⟩ := h _ c.1 r
        obtain ⟨bs, q'⟩ := t _ c.2 rr
        exact ⟨_, .cons q q'⟩) h u c r
theorem DenL.reads (I : Inv X pins σ H s) {vs : List V} {ds : List PyData} {us : List Value} (h : DenL X.K H S vs ds) (c : PyData.canLayAll0 ds = true) (r : Vals vs us) : ∃ as, ReadsAll s.heap us ds as := h.readsE I (fun h c r => h.reads I c r) c r
end
section
variable {X : Cx} {pins : List (Addr × Obj)} {σ : St} {H : Hp} {s : Shared}
def rEqD (K : PySem.W.Frag) : R2 := fun x y H Q => ∃ S d e, Den K H S x d ∧ Den K H S y e ∧ SeqAt.shaped d = true ∧ SeqAt.shaped e = true ∧ Q (.bl (PyData.eqv d e)) H
def rNeD (K : PySem.W.Frag) : R2 := fun x y H Q => ∃ S d e, Den K H S x d ∧ Den K H S y e ∧ SeqAt.shaped d = true ∧ SeqAt.shaped e = true ∧ Q (.bl (!PyData.eqv d e)) H
theorem op_eqD (hr : Room k X.A) : OpR X (compareOp .Eq) (rEqD X.K) := by
  intro pins s σ H x y v u Q I rx ry h
  obtain ⟨S, d, e, h1, h2, s1, s2, q⟩ := h
  obtain ⟨as, q1⟩ := h1.reads I (SeqAt.canLay_of_shaped s1) rx
  obtain ⟨bs, q2⟩ := h2.reads I (SeqAt.canLay_of_shaped s2) ry
  exact eq_dataH q1 q2 s1 s2 hr.units (fin_bl I q rfl)
theorem op_neD (hr : Room k X.A) : OpR X (compareOp .NotEq) (rNeD X.K) := by
  intro pins s σ H x y v u Q I rx ry h
  obtain ⟨S, d, e, h1, h2, s1, s2, q⟩ := h
  obtain ⟨as, q1⟩ := h1.reads I (SeqAt.canLay_of_shaped s1) rx
  obtain ⟨bs, q2⟩ := h2.reads I (SeqAt.canLay_of_shaped s2) ry
  exact ne_dataH q1 q2 s1 s2 hr.units (fin_bl I q rfl)
theorem op_mulW : OpR X (binaryOp .Mult) (rI IntMulOk fun i j => .int (i * j)) := opI fun _ _ _ _ _ _ _ hc q => mul_int q hc
inductive TyD (K : PySem.W.Frag) (H : Hp) : V → String → Prop
  | non : TyD K H .non "NoneType"
  | bl (b : Bool) : TyD K H (.bl b) "bool"
  | int (i : Int) : TyD K H (.int i) "int"
  | str (x : Str) : TyD K H (.str x) "str"
  | lst {a : Addr} {xs : List V} (h : SqL K H a xs) : TyD K H (.ref a) "list"
  | tup {a : Addr} {xs : List V} (h : SqT K H a xs) : TyD K H (.ref a) "tuple"
  | dct {a : Addr} {kvs : List (KX × Addr × V)} {ep : Nat} (h : H a = some (DctO a kvs ep)) : TyD K H (.ref a) "dict"
def rIsi (K : PySem.W.Frag) : List V → Hp → VK → Prop := fun vs H Q => ∃ x T t b, vs = [x, .ty T] ∧ TyD K H x t ∧ PySem.W.kitOne K (.type t) (.type T) = some b ∧ Q (.bl b) H
theorem call_isi : CallR X (.builtin "isinstance") (rIsi X.K) := by
  intro pins s σ H xs us Q I r h
  obtain ⟨x, T, t, b, rfl, ty, e, q⟩ := h
  obtain ⟨u, c, rfl, ru, rc⟩ := r.two
  cases (show c = Value.type T from rc)
  have fin : ∀ tk, EP X pins σ Q (.bool b) { s with toks := tk } := fun tk => ⟨.bl b, H, I.tok tk, rfl, q⟩
  cases ty with
  | non => cases (show u = Value.none from ru); exact PySem.W.kia_one PySem.W.kitx_none I.kIn True.intro e (fun z => nomatch z) fin
  | bl y => cases (show u = Value.bool y from ru); exact PySem.W.kia_one PySem.W.kitx_bool I.kIn True.intro e (fun z => nomatch z) fin
  | int i => obtain ⟨t, q⟩ := (show ∃ t, u = Value.int i t from ru); cases q; exact PySem.W.kia_one PySem.W.kitx_int I.kIn True.intro e (fun z => nomatch z) fin
  | str y => obtain ⟨t, q⟩ := (show ∃ t, u = Value.str y t from ru); cases q; exact PySem.W.kia_one PySem.W.kitx_str I.kIn True.intro e (fun z => nomatch z) fin
  | @lst a xs ea =>
    cases (show u = Value.ref a from ru)
    obtain ⟨_, _, ⟨o, n, h1, h2, _⟩, _⟩ := I.list ea
    exact PySem.W.kia_one PySem.W.kitx_list I.kIn ⟨o, h1, h2⟩ e (fun z => nomatch z) fin
  | @tup a xs ea =>
    cases (show u = Value.ref a from ru)
    obtain ⟨_, _, ⟨o, h1, h2, _⟩, _⟩ := I.tuple ea
    exact PySem.W.kia_one PySem.W.kitx_tuple I.kIn ⟨o, h1, h2⟩ e (fun z => nomatch z) fin
  | @dct a kvs ep ea =>
    cases (show u = Value.ref a from ru)
    obtain ⟨o, _, h1, h2, _⟩ := (DctAt.of (I.hok a _ ea)).vals
    exact PySem.W.kia_one PySem.W.kitx_dict I.kIn ⟨o, h1, h2.1⟩ e (fun z => nomatch z) fin
def ExcH (K : PySem.W.Frag) (H : Hp) (a : Addr) (c : Str) : Prop := ∃ o, H a = some (.frz o (.own a)) ∧ ExcO K o c
theorem Inv.excAt (I : Inv X pins σ H s) (h : ExcH X.K H a c) : ∃ C, PySem.W.nsIn X.K mainGlobals c = some (some (.ref C)) ∧ xcB X.K C = true ∧ OfC s.heap a C := by
  obtain ⟨o, ha, C, vs, h1, h2, h3, h4⟩ := h
  exact ⟨C, h3, h4, o, (I.hok a _ ha).1, h1⟩
def rIsiX (K : PySem.W.Frag) : List V → Hp → VK → Prop := fun vs H Q => ∃ a c T b, vs = [.ref a, .ty T] ∧ ExcH K H a c ∧ (∀ C, xcB K C = true → PySem.W.kitOne K (.ref C) (.type T) = some b) ∧ Q (.bl b) H
theorem call_isiX : CallR X (.builtin "isinstance") (rIsiX X.K) := by
  intro pins s σ H xs us Q I r h
  obtain ⟨a, c, T, b, rfl, hx, e, q⟩ := h
  obtain ⟨u, c', rfl, ru, rc⟩ := r.two
  cases (show c' = Value.type T from rc)
  cases (show u = Value.ref a from ru)
  obtain ⟨C, _, h4, IA⟩ := I.excAt hx
  exact PySem.W.kia_one (kitx_exc (xcK_of h4)) I.kIn IA (e C h4) (fun z => nomatch z) fun tk => ⟨.bl b, H, I.tok tk, rfl, q⟩
def rIsiI (K : PySem.W.Frag) : List V → Hp → VK → Prop := fun vs H Q => ∃ a C dx T b, vs = [.ref a, .ty T] ∧ H a = some (.ins C dx []) ∧ icB K C = true ∧ PySem.W.kitOne K (.ref C) (.type T) = some b ∧ Q (.bl b) H
theorem call_isiI : CallR X (.builtin "isinstance") (rIsiI X.K) := by
  intro pins s σ H xs us Q I r h
  obtain ⟨a, C, dx, T, b, rfl, hx, hc, e, q⟩ := h
  obtain ⟨u, c', rfl, ru, rc⟩ := r.two
  cases (show c' = Value.type T from rc)
  exact isinst_ok I ru ((icK_of hc).ty hx) e fun tk => ⟨.bl b, H, I.tok tk, rfl, q⟩
end
abbrev Rho := List (Option PyData)
def DenS (K : PySem.W.Frag) (H : Hp) (S : Av) (M : List Nat) (σ : St) (ρ : Rho) : Prop := Dm S H ∧ σ.length = ρ.length ∧ ∀ (i : Nat) (d : PyData), i ∉ M → ρ[i]? = some (some d) → ∃ v, σ[i]? = some (some v) ∧ Den K H S v d
section
variable {K : PySem.W.Frag} {H H' : Hp} {S : Av} {M : List Nat} {σ : St} {ρ : Rho} {v : V} {d : PyData}
theorem DenS.same (e : Same H H') (h : DenS K H S M σ ρ) : DenS K H' S M σ ρ := ⟨h.1.same e, h.2.1, fun i d n q => let ⟨v, a, b⟩ := h.2.2 i d n q; ⟨v, a, b.same e⟩⟩
theorem DenS.set (h : DenS K H S M σ ρ) (q : Den K H S v d) (i : Nat) : DenS K H S M (σ.set i (some v)) (ρ.set i (some d)) := by
  refine ⟨h.1, by rw [List.length_set, List.length_set]; exact h.2.1, fun j e n he => ?_⟩
  by_cases hj : i = j
  · subst hj
    by_cases hi : i < ρ.length
    · rw [List.getElem?_set_self hi] at he
      cases he
      exact ⟨v, List.getElem?_set_self (by rw [h.2.1]; exact hi), q⟩
    · rw [List.set_eq_of_length_le (by omega)] at he
      exact absurd (List.getElem?_eq_some_iff.mp he).1 hi
  · rw [List.getElem?_set_ne hj] at he
    obtain ⟨w, a, b⟩ := h.2.2 j e n he
    exact ⟨w, by rw [List.getElem?_set_ne hj]; exact a, b⟩
theorem DenS.start {ds : List PyData} (m : Dm S H) (h : DenL K H S vs ds) (N : List Str) : DenS K H S [] (start N vs) (ds.map some ++ List.replicate (N.length - ds.length) none) := by
  have hl := h.length
  refine ⟨m, ?_, fun j e _ he => ?_⟩
  · unfold L2.start
    rw [List.length_append, List.length_append, List.length_map, List.length_map, List.length_replicate, List.length_replicate, hl]
  · by_cases hj : j < ds.length
    · rw [List.getElem?_append_left (by simpa using hj), List.getElem?_map] at he
      cases e1 : ds[j]? with
      | none => rw [e1] at he; cases he
      | some d =>
        rw [e1] at he
        cases he
        obtain ⟨v, a, b⟩ := h.get e1
        refine ⟨v, ?_, b⟩
        unfold L2.start
        rw [List.getElem?_append_left (by rw [List.length_map]; omega), List.getElem?_map, a]
        rfl
    · rw [List.getElem?_append_right (by simpa using hj), List.getElem?_replicate] at he
      split at he <;> cases he
end
def tD (K : PySem.W.Frag) (M : List Nat) (f : Rho → Option PyData) : TE := fun σ H Q => ∃ S ρ d, DenS K H S M σ ρ ∧ f ρ = some d ∧ ∀ v H', Same H H' → Den K H' S v d → Q v H'
def tDA (K : PySem.W.Frag) (M : List Nat) (f : Rho → Option (List PyData)) : TA := fun σ H Q => ∃ S ρ ds, DenS K H S M σ ρ ∧ f ρ = some ds ∧ ∀ vs H', Same H H' → DenL K H' S vs ds → Q vs H'
def tDT (K : PySem.W.Frag) (M : List Nat) (f : Rho → Option Bool) : TT := fun σ H Q => ∃ S ρ b, DenS K H S M σ ρ ∧ f ρ = some b ∧ ∀ H', Same H H' → Q b H'
inductive Out where
  | nx (ρ : Rho) | rt (d : PyData) | bk (ρ : Rho) | ct (ρ : Rho)
def PD (X : Cx) (M : List Nat) (e : Expr) (f : Rho → Option PyData) : Prop := PE X e (tD X.K M f)
def PDA (X : Cx) (M : List Nat) (es : List Expr) (f : Rho → Option (List PyData)) : Prop := PA X es (tDA X.K M f)
def PDT (X : Cx) (M : List Nat) (e : Expr) (f : Rho → Option Bool) : Prop := PT X e (tDT X.K M f)
theorem PE.weak {X : Cx} {e : Expr} {t t' : TE} (h : PE X e t) (w : ∀ σ H Q, t' σ H Q → t σ H Q) : PE X e t' := fun pins s σ H Q I q => h pins s σ H Q I (w σ H Q q)
theorem PT.weak {X : Cx} {e : Expr} {t t' : TT} (h : PT X e t) (w : ∀ σ H Q, t' σ H Q → t σ H Q) : PT X e t' := fun pins s σ H Q I q => h pins s σ H Q I (w σ H Q q)
theorem PW.weak {X : Cx} {e : Expr} {t t' : TT} (h : PW X e t) (w : ∀ σ H Q, t' σ H Q → t σ H Q) : PW X e t' := fun wh pins s σ H Q I q => h wh pins s σ H Q I (w σ H Q q)
theorem PA.weak {X : Cx} {e : List Expr} {t t' : TA} (h : PA X e t) (w : ∀ σ H Q, t' σ H Q → t σ H Q) : PA X e t' := fun pos pins s σ H Q I q => h pos pins s σ H Q I (w σ H Q q)
theorem PS.weak {X : Cx} {e : Stmt} {t t' : TS} (h : PS X e t) (w : ∀ D σ H, t' D σ H → t D σ H) : PS X e t' := fun pins s σ H D I q => h pins s σ H D I (w D σ H q)
theorem PSs.weak {X : Cx} {e : List Stmt} {t t' : TS} (h : PSs X e t) (w : ∀ D σ H, t' D σ H → t D σ H) : PSs X e t' := fun pins s σ H D I q => h pins s σ H D I (w D σ H q)
def ob {α β : Type} (a : Option α) (f : α → Option β) : Option β := match a with | some x => f x | none => none
theorem ob_some {α β : Type} {a : Option α} {f : α → Option β} {y : β} (h : ob a f = some y) : ∃ x, a = some x ∧ f x = some y := by
  cases a with
  | none => cases h
  | some x => exact ⟨x, rfl, h⟩
def visB (sc : Scope) (x : Str) : Bool := decide (sc.names.lookup x = some .local) || decide (sc.names.lookup x = some .cell) || decide (sc.names.lookup x = some .free)
def locB (sc : Scope) (x : Str) : Bool := decide (sc.names.lookup x = some .local) || decide (sc.names.lookup x = some .cell)
def glB (sc : Scope) (x : Str) : Bool := decide (sc.names.lookup x = some .globalImplicit)
theorem vis_fn (h : visB sc x = true) : Vis sc x := by
  unfold visB at h
  simp only [Bool.or_eq_true, decide_eq_true_eq] at h
  rcases h with (h | h) | h
  · exact .inl h
  · exact .inr (.inl h)
  · exact .inr (.inr h)
theorem loc_fn (h : locB sc x = true) : Loc sc x := by
  unfold locB at h
  simp only [Bool.or_eq_true, decide_eq_true_eq] at h
  exact h
theorem gl_fn {X : Cx} (sc : Scope) (hs : X.env.scope = sc) (h : glB sc x = true) : Gl X x := by
  subst hs
  have h' : X.env.scope.names.lookup x = some .globalImplicit := of_decide_eq_true h
  exact h'
theorem relabel_of {env : Env} : ∀ {names : List (Str × NameKind)} {x : Str} {k : NameKind}, names.lookup x = some k →
    (names.map fun (n, k) => if (k == NameKind.free && env.scope.kind == .function && env.kindOf n == some .cell) then (n, NameKind.cell) else (n, k)).lookup x = some k ∨
    (k = .free ∧ (names.map fun (n, k) => if (k == NameKind.free && env.scope.kind == .function && env.kindOf n == some .cell) then (n, NameKind.cell) else (n, k)).lookup x = some .cell) := by
  intro names x k
  induction names with
  | nil => intro h; cases h
  | cons q r ih =>
    intro h
    obtain ⟨n, k'⟩ := q
    show List.lookup x ((if (k' == NameKind.free && env.scope.kind == .function && env.kindOf n == some .cell) = true then (n, NameKind.cell) else (n, k')) :: _) = _ ∨ (_ ∧ List.lookup x ((if (k' == NameKind.free && env.scope.kind == .function && env.kindOf n == some .cell) = true then (n, NameKind.cell) else (n, k')) :: _) = _)
    cases hx : x == n with
    | true =>
      simp only [List.lookup_cons, hx] at h
      have hk : k' = k := Option.some.inj h
      subst hk
      by_cases hc : (k' == NameKind.free && env.scope.kind == .function && env.kindOf n == some .cell) = true
      · rw [if_pos hc]
        rw [Bool.and_eq_true, Bool.and_eq_true] at hc
        exact .inr ⟨by simpa using hc.1.1, by simp [List.lookup_cons, hx]⟩
      · rw [if_neg hc]
        exact .inl (by simp [List.lookup_cons, hx])
    | false =>
      simp only [List.lookup_cons, hx] at h
      by_cases hc : (k' == NameKind.free && env.scope.kind == .function && env.kindOf n == some .cell) = true
      · rw [if_pos hc]
        simp only [List.lookup_cons, hx]
        exact ih h
      · rw [if_neg hc]
        simp only [List.lookup_cons, hx]
        exact ih h
section
variable {X : Cx} {x : Str} {N' : List Str} {sc : Scope} {cl : List (Str × Addr)} {C : Addr} {fp : List Addr} {pins : List (Addr × Obj)} {s : Shared} {H : Hp}
theorem vis_comp (h : visB sc x = true) : Vis (compCx X N' sc cl C fp pins s H).env.scope x := by
  rcases vis_fn h with h | h | h
  · rcases relabel_of (env := X.env) h with q | q
    · exact .inl q
    · cases q.1
  · rcases relabel_of (env := X.env) h with q | q
    · exact .inr (.inl q)
    · cases q.1
  · rcases relabel_of (env := X.env) h with q | q
    · exact .inr (.inr q)
    · exact .inr (.inl q.2)
theorem gl_comp (h : glB sc x = true) : Gl (compCx X N' sc cl C fp pins s H) x := by
  rcases relabel_of (env := X.env) (of_decide_eq_true h) with q | q
  · exact q
  · cases q.1
end
def vr (i : Nat) : Rho → Option PyData := fun ρ => (ρ[i]?).join
def kd (d : PyData) : Rho → Option PyData := fun _ => some d
def ev1 (fa : Rho → Option PyData) (g : PyData → Option PyData) : Rho → Option PyData := fun ρ => ob (fa ρ) g
def aN : Rho → Option (List PyData) := fun _ => some []
def aC (fa : Rho → Option PyData) (fs : Rho → Option (List PyData)) : Rho → Option (List PyData) := fun ρ => ob (fa ρ) fun x => ob (fs ρ) fun xs => some (x :: xs)
def evA (fs : Rho → Option (List PyData)) (h : List PyData → Option PyData) : Rho → Option PyData := fun ρ => ob (fs ρ) h
def evC (n : Nat) (fs : Rho → Option (List PyData)) (h : List PyData → Option PyData) : Rho → Option PyData := fun ρ => ob (fs ρ) fun ds => if ds.length = n then h ds else none
def evC0 (h : List PyData → Option PyData) : Rho → Option PyData := fun _ => h []
section
variable {X : Cx} {M : List Nat} {a b c : Expr} {es : List Expr} {f g fa fb : Rho → Option PyData} {pos : Pos}
theorem pd_var (i : Nat) (hv : Vis X.env.scope x) (hM : i ∉ M) (hN : X.N[i]? = some x := by rfl) (hd : (x == ("__debug__" : Str)) = false := by decide +kernel)
    (hcd : (x == ("__classdict__" : Str)) = false := by decide +kernel) : PD X M (.Name x pos) (vr i) :=
  (pe_var hN hv hd hcd).weak fun σ H Q ⟨S, ρ, d, hs, e, q⟩ => by
    have e : (ρ[i]?).join = some d := e
    have e' : ρ[i]? = some (some d) := by
      cases h : ρ[i]? with
      | none => rw [h] at e; cases e
      | some o => rw [h] at e; exact congrArg some e
    obtain ⟨v, h1, h2⟩ := hs.2.2 i d hM e'
    exact ⟨v, h1, q v H (Same.refl H) h2⟩
theorem pd_int {i j p} : PD X M (.Constant (.int i) j p) (kd (.int i)) := pe_int.weak fun σ H Q ⟨S, _, d, _, e, q⟩ => by cases e; exact q _ H (Same.refl H) (.int i)
theorem pd_bl {i j p} : PD X M (.Constant (.bool i) j p) (kd (.bool i)) := pe_bl.weak fun σ H Q ⟨S, _, d, _, e, q⟩ => by cases e; exact q _ H (Same.refl H) (.bool i)
theorem pd_glob  (hg : Gl X x) (hm : X.mg x = some u) (r : RelV v u) (hd : ∀ H S, Den X.K H S v d) (hdb : (x == ("__debug__" : Str)) = false := by decide +kernel) : PD X M (.Name x pos) (kd d) :=
  (pe_glob hg hm r hdb).weak fun σ H Q ⟨S, _, d', _, e, q⟩ => by cases e; exact q _ H (Same.refl H) (hd H S)
def rD2 (K : PySem.W.Frag) (g : PyData → PyData → Option PyData) : R2 := fun x y H Q => ∃ S dx dy d, Dm S H ∧ Den K H S x dx ∧ Den K H S y dy ∧ g dx dy = some d ∧ ∀ v H', Same H H' → Den K H' S v d → Q v H'
def OpD (X : Cx) (f : Value → Value → Sem Value) (g : PyData → PyData → Option PyData) : Prop := OpR X f (rD2 X.K g)
def UnD (X : Cx) (f : Value → Sem Value) (g : PyData → Option PyData) : Prop := UnR X f (fun x H Q => ∃ S dx d, Dm S H ∧ Den X.K H S x dx ∧ g dx = some d ∧ ∀ v H', Same H H' → Den X.K H' S v d → Q v H')
def CallD (X : Cx) (f : Value) (g : List PyData → Option PyData) : Prop := CallR X f (fun vs H Q => ∃ S ds d, Dm S H ∧ DenL X.K H S vs ds ∧ g ds = some d ∧ ∀ v H', Same H H' → Den X.K H' S v d → Q v H')
def ev2 (fa fb : Rho → Option PyData) (g : PyData → PyData → Option PyData) (ρ : Rho) : Option PyData := ob (fa ρ) fun x => ob (fb ρ) fun y => g x y
theorem tD2 {K : PySem.W.Frag} {g : PyData → PyData → Option PyData} : ∀ σ H Q, tD K M (ev2 fa fb g) σ H Q → tOp (rD2 K g) (tD K M fa) (tD K M fb) σ H Q := by
  intro σ H Q ⟨S, ρ, d, hs, e, q⟩
  obtain ⟨x, e1, e⟩ := ob_some e
  obtain ⟨y, e2, e⟩ := ob_some e
  exact ⟨S, ρ, x, hs, e1, fun v H1 g1 d1 => ⟨S, ρ, y, hs.same g1, e2, fun w H2 g2 d2 => ⟨S, x, y, d, hs.1.same (g1.trans g2), d1.same g2, d2, e, fun z H3 g3 d3 => q z H3 (g1.trans (g2.trans g3)) d3⟩⟩⟩
theorem pd_op {op : Operator} {g : PyData → PyData → Option PyData} (ho : OpD X (binaryOp op) g) (ha : PD X M a fa) (hb : PD X M b fb) : PD X M (.BinOp a op b pos) (ev2 fa fb g) := (pe_op ho ha hb).weak tD2
theorem pd_cmp {op : CmpOp} {g : PyData → PyData → Option PyData} (ho : OpD X (compareOp op) g) (ha : PD X M a fa) (hb : PD X M b fb) (hm : behindInMarks op b = false) : PD X M (.Compare a [op] [b] pos) (ev2 fa fb g) := (pe_cmpR ho ha hb hm).weak tD2
theorem pd_un {op : UnaryOp} {g : PyData → Option PyData} (ho : UnD X (unaryOp op) g) (ha : PD X M a fa) : PD X M (.UnaryOp op a pos) (ev1 fa g) :=
  (pe_un ho ha).weak fun σ H Q ⟨S, ρ, d, hs, e, q⟩ => by
    obtain ⟨x, e1, e⟩ := ob_some e
    exact ⟨S, ρ, x, hs, e1, fun v H1 g1 d1 => ⟨S, x, d, hs.1.same g1, d1, e, fun z H3 g3 d3 => q z H3 (g1.trans g3) d3⟩⟩
def ixD : PyData → PyData → Option PyData
  | .tuple ds, .int i => atI ds i
  | .list ds, .int i => atI ds i
  | _, _ => none
theorem DenL.atI {K : PySem.W.Frag} {H : Hp} {S : Av} {vs : List V} {ds : List PyData} {i : Int} {d : PyData} (h : DenL K H S vs ds) (e : atI ds i = some d) : ∃ v, L2.atI vs i = some v ∧ Den K H S v d := by
  unfold L2.atI at e ⊢
  rw [h.length]
  cases q : ixN ds.length i with
  | none => rw [q] at e; cases e
  | some j => rw [q] at e; exact h.get e
theorem pd_ix (ha : PD X M a fa) (hb : PD X M b fb) (hs : PlainIx b := by intro _ _; rfl) : PD X M (.Subscript a b pos) (ev2 fa fb ixD) :=
  (pe_ix (r := fun x y H Q => rIxL X.K x y H Q ∨ rIxT X.K x y H Q) (ix_list.or ix_tup) ha hb hs).weak fun σ H Q ⟨S, ρ, d, hs, e, q⟩ => by
    obtain ⟨x, e1, e⟩ := ob_some e
    obtain ⟨y, e2, e⟩ := ob_some e
    refine ⟨S, ρ, x, hs, e1, fun v H1 g1 d1 => ⟨S, ρ, y, hs.same g1, e2, fun w H2 g2 d2 => ?_⟩⟩
    have d1' := d1.same g2
    cases d1' with
    | list h t =>
      cases d2 with
      | int i => obtain ⟨z, z1, z2⟩ := t.atI e; exact .inl ⟨_, _, _, _, rfl, rfl, h.sq, z1, q z H2 (g1.trans g2) z2⟩
      | _ => cases e
    | tuple h t =>
      cases d2 with
      | int i => obtain ⟨z, z1, z2⟩ := t.atI e; exact .inr ⟨_, _, _, _, rfl, rfl, h, z1, q z H2 (g1.trans g2) z2⟩
      | _ => cases e
    | _ => cases e
theorem pda_nil : PDA X M [] aN := pa_nil.weak fun σ H Q ⟨S, _, d, _, e, q⟩ => by cases e; exact q [] H (Same.refl H) .nil
theorem pda_cons {fs : Rho → Option (List PyData)} (ha : PD X M a fa) (hr : PDA X M es fs) (hs : starEach (a :: es) X.env = (false, eval a X.env) :: starEach es X.env := by rfl) : PDA X M (a :: es) (aC fa fs) :=
  (pa_cons ha hr hs).weak fun σ H Q ⟨S, ρ, d, hs, e, q⟩ => by
    obtain ⟨x, e1, e⟩ := ob_some e
    obtain ⟨xs, e2, e⟩ := ob_some e
    cases e
    exact ⟨S, ρ, x, hs, e1, fun v H1 g1 d1 => ⟨S, ρ, xs, hs.same g1, e2, fun vs H2 g2 d2 => q _ H2 (g1.trans g2) (.cons (d1.same g2) d2)⟩⟩
def tupD (ds : List PyData) : Option PyData := if ds.length ≤ 1000 then some (.tuple ds) else none
def lstD (ds : List PyData) : Option PyData := if ds.length ≤ 1000 then some (.list ds) else none
theorem tupD_some {ds : List PyData} {d : PyData} (h : tupD ds = some d) : ds.length ≤ 1000 ∧ d = .tuple ds := by
  unfold tupD at h
  split at h
  · rename_i q; cases h; exact ⟨q, rfl⟩
  · cases h
theorem lstD_some {ds : List PyData} {d : PyData} (h : lstD ds = some d) : ds.length ≤ 1000 ∧ d = .list ds := by
  unfold lstD at h
  split at h
  · rename_i q; cases h; exact ⟨q, rfl⟩
  · cases h
theorem pd_tup {fs : Rho → Option (List PyData)} {x1} (h : PDA X M es fs) : PD X M (.Tuple es x1 pos) (evA fs tupD) :=
  (pe_tup h).weak fun σ H Q ⟨S, ρ, d, hs, e, q⟩ => by
    obtain ⟨xs, e1, e⟩ := ob_some e
    obtain ⟨hz, rfl⟩ := tupD_some e
    refine ⟨S, ρ, xs, hs, e1, fun vs H1 g1 d1 => ⟨Nat.le_of_lt (small1000 (by rw [d1.length]; exact hz)), fun p hp => ?_⟩⟩
    exact q _ _ (g1.lay' hp) (.tuple (SqT.of upd_same) (d1.same (Same.lay hp)))
theorem pd_lst {fs : Rho → Option (List PyData)} (h : PDA X M es fs) : PD X M (.List es pos) (evA fs lstD) :=
  (pe_lst h).weak fun σ H Q ⟨S, ρ, d, hs, e, q⟩ => by
    obtain ⟨xs, e1, e⟩ := ob_some e
    obtain ⟨hz, rfl⟩ := lstD_some e
    refine ⟨S, ρ, xs, hs, e1, fun vs H1 g1 d1 => ⟨Nat.le_of_lt (small1000 (by rw [d1.length]; exact hz)), fun p hp => ?_⟩⟩
    exact q _ _ (g1.lay' hp) (.list (SqLS.new upd_same ((hs.1.same g1).free hp)) (d1.same (Same.lay hp)))
def spF (K : PySem.W.Frag) (n : Nat) (f : List PyData → Option PyData) : Sp := fun vs H Q _ => ∃ S ds d, Dm S H ∧ DenL K H S vs ds ∧ ds.length = n ∧ f ds = some d ∧ ∀ v H', Same H H' → Den K H' S v d → Q v H'
theorem pd_call {CX : CXT} {k n : Nat} {fn : Addr} {fd : FuncData} {ps : List Str} {h : List PyData → Option PyData} {E : XK} {x : Str} {p : Pos} {fs : Rho → Option (List PyData)} (F : FnOk X.prog X.w X.K X.mg X.base CX k fn fd ps (spF X.K n h)) (hr : Room k X.A) (hg : Gl X x) (hm : X.mg x = some (.ref fn)) (hk : PySem.W.keepIn X.K (.ref fn) = true)
    (hb : Binds X.K fd ps []) (hx : Passes CX X E) (ha : PDA X M (a :: es) fs) (hl : (a :: es).length = n) (hdb : (x == ("__debug__" : Str)) = false := by decide +kernel) (he : starEach (a :: es) X.env = (false, eval a X.env) :: starEach es X.env := by rfl) (hpl : (backTo pos (starEach es X.env)).any (·.1) = false := by rfl) :
    PD X M (.Call (.Name x p) (a :: es) [] pos) (evC n fs h) :=
  (pe_call F hr hg hm hk hb .nil hx ha hdb he hpl).weak fun σ H Q ⟨S, ρ, d, hs, e, q⟩ => by
    obtain ⟨ds, e1, e⟩ := ob_some e
    have e : (if ds.length = n then h ds else none) = some d := e
    split at e
    · rename_i hn
      exact ⟨S, ρ, ds, hs, e1, fun vs H1 g1 d1 => ⟨S, ds, d, hs.1.same g1, by rw [List.append_nil]; exact d1, hn, e, fun v H' g2 d2 => q v H' (g1.trans g2) d2⟩⟩
    · cases e
theorem pd_callB {id : String} {x : Str} {p : Pos} {h : List PyData → Option PyData} {fs : Rho → Option (List PyData)} (hc : CallD X (.builtin id) h) (hg : Gl X x) (hm : X.mg x = none) (hv : bootBuiltins x = some (.builtin id)) (ha : PDA X M (a :: es) fs) (hn : x ≠ "__name__" := by decide +kernel) (hdb : (x == ("__debug__" : Str)) = false := by decide +kernel)
    (he : starEach (a :: es) X.env = (false, eval a X.env) :: starEach es X.env := by rfl) (hpl : (backTo pos (starEach es X.env)).any (·.1) = false := by rfl) : PD X M (.Call (.Name x p) (a :: es) [] pos) (evA fs h) :=
  (pe_callB hc hg hm hv ha hn hdb he hpl).weak fun σ H Q ⟨S, ρ, d, hs, e, q⟩ => by
    obtain ⟨ds, e1, e⟩ := ob_some e
    exact ⟨S, ρ, ds, hs, e1, fun vs H1 g1 d1 => ⟨S, ds, d, hs.1.same g1, d1, e, fun v H' g2 d2 => q v H' (g1.trans g2) d2⟩⟩
theorem pd_callTy {T : String} {x : Str} {p : Pos} {h : List PyData → Option PyData} {fs : Rho → Option (List PyData)} (hc : CallD X (.type T) h) (hg : Gl X x) (hm : X.mg x = none) (hv : bootBuiltins x = some (.type T)) (ha : PDA X M (a :: es) fs) (hn : x ≠ "__name__" := by decide +kernel) (hdb : (x == ("__debug__" : Str)) = false := by decide +kernel)
    (he : starEach (a :: es) X.env = (false, eval a X.env) :: starEach es X.env := by rfl) (hpl : (backTo pos (starEach es X.env)).any (·.1) = false := by rfl) : PD X M (.Call (.Name x p) (a :: es) [] pos) (evA fs h) :=
  (pe_callTy hc hg hm hv ha hn hdb he hpl).weak fun σ H Q ⟨S, ρ, d, hs, e, q⟩ => by
    obtain ⟨ds, e1, e⟩ := ob_some e
    exact ⟨S, ρ, ds, hs, e1, fun vs H1 g1 d1 => ⟨S, ds, d, hs.1.same g1, d1, e, fun v H' g2 d2 => q v H' (g1.trans g2) d2⟩⟩
def tyS : PyData → String
  | .none => "NoneType" | .bool _ => "bool" | .int _ => "int" | .str _ => "str" | .list _ => "list" | .tuple _ => "tuple" | .dict _ => "dict"
def isiT (T : String) : PyData → Bool
  | .none => T == "NoneType" || T == "object"
  | .bool _ => T == "bool" || T == "int" || T == "object"
  | .int _ => T == "int" || T == "object"
  | .str _ => T == "str" || T == "object"
  | .list _ => T == "list" || T == "object"
  | .tuple _ => T == "tuple" || T == "object"
  | .dict _ => T == "dict" || T == "object"
def isiD (T : String) (d : PyData) : Option PyData := some (.bool (isiT T d))
def KitOk (K : PySem.W.Frag) (T : String) : Prop := ∀ d : PyData, PySem.W.kitOne K (.type (tyS d)) (.type T) = some (isiT T d)
theorem kit_int (K : PySem.W.Frag) : KitOk K "int" := fun d => by cases d <;> rfl
theorem kit_bool (K : PySem.W.Frag) : KitOk K "bool" := fun d => by cases d <;> rfl
theorem kit_tuple (K : PySem.W.Frag) : KitOk K "tuple" := fun d => by cases d <;> rfl
theorem kit_list (K : PySem.W.Frag) : KitOk K "list" := fun d => by cases d <;> rfl
theorem exc_isi {K : PySem.W.Frag} {T : String} {C : Addr} {c : Str} {d : PyData} (hT : T ∈ excTs) (h : xcB K C = true) : PySem.W.kitOne K (.ref C) (.type T) = some (isiT T (excD c d)) := by
  rw [(xcK_of h).ts T hT]
  have : (T == "dict" || T == "object") = false := by
    simp only [excTs, List.mem_cons, List.not_mem_nil, or_false] at hT
    rcases hT with rfl | rfl | rfl | rfl | rfl <;> decide +kernel
  exact congrArg some this.symm
theorem ins_isi {K : PySem.W.Frag} {T : String} {C : Addr} {c : Str} (hT : T ∈ excTs) (h : icB K C = true) : PySem.W.kitOne K (.ref C) (.type T) = some (isiT T (objD c)) := by
  rw [(icK_of h).ts T hT]
  have : (T == "dict" || T == "object") = false := by
    simp only [excTs, List.mem_cons, List.not_mem_nil, or_false] at hT
    rcases hT with rfl | rfl | rfl | rfl | rfl <;> decide +kernel
  exact congrArg some this.symm
theorem pd_isi {T : String} {p p2 : Pos} (kit : KitOk X.K T) (hg : Gl X "isinstance") (hm : X.mg "isinstance" = none) (hgT : Gl X (Str.ofString T)) (hmT : X.mg (Str.ofString T) = none) (hvT : bootBuiltins (Str.ofString T) = some (.type T)) (hv : bootBuiltins "isinstance" = some (.builtin "isinstance")) (ha : PD X M a fa) (hnT : Str.ofString T ≠ "__name__" := by decide +kernel) (hdT : (Str.ofString T == ("__debug__" : Str)) = false := by decide +kernel) (hT : T ∈ excTs := by decide +kernel)
    (he : starEach [a, .Name (Str.ofString T) p2] X.env = (false, eval a X.env) :: starEach [.Name (Str.ofString T) p2] X.env := by rfl) (hpl : (backTo pos (starEach [.Name (Str.ofString T) p2] X.env)).any (·.1) = false := by rfl)
    (hs2 : starEach [.Name (Str.ofString T) p2] X.env = (false, eval (.Name (Str.ofString T) p2) X.env) :: starEach [] X.env := by rfl) :
    PD X M (.Call (.Name "isinstance" p) [a, .Name (Str.ofString T) p2] [] pos) (ev1 fa (isiD T)) :=
  (pe_callB (call_isi.or (call_isiX.or call_isiI)) hg hm hv (pa_cons ha (pa_cons (pe_bltn (v := .ty T) hgT hmT hvT rfl hnT hdT) pa_nil hs2) he) (by decide +kernel) (by decide +kernel) he hpl).weak fun σ H Q ⟨S, ρ, d, hs, e, q⟩ => by
    obtain ⟨x, e1, e⟩ := ob_some e
    cases e
    refine ⟨S, ρ, x, hs, e1, fun v H1 g1 d1 => ?_⟩
    have fin := q (.bl (isiT T x)) H1 g1 (.bool _)
    have k := kit x
    show rIsi X.K [v, .ty T] H1 Q ∨ rIsiX X.K [v, .ty T] H1 Q ∨ rIsiI X.K [v, .ty T] H1 Q
    cases d1 with
    | none => exact .inl ⟨_, _, _, _, rfl, .non, k, fin⟩
    | bool y => exact .inl ⟨_, _, _, _, rfl, .bl y, k, fin⟩
    | int y => exact .inl ⟨_, _, _, _, rfl, .int y, k, fin⟩
    | str y => exact .inl ⟨_, _, _, _, rfl, .str y, k, fin⟩
    | list h t => exact .inl ⟨_, _, _, _, rfl, .lst h.sq, k, fin⟩
    | tuple h t => exact .inl ⟨_, _, _, _, rfl, .tup h, k, fin⟩
    | dict h k2 t => exact .inl ⟨_, _, _, _, rfl, .dct h.1, k, fin⟩
    | exc0 h o => exact .inr (.inl ⟨_, _, _, _, rfl, ⟨_, h, o⟩, fun C z => exc_isi hT z, fin⟩)
    | exc1 h o x y t => exact .inr (.inl ⟨_, _, _, _, rfl, ⟨_, h, o⟩, fun C z => exc_isi hT z, fin⟩)
    | ins h o => exact .inr (.inr ⟨_, _, _, _, _, rfl, h, o.2, ins_isi hT o.2, fin⟩)
theorem opD_of {f : Value → Value → Sem Value} {g : PyData → PyData → Option PyData} {r : R2} (h : OpR X f r) (w : ∀ x y dx dy d H S (Q : VK), Dm S H → Den X.K H S x dx → Den X.K H S y dy → g dx dy = some d → (∀ v H', Same H H' → Den X.K H' S v d → Q v H') → r x y H Q) : OpD X f g :=
  fun pins s σ H x y v u Q I rx ry ⟨S, dx, dy, d, m, h1, h2, e, q⟩ => h pins s σ H x y v u Q I rx ry (w x y dx dy d H S Q m h1 h2 e q)
def iiD (h : Int → Int → Option PyData) : PyData → PyData → Option PyData
  | .int i, .int j => h i j
  | _, _ => none
theorem iiD_some (e : iiD h x y = some d) : ∃ i j, x = .int i ∧ y = .int j ∧ h i j = some d := by
  cases x <;> cases y <;> first | exact ⟨_, _, rfl, rfl, e⟩ | cases e
theorem opD_int {f : Value → Value → Sem Value} {gi : Int → Int → Int} (h : OpR X f (rI0 fun i j => .int (gi i j))) : OpD X f (iiD fun i j => some (.int (gi i j))) :=
  opD_of h fun x y dx dy d H S Q m h1 h2 e q => by
    obtain ⟨i, j, rfl, rfl, e⟩ := iiD_some e
    cases h1; cases h2; cases e
    exact ⟨i, j, rfl, rfl, q _ H (Same.refl H) (.int _)⟩
theorem opD_intC {f : Value → Value → Sem Value} {C : Int → Int → Prop} [∀ i j, Decidable (C i j)] {gi : Int → Int → Int} (h : OpR X f (rI C fun i j => .int (gi i j))) : OpD X f (iiD fun i j => if C i j then some (.int (gi i j)) else none) :=
  opD_of h fun x y dx dy d H S Q m h1 h2 e q => by
    obtain ⟨i, j, rfl, rfl, e'⟩ := iiD_some e
    split at e'
    · rename_i c
      cases h1; cases h2; cases e'
      exact ⟨i, j, rfl, rfl, c, q _ H (Same.refl H) (.int _)⟩
    · cases e'
theorem opD_bool {f : Value → Value → Sem Value} {gi : Int → Int → Bool} (h : OpR X f (rI0 fun i j => .bl (gi i j))) : OpD X f (iiD fun i j => some (.bool (gi i j))) :=
  opD_of h fun x y dx dy d H S Q m h1 h2 e q => by
    obtain ⟨i, j, rfl, rfl, e⟩ := iiD_some e
    cases h1; cases h2; cases e
    exact ⟨i, j, rfl, rfl, q _ H (Same.refl H) (.bool _)⟩
instance (i j : Int) : Decidable (IntMulOk i j) := by unfold IntMulOk; exact inferInstance
instance (i j : Int) : Decidable (CDiv i j) := by unfold CDiv; exact inferInstance
instance (i j : Int) : Decidable (CPow i j) := by unfold CPow; exact inferInstance
def subD : PyData → PyData → Option PyData := iiD fun i j => some (.int (i - j))
def mulD : PyData → PyData → Option PyData := iiD fun i j => if IntMulOk i j then some (.int (i * j)) else none
def fdivD : PyData → PyData → Option PyData := iiD fun i j => if CDiv i j then some (.int (i / j)) else none
def modD : PyData → PyData → Option PyData := iiD fun i j => if 0 < j then some (.int (i % j)) else none
def powD : PyData → PyData → Option PyData := iiD fun i j => if CPow i j then some (.int (i ^ j.toNat)) else none
theorem d_sub : OpD X (binaryOp .Sub) subD := opD_int op_sub
theorem d_mul : OpD X (binaryOp .Mult) mulD := opD_intC op_mulW
theorem d_fdiv : OpD X (binaryOp .FloorDiv) fdivD := opD_intC op_fdiv
theorem d_mod : OpD X (binaryOp .Mod) modD := opD_intC (C := fun _ j => 0 < j) op_mod
theorem d_pow : OpD X (binaryOp .Pow) powD := opD_intC op_pow
def gtD : PyData → PyData → Option PyData := iiD fun i j => some (.bool (decide (j < i)))
theorem d_gt : OpD X (compareOp .Gt) gtD := opD_bool op_gt
def eqD (x y : PyData) : Option PyData := if SeqAt.shaped x = true ∧ SeqAt.shaped y = true then some (.bool (PyData.eqv x y)) else none
def neD (x y : PyData) : Option PyData := if SeqAt.shaped x = true ∧ SeqAt.shaped y = true then some (.bool (!PyData.eqv x y)) else none
theorem d_eq (hr : Room k X.A) : OpD X (compareOp .Eq) eqD := opD_of (op_eqD hr) fun x y dx dy d H S Q m h1 h2 e q => by
  unfold eqD at e
  split at e
  · rename_i c; cases e; exact ⟨S, dx, dy, h1, h2, c.1, c.2, q _ H (Same.refl H) (.bool _)⟩
  · cases e
theorem d_ne (hr : Room k X.A) : OpD X (compareOp .NotEq) neD := opD_of (op_neD hr) fun x y dx dy d H S Q m h1 h2 e q => by
  unfold neD at e
  split at e
  · rename_i c; cases e; exact ⟨S, dx, dy, h1, h2, c.1, c.2, q _ H (Same.refl H) (.bool _)⟩
  · cases e
def negD : PyData → Option PyData
  | .int i => some (.int (-i))
  | _ => none
theorem d_neg : UnD X (unaryOp .USub) negD := fun pins s σ H x v Q I rx ⟨S, dx, d, m, h1, e, q⟩ => un_neg pins s σ H x v Q I rx (by
  cases h1 <;> first | (cases e; exact ⟨_, rfl, q _ H (Same.refl H) (.int _)⟩) | cases e)
def lenD : List PyData → Option PyData
  | [.list ds] => some (.int ds.length)
  | [.tuple ds] => some (.int ds.length)
  | _ => none
theorem DenL.seq1 {K : PySem.W.Frag} {H : Hp} {S : Av} {xs : List V} {ds : List PyData} (h1 : DenL K H S xs ds) {F : List PyData → PyData} {g : List PyData → Option PyData} (hg : ∀ ds d, g ds = some d → (∃ l, ds = [.list l] ∧ d = F l) ∨ ∃ l, ds = [.tuple l] ∧ d = F l) {d : PyData} (e : g ds = some d) : ∃ a ys l, xs = [.ref a] ∧ d = F l ∧ DenL K H S ys l ∧ (SqL K H a ys ∨ SqT K H a ys) := by
  rcases hg _ _ e with ⟨l, rfl, rfl⟩ | ⟨l, rfl, rfl⟩
  · obtain ⟨v, rfl, hv⟩ := h1.inv1
    obtain ⟨a, ys, rfl, hs, t⟩ := hv.list_inv
    exact ⟨a, ys, l, rfl, rfl, t, .inl hs.sq⟩
  · obtain ⟨v, rfl, hv⟩ := h1.inv1
    obtain ⟨a, ys, rfl, hs, t⟩ := hv.tuple_inv
    exact ⟨a, ys, l, rfl, rfl, t, .inr hs⟩
theorem lenD_some (ds : List PyData) (d : PyData) (e : lenD ds = some d) : (∃ l, ds = [.list l] ∧ d = .int (l.length : Nat)) ∨ ∃ l, ds = [.tuple l] ∧ d = .int (l.length : Nat) := by
  unfold lenD at e
  split at e
  · cases e; exact .inl ⟨_, rfl, rfl⟩
  · cases e; exact .inr ⟨_, rfl, rfl⟩
  · cases e
theorem b_len : CallD X (.builtin "len") lenD := fun pins s σ H xs us Q I r ⟨S, ds, d, m, h1, e, q⟩ => call_len_seq pins s σ H xs us Q I r (by
  obtain ⟨a, ys, l, rfl, rfl, t, h⟩ := h1.seq1 lenD_some e
  exact ⟨_, _, rfl, h, by rw [t.length]; exact q _ H (Same.refl H) (.int _)⟩)
def tupleD : List PyData → Option PyData
  | [.list ds] => some (.tuple ds)
  | [.tuple ds] => some (.tuple ds)
  | _ => none
theorem b_tuple : CallD X (.type "tuple") tupleD := fun pins s σ H xs us Q I r ⟨S, ds, d, m, h1, e, q⟩ => call_tuple_of pins s σ H xs us Q I r (by
  cases h1 with
  | nil => cases e
  | cons a t =>
    cases t with
    | cons a' t' => cases a <;> cases e
    | nil =>
      cases a with
      | list h t => cases e; exact ⟨_, _, rfl, .inl ⟨h.sq, fun l hl => q _ _ (Same.lay hl) (.tuple (SqT.of upd_same) (t.same (Same.lay hl)))⟩⟩
      | tuple h t => cases e; exact ⟨_, _, rfl, .inr ⟨h, q _ H (Same.refl H) (.tuple h t)⟩⟩
      | _ => cases e)
def listD : List PyData → Option PyData
  | [.list ds] => some (.list ds)
  | [.tuple ds] => some (.list ds)
  | _ => none
theorem listD_some (ds : List PyData) (d : PyData) (e : listD ds = some d) : (∃ l, ds = [.list l] ∧ d = .list l) ∨ ∃ l, ds = [.tuple l] ∧ d = .list l := by
  unfold listD at e
  split at e
  · cases e; exact .inl ⟨_, rfl, rfl⟩
  · cases e; exact .inr ⟨_, rfl, rfl⟩
  · cases e
theorem b_list : CallD X (.type "list") listD := fun pins s σ H xs us Q I r ⟨S, ds, d, m, h1, e, q⟩ => call_list_of pins s σ H xs us Q I r (by
  obtain ⟨a, ys, l, rfl, rfl, t, h⟩ := h1.seq1 listD_some e
  exact ⟨_, _, rfl, h, fun l hl => q _ _ (Same.lay hl) (.list (SqLS.new upd_same (m.free hl)) (t.same (Same.lay hl)))⟩)
end
def boolD : PyData → Option Bool
  | .bool b => some b
  | _ => none
def tV (f : Rho → Option PyData) : Rho → Option Bool := fun ρ => ob (f ρ) boolD
def tN (p : Rho → Option Bool) : Rho → Option Bool := fun ρ => ob (p ρ) fun b => some (!b)
def tA (p q : Rho → Option Bool) : Rho → Option Bool := fun ρ => ob (p ρ) fun c => if c = true then q ρ else some false
def tO (p q : Rho → Option Bool) : Rho → Option Bool := fun ρ => ob (p ρ) fun c => if c = true then some true else q ρ
def tT : Rho → Option Bool := fun _ => some true
def vA (fa fb : Rho → Option PyData) : Rho → Option PyData := fun ρ => ob (fa ρ) fun x => ob (boolD x) fun c => if c = true then fb ρ else some (.bool false)
def vN (fa : Rho → Option PyData) : Rho → Option PyData := fun ρ => ob (fa ρ) fun x => ob (boolD x) fun c => some (.bool (!c))
def evI (f : Rho → Option PyData) (h : PyData → Option (List PyData)) : Rho → Option (List PyData) := fun ρ => ob (f ρ) h
def evR (fs : Rho → Option (List PyData)) (h : List PyData → Option (List PyData)) : Rho → Option (List PyData) := fun ρ => ob (fs ρ) h
def sN : Rho → Option Out := fun ρ => some (.nx ρ)
def sRet (f : Rho → Option PyData) : Rho → Option Out := fun ρ => ob (f ρ) fun d => some (.rt d)
def sIf (p : Rho → Option Bool) (u w : Rho → Option Out) : Rho → Option Out := fun ρ => ob (p ρ) fun b => if b = true then u ρ else w ρ
def sSet (i : Nat) (f : Rho → Option PyData) : Rho → Option Out := fun ρ => ob (f ρ) fun d => some (.nx (ρ.set i (some d)))
def gNm (i : Nat) : PyData → Rho → Option Rho := fun d ρ => some (ρ.set i (some d))
def sBk : Rho → Option Out := fun ρ => some (.bk ρ)
def sCt : Rho → Option Out := fun ρ => some (.ct ρ)
section
variable {X : Cx} {M : List Nat} {a b c : Expr} {es rest : List Expr} {f g fa fb : Rho → Option PyData} {p q : Rho → Option Bool} {pos : Pos}
theorem boolD_some {d : PyData} {b : Bool} (h : boolD d = some b) : d = .bool b := by cases d <;> first | (cases h; rfl) | cases h
theorem pdt_val (h : PD X M a f) (he : ∀ whole, isTrue a X.env whole = (do let v ← whole; standAt a.pos; holding [v] (truthy v)) := by intro _; rfl) : PDT X M a (tV f) :=
  (pt_val h he).weak fun σ H Q ⟨S, ρ, d, hs, e, q⟩ => by
    obtain ⟨x, e1, e⟩ := ob_some e
    cases boolD_some e
    exact ⟨S, ρ, _, hs, e1, fun v H1 g1 d1 => ⟨d, d1.bool_inv, q H1 g1⟩⟩
theorem pdt_cmp {op : CmpOp} {g : PyData → PyData → Option PyData} (ho : OpD X (compareOp op) g) (ha : PD X M a fa) (hb : PD X M b fb) (hm : behindInMarks op b = false) : PDT X M (.Compare a [op] [b] pos) (tV (ev2 fa fb g)) :=
  (pt_cmpR ho ha hb hm).weak fun σ H Q ⟨S, ρ, d, hs, e, q⟩ => by
    obtain ⟨x, e1, e⟩ := ob_some e
    cases boolD_some e
    exact tD2 σ H _ ⟨S, ρ, _, hs, e1, fun v H1 g1 d1 => ⟨d, d1.bool_inv, q H1 g1⟩⟩
theorem pdt_not (h : PDT X M a p) : PDT X M (.UnaryOp .Not a pos) (tN p) :=
  (pt_not h).weak fun σ H Q ⟨S, ρ, d, hs, e, q⟩ => by
    obtain ⟨x, e1, e⟩ := ob_some e
    cases e
    exact ⟨S, ρ, x, hs, e1, fun H1 g1 => q H1 g1⟩
def PDW (X : Cx) (M : List Nat) (e : Expr) (f : Rho → Option Bool) : Prop := PW X e (tDT X.K M f)
theorem PDW.pdt (h : PDW X M a p) : PDT X M a p := PW.pt h
theorem pdw_and1 (h : PDT X M a p) : PDW X M (.BoolOp .And [a] pos) p := pw_and1 h
theorem pdw_or1 (h : PDT X M a p) : PDW X M (.BoolOp .Or [a] pos) p := pw_or1 h
theorem pdw_and (ha : PDT X M a p) (hb : PDW X M (.BoolOp .And (b :: rest) pos) q) : PDW X M (.BoolOp .And (a :: b :: rest) pos) (tA p q) :=
  (pw_and ha hb).weak fun σ H Q ⟨S, ρ, d, hs, e, w⟩ => by
    obtain ⟨x, e1, e⟩ := ob_some e
    refine ⟨S, ρ, x, hs, e1, fun H1 g1 => ?_⟩
    cases x with
    | true => exact iteT ⟨S, ρ, d, hs.same g1, e, fun H2 g2 => w H2 (g1.trans g2)⟩
    | false => cases e; exact iteF (w H1 g1)
theorem pdw_or (ha : PDT X M a p) (hb : PDW X M (.BoolOp .Or (b :: rest) pos) q) : PDW X M (.BoolOp .Or (a :: b :: rest) pos) (tO p q) :=
  (pw_or ha hb).weak fun σ H Q ⟨S, ρ, d, hs, e, w⟩ => by
    obtain ⟨x, e1, e⟩ := ob_some e
    refine ⟨S, ρ, x, hs, e1, fun H1 g1 => ?_⟩
    cases x with
    | true => cases e; exact iteT (w H1 g1)
    | false => exact iteF ⟨S, ρ, d, hs.same g1, e, fun H2 g2 => w H2 (g1.trans g2)⟩
theorem pd_one {op} (h : PD X M a f) : PD X M (.BoolOp op [a] pos) f := pe_one h
theorem pd_and (ha : PD X M a fa) (hb : PD X M (.BoolOp .And (b :: rest) pos) fb) : PD X M (.BoolOp .And (a :: b :: rest) pos) (vA fa fb) :=
  (pe_and ha hb).weak fun σ H Q ⟨S, ρ, d, hs, e, w⟩ => by
    obtain ⟨x, e1, e⟩ := ob_some e
    obtain ⟨c, e2, e⟩ := ob_some e
    cases boolD_some e2
    refine ⟨S, ρ, _, hs, e1, fun v H1 g1 d1 => ⟨c, d1.bool_inv, ?_⟩⟩
    cases c with
    | true => exact iteT ⟨S, ρ, d, hs.same g1, e, fun v H2 g2 d2 => w v H2 (g1.trans g2) d2⟩
    | false => cases e; exact iteF (w _ H1 g1 (.bool false))
theorem pd_not (ha : PD X M a fa) : PD X M (.UnaryOp .Not a pos) (vN fa) :=
  (pe_not ha).weak fun σ H Q ⟨S, ρ, d, hs, e, w⟩ => by
    obtain ⟨x, e1, e⟩ := ob_some e
    obtain ⟨c, e2, e⟩ := ob_some e
    cases boolD_some e2
    cases e
    exact ⟨S, ρ, _, hs, e1, fun v H1 g1 d1 => ⟨c, d1.bool_inv, w _ H1 g1 (.bool _)⟩⟩
structure IsIt (K : PySem.W.Frag) (S : Av) (J : It) (H : Hp) (ds : List PyData) : Prop where
  go : ∀ (i : Nat) (H' : Hp), Same H H' → i < ds.length → J.go i H'
  yld : ∀ (i : Nat) (H' : Hp) (x : V) (H2 : Hp), Same H H' → J.yld i H' x H2 → Same H' H2 ∧ ∀ d, ds[i]? = some d → ∀ S' : Av, (∀ y e, Den K H S y e → Den K H2 S' y e) → Den K H2 S' x d
  stop : ∀ H' : Hp, Same H H' → J.stop ds.length H'
theorem IsIt.lst {K : PySem.W.Frag} {H : Hp} {S : Av} {l : Addr} {xs : List V} {ds : List PyData} (h : SqL K H l xs) (t : DenL K H S xs ds) : IsIt K S (Itl K l) H ds where
  go := fun i H' e hi => by
    have hi' : i < xs.length := by rw [t.length]; exact hi
    exact ⟨xs, xs[i], e.seq h, List.getElem?_eq_getElem hi'⟩
  yld := fun i H' x H2 e ⟨e2, q⟩ => ⟨by rw [e2]; exact Same.refl _, fun d hd S' w => by
    obtain ⟨v, h1, h2⟩ := t.get hd
    have := q xs (e.seq h)
    rw [h1] at this
    cases this
    exact w _ _ h2⟩
  stop := fun H' e => ⟨xs, e.seq h, by rw [t.length]; exact Nat.le_refl _⟩
theorem IsIt.tup {K : PySem.W.Frag} {H : Hp} {S : Av} {l : Addr} {xs : List V} {ds : List PyData} (h : SqT K H l xs) (t : DenL K H S xs ds) : IsIt K S (Itt K l) H ds where
  go := fun i H' e hi => by
    have hi' : i < xs.length := by rw [t.length]; exact hi
    exact ⟨xs, xs[i], e.sqT h, List.getElem?_eq_getElem hi'⟩
  yld := fun i H' x H2 e ⟨e2, q⟩ => ⟨by rw [e2]; exact Same.refl _, fun d hd S' w => by
    obtain ⟨v, h1, h2⟩ := t.get hd
    have := q xs (e.sqT h)
    rw [h1] at this
    cases this
    exact w _ _ h2⟩
  stop := fun H' e => ⟨xs, e.sqT h, by rw [t.length]; exact Nat.le_refl _⟩
theorem SqLS.off {K : PySem.W.Frag} {H H' : Hp} {S : Av} {a : Addr} {xs : List V} (e : Off S H H') (h : SqLS K H S a xs) : SqLS K H' S a xs := h.imp (fun q => ⟨q.1.off e q.2, q.2⟩) id
theorem SqT.off {K : PySem.W.Frag} {H H' : Hp} {S : Av} {a : Addr} {xs : List V} (m : Dm S H) (e : Off S H H') (h : SqT K H a xs) : SqT K H' a xs := h.imp (fun q => q.off e (m.tup q)) id
def rngL : Int → Nat → List PyData
  | _, 0 => []
  | lo, n + 1 => .int lo :: rngL (lo + 1) n
theorem rngL_length : ∀ (lo : Int) (n : Nat), (rngL lo n).length = n
  | _, 0 => rfl
  | lo, n + 1 => by rw [rngL, List.length_cons, rngL_length]
theorem rngL_get : ∀ (lo : Int) (n i : Nat) (d : PyData), (rngL lo n)[i]? = some d → d = .int (lo + i)
  | _, 0, _, _, h => by simp [rngL] at h
  | lo, n + 1, 0, d, h => by simp [rngL] at h; subst h; simp
  | lo, n + 1, i + 1, d, h => by
    have := rngL_get (lo + 1) n i d (by simpa [rngL] using h)
    rw [this]
    congr 1
    omega
theorem IsIt.rng {K : PySem.W.Frag} {H : Hp} {S : Av} (lo : Int) (n : Nat) : IsIt K S (Itr lo n) H (rngL lo n) where
  go := fun i H' e hi => by rw [rngL_length] at hi; exact hi
  yld := fun i H' x H2 e ⟨e2, q⟩ => ⟨by rw [e2]; exact Same.refl _, fun d hd _ _ => by
    have q' : x = .int (lo + i) := q
    rw [rngL_get lo n i d hd, q']
    exact .int _⟩
  stop := fun H' e => by rw [rngL_length]; exact Nat.le_refl n
def tDI (K : PySem.W.Frag) (M : List Nat) (f : Rho → Option (List PyData)) : TI := fun σ H R => ∃ S ρ ds, DenS K H S M σ ρ ∧ f ρ = some ds ∧ ∀ J H', Same H H' → (∀ H2, Off S H' H2 → IsIt K S J H2 ds) → R J H'
def PDI (X : Cx) (M : List Nat) (tg iter : Expr) (f : Rho → Option (List PyData)) : Prop := PI X tg iter (tDI X.K M f)
theorem PI.weak  (h : PI X tg e t) (w : ∀ σ H R, t' σ H R → t σ H R) : PI X tg e t' := fun pins s σ H Q I q => h pins s σ H Q I (w σ H Q q)
def iSeq (K : PySem.W.Frag) (tl : TE) : TI := fun σ H R => tl σ H fun x H1 => ∃ a, x = .ref a ∧ (((∃ xs, SqL K H1 a xs) ∧ R (Itl K a) H1) ∨ ((∃ xs, SqT K H1 a xs) ∧ R (Itt K a) H1))
theorem pi_seq (hl : PE X l tl) : PI X tg l (iSeq X.K tl) := by
  intro pins s σ H R I h
  refine thn (hl pins s σ H _ I h) fun v s1 ⟨x, H1, I1, r1, q1⟩ => ?_
  obtain ⟨a, e, q1⟩ := q1
  subst e
  cases r1
  have fp : ∀ b ∈ [s1.heap.objs.size], FpOk X pins H1 b := fun b hb => by
    have e : b = s1.heap.objs.size := by simpa using hb
    subst e
    exact I1.fpOk (Nat.le_refl _) (I1.hok.fresh (Nat.le_refl _))
  rcases q1 with ⟨⟨xs, hq⟩, q⟩ | ⟨⟨xs, hq⟩, q⟩
  · obtain ⟨its, rv, p, hz⟩ := I1.list hq
    refine wpAny_pyIter_list p.isList ?_
    exact ⟨s1.heap.objs.size, [s1.heap.objs.size], _, _, H1, rfl, I1.kept (t' := s1.toks) fun b o e => Heap.get?_push_of_some _ e, turn_list a _, ⟨_, Heap.get?_push_size _ rfl, rfl, rfl⟩, fp, q⟩
  · obtain ⟨its, rv, p, hz⟩ := I1.tuple hq
    refine wpAny_pyIter_tuple (show s1.heap.IsTuple a its.toArray from p) ?_
    exact ⟨s1.heap.objs.size, [s1.heap.objs.size], _, _, H1, rfl, I1.kept (t' := s1.toks) fun b o e => Heap.get?_push_of_some _ e, turn_tuple a _, ⟨_, Heap.get?_push_size _ rfl, rfl, rfl⟩, fp, q⟩
def seqD : PyData → Option (List PyData)
  | .list ds => some ds
  | .tuple ds => some ds
  | _ => none
theorem pdi_seq (h : PD X M a f) : PDI X M tg a (evI f seqD) :=
  (pi_seq h).weak fun σ H R ⟨S, ρ, ds, hs, e, w⟩ => by
    obtain ⟨x, e1, e⟩ := ob_some e
    refine ⟨S, ρ, x, hs, e1, fun v H1 g1 d1 => ?_⟩
    cases d1 with
    | list h t => cases e; exact ⟨_, rfl, .inl ⟨⟨_, h.sq⟩, w _ _ g1 fun H2 o => IsIt.lst (h.off o).sq (t.off (hs.1.same g1) o)⟩⟩
    | tuple h t => cases e; exact ⟨_, rfl, .inr ⟨⟨_, h⟩, w _ _ g1 fun H2 o => IsIt.tup (h.off (hs.1.same g1) o) (t.off (hs.1.same g1) o)⟩⟩
    | _ => cases e
def rng1D : List PyData → Option (List PyData)
  | [.int j] => if -1000 ≤ j ∧ j ≤ 1000 then some (rngL 0 j.toNat) else none
  | _ => none
def compD (tt : Rho → Option Bool) (te : Rho → Option PyData) (ρ : Rho) : List PyData → Option (List PyData)
  | [] => some []
  | d :: ds => ob (tt (ρ ++ [some d])) fun b => if b = true then ob (te (ρ ++ [some d])) fun y => ob (compD tt te ρ ds) fun ys => some (y :: ys) else compD tt te ρ ds
def compR (n : Nat) (fi : Rho → Option (List PyData)) (tt : Rho → Option Bool) (te : Rho → Option PyData) (ρ : Rho) : Option PyData :=
  ob (fi ρ) fun ds => if ρ.length = n ∧ ds.length ≤ 1000 then ob (compD tt te ρ ds) fun ys => some (.list ys) else none
def PDTs (X : Cx) (M : List Nat) (ifs : List Expr) (p : Rho → Option Bool) : Prop := PTs X ifs (tDT X.K M p)
theorem pdts_nil : PDTs X M [] tT := fun pins s σ H Q I ⟨S, ρ, b, hs, e, q⟩ => by
  cases e
  exact pts_nil pins s σ H Q I (q H (Same.refl H))
theorem pdts_one (h : PDT X M c p) : PDTs X M [c] p := pts_one h
def lc1 (sc : Scope) (x : Str) : Bool := decide (sc.names.lookup x = some .local) || decide (sc.names.lookup x = some .cell)
theorem relabel_cell {env : Env} : ∀ {names : List (Str × NameKind)} {x : Str}, names.lookup x = some .cell →
    (names.map fun (n, k) => if (k == NameKind.free && env.scope.kind == .function && env.kindOf n == some .cell) then (n, NameKind.cell) else (n, k)).lookup x = some .cell := by
  intro names x
  induction names with
  | nil => intro h; cases h
  | cons q r ih =>
    intro h
    obtain ⟨n, k⟩ := q
    show List.lookup x ((if (k == NameKind.free && env.scope.kind == .function && env.kindOf n == some .cell) = true then (n, NameKind.cell) else (n, k)) :: _) = _
    rw [List.lookup_cons] at h
    by_cases hx : (x == n) = true
    · rw [hx] at h; cases h
      split <;> rw [List.lookup_cons, hx]
    · rw [Bool.eq_false_iff.mpr hx] at h
      split <;> rw [List.lookup_cons, Bool.eq_false_iff.mpr hx] <;> exact ih h
def tDGc (K : PySem.W.Frag) (M : List Nat) (g : PyData → Rho → Option Rho) : TG := fun v σ H Q => ∃ S ρ d ρ', DenS K H S M σ ρ ∧ Den K H S v d ∧ g d ρ = some ρ' ∧ ∀ σ' H', Same H H' → DenS K H' S M σ' ρ' → Q σ' H'
def PDGc (X : Cx) (M : List Nat) (t : Expr) (g : PyData → Rho → Option Rho) : Prop := PG X t (tDGc X.K M g)
theorem PG.weak  (h : PG X e t) (w : ∀ v σ H Q, t' v σ H Q → t v σ H Q) : PG X e t' := fun pins s σ H v u Q I r q => h pins s σ H v u Q I r (w v σ H Q q)
def unpD (n : Nat) (g : List PyData → Rho → Option Rho) : PyData → Rho → Option Rho
  | .tuple ds, ρ => if ds.length = n then g ds ρ else none
  | _, _ => none
theorem pdgc_name (i : Nat) (hN : X.N.Nodup) (hx : Loc X.env.scope x) (hi : X.N[i]? = some x) (hf : X.fn x = true ∨ X.env.scope.names.lookup x = some .local) : PDGc X M (.Name x pos) (gNm i) :=
  (pg_name hN hi hx hf).weak fun v σ H Q ⟨S, ρ, d, ρ', hs, hd, e, q⟩ => by
    cases e
    exact q _ H (Same.refl H) (hs.set hd i)
def GIn (n k : Nat) (g : PyData → Rho → Option Rho) : Prop := ∀ d (ρ r ρ1 : Rho), ρ.length = n → r.length = k → g d (ρ ++ r) = some ρ1 → ∃ r', r'.length = k ∧ ρ1 = ρ ++ r'
theorem gin_name (h : n ≤ i) : GIn n k (gNm i) := fun d ρ r ρ1 h1 h2 e => by
  cases e
  refine ⟨r.set (i - n) (some d), by rw [List.length_set]; exact h2, ?_⟩
  rw [List.set_append_right _ _ (by omega), h1]
def compT (k : Nat) (g : PyData → Rho → Option Rho) (tt : Rho → Option Bool) (te : Rho → Option PyData) (ρ : Rho) : List PyData → Option (List PyData)
  | [] => some []
  | d :: ds => ob (g d (ρ ++ List.replicate k none)) fun ρ1 => ob (tt ρ1) fun b => if b = true then ob (te ρ1) fun y => ob (compT k g tt te ρ ds) fun ys => some (y :: ys) else compT k g tt te ρ ds
def compG (n k : Nat) (fi : Rho → Option (List PyData)) (g : PyData → Rho → Option Rho) (tt : Rho → Option Bool) (te : Rho → Option PyData) (ρ : Rho) : Option PyData :=
  ob (fi ρ) fun ds => if ρ.length = n ∧ ds.length ≤ 1000 then ob (compT k g tt te ρ ds) fun ys => some (.list ys) else none
theorem compT_name {ρ : Rho} (hn : ρ.length = n) : ∀ ds, compT 1 (gNm n) tt te ρ ds = compD tt te ρ ds
  | [] => rfl
  | d :: ds => by
    have e : gNm n d (ρ ++ List.replicate 1 none) = some (ρ ++ [some d]) := by
      show some ((ρ ++ [none]).set n (some d)) = _
      rw [← hn, List.set_append_right _ _ (Nat.le_refl _)]
      simp
    rw [compT, compD, e]
    show (ob (tt (ρ ++ [some d])) fun b => _) = _
    rw [compT_name hn ds]
theorem compG_name (n : Nat) (fi : Rho → Option (List PyData)) (tt : Rho → Option Bool) (te : Rho → Option PyData) : compR n fi tt te = compG n 1 fi (gNm n) tt te := by
  funext ρ
  unfold compR compG
  cases fi ρ with
  | none => rfl
  | some ds =>
    show (if ρ.length = n ∧ ds.length ≤ 1000 then _ else none) = (if ρ.length = n ∧ ds.length ≤ 1000 then _ else none)
    split
    · rename_i h
      rw [compT_name h.1]
    · rfl
theorem DenS.forget {K : PySem.W.Frag} {H : Hp} {S : Av} {σ : St} {ρ r' : Rho} {k : Nat} (h : DenS K H S M σ (ρ ++ r')) (hk : r'.length = k) : DenS K H S M σ (ρ ++ List.replicate k none) := by
  refine ⟨h.1, by rw [h.2.1, List.length_append, List.length_append, List.length_replicate, hk], fun i d hi e => ?_⟩
  by_cases hlt : i < ρ.length
  · rw [List.getElem?_append_left hlt] at e
    exact h.2.2 i d hi (by rw [List.getElem?_append_left hlt]; exact e)
  · rw [List.getElem?_append_right (by omega)] at e
    have := List.getElem?_replicate (a := (none : Option PyData)) (n := k) (i := i - ρ.length)
    rw [this] at e
    split at e <;> cases e
theorem DenS.more {K : PySem.W.Frag} {H : Hp} {S : Av} {σ : St} {ρ : Rho} (k : Nat) (h : DenS K H S M σ ρ) : DenS K H S M (σ ++ List.replicate k none) (ρ ++ List.replicate k none) := by
  refine ⟨h.1, by rw [List.length_append, List.length_append, h.2.1, List.length_replicate, List.length_replicate], fun i d hi e => ?_⟩
  by_cases hlt : i < ρ.length
  · rw [List.getElem?_append_left hlt] at e
    obtain ⟨v, a, b⟩ := h.2.2 i d hi e
    exact ⟨v, by rw [List.getElem?_append_left (by rw [h.2.1]; exact hlt)]; exact a, b⟩
  · rw [List.getElem?_append_right (by omega)] at e
    have := List.getElem?_replicate (a := (none : Option PyData)) (n := k) (i := i - ρ.length)
    rw [this] at e
    split at e <;> cases e
theorem tDcompG {K : PySem.W.Frag} {n k : Nat} {fi : Rho → Option (List PyData)} {g : PyData → Rho → Option Rho} (hg : GIn n k g) : ∀ σ H Q S ρ ds ys, DenS K H S M σ ρ → fi ρ = some ds → ρ.length = n → ds.length ≤ 1000 → compT k g p f ρ ds = some ys → (∀ H' zs, Same H H' → DenL K H' S zs ys → ∀ D, H' D = none → Q (.ref D) (upd H' D (.lst zs))) → tComp k (tDI K M fi) (tDGc K M g) (tDT K M p) (tD K M f) σ H Q := by
  intro σ H Q S ρ ds ys hs e1 hn hz e2 q
  refine ⟨S, ρ, ds, hs, e1, fun J H1 g1 hJ0 => ?_⟩
  have hJ := hJ0 H1 fun _ _ _ z => z
  have z1000 : 1000 < sizeLine := small1000 (Nat.le_refl _)
  refine ⟨fun i m zs σ' H' => m = ds.length - i ∧ i ≤ ds.length ∧ zs.length ≤ i ∧ Same H1 H' ∧ DenS K H' S M σ' (ρ ++ List.replicate k none) ∧ ∃ pre rest, DenL K H' S zs pre ∧ compT k g p f ρ (ds.drop i) = some rest ∧ pre ++ rest = ys, ⟨ds.length, by simp, Nat.zero_le _, Nat.le_refl _, Same.refl _, (hs.same g1).more k, [], ys, .nil, e2, rfl⟩, ?_⟩
  rintro i m zs σ' H' ⟨rfl, hi, hzi, g2, hS, pre, rest, dl, er, rfl⟩
  by_cases hlt : i < ds.length
  · refine .inr ⟨hJ.go i H' g2 hlt, fun x H2 y => ?_⟩
    obtain ⟨g2', yd⟩ := hJ.yld i H' x H2 g2 y
    have hd := yd _ (List.getElem?_eq_getElem hlt) S fun y e q => q.same (g2.trans g2')
    rw [List.drop_eq_getElem_cons hlt] at er
    obtain ⟨ρ1, r1, er⟩ := ob_some er
    obtain ⟨bb, b1, er⟩ := ob_some er
    obtain ⟨r', hr', rfl⟩ := hg _ ρ _ ρ1 hn (List.length_replicate) r1
    have g2 := g2.trans g2'
    have dl := dl.same g2'
    refine ⟨S, _, _, _, hS.same g2', hd, r1, fun σ3 H3 g3 hS3 => ⟨S, _, bb, hS3, b1, fun H4 g4 => ?_⟩⟩
    cases bb with
    | true =>
      rw [if_pos rfl] at er
      obtain ⟨y1, e3, er⟩ := ob_some er
      obtain ⟨ys1, e4, er⟩ := ob_some er
      cases er
      refine iteT ⟨S, _, y1, hS3.same g4, e3, fun v H5 g5 d5 => ⟨by omega, ds.length - (i + 1), by omega, rfl, hlt, by rw [List.length_append, List.length_singleton]; omega, g2.trans (g3.trans (g4.trans g5)), (hS3.same (g4.trans g5)).forget hr', pre ++ [y1], ys1, (dl.same (g3.trans (g4.trans g5))).snoc d5, e4, by simp⟩⟩
    | false =>
      rw [if_neg Bool.false_ne_true] at er
      exact iteF ⟨ds.length - (i + 1), by omega, rfl, hlt, by omega, g2.trans (g3.trans g4), (hS3.same g4).forget hr', pre, rest, dl.same (g3.trans g4), er, rfl⟩
  · have hi' : i = ds.length := by omega
    subst hi'
    rw [List.drop_length] at er
    cases er
    refine .inl ⟨hJ.stop H' g2, fun D hD => q H' zs (g1.trans g2) (by rw [List.append_nil]; exact dl) D hD⟩
theorem compG_some {n k : Nat} {fi : Rho → Option (List PyData)} {g : PyData → Rho → Option Rho} {tt : Rho → Option Bool} {te : Rho → Option PyData} {ρ : Rho} {d : PyData} (e : compG n k fi g tt te ρ = some d) : ∃ ds ys, fi ρ = some ds ∧ ρ.length = n ∧ ds.length ≤ 1000 ∧ compT k g tt te ρ ds = some ys ∧ d = .list ys := by
  obtain ⟨ds, e1, e⟩ := ob_some e
  split at e
  · rename_i hc
    obtain ⟨ys, e2, e⟩ := ob_some e
    cases e
    exact ⟨ds, ys, e1, hc.1, hc.2, e2, rfl⟩
  · cases e
theorem tDcomp {K : PySem.W.Frag} {n k : Nat} {fi : Rho → Option (List PyData)} {g : PyData → Rho → Option Rho} (hg : GIn n k g) : ∀ σ H Q, tD K M (compG n k fi g p f) σ H Q → tComp k (tDI K M fi) (tDGc K M g) (tDT K M p) (tD K M f) σ H Q := by
  intro σ H Q ⟨S, ρ, d, hs, e, q⟩
  obtain ⟨ds, ys, e1, hn, hz, e2, rfl⟩ := compG_some e
  exact tDcompG hg σ H Q S ρ ds ys hs e1 hn hz e2 fun H' zs g2 dl D hD => q _ _ (g2.lay' hD) (.list (SqLS.new upd_same ((hs.1.same g2).free hD)) (dl.same (Same.lay hD)))
section
variable {elt iter tg : Expr} {ifs : List Expr} {x : Str} {N' : List Str} {px : Pos} {sc : Scope} {n k : Nat} {fi : Rho → Option (List PyData)} {g : PyData → Rho → Option Rho}
theorem pg_comp (O : CompOk X N' k sc) (hx : N'[i]? = some x) (hl : lc1 sc x = true) (cl : List (Str × Addr)) (C : Addr) (fp : List Addr) (pins : List (Addr × Obj)) (s : Shared) (H : Hp) : PDGc (compCx X N' sc cl C fp pins s H) M (.Name x px) (gNm i) :=
  (Bool.or_eq_true_iff.mp hl).elim (fun hl =>
    have hloc : (relabel sc X.env).names.lookup x = some .local := lookup_relabel_local (of_decide_eq_true hl)
    pdgc_name (X := compCx X N' sc cl C fp pins s H) i O.nd' (.inl hloc) hx (.inr hloc)) fun hl =>
    have hloc : (relabel sc X.env).names.lookup x = some .cell := relabel_cell (of_decide_eq_true hl)
    pdgc_name (X := compCx X N' sc cl C fp pins s H) i O.nd' (.inr hloc) hx (.inl hl)
theorem pd_compG (O : CompOk X N' k sc) (gi : GIn n k g) (hi : PDI X M tg iter fi) (hg : ∀ cl C fp pins s H, PDGc (compCx X N' sc cl C fp pins s H) M tg g) (hq : ∀ cl C fp pins s H, PDTs (compCx X N' sc cl C fp pins s H) M ifs p) (he : ∀ cl C fp pins s H, PD (compCx X N' sc cl C fp pins s H) M elt f)
    (hs : ∀ v, foldedSetIterable iter X.env v = pure v := by intro _; rfl) : PD X M (.ListComp elt [⟨tg, iter, ifs, 0⟩] sc pos) (compG n k fi g p f) :=
  (pe_comp (wg := tDGc X.K M g) (tt := tDT X.K M p) (te := tD X.K M f) O hi hg hq he hs).weak (tDcomp gi)
theorem pd_comp (O : CompOk X N' 1 sc) (hx : N'[n]? = some x) (hl : lc1 sc x = true) (hi : PDI X M (.Name x px) iter fi) (hq : ∀ cl C fp pins s H, PDTs (compCx X N' sc cl C fp pins s H) M ifs p) (he : ∀ cl C fp pins s H, PD (compCx X N' sc cl C fp pins s H) M elt f)
    (hs : ∀ v, foldedSetIterable iter X.env v = pure v := by intro _; rfl) : PD X M (.ListComp elt [⟨.Name x px, iter, ifs, 0⟩] sc pos) (compR n fi p f) := by
  rw [compG_name]
  exact pd_compG O (gin_name (Nat.le_refl _)) hi (pg_comp O hx hl) hq he hs
end
end
structure Gm where
  H0 : Hp
  S0 : Av
  lk : Nat → Addr × PyData
def insA (S : Av) (p : Addr) : Av := fun a => S a ∨ a = p
inductive OwnO (K : PySem.W.Frag) (H : Hp) (S : Av) (p : Addr) : PyData → Prop
  | lst {xs : List V} {ds : List PyData} : H p = some (.lst xs) → DenL K H S xs ds → OwnO K H S p (.list ds)
  | dct {kvs : List (KX × Addr × V)} {ep : Nat} {ds : List PyData} : H p = some (DctO p kvs ep) → DenL K H S (kvs.map fun p => kxV p.1 p.2.1) (kvs.map fun p => kxD p.1) → DenL K H S (kvs.map (·.2.2)) ds → OwnO K H S p (.dict (dkv kvs ds))
section
variable {K : PySem.W.Frag} {H H' : Hp} {S S' : Av} {p : Addr} {d : PyData}
theorem OwnO.same (e : Same H H') (h : OwnO K H S p d) : OwnO K H' S p d := by
  cases h with
  | lst h t => exact .lst (e _ _ h) (t.same e)
  | dct h k t => exact .dct (e _ _ h) (k.same e) (t.same e)
theorem OwnO.sub (e : ∀ a, H a ≠ none → S' a → S a) (h : OwnO K H S p d) : OwnO K H S' p d := by
  cases h with
  | lst h t => exact .lst h (t.sub e)
  | dct h k t => exact .dct h (k.sub e) (t.sub e)
theorem OwnO.mut (h : OwnO K H S p d) : ∃ o, H p = some o ∧ isMut o = true := by
  cases h with
  | lst h t => exact ⟨_, h, rfl⟩
  | dct h k t => exact ⟨_, h, rfl⟩
theorem OwnO.dom (h : OwnO K H S p d) : H p ≠ none := by
  obtain ⟨o, e, _⟩ := h.mut
  rw [e]; exact fun z => nomatch z
theorem OwnO.den (h : OwnO K H S p d) (n : ¬ S' p) (e : ∀ a, H a ≠ none → S' a → S a) : Den K H S' (.ref p) d := by
  cases h with
  | lst h t => exact .list (SqLS.new h n) (t.sub e)
  | dct h k t => exact .dict ⟨h, n⟩ (k.sub e) (t.sub e)
theorem OwnO.upd (m : Dm S H) (h : OwnO K H S p d) (hq : S q) (hm : isMut o = true) (ne : p ≠ q) : OwnO K (upd H q o) S p d := by
  have off : Off S H (L2.upd H q o) := fun b u n e => by
    rw [upd_ne (fun z => n (by rw [z]; exact hq))]; exact e
  cases h with
  | lst h t => exact .lst (by rw [upd_ne ne]; exact h) (t.off m off)
  | dct h k t => exact .dct (by rw [upd_ne ne]; exact h) (k.off m off) (t.off m off)
theorem Dm.upd (m : Dm S H) (hm : isMut o = true) : Dm S (upd H q o) := fun a ha => by
  by_cases e : a = q
  · subst e; exact ⟨o, upd_same, hm⟩
  · rw [upd_ne e]; exact m a ha
theorem Dm.ins (m : Dm S H) (h : ∃ o, H p = some o ∧ isMut o = true) : Dm (insA S p) H := fun a ha => by
  rcases ha with ha | rfl
  · exact m a ha
  · exact h
end
inductive Kids (K : PySem.W.Frag) (H : Hp) (S : Av) : List Addr → List PyData → Prop
  | nil : Kids K H S [] []
  | cons {q : Addr} {xs : List V} {es : List PyData} {qs : List Addr} {ds : List PyData} : H q = some (.lst xs) → DenL K H S xs es → q ∉ qs → Kids K H S qs ds → Kids K H S (q :: qs) (.list es :: ds)
inductive Mx (K : PySem.W.Frag) (H : Hp) (S : Av) : List Addr → List V → List PyData → Prop
  | nil : Mx K H S [] [] []
  | kid {q : Addr} {xs : List V} {es : List PyData} {qs : List Addr} {vs : List V} {ds : List PyData} : H q = some (.lst xs) → DenL K H S xs es → q ∉ qs → Mx K H S qs vs ds → Mx K H S (q :: qs) (.ref q :: vs) (.list es :: ds)
  | flt {v : V} {d : PyData} {qs : List Addr} {vs : List V} {ds : List PyData} : Den K H S v d → flat d = true → Mx K H S qs vs ds → Mx K H S qs (v :: vs) (d :: ds)
inductive DeepO (K : PySem.W.Frag) (H : Hp) (S : Av) : List Addr → Addr → PyData → Prop
  | tpl {p : Addr} {qs : List Addr} {vs : List V} {ds : List PyData} : H p = some (.tup vs) → Mx K H S qs vs ds → DeepO K H S qs p (.tuple ds)
  | lst {p : Addr} {qs : List Addr} {ds : List PyData} : H p = some (.lst (qs.map V.ref)) → p ∉ qs → Kids K H S qs ds → DeepO K H S (p :: qs) p (.list ds)
  | dct {p : Addr} {kvs : List (KX × Addr × V)} {ep : Nat} {qs : List Addr} {ds : List PyData} : H p = some (DctO p kvs ep) → DenL K H S (kvs.map fun p => kxV p.1 p.2.1) (kvs.map fun p => kxD p.1) → kvs.map (·.2.2) = qs.map V.ref → p ∉ qs → Kids K H S qs ds → DeepO K H S (p :: qs) p (.dict (dkv kvs ds))
section
variable {K : PySem.W.Frag} {H H' : Hp} {S S' : Av} {p : Addr} {d : PyData} {fp qs : List Addr} {ds : List PyData}
theorem Kids.same (e : Same H H') (h : Kids K H S qs ds) : Kids K H' S qs ds := by
  induction h with
  | nil => exact .nil
  | cons h t n _ r => exact .cons (e _ _ h) (t.same e) n r
theorem Kids.sub (e : ∀ a, H a ≠ none → S' a → S a) (h : Kids K H S qs ds) : Kids K H S' qs ds := by
  induction h with
  | nil => exact .nil
  | cons h t n _ r => exact .cons h (t.sub e) n r
theorem Kids.mx (h : Kids K H S qs ds) : Mx K H S qs (qs.map V.ref) ds := by
  induction h with
  | nil => exact .nil
  | cons h t n _ r => exact .kid h t n r
theorem Mx.same {vs : List V} (e : Same H H') (h : Mx K H S qs vs ds) : Mx K H' S qs vs ds := by
  induction h with
  | nil => exact .nil
  | kid h t n _ r => exact .kid (e _ _ h) (t.same e) n r
  | flt a f _ r => exact .flt (a.same e) f r
theorem Mx.sub {vs : List V} (e : ∀ a, H a ≠ none → S' a → S a) (h : Mx K H S qs vs ds) : Mx K H S' qs vs ds := by
  induction h with
  | nil => exact .nil
  | kid h t n _ r => exact .kid h (t.sub e) n r
  | flt a f _ r => exact .flt (a.sub e) f r
theorem Mx.mut {vs : List V} (h : Mx K H S qs vs ds) (q : Addr) (hq : q ∈ qs) : ∃ o, H q = some o ∧ isMut o = true := by
  induction h with
  | nil => exact nomatch hq
  | kid h t n _ r => exact (List.mem_cons.mp hq).elim (fun e => by rw [e]; exact ⟨_, h, rfl⟩) r
  | flt a f _ r => exact r hq
theorem Kids.mut (h : Kids K H S qs ds) : ∀ q ∈ qs, ∃ o, H q = some o ∧ isMut o = true := h.mx.mut
theorem Mx.den {vs : List V} (e : ∀ a, H a ≠ none → S' a → S a) (n : ∀ q ∈ qs, ¬ S' q) (h : Mx K H S qs vs ds) : DenL K H S' vs ds := by
  induction h with
  | nil => exact .nil
  | kid h t _ _ r => exact .cons (.list (SqLS.new h (n _ (.head _))) (t.sub e)) (r fun q hq => n q (.tail _ hq))
  | flt a f _ r => exact .cons (a.sub e) (r n)
theorem Kids.den (e : ∀ a, H a ≠ none → S' a → S a) (n : ∀ q ∈ qs, ¬ S' q) (h : Kids K H S qs ds) : DenL K H S' (qs.map V.ref) ds := h.mx.den e n
theorem Kids.upd {q : Addr} {o : HO} (m : Dm S H) (hq : S q) (n : q ∉ qs) (h : Kids K H S qs ds) : Kids K (upd H q o) S qs ds := by
  induction h with
  | nil => exact .nil
  | cons h t n' _ r => exact .cons (by rw [upd_ne (fun z => n (by rw [z]; exact .head _))]; exact h) (t.off m fun b u z e => by rw [upd_ne (fun y => z (by rw [y]; exact hq))]; exact e) n' (r fun z => n (.tail _ z))
theorem Mx.upd {q : Addr} {o : HO} {vs : List V} (m : Dm S H) (hq : S q) (n : q ∉ qs) (h : Mx K H S qs vs ds) : Mx K (upd H q o) S qs vs ds := by
  have off : Off S H (L2.upd H q o) := fun b u z e => by rw [upd_ne (fun y => z (by rw [y]; exact hq))]; exact e
  induction h with
  | nil => exact .nil
  | kid h t n' _ r => exact .kid (by rw [upd_ne (fun z => n (by rw [z]; exact .head _))]; exact h) (t.off m off) n' (r fun z => n (.tail _ z))
  | flt a f _ r => exact .flt (a.off m off) f (r n)
theorem Mx.length {vs : List V} (h : Mx K H S qs vs ds) : vs.length = ds.length := by
  induction h with
  | nil => rfl
  | kid _ _ _ _ r => rw [List.length_cons, List.length_cons, r]
  | flt _ _ _ r => rw [List.length_cons, List.length_cons, r]
theorem DeepO.same (e : Same H H') (h : DeepO K H S fp p d) : DeepO K H' S fp p d := by
  cases h with
  | tpl h t => exact .tpl (e _ _ h) (t.same e)
  | lst h n t => exact .lst (e _ _ h) n (t.same e)
  | dct h k v n t => exact .dct (e _ _ h) (k.same e) v n (t.same e)
theorem DeepO.sub (e : ∀ a, H a ≠ none → S' a → S a) (h : DeepO K H S fp p d) : DeepO K H S' fp p d := by
  cases h with
  | tpl h t => exact .tpl h (t.sub e)
  | lst h n t => exact .lst h n (t.sub e)
  | dct h k v n t => exact .dct h (k.sub e) v n (t.sub e)
theorem DeepO.mut (h : DeepO K H S fp p d) : ∀ q ∈ fp, ∃ o, H q = some o ∧ isMut o = true := by
  cases h with
  | tpl h t => exact t.mut
  | lst h n t => exact fun q hq => (List.mem_cons.mp hq).elim (fun e => by rw [e]; exact ⟨_, h, rfl⟩) (t.mut q)
  | dct h k v n t => exact fun q hq => (List.mem_cons.mp hq).elim (fun e => by rw [e]; exact ⟨_, h, rfl⟩) (t.mut q)
theorem DeepO.den (h : DeepO K H S fp p d) (n : ∀ q ∈ fp, ¬ S' q) (e : ∀ a, H a ≠ none → S' a → S a) : Den K H S' (.ref p) d := by
  cases h with
  | tpl h t => exact .tuple (.inl (.inl h)) (t.den e n)
  | lst h _ t => exact .list (SqLS.new h (n _ (.head _))) (t.den e fun q hq => n q (.tail _ hq))
  | dct h k v _ t => exact .dict ⟨h, n _ (.head _)⟩ (k.sub e) (by rw [v]; exact t.den e fun q hq => n q (.tail _ hq))
theorem DeepO.upd (m : Dm S H) (h : DeepO K H S fp p d) (hq : S q) (ne : q ∉ fp) : DeepO K (upd H q o) S fp p d := by
  have off : Off S H (L2.upd H q o) := fun b u n e => by
    rw [upd_ne (fun z => n (by rw [z]; exact hq))]; exact e
  cases h with
  | tpl h t => exact .tpl (by rw [upd_ne (fun z => m.tup (.inl h) (by rw [z]; exact hq))]; exact h) (t.upd m hq ne)
  | lst h n t => exact .lst (by rw [upd_ne (fun z => ne (by rw [z]; exact .head _))]; exact h) n (t.upd m hq fun z => ne (.tail _ z))
  | dct h k v n t => exact .dct (by rw [upd_ne (fun z => ne (by rw [z]; exact .head _))]; exact h) (k.off m off) v n (t.upd m hq fun z => ne (.tail _ z))
end
abbrev Flt (M : List Nat) (i : Nat) : Prop := i ∈ M ∧ i + 1000 ∉ M
abbrev Dp (M : List Nat) (i : Nat) : Prop := i ∈ M ∧ i + 1000 ∈ M
abbrev Out0 (M : List Nat) (i : Nat) : Prop := i ∉ M ∧ i + 1000 ∉ M ∧ i < 1000
structure SubM (A B : List Nat) : Prop where
  sub : ∀ i ∈ A, i ∈ B
  dp : ∀ i ∈ A, i + 1000 ∈ B → i + 1000 ∈ A
theorem SubM.flt (h : SubM A B) (q : Flt A i) : Flt B i := ⟨h.sub i q.1, fun z => q.2 (h.dp i q.1 z)⟩
theorem SubM.deep (h : SubM A B) (q : Dp A i) : Dp B i := ⟨h.sub i q.1, h.sub _ q.2⟩
def Has (ρ : Rho) (i : Nat) : Prop := ∃ d : PyData, ρ[i]? = some (some d)
structure DeepF (K : PySem.W.Frag) (G : Gm) (M : List Nat) (H : Hp) (S : Av) (σ : St) (ρ : Rho) (F : Nat → List Addr) : Prop where
  own : ∀ i, Dp M i → ∀ d, ρ[i]? = some (some d) → ∃ p, σ[i]? = some (some (.ref p)) ∧ DeepO K H S (F i) p d ∧ ∀ q ∈ F i, S q ∧ ¬ G.S0 q ∧ G.H0 q = none
  disj : ∀ i, Dp M i → ∀ j, Dp M j → Has ρ i → Has ρ j → ∀ q, q ∈ F i → q ∈ F j → i = j
  flat : ∀ i, Flt M i → ∀ j, Dp M j → Has ρ i → Has ρ j → ∀ p, σ[i]? = some (some (.ref p)) → p ∉ F j
structure OwnS (K : PySem.W.Frag) (G : Gm) (M L : List Nat) (H : Hp) (S : Av) (σ : St) (ρ : Rho) : Prop where
  ds : DenS K H S M σ ρ
  s0 : ∀ a, G.S0 a → S a
  h0 : Same G.H0 H
  own : ∀ i, Flt M i → ∀ d, ρ[i]? = some (some d) → ∃ p, σ[i]? = some (some (.ref p)) ∧ OwnO K H S p d ∧ S p ∧ ¬ G.S0 p ∧ (i ∉ L → G.H0 p = none) ∧ (i ∈ L → (p, d) = G.lk i)
  apart : ∀ i, Flt M i → ∀ j, Flt M j → ∀ d e p, ρ[i]? = some (some d) → ρ[j]? = some (some e) → σ[i]? = some (some (.ref p)) → σ[j]? = some (some (.ref p)) → i = j
  bnd : ∀ a, S a → G.S0 a ∨ G.H0 a = none ∨ ∃ i ∈ L, a = (G.lk i).1
  lkd : ∀ i ∈ L, Flt M i ∧ ρ[i]? = some (some (G.lk i).2)
  deep : ∃ F, DeepF K G M H S σ ρ F
section
variable {K : PySem.W.Frag} {G : Gm} {M M' L : List Nat} {H H' : Hp} {S : Av} {σ : St} {ρ : Rho} {v : V} {d : PyData}
theorem OwnS.same (e : Same H H') (h : OwnS K G M L H S σ ρ) : OwnS K G M L H' S σ ρ :=
  ⟨h.ds.same e, h.s0, h.h0.trans e, fun i hi d q => let ⟨p, a, b, c⟩ := h.own i hi d q; ⟨p, a, b.same e, c⟩, h.apart, h.bnd, h.lkd, let ⟨F, f⟩ := h.deep; ⟨F, fun i hi d q => let ⟨p, a, b, c⟩ := f.own i hi d q; ⟨p, a, b.same e, c⟩, f.disj, f.flat⟩⟩
theorem OwnS.lks (h : OwnS K G M L H S σ ρ) : ∀ i ∈ L, S (G.lk i).1 := fun i hi => by
  obtain ⟨hm, e⟩ := h.lkd i hi
  obtain ⟨p, _, _, c, _, _, w⟩ := h.own i hm _ e
  rw [← w hi]; exact c
theorem OwnS.den (h : OwnS K G M L H S σ ρ) : DenS K H G.S0 [] σ ρ := by
  refine ⟨h.ds.1.sub h.s0, h.ds.2.1, fun i d _ q => ?_⟩
  by_cases hi : i ∈ M
  · by_cases hk : i + 1000 ∈ M
    · obtain ⟨F, f⟩ := h.deep
      obtain ⟨p, a, b, c⟩ := f.own i ⟨hi, hk⟩ d q
      exact ⟨_, a, b.den (fun q hq => (c q hq).2.1) fun a _ z => h.s0 a z⟩
    · obtain ⟨p, a, b, c, n, _⟩ := h.own i ⟨hi, hk⟩ d q
      exact ⟨_, a, b.den n fun a _ z => h.s0 a z⟩
  · obtain ⟨v, a, b⟩ := h.ds.2.2 i d hi q
    exact ⟨v, a, b.sub fun a _ z => h.s0 a z⟩
theorem get_set_ne {α : Type} {xs : List α} {i j : Nat} {x : α} (h : i ≠ j) : (xs.set i x)[j]? = xs[j]? := List.getElem?_set_ne h
theorem OwnS.set (h : OwnS K G M L H S σ ρ) (q : Den K H S v d) {i : Nat} (hi : i ∉ M) : OwnS K G M L H S (σ.set i (some v)) (ρ.set i (some d)) := by
  have ne : ∀ j ∈ M, i ≠ j := fun j hj e => hi (by rw [e]; exact hj)
  obtain ⟨F, f⟩ := h.deep
  refine ⟨h.ds.set q i, h.s0, h.h0, fun j hj e he => ?_, fun j hj k hk e e' p h1 h2 h3 h4 => ?_, h.bnd, fun j hj => ⟨(h.lkd j hj).1, by rw [get_set_ne (ne j (h.lkd j hj).1.1)]; exact (h.lkd j hj).2⟩, F, fun j hj e he => ?_, fun j hj k hk h1 h2 => ?_, fun j hj k hk h1 h2 p h3 => ?_⟩
  · rw [get_set_ne (ne j hj.1)] at he ⊢
    exact h.own j hj e he
  · rw [get_set_ne (ne j hj.1)] at h1 h3
    rw [get_set_ne (ne k hk.1)] at h2 h4
    exact h.apart j hj k hk e e' p h1 h2 h3 h4
  · rw [get_set_ne (ne j hj.1)] at he ⊢
    exact f.own j hj e he
  · unfold Has at h1 h2
    rw [get_set_ne (ne j hj.1)] at h1
    rw [get_set_ne (ne k hk.1)] at h2
    exact f.disj j hj k hk h1 h2
  · unfold Has at h1 h2
    rw [get_set_ne (ne j hj.1)] at h1 h3
    rw [get_set_ne (ne k hk.1)] at h2
    exact f.flat j hj k hk h1 h2 p h3
theorem OwnS.frz (h : OwnS K G M L H S σ ρ) (hs : SubM M' M) (hl : ∀ i ∈ L, i ∈ M → i ∈ M') : ∃ S', OwnS K G M' L H S' σ ρ := by
  obtain ⟨F, f⟩ := h.deep
  have sb : ∀ a, (S a ∧ (¬ ∃ i, Flt M i ∧ i ∉ M' ∧ Has ρ i ∧ σ[i]? = some (some (.ref a))) ∧ ¬ ∃ i, Dp M i ∧ i ∉ M' ∧ Has ρ i ∧ a ∈ F i) → S a := fun a z => z.1
  refine ⟨fun a => S a ∧ (¬ ∃ i, Flt M i ∧ i ∉ M' ∧ Has ρ i ∧ σ[i]? = some (some (.ref a))) ∧ ¬ ∃ i, Dp M i ∧ i ∉ M' ∧ Has ρ i ∧ a ∈ F i, ⟨?_, ?_, ?_⟩, ?_, h.h0, ?_, ?_, ?_, fun i hi => ⟨⟨hl i hi (h.lkd i hi).1.1, fun z => (h.lkd i hi).1.2 (hs.sub _ z)⟩, (h.lkd i hi).2⟩, F, ?_, ?_, ?_⟩
  · exact h.ds.1.sub fun a z => z.1
  · exact h.ds.2.1
  · intro i d hi q
    by_cases hm : i ∈ M
    · by_cases hk : i + 1000 ∈ M
      · obtain ⟨p, a, b, c⟩ := f.own i ⟨hm, hk⟩ d q
        exact ⟨_, a, b.den (fun r hr z => z.2.2 ⟨i, ⟨hm, hk⟩, hi, ⟨d, q⟩, hr⟩) fun a _ z => z.1⟩
      · obtain ⟨p, a, b, c, _⟩ := h.own i ⟨hm, hk⟩ d q
        exact ⟨_, a, b.den (fun z => z.2.1 ⟨i, ⟨hm, hk⟩, hi, ⟨d, q⟩, a⟩) fun a _ z => z.1⟩
    · obtain ⟨v, a, b⟩ := h.ds.2.2 i d hm q
      exact ⟨v, a, b.sub fun a _ z => z.1⟩
  · intro a ha
    refine ⟨h.s0 a ha, fun ⟨i, hm, hi, ⟨d, q⟩, e⟩ => ?_, fun ⟨i, hm, hi, ⟨d, q⟩, e⟩ => ?_⟩
    · obtain ⟨p, e', b, c, n, _⟩ := h.own i hm d q
      rw [e] at e'; cases e'
      exact n ha
    · obtain ⟨p, e', b, c⟩ := f.own i hm d q
      exact (c a e).2.1 ha
  · intro i hi d q
    obtain ⟨p, a, b, c, n, w, w'⟩ := h.own i (hs.flt hi) d q
    refine ⟨p, a, b.sub fun a _ z => z.1, ⟨c, fun ⟨j, hj, hj', ⟨e, q'⟩, a'⟩ => ?_, fun ⟨j, hj, hj', q', a'⟩ => ?_⟩, n, w, w'⟩
    · have := h.apart i (hs.flt hi) j hj d e p q q' a a'
      subst this
      exact hj' hi.1
    · exact f.flat i (hs.flt hi) j hj ⟨d, q⟩ q' p a a'
  · exact fun i hi j hj => h.apart i (hs.flt hi) j (hs.flt hj)
  · exact fun a z => h.bnd a z.1
  · intro i hi d q
    obtain ⟨p, a, b, c⟩ := f.own i (hs.deep hi) d q
    refine ⟨p, a, b.sub fun a _ z => z.1, fun r hr => ⟨⟨(c r hr).1, fun ⟨j, hj, hj', q', a'⟩ => ?_, fun ⟨j, hj, hj', q', a'⟩ => ?_⟩, (c r hr).2⟩⟩
    · exact f.flat j hj i (hs.deep hi) q' ⟨d, q⟩ r a' hr
    · have := f.disj i (hs.deep hi) j hj ⟨d, q⟩ q' r hr a'
      subst this
      exact hj' hi.1
  · exact fun i hi j hj => f.disj i (hs.deep hi) j (hs.deep hj)
  · exact fun i hi j hj => f.flat i (hs.flt hi) j (hs.deep hj)
theorem flt_up (hi : Out0 M i) (hj : Flt M j) : Flt (i :: M) j := ⟨.tail _ hj.1, fun z => by rcases List.mem_cons.mp z with e | z; (have := hi.2.2; omega); exact hj.2 z⟩
theorem flt_dn (hj : Flt (i :: M) j) (ne : i ≠ j) : Flt M j := ⟨(List.mem_cons.mp hj.1).resolve_left fun z => ne z.symm, fun z => hj.2 (.tail _ z)⟩
theorem dp_dn (hi : Out0 M i) (hj : Dp (i :: M) j) : Dp M j := by
  have q : j + 1000 ∈ M := (List.mem_cons.mp hj.2).resolve_left fun z => by have := hi.2.2; omega
  refine ⟨(List.mem_cons.mp hj.1).resolve_left fun z => hi.2.1 (by rw [← z]; exact q), q⟩
theorem OwnS.take (h : OwnS K G M L H S σ ρ) {p : Addr} {i : Nat} (hn : H p = none) (e : Same H H') (o : OwnO K H' (insA S p) p d) (hi : Out0 M i) (hl : i ∉ L) (hz : i < ρ.length) : OwnS K G (i :: M) L H' (insA S p) (σ.set i (some (.ref p))) (ρ.set i (some d)) := by
  have np : ¬ S p := h.ds.1.free hn
  have sub : ∀ a, H a ≠ none → insA S p a → S a := fun a ha z => by
    rcases z with z | rfl
    · exact z
    · exact absurd hn ha
  have ne : ∀ j ∈ M, i ≠ j := fun j hj e => hi.1 (by rw [e]; exact hj)
  have hz' : i < σ.length := by rw [h.ds.2.1]; exact hz
  have gi : (ρ.set i (some d))[i]? = some (some d) := List.getElem?_set_self hz
  have gi' : (σ.set i (some (.ref p)))[i]? = some (some (.ref p)) := List.getElem?_set_self hz'
  obtain ⟨F, f⟩ := h.deep
  refine ⟨⟨(h.ds.1.same e).ins o.mut, by rw [List.length_set, List.length_set]; exact h.ds.2.1, fun j d' hj q => ?_⟩, fun a z => .inl (h.s0 a z), h.h0.trans e, fun j hj d' q => ?_, fun j hj k hk d1 d2 q h1 h2 h3 h4 => ?_, fun a z => ?_, fun j hj => ⟨flt_up hi (h.lkd j hj).1, by rw [get_set_ne (fun z => hl (by rw [z]; exact hj))]; exact (h.lkd j hj).2⟩,
    F, fun j hj d' q => ?_, fun j hj k hk h1 h2 => ?_, fun j hj k hk h1 h2 r h3 => ?_⟩
  · have hij : i ≠ j := fun z => hj (by rw [z]; exact .head _)
    rw [get_set_ne hij] at q ⊢
    obtain ⟨v, a, b⟩ := h.ds.2.2 j d' (fun z => hj (.tail _ z)) q
    exact ⟨v, a, (b.sub sub).same e⟩
  · by_cases hij : i = j
    · subst hij
      rw [gi] at q; cases q
      exact ⟨p, gi', o, .inr rfl, fun z => np (h.s0 p z), fun _ => h.h0.free hn, fun z => absurd z hl⟩
    · rw [get_set_ne hij] at q ⊢
      obtain ⟨q', a, b, c, n, w⟩ := h.own j (flt_dn hj hij) d' q
      exact ⟨q', a, (b.sub sub).same e, .inl c, n, w⟩
  · have key : ∀ m, Flt M m → ∀ (d' : PyData) (q : Addr), (ρ.set i (some d))[m]? = some (some d') → (σ.set i (some (.ref p)))[m]? = some (some (.ref q)) → q ≠ p := fun m hm d' q e1 e2 z => by
      rw [get_set_ne (ne m hm.1)] at e1 e2
      obtain ⟨q', a, b, _⟩ := h.own m hm d' e1
      rw [e2] at a; cases a
      subst z
      exact b.dom hn
    by_cases ej : i = j
    · by_cases ek : i = k
      · rw [← ej, ← ek]
      · rw [← ej, gi'] at h3
        cases h3
        exact absurd rfl (key k (flt_dn hk ek) d2 p h2 h4)
    · by_cases ek : i = k
      · rw [← ek, gi'] at h4
        cases h4
        exact absurd rfl (key j (flt_dn hj ej) d1 p h1 h3)
      · rw [get_set_ne ej] at h1 h3
        rw [get_set_ne ek] at h2 h4
        exact h.apart j (flt_dn hj ej) k (flt_dn hk ek) d1 d2 q h1 h2 h3 h4
  · rcases z with z | rfl
    · exact h.bnd a z
    · exact .inr (.inl (h.h0.free hn))
  · have hj' := dp_dn hi hj
    rw [get_set_ne (ne j hj'.1)] at q ⊢
    obtain ⟨q', a, b, c⟩ := f.own j hj' d' q
    exact ⟨q', a, (b.sub sub).same e, fun r hr => ⟨.inl (c r hr).1, (c r hr).2⟩⟩
  · have hj' := dp_dn hi hj
    have hk' := dp_dn hi hk
    unfold Has at h1 h2
    rw [get_set_ne (ne j hj'.1)] at h1
    rw [get_set_ne (ne k hk'.1)] at h2
    exact f.disj j hj' k hk' h1 h2
  · have hk' := dp_dn hi hk
    unfold Has at h1 h2
    rw [get_set_ne (ne k hk'.1)] at h2
    by_cases ej : i = j
    · rw [← ej, gi'] at h3
      cases h3
      obtain ⟨d2, e2⟩ := h2
      obtain ⟨q', a, b, c⟩ := f.own k hk' d2 e2
      intro z
      obtain ⟨o2, z2, _⟩ := b.mut p z
      rw [hn] at z2; cases z2
    · rw [get_set_ne ej] at h1 h3
      exact f.flat j (flt_dn hj ej) k hk' h1 h2 r h3
def insL (S : Av) (fp : List Addr) : Av := fun a => S a ∨ a ∈ fp
theorem OwnS.write (h : OwnS K G M L H S σ ρ) {p : Addr} {i : Nat} {o : HO} {d₀ : PyData} (hi : Flt M i) (hl : i ∉ L) (e0 : ρ[i]? = some (some d₀)) (e1 : σ[i]? = some (some (.ref p))) (hm : isMut o = true) (ow : OwnO K (upd H p o) S p d) : OwnS K G M L (upd H p o) S σ (ρ.set i (some d)) := by
  obtain ⟨p', a, b, c, n, w, _⟩ := h.own i hi d₀ e0
  rw [e1] at a; cases a
  have off : Off S H (upd H p o) := fun b u z e => by
    rw [upd_ne (fun y => z (by rw [y]; exact c))]; exact e
  have hz : i < ρ.length := (List.getElem?_eq_some_iff.mp e0).1
  have get : ∀ m d', (ρ.set i (some d))[m]? = some (some d') → ∃ d'', ρ[m]? = some (some d'') := fun m d' q => by
    by_cases him : i = m
    · subst him; exact ⟨_, e0⟩
    · rw [get_set_ne him] at q; exact ⟨_, q⟩
  have get2 : ∀ m, Has (ρ.set i (some d)) m → Has ρ m := fun m ⟨d', q⟩ => get m d' q
  have dne : ∀ j, Dp M j → i ≠ j := fun j hj z => hi.2 (by rw [z]; exact hj.2)
  obtain ⟨F, f⟩ := h.deep
  refine ⟨⟨h.ds.1.upd hm, by rw [List.length_set]; exact h.ds.2.1, fun j d' hj q => ?_⟩, h.s0, fun a u q => ?_, fun j hj d' q => ?_, fun j hj k hk d1 d2 q h1 h2 h3 h4 => ?_, h.bnd, fun j hj => ⟨(h.lkd j hj).1, by rw [get_set_ne (fun z => hl (by rw [z]; exact hj))]; exact (h.lkd j hj).2⟩,
    F, fun j hj d' q => ?_, fun j hj k hk h1 h2 => f.disj j hj k hk (get2 j h1) (get2 k h2), fun j hj k hk h1 h2 => f.flat j hj k hk (get2 j h1) (get2 k h2)⟩
  · have hij : i ≠ j := fun z => hj (by rw [← z]; exact hi.1)
    rw [get_set_ne hij] at q
    obtain ⟨v, a, b⟩ := h.ds.2.2 j d' hj q
    exact ⟨v, a, b.off h.ds.1 off⟩
  · have : a ≠ p := fun z => by subst z; rw [w hl] at q; cases q
    rw [upd_ne this]
    exact h.h0 a u q
  · by_cases hij : i = j
    · subst hij
      rw [List.getElem?_set_self hz] at q; cases q
      exact ⟨p, e1, ow, c, n, w, fun z => absurd z hl⟩
    · rw [get_set_ne hij] at q
      obtain ⟨q', a, b', c', n', w'⟩ := h.own j hj d' q
      have : q' ≠ p := fun z => by subst z; exact hij (h.apart i hi j hj d₀ d' q' e0 q e1 a)
      exact ⟨q', a, b'.upd h.ds.1 c hm this, c', n', w'⟩
  · obtain ⟨x1, y1⟩ := get j d1 h1
    obtain ⟨x2, y2⟩ := get k d2 h2
    exact h.apart j hj k hk x1 x2 q y1 y2 h3 h4
  · rw [get_set_ne (dne j hj)] at q
    obtain ⟨q', a, b', c'⟩ := f.own j hj d' q
    exact ⟨q', a, b'.upd h.ds.1 c (f.flat i hi j hj ⟨_, e0⟩ ⟨_, q⟩ p e1), c'⟩
noncomputable def cut (P : Prop) (o : Option HO) : Option HO := @ite _ P (Classical.propDecidable P) none o
theorem cut_pos (h : P) : cut P o = none := if_pos h
theorem cut_neg (h : ¬ P) : cut P o = o := if_neg h
noncomputable def Gm.base (G : Gm) (S : Av) (H : Hp) : Gm := { G with H0 := fun a => cut (S a ∧ G.H0 a = none) (H a) }
theorem base_same (h : Same G.H0 H) : Same G.H0 (G.base S H).H0 := fun a o q => (cut_neg (fun z => by rw [q] at z; cases z.2)).trans (h a o q)
theorem base_off : Off S H (G.base S H).H0 := fun a o n q => (cut_neg (fun z => n z.1)).trans q
theorem base_le : Same (G.base S H).H0 H := fun a o q => by
  have q : cut (S a ∧ G.H0 a = none) (H a) = some o := q
  by_cases h : S a ∧ G.H0 a = none
  · rw [cut_pos h] at q; cases q
  · rw [cut_neg h] at q; exact q
theorem OwnS.base (h : OwnS K G M L H S σ ρ) : OwnS K (G.base S H) M L H S σ ρ := by
  obtain ⟨F, f⟩ := h.deep
  refine ⟨h.ds, h.s0, base_le, fun i hi d q => ?_, h.apart, fun a z => ?_, h.lkd, F, fun i hi d q => let ⟨p, a, b, c⟩ := f.own i hi d q; ⟨p, a, b, fun r hr => ⟨(c r hr).1, (c r hr).2.1, cut_pos ⟨(c r hr).1, (c r hr).2.2⟩⟩⟩, f.disj, f.flat⟩
  · obtain ⟨p, a, b, c, n, w, w'⟩ := h.own i hi d q
    exact ⟨p, a, b, c, n, fun hl => cut_pos ⟨c, w hl⟩, w'⟩
  · rcases h.bnd a z with y | y | y
    · exact .inl y
    · exact .inr (.inl (cut_pos ⟨z, y⟩))
    · exact .inr (.inr y)
theorem OwnS.unbase {G' : Gm} (s : Same G.H0 G'.H0) (e : G'.S0 = G.S0) (e' : G'.lk = G.lk) (h : OwnS K G' M L H S σ ρ) : OwnS K G M L H S σ ρ := by
  obtain ⟨F, f⟩ := h.deep
  refine ⟨h.ds, by rw [← e]; exact h.s0, s.trans h.h0, fun i hi d q => ?_, h.apart, fun a z => ?_, by rw [← e']; exact h.lkd, F, fun i hi d q => let ⟨p, a, b, c⟩ := f.own i hi d q; ⟨p, a, b, fun r hr => ⟨(c r hr).1, by rw [← e]; exact (c r hr).2.1, s.free (c r hr).2.2⟩⟩, f.disj, f.flat⟩
  · obtain ⟨p, a, b, c, n, w, w'⟩ := h.own i hi d q
    exact ⟨p, a, b, c, by rw [← e]; exact n, fun hl => s.free (w hl), by rw [← e']; exact w'⟩
  · rcases h.bnd a z with y | y | y
    · exact .inl (by rw [← e]; exact y)
    · exact .inr (.inl (s.free y))
    · exact .inr (.inr (by rw [← e']; exact y))
theorem OwnS.turn {G' : Gm}  (s0 : ∀ a, G'.S0 a → S a) (sl : ∀ i ∈ L, S (G'.lk i).1) (h : OwnS K G' M L H S' σ ρ) (q : Den K G'.H0 S x d) : Den K H S' x d := by
  refine (q.sub fun a ha z => ?_).same h.h0
  rcases h.bnd a z with y | y | ⟨i, hi, rfl⟩
  · exact s0 a y
  · exact absurd y ha
  · exact sl i hi
end
inductive Fr where
  | pl | nw | dp
def OutQ (K : PySem.W.Frag) (G : Gm) (M' Mb L : List Nat) (fr : Fr) (D : Ends) : Out → Prop
  | .nx ρ => ∀ σ' H' S', OwnS K G M' L H' S' σ' ρ → D.nx σ' H'
  | .rt d => match fr with
    | .nw => ∀ p H', Same G.H0 H' → G.H0 p = none → ¬ G.S0 p → OwnO K H' (insA G.S0 p) p d → D.rt (.ref p) H'
    | .dp => ∀ p fp H', Same G.H0 H' → (∀ q ∈ fp, G.H0 q = none ∧ ¬ G.S0 q) → DeepO K H' (insL G.S0 fp) fp p d → D.rt (.ref p) H'
    | .pl => ∀ v H', Same G.H0 H' → Den K H' G.S0 v d → D.rt v H'
  | .bk ρ => ∀ σ' H' S', OwnS K G Mb L H' S' σ' ρ → D.bk σ' H'
  | .ct ρ => ∀ σ' H' S', OwnS K G Mb L H' S' σ' ρ → D.ct σ' H'
def tDS (K : PySem.W.Frag) (G : Gm) (M L M' Mb : List Nat) (fr : Fr) (f : Rho → Option Out) : TS := fun D σ H => ∃ S ρ o, OwnS K G M L H S σ ρ ∧ f ρ = some o ∧ OutQ K G M' Mb L fr D o
def PDS (X : Cx) (G : Gm) (M L M' Mb : List Nat) (fr : Fr) (s : Stmt) (f : Rho → Option Out) : Prop := PS X s (tDS X.K G M L M' Mb fr f)
def PDSs (X : Cx) (G : Gm) (M L M' Mb : List Nat) (fr : Fr) (s : List Stmt) (f : Rho → Option Out) : Prop := PSs X s (tDS X.K G M L M' Mb fr f)
def tF (K : PySem.W.Frag) (M : List Nat) (f : Rho → Option PyData) : TE := fun σ H Q => ∃ S ρ d, DenS K H S M σ ρ ∧ f ρ = some d ∧ ∀ p H', Same H H' → H p = none → OwnO K H' (insA S p) p d → Q (.ref p) H'
def PF (X : Cx) (M : List Nat) (e : Expr) (f : Rho → Option PyData) : Prop := PE X e (tF X.K M f)
def flatF (f : Rho → Option PyData) : Rho → Option PyData := fun ρ => ob (f ρ) fun d => if flat d = true then some d else none
def flatO : PyData → Bool
  | .list ds => flatL ds
  | _ => false
def flatG (f : Rho → Option PyData) : Rho → Option PyData := fun ρ => ob (f ρ) fun d => if flatO d = true then some d else none
def seqO (u w : Rho → Option Out) (ρ : Rho) : Option Out := ob (u ρ) fun o => match o with | .nx ρ' => w ρ' | o => some o
section
variable {X : Cx} {G : Gm} {M M1 M2 M' Mb L : List Nat} {fr : Fr} {a b c : Expr} {es : List Expr} {f g : Rho → Option PyData} {p : Rho → Option Bool} {pos : Pos} {s1 : Stmt} {ss st1 st2 : List Stmt} {u w : Rho → Option Out}
theorem pd_of_pf (h : PF X M a f) : PD X M a f := h.weak fun σ H Q ⟨S, ρ, d, hs, e, q⟩ => ⟨S, ρ, d, hs, e, fun p H' g n o => q _ H' g (o.den (hs.1.free n) fun a _ z => .inl z)⟩
theorem OwnO.flat {K : PySem.W.Frag} {H : Hp} {S S' : Av} {p : Addr} {d : PyData} (fl : flatO d = true) (h : OwnO K H S p d) : OwnO K H S' p d := by
  cases h with
  | lst h t => exact .lst h (t.flat fl)
  | dct h k t => cases fl
theorem pds_nil : PDSs X G M L M Mb fr [] sN := pss_nil.weak fun D σ H ⟨S, ρ, o, hs, e, q⟩ => by cases e; exact q σ H S hs
theorem pds_cons (h1 : PDS X G M L M1 Mb fr s1 u) (h2 : PDSs X G M1 L M2 Mb fr ss w) : PDSs X G M L M2 Mb fr (s1 :: ss) (seqO u w) :=
  (pss_cons h1 h2).weak fun D σ H ⟨S, ρ, o, hs, e, q⟩ => by
    obtain ⟨o1, e1, e⟩ := ob_some e
    refine ⟨S, ρ, o1, hs, e1, ?_⟩
    cases o1 with
    | nx ρ' => exact fun σ' H' S' hs' => ⟨S', ρ', o, hs', e, q⟩
    | rt d => cases e; exact q
    | bk d => cases e; exact q
    | ct d => cases e; exact q
theorem pds_one (h1 : PDS X G M L M' Mb fr s1 u) : PDSs X G M L M' Mb fr [s1] u := pss_one h1
def subB (A B : List Nat) : Bool := A.all fun i => B.contains i && (!(B.contains (i + 1000)) || A.contains (i + 1000))
theorem sub_of (h : subB A B = true) : ∀ i ∈ A, i ∈ B := fun i hi => by
  have := List.all_eq_true.mp h i hi
  rw [Bool.and_eq_true] at this
  simpa using this.1
theorem subM_of (h : subB A B = true) : SubM A B := ⟨sub_of h, fun i hi hk => by
  have := List.all_eq_true.mp h i hi
  rw [Bool.and_eq_true, Bool.or_eq_true] at this
  rcases this.2 with z | z
  · rw [Bool.not_eq_true', ← Bool.not_eq_true] at z
    exact absurd (by simpa using hk) z
  · simpa using z⟩
theorem pds_drop1 (h : PDS X G M1 L M' Mb fr s1 u) (h1 : subB M1 M = true := by decide) (h2 : subB L M1 = true := by decide) : PDS X G M L M' Mb fr s1 u :=
  h.weak fun D σ H ⟨S, ρ, o, hs, e, q⟩ => let ⟨S', hs'⟩ := hs.frz (subM_of h1) fun i hi _ => sub_of h2 i hi; ⟨S', ρ, o, hs', e, q⟩
theorem OutQ.drop {K : PySem.W.Frag} {D : Ends} {o : Out} (h1 : subB M1 M' = true) (h2 : subB L M1 = true) (q : OutQ K G M1 Mb L fr D o) : OutQ K G M' Mb L fr D o := by
  cases o with
  | nx ρ => exact fun σ' H' S' hs => let ⟨S2, hs2⟩ := hs.frz (subM_of h1) fun i hi _ => sub_of h2 i hi; q σ' H' S2 hs2
  | rt d => exact q
  | bk ρ => exact q
  | ct ρ => exact q
theorem pds_end (h : PDSs X G M L M' Mb fr ss u) (h1 : subB M1 M' = true := by decide) (h2 : subB L M1 = true := by decide) : PDSs X G M L M1 Mb fr ss u :=
  h.weak fun D σ H ⟨S, ρ, o, hs, e, q⟩ => ⟨S, ρ, o, hs, e, q.drop h1 h2⟩
theorem pds_ret (h : PD X [] a f) : PDS X G M L M' Mb .pl (.Return (some a) pos) (sRet f) :=
  (ps_ret h).weak fun D σ H ⟨S, ρ, o, hs, e, q⟩ => by
    obtain ⟨d, e1, e⟩ := ob_some e
    cases e
    exact ⟨G.S0, ρ, d, hs.den, e1, fun v H' g1 d1 => q v H' (hs.h0.trans g1) d1⟩
theorem pds_retF (h : PF X [] a f) : PDS X G M L M' Mb .nw (.Return (some a) pos) (sRet f) :=
  (ps_ret h).weak fun D σ H ⟨S, ρ, o, hs, e, q⟩ => by
    obtain ⟨d, e1, e⟩ := ob_some e
    cases e
    exact ⟨G.S0, ρ, d, hs.den, e1, fun p H' g1 n o => q p H' (hs.h0.trans g1) (hs.h0.free n) (hs.den.1.free n) o⟩
theorem pe_own (i : Nat) (hv : Vis X.env.scope x) (hN : X.N[i]? = some x := by rfl) (hd : (x == ("__debug__" : Str)) = false := by decide +kernel)
    (hcd : (x == ("__classdict__" : Str)) = false := by decide +kernel) : PE X (.Name x pos) (fun σ H Q => ∃ v, σ[i]? = some (some v) ∧ Q v H) := pe_var hN hv hd hcd
theorem vr_some  (e : vr i ρ = some d) : ρ[i]? = some (some d) := by
  have e : (ρ[i]?).join = some d := e
  cases h : ρ[i]? with
  | none => rw [h] at e; cases e
  | some o => rw [h] at e; exact congrArg some e
theorem pds_if (hc : PDT X [] c p) (h1 : PDSs X G M L M' Mb fr st1 u) (h2 : PDSs X G M L M' Mb fr st2 w) : PDS X G M L M' Mb fr (.If c st1 st2 pos) (sIf p u w) :=
  (ps_if hc h1 h2).weak fun D σ H ⟨S, ρ, o, hs, e, q⟩ => by
    obtain ⟨d, e1, e⟩ := ob_some e
    refine ⟨G.S0, ρ, d, hs.den, e1, fun H1 g1 => ?_⟩
    cases d with
    | true => exact iteT ⟨S, ρ, o, hs.same g1, e, q⟩
    | false => exact iteF ⟨S, ρ, o, hs.same g1, e, q⟩
def tDG (K : PySem.W.Frag) (G : Gm) (M L : List Nat) (g : PyData → Rho → Option Rho) : TG := fun v σ H Q => ∃ S ρ d ρ', OwnS K G M L H S σ ρ ∧ Den K H S v d ∧ g d ρ = some ρ' ∧ ∀ σ' H', Same H H' → OwnS K G M L H' S σ' ρ' → Q σ' H'
def PDG (X : Cx) (G : Gm) (M L : List Nat) (t : Expr) (g : PyData → Rho → Option Rho) : Prop := PG X t (tDG X.K G M L g)
theorem pdg_name (i : Nat) (hN : X.N.Nodup) (hx : Loc X.env.scope x) (hM : i ∉ M) (hi : X.N[i]? = some x := by rfl) (hf : X.fn x = true ∨ X.env.scope.names.lookup x = some .local := by first | exact .inl rfl | exact .inr rfl | assumption) : PDG X G M L (.Name x pos) (gNm i) :=
  (pg_name hN hi hx hf).weak fun v σ H Q ⟨S, ρ, d, ρ', hs, hd, e, q⟩ => by
    cases e
    exact q _ H (Same.refl H) (hs.set hd hM)
theorem pds_set (i : Nat) (hN : X.N.Nodup) (hx : Loc X.env.scope x) (hi : X.N[i]? = some x) (hs : swapsWith a (some (.Name x p')) pos.line X.env = pure false) (hf : X.fn x = true ∨ X.env.scope.names.lookup x = some .local) (hM : i ∉ M) (he : PD X M a f) :
    PDS X G M L M Mb fr (.Assign [.Name x p'] a pos) (sSet i f) :=
  (ps_set hN hi hx he hs hf).weak fun D σ H ⟨S, ρ, o, hs, e, q⟩ => by
    obtain ⟨d, e1, e⟩ := ob_some e
    cases e
    exact ⟨S, ρ, d, hs.ds, e1, fun v H1 g1 d1 => q _ H1 S ((hs.same g1).set d1 hM)⟩
def sTake (i : Nat) (f : Rho → Option PyData) : Rho → Option Out := fun ρ => if i < ρ.length then ob (f ρ) fun d => some (.nx (ρ.set i (some d))) else none
theorem pds_setF (i : Nat) (hN : X.N.Nodup) (hx : Loc X.env.scope x) (hi : X.N[i]? = some x) (hs : swapsWith a (some (.Name x p')) pos.line X.env = pure false) (hf : X.fn x = true ∨ X.env.scope.names.lookup x = some .local) (hM : Out0 M i) (hL : i ∉ L) (he : PF X M a f) :
    PDS X G M L (i :: M) Mb fr (.Assign [.Name x p'] a pos) (sTake i f) :=
  (ps_set hN hi hx he hs hf).weak fun D σ H ⟨S, ρ, o, hs, e, q⟩ => by
    unfold sTake at e
    split at e
    · rename_i hz
      obtain ⟨d, e1, e⟩ := ob_some e
      cases e
      exact ⟨S, ρ, d, hs.ds, e1, fun p H1 g1 n o => q _ H1 _ (hs.take n g1 o hM hL hz)⟩
    · cases e
theorem pds_setFB (i : Nat) (hN : X.N.Nodup) (hx : Loc X.env.scope x) (hi : X.N[i]? = some x) (hs : swapsWith a (some (.Name x p')) pos.line X.env = pure false) (hf : X.fn x = true ∨ X.env.scope.names.lookup x = some .local) (hM : Out0 M i) (hL : i ∉ L) (he : PF X [] a f) :
    PDS X G M L (i :: M) Mb fr (.Assign [.Name x p'] a pos) (sTake i (flatG f)) :=
  (ps_set hN hi hx he hs hf).weak fun D σ H ⟨S, ρ, o, hs, e, q⟩ => by
    unfold sTake at e
    split at e
    · rename_i hz
      obtain ⟨d, e1, e⟩ := ob_some e
      cases e
      obtain ⟨d', e3, e4⟩ := ob_some e1
      split at e4
      · rename_i hf
        cases e4
        exact ⟨G.S0, ρ, d, hs.den, e3, fun p H1 g1 n o => q _ H1 _ (hs.take n g1 (o.flat hf) hM hL hz)⟩
      · cases e4
    · cases e
def forD (g : PyData → Rho → Option Rho) (body : Rho → Option Out) : List PyData → Rho → Option Out
  | [], ρ => some (.nx ρ)
  | d :: ds, ρ => ob (g d ρ) fun ρ1 => ob (body ρ1) fun o => match o with
    | .nx ρ' => forD g body ds ρ'
    | .ct ρ' => forD g body ds ρ'
    | .bk ρ' => some (.nx ρ')
    | .rt r => some (.rt r)
def sFor (fi : Rho → Option (List PyData)) (g : PyData → Rho → Option Rho) (u : Rho → Option Out) : Rho → Option Out := fun ρ => ob (fi ρ) fun ds => forD g u ds ρ
theorem OutQ.based {K : PySem.W.Frag} {G' : Gm} {D : Ends} {o : Out} (s : Same G.H0 G'.H0) (e : G'.S0 = G.S0) (e' : G'.lk = G.lk) (q : OutQ K G M' Mb L fr D o) : OutQ K G' M' Mb L fr D o := by
  cases o with
  | nx ρ => exact fun σ' H' S' hs => q σ' H' S' (hs.unbase s e e')
  | rt d =>
    cases fr with
    | nw => exact fun p H' h0 n n' o => q p H' (s.trans h0) (s.free n) (by rw [← e]; exact n') (by rw [← e]; exact o)
    | dp => exact fun p fp H' h0 n o => q p fp H' (s.trans h0) (fun r hr => ⟨s.free (n r hr).1, by rw [← e]; exact (n r hr).2⟩) (by rw [← e]; exact o)
    | pl => exact fun v H' h0 d => q v H' (s.trans h0) (by rw [← e]; exact d)
  | bk ρ => exact fun σ' H' S' hs => q σ' H' S' (hs.unbase s e e')
  | ct ρ => exact fun σ' H' S' hs => q σ' H' S' (hs.unbase s e e')
theorem pds_for {tg iter : Expr} {body : List Stmt} {fi : Rho → Option (List PyData)} {g : PyData → Rho → Option Rho} (hp : PassesOwn (model X.prog X.w) X.A X.env X.xe) (hc : X.calm = true) (hi : PDI X M tg iter fi) (hg : ∀ G, PDG X G M L tg g) (hb : ∀ G, PDSs X G M L M M fr body u)
    (hs : ∀ x, foldedSetIterable iter X.env x = pure x := by intro _; rfl) : PDS X G M L M Mb fr (.For tg iter body [] pos) (sFor fi g u) := by
  have hg' : PG X tg (fun v σ H Q => ∃ G, tDG X.K G M L g v σ H Q) := fun pins s σ H v u Q I r ⟨G, q⟩ => hg G pins s σ H v u Q I r q
  have hb' : PSs X body (fun D σ H => ∃ G, tDS X.K G M L M M fr u D σ H) := fun pins s σ H D I ⟨G, q⟩ => hb G pins s σ H D I q
  refine (ps_for hp hc hi hg' hb' hs).weak fun D σ H ⟨S, ρ, o, os, e, q⟩ => ?_
  obtain ⟨ds, e1, e⟩ := ob_some e
  refine ⟨S, ρ, ds, os.ds, e1, fun J H1 g1 hJ0 => ?_⟩
  have os1 := os.same g1
  have hJ : IsIt X.K S J ((G.base S H1).H0) ds := hJ0 _ base_off
  have bs : Same G.H0 (G.base S H1).H0 := base_same os1.h0
  have bo := os1.base
  have sl := os1.lks
  generalize hG : G.base S H1 = G1 at hJ bs bo
  have eS : G1.S0 = G.S0 := by rw [← hG]; rfl
  have eL : G1.lk = G.lk := by rw [← hG]; rfl
  have sl1 : ∀ i ∈ L, S (G1.lk i).1 := by rw [eL]; exact sl
  have s01 : ∀ a, G1.S0 a → S a := by rw [eS]; exact os.s0
  refine ⟨fun i m σ' H' => m = ds.length - i ∧ i ≤ ds.length ∧ ∃ S' ρ o, OwnS X.K G1 M L H' S' σ' ρ ∧ forD g u (ds.drop i) ρ = some o ∧ OutQ X.K G M Mb L fr D o, ⟨ds.length, by simp, Nat.zero_le _, S, ρ, o, bo, e, q⟩, ?_⟩
  rintro i m σ' H' ⟨rfl, hi, S', ρ', o', hs', e', q'⟩
  by_cases hlt : i < ds.length
  · rw [List.drop_eq_getElem_cons hlt] at e'
    obtain ⟨ρ1, e2, e'⟩ := ob_some e'
    obtain ⟨o1, e3, e'⟩ := ob_some e'
    have key : ∀ N : St → Hp → Prop, OutQ X.K G1 M M L fr { D with nx := N, ct := N, bk := D.nx } o1 → ∀ x H2, J.yld i H' x H2 → ∃ G, tDG X.K G M L g x σ' H2 fun σ2 H2 => ∃ G, tDS X.K G M L M M fr u { D with nx := N, ct := N, bk := D.nx } σ2 H2 := fun N hN x H2 y => by
      obtain ⟨e4, yd⟩ := hJ.yld i H' x H2 hs'.h0 y
      exact ⟨G1, S', ρ', _, ρ1, hs'.same e4, yd _ (List.getElem?_eq_getElem hlt) S' fun y e q => (hs'.turn s01 sl1 q).same e4, e2, fun σ2 H3 g3 hs3 => ⟨G1, S', ρ1, o1, hs3, e3, hN⟩⟩
    refine .inr ⟨hJ.go i H' hs'.h0 hlt, ?_⟩
    have next : ∀ ρ2, forD g u (ds.drop (i + 1)) ρ2 = some o' → ∃ N : St → Hp → Prop, (∀ σ' H'', N σ' H'' → ∃ m', m' < ds.length - i ∧ (m' = ds.length - (i + 1) ∧ i + 1 ≤ ds.length ∧ ∃ S' ρ o, OwnS X.K G1 M L H'' S' σ' ρ ∧ forD g u (ds.drop (i + 1)) ρ = some o ∧ OutQ X.K G M Mb L fr D o)) ∧ ∀ σ2 H2 S2, OwnS X.K G1 M L H2 S2 σ2 ρ2 → N σ2 H2 := fun ρ2 e4 =>
      ⟨fun σ2 H2 => ∃ S2, OwnS X.K G1 M L H2 S2 σ2 ρ2, fun σ2 H2 ⟨S2, hs3⟩ => ⟨ds.length - (i + 1), by omega, rfl, hlt, S2, ρ2, o', hs3, e4, q'⟩, fun σ2 H2 S2 hs3 => ⟨S2, hs3⟩⟩
    cases o1 with
    | nx ρ2 =>
      obtain ⟨N, n1, n2⟩ := next ρ2 e'
      exact ⟨N, n1, key N fun σ3 H3 S3 hs3 => n2 σ3 H3 S3 hs3⟩
    | ct ρ2 =>
      obtain ⟨N, n1, n2⟩ := next ρ2 e'
      exact ⟨N, n1, key N fun σ3 H3 S3 hs3 => n2 σ3 H3 S3 hs3⟩
    | bk ρ2 =>
      cases e'
      exact ⟨fun _ _ => False, fun _ _ z => z.elim, key _ fun σ3 H3 S3 hs3 => q' σ3 H3 S3 (hs3.unbase bs eS eL)⟩
    | rt r =>
      cases e'
      refine ⟨fun _ _ => False, fun _ _ z => z.elim, key _ ?_⟩
      have q2 : OutQ X.K G1 M Mb L fr D (.rt r) := q'.based bs eS eL
      exact q2
  · have hi' : i = ds.length := by omega
    subst hi'
    rw [List.drop_length] at e'
    cases e'
    exact .inl ⟨hJ.stop H' hs'.h0, q' σ' H' S' (hs'.unbase bs eS eL)⟩
end
def outD : Out → Option PyData
  | .rt d => some d
  | .nx _ => some .none
  | _ => none
def outF : Out → Option PyData
  | .rt d => some d
  | _ => none
def rho0 (n : Nat) (ds : List PyData) : Rho := ds.map some ++ List.replicate (n - ds.length) none
def G0 (H : Hp) (S : Av) : Gm := ⟨H, S, fun _ => (0, .none)⟩
theorem OwnS.start {K : PySem.W.Frag} {H : Hp} {S : Av} {vs : List V} {ds : List PyData} (m : Dm S H) (h : DenL K H S vs ds) (N : List Str) : OwnS K (G0 H S) [] [] H S (start N vs) (rho0 N.length ds) :=
  ⟨DenS.start m h N, fun _ z => z, Same.refl _, (fun _ h => nomatch h.1), (fun _ h => nomatch h.1), fun _ z => .inl z, (fun _ h => nomatch h), fun _ => [], (fun _ h => nomatch h.1), (fun _ h => nomatch h.1), (fun _ h => nomatch h.1)⟩
def spN (K : PySem.W.Frag) (n : Nat) (f : List PyData → Option PyData) : Sp := fun vs H Q _ => ∃ S ds d, Dm S H ∧ DenL K H S vs ds ∧ ds.length = n ∧ f ds = some d ∧ ∀ p H', Same H H' → H p = none → OwnO K H' (insA S p) p d → Q (.ref p) H'
structure FunG (K : PySem.W.Frag) (x qual : Str) (st : Stmt) (f : Addr) (fd : FuncData) : Prop where
  ex : ∃ (oc dV : Value) (od : Option Addr) (kV doc pm : Value) (an : Option Addr) (cdv ct : Value) (osl : Array (Option Value)),
    fd = PySem.W.fnOf x qual (defArgs st) (defBody st) (defScope st) dV kV doc pm an cdv ct ∧ K.lookup f = some ⟨oc, od, .func fd, osl⟩ ∧ PySem.W.codeIn K cdv qual = true
  kp : PySem.W.keepIn K (.ref f) = true
theorem Fun.g {K : PySem.W.Frag} {x qual : Str} {st : Stmt} {f : Addr} {fd : FuncData} (F : Fun K x qual st f fd) : FunG K x qual st f fd := by
  obtain ⟨oc, od, kV, doc, pm, an, cdv, ct, osl, e, lk, hcd⟩ := F.ex
  exact ⟨⟨oc, _, od, kV, doc, pm, an, cdv, ct, osl, e, lk, hcd⟩, F.kp⟩
section
variable {P : Program} {w : World} {K : PySem.W.Frag} {mg : Str → Option Value} {base : Heap}
theorem FunG.ok {x qual : Str} {st : Stmt} {f : Addr} {fd : FuncData} {N ps : List Str} {k : Nat} {sp : Sp} (F : FunG K x qual st f fd) (S : FnScope N ps (defScope st)) (len : ∀ vs H Q E, sp vs H Q E → vs.length = ps.length)
    (hbody : ∀ (cdv : Value) (A : Around) (outer : List Env) (s : Shared) (H : Hp) (vs : List V) (Q : VK) (E : XK), Room k (A.deeper (envOfC qual (defScope st) s.heap.objs.size f cdv)) → sp vs H Q E →
      ∃ t, PSs (cxOf CX0 P w K mg base N qual (defScope st) f cdv A outer s H E).nox (defBody st) t ∧ t { nx := fun _ H' => Q .non H', rt := Q } (start N vs) H) : FnOk P w K mg base CX0 (k + 1) f fd ps sp := by
  obtain ⟨oc, dV, od, kV, doc, pm, an, cdv, ct, osl, rfl, lk, hcd⟩ := F.ex
  refine fn_of lk hcd S len fun A outer s H vs Q E hr hsp => ?_
  obtain ⟨t, h, q⟩ := hbody cdv A outer s H vs Q E hr hsp
  exact ⟨t, h.nox, q⟩
theorem FunG.pure {x qual : Str} {st : Stmt} {f : Addr} {fd : FuncData} {N ps : List Str} {k n : Nat} {u : Rho → Option Out} {M' : List Nat} (F : FunG K x qual st f fd) (S : FnScope N ps (defScope st)) (hn : ps.length = n)
    (hbody : ∀ (cdv : Value) (A : Around) (outer : List Env) (s : Shared) (H : Hp) (E : XK), Room k (A.deeper (envOfC qual (defScope st) s.heap.objs.size f cdv)) → ∀ G : Gm,
      PDSs (cxOf CX0 P w K mg base N qual (defScope st) f cdv A outer s H E).nox G [] [] M' [] .pl (defBody st) u) :
    FnOk P w K mg base CX0 (k + 1) f fd ps (spF K n fun ds => ob (u (rho0 N.length ds)) outD) := by
  refine F.ok S (fun vs H Q E h => ?_) (fun cdv A outer s H vs Q E hr h => ?_)
  · obtain ⟨_, ds, d, _, h1, h2, _⟩ := h
    rw [h1.length, h2, hn]
  · obtain ⟨Sv, ds, d, m, h1, h2, e, q⟩ := h
    obtain ⟨o, e1, e⟩ := ob_some e
    refine ⟨_, hbody cdv A outer s H E hr (G0 H Sv), Sv, rho0 N.length ds, o, OwnS.start m h1 N, e1, ?_⟩
    cases o with
    | rt r => cases e; exact q
    | nx ρ => cases e; exact fun σ' H' S' hs => q _ H' hs.h0 .none
    | bk ρ => cases e
    | ct ρ => cases e
theorem Fun.pure {x qual : Str} {st : Stmt} {f : Addr} {fd : FuncData} {N ps : List Str} {k n : Nat} {u : Rho → Option Out} {M' : List Nat} (F : Fun K x qual st f fd) (S : FnScope N ps (defScope st)) (hn : ps.length = n)
    (hbody : ∀ (cdv : Value) (A : Around) (outer : List Env) (s : Shared) (H : Hp) (E : XK), Room k (A.deeper (envOfC qual (defScope st) s.heap.objs.size f cdv)) → ∀ G : Gm,
      PDSs (cxOf CX0 P w K mg base N qual (defScope st) f cdv A outer s H E).nox G [] [] M' [] .pl (defBody st) u) :
    FnOk P w K mg base CX0 (k + 1) f fd ps (spF K n fun ds => ob (u (rho0 N.length ds)) outD) :=
  F.g.pure S hn hbody
theorem FunG.new {x qual : Str} {st : Stmt} {f : Addr} {fd : FuncData} {N ps : List Str} {k n : Nat} {u : Rho → Option Out} {M' : List Nat} (F : FunG K x qual st f fd) (S : FnScope N ps (defScope st)) (hn : ps.length = n)
    (hbody : ∀ (cdv : Value) (A : Around) (outer : List Env) (s : Shared) (H : Hp) (E : XK), Room k (A.deeper (envOfC qual (defScope st) s.heap.objs.size f cdv)) → ∀ G : Gm,
      PDSs (cxOf CX0 P w K mg base N qual (defScope st) f cdv A outer s H E).nox G [] [] M' [] .nw (defBody st) u) :
    FnOk P w K mg base CX0 (k + 1) f fd ps (spN K n fun ds => ob (u (rho0 N.length ds)) outF) := by
  refine F.ok S (fun vs H Q E h => ?_) (fun cdv A outer s H vs Q E hr h => ?_)
  · obtain ⟨_, ds, d, _, h1, h2, _⟩ := h
    rw [h1.length, h2, hn]
  · obtain ⟨Sv, ds, d, m, h1, h2, e, q⟩ := h
    obtain ⟨o, e1, e⟩ := ob_some e
    refine ⟨_, hbody cdv A outer s H E hr (G0 H Sv), Sv, rho0 N.length ds, o, OwnS.start m h1 N, e1, ?_⟩
    cases o with
    | rt r => cases e; exact fun p H' g n _ o => q p H' g n o
    | nx ρ => cases e
    | bk ρ => cases e
    | ct ρ => cases e
theorem Fun.new {x qual : Str} {st : Stmt} {f : Addr} {fd : FuncData} {N ps : List Str} {k n : Nat} {u : Rho → Option Out} {M' : List Nat} (F : Fun K x qual st f fd) (S : FnScope N ps (defScope st)) (hn : ps.length = n)
    (hbody : ∀ (cdv : Value) (A : Around) (outer : List Env) (s : Shared) (H : Hp) (E : XK), Room k (A.deeper (envOfC qual (defScope st) s.heap.objs.size f cdv)) → ∀ G : Gm,
      PDSs (cxOf CX0 P w K mg base N qual (defScope st) f cdv A outer s H E).nox G [] [] M' [] .nw (defBody st) u) :
    FnOk P w K mg base CX0 (k + 1) f fd ps (spN K n fun ds => ob (u (rho0 N.length ds)) outF) :=
  F.g.new S hn hbody
structure Known (P : Program) (w : World) (K : PySem.W.Frag) (mg : Str → Option Value) (base : Heap) (x : Str) (n k : Nat) (h : List PyData → Option PyData) : Prop where
  ex : ∃ (f : Addr) (fd : FuncData) (ps : List Str), FnOk P w K mg base CX0 k f fd ps (spF K n h) ∧ mg x = some (.ref f) ∧ PySem.W.keepIn K (.ref f) = true ∧ Binds K fd ps []
structure KnownN (P : Program) (w : World) (K : PySem.W.Frag) (mg : Str → Option Value) (base : Heap) (x : Str) (n k : Nat) (h : List PyData → Option PyData) : Prop where
  ex : ∃ (f : Addr) (fd : FuncData) (ps : List Str), FnOk P w K mg base CX0 k f fd ps (spN K n h) ∧ mg x = some (.ref f) ∧ PySem.W.keepIn K (.ref f) = true ∧ Binds K fd ps []
theorem KnownN.known  (F : KnownN P w K mg base x n k h) : Known P w K mg base x n k h := by
  obtain ⟨f, fd, ps, F, m, kp, b⟩ := F.ex
  exact ⟨f, fd, ps, F.imp fun vs H Q E ⟨S, ds, d, m, h1, h2, e, q⟩ => ⟨S, ds, d, m, h1, h2, e, fun p H' g n o => q _ H' g (o.den (m.free n) fun a _ z => .inl z)⟩, m, kp, b⟩
end
section
variable {X : Cx} {G : Gm} {M M' Mb L : List Nat} {fr : Fr} {a b c : Expr} {es : List Expr} {f g : Rho → Option PyData} {p : Rho → Option Bool} {pos : Pos} {u : Rho → Option Out}
theorem pd_known {p : Pos}  (F : Known X.prog X.w X.K X.mg X.base x n k h) (hr : Room k' X.A) (hk : k ≤ k') (hg : Gl X x) (ha : PDA X M (a :: es) fs) (hl : (a :: es).length = n)
    (hdb : (x == ("__debug__" : Str)) = false := by decide +kernel) (he : starEach (a :: es) X.env = (false, eval a X.env) :: starEach es X.env := by rfl) (hpl : (backTo pos (starEach es X.env)).any (·.1) = false := by rfl) :
    PD X M (.Call (.Name x p) (a :: es) [] pos) (evC n fs h) := by
  obtain ⟨f, fd, ps, F, m, kp, b⟩ := F.ex
  exact pd_call F (hr.mono hk) hg m kp b pass0 ha hl hdb he hpl
theorem pf_known {p : Pos}  (F : KnownN X.prog X.w X.K X.mg X.base x n k h) (hr : Room k' X.A) (hk : k ≤ k') (hg : Gl X x) (ha : PDA X M (a :: es) fs) (hl : (a :: es).length = n)
    (hdb : (x == ("__debug__" : Str)) = false := by decide +kernel) (he : starEach (a :: es) X.env = (false, eval a X.env) :: starEach es X.env := by rfl) (hpl : (backTo pos (starEach es X.env)).any (·.1) = false := by rfl) :
    PF X M (.Call (.Name x p) (a :: es) [] pos) (evC n fs h) := by
  obtain ⟨f, fd, ps, F, m, kp, b⟩ := F.ex
  refine (pe_call F (hr.mono hk) hg m kp b .nil pass0 ha hdb he hpl).weak fun σ H Q ⟨S, ρ, d, hs, e, q⟩ => ?_
  obtain ⟨ds, e1, e⟩ := ob_some e
  have e : (if ds.length = n then h ds else none) = some d := e
  split at e
  · rename_i hn
    exact ⟨S, ρ, ds, hs, e1, fun vs H1 g1 d1 => ⟨S, ds, d, hs.1.same g1, by rw [List.append_nil]; exact d1, hn, e, fun p H' g2 n o => q p H' (g1.trans g2) (g1.free n) o⟩⟩
  · cases e
theorem OwnO.laid {K : PySem.W.Frag} {H : Hp} {S : Av} {p : Addr} {vs : List V} {ds : List PyData} (n : H p = none) (t : DenL K H S vs ds) : OwnO K (L2.upd H p (.lst vs)) (insA S p) p (.list ds) :=
  .lst upd_same ((t.sub fun a ha z => z.elim id fun y => absurd (by rw [y]; exact n) ha).same (Same.lay n))
theorem pf_lst (h : PDA X M es fs) : PF X M (.List es pos) (evA fs lstD) :=
  (pe_lst h).weak fun σ H Q ⟨S, ρ, d, hs, e, q⟩ => by
    obtain ⟨xs, e1, e⟩ := ob_some e
    obtain ⟨hz, rfl⟩ := lstD_some e
    exact ⟨S, ρ, xs, hs, e1, fun vs H1 g1 d1 => ⟨Nat.le_of_lt (small1000 (by rw [d1.length]; exact hz)), fun p hp => q _ _ (g1.lay' hp) (g1.free hp) (OwnO.laid hp d1)⟩⟩
def CallN (X : Cx) (f : Value) (g : List PyData → Option PyData) : Prop := CallR X f (fun vs H Q => ∃ S ds d, Dm S H ∧ DenL X.K H S vs ds ∧ g ds = some d ∧ ∀ p H', Same H H' → H p = none → OwnO X.K H' (insA S p) p d → Q (.ref p) H')
theorem pf_callB {id : String} {x : Str} {p : Pos} {h : List PyData → Option PyData} {fs : Rho → Option (List PyData)} (hc : CallN X (.builtin id) h) (hg : Gl X x) (hm : X.mg x = none) (hv : bootBuiltins x = some (.builtin id)) (ha : PDA X M (a :: es) fs) (hn : x ≠ "__name__" := by decide +kernel) (hdb : (x == ("__debug__" : Str)) = false := by decide +kernel)
    (he : starEach (a :: es) X.env = (false, eval a X.env) :: starEach es X.env := by rfl) (hpl : (backTo pos (starEach es X.env)).any (·.1) = false := by rfl) : PF X M (.Call (.Name x p) (a :: es) [] pos) (evA fs h) :=
  (pe_callB hc hg hm hv ha hn hdb he hpl).weak fun σ H Q ⟨S, ρ, d, hs, e, q⟩ => by
    obtain ⟨ds, e1, e⟩ := ob_some e
    exact ⟨S, ρ, ds, hs, e1, fun vs H1 g1 d1 => ⟨S, ds, d, hs.1.same g1, d1, e, fun p H' g2 n o => q p H' (g1.trans g2) (g1.free n) o⟩⟩
theorem pf_callTy {p : Pos}  (hc : CallN X (.type T) h) (hg : Gl X x) (hm : X.mg x = none) (hv : bootBuiltins x = some (.type T)) (ha : PDA X M (a :: es) fs) (hn : x ≠ "__name__" := by decide +kernel) (hdb : (x == ("__debug__" : Str)) = false := by decide +kernel)
    (he : starEach (a :: es) X.env = (false, eval a X.env) :: starEach es X.env := by rfl) (hpl : (backTo pos (starEach es X.env)).any (·.1) = false := by rfl) : PF X M (.Call (.Name x p) (a :: es) [] pos) (evA fs h) :=
  (pe_callTy hc hg hm hv ha hn hdb he hpl).weak fun σ H Q ⟨S, ρ, d, hs, e, q⟩ => by
    obtain ⟨ds, e1, e⟩ := ob_some e
    exact ⟨S, ρ, ds, hs, e1, fun vs H1 g1 d1 => ⟨S, ds, d, hs.1.same g1, d1, e, fun p H' g2 n o => q p H' (g1.trans g2) (g1.free n) o⟩⟩
theorem n_list : CallN X (.type "list") listD := fun pins s σ H xs us Q I r ⟨S, ds, d, m, h1, e, q⟩ => call_list_of pins s σ H xs us Q I r (by
  cases h1 with
  | nil => cases e
  | cons a t =>
    cases t with
    | cons a' t' => cases a <;> cases e
    | nil =>
      cases a with
      | list h t => cases e; exact ⟨_, _, rfl, .inl h.sq, fun l hl => q _ _ (Same.lay hl) hl (OwnO.laid hl t)⟩
      | tuple h t => cases e; exact ⟨_, _, rfl, .inr h, fun l hl => q _ _ (Same.lay hl) hl (OwnO.laid hl t)⟩
      | _ => cases e)
def appD : PyData → PyData → Option PyData
  | .list ds, d => if ds.length < 1000 then some (.list (ds ++ [d])) else none
  | _, _ => none
def sApp (i : Nat) (f : Rho → Option PyData) : Rho → Option Out := fun ρ => ob (vr i ρ) fun l => ob (f ρ) fun d => ob (appD l d) fun l' => some (.nx (ρ.set i (some l')))
theorem appD_some (e : appD l d = some l') : ∃ ds, l = .list ds ∧ ds.length < 1000 ∧ l' = .list (ds ++ [d]) := by
  unfold appD at e
  split at e
  · split at e
    · rename_i hz; cases e; exact ⟨_, rfl, hz, rfl⟩
    · cases e
  · cases e
theorem Off.upd {S : Av} {H : Hp} {p : Addr} {o : HO} (c : S p) : Off S H (L2.upd H p o) := fun b u z e => by
  rw [upd_ne (fun y => z (by rw [y]; exact c))]; exact e
theorem pds_app (i : Nat) {px apos cpos : Pos} (hv : Vis X.env.scope x) (hM : Flt M i) (hL : i ∉ L) (he : PD X M a f) (hN : X.N[i]? = some x := by rfl) (hd : (x == ("__debug__" : Str)) = false := by decide +kernel) (hcd : (x == ("__classdict__" : Str)) = false := by decide +kernel)
    (hbase : attributeBase (.Name x px) "append" X.env (eval (.Name x px) X.env) = eval (.Name x px) X.env := by rfl)
    (hfew : ((backTo cpos (starEach [a] X.env)).all (fun x => !x.1) && (backToKw cpos (keywordEach [] X.env)).all (fun x => x.1.isSome)
      && decide ([a].length + ([] : List Keyword).length + (if ([] : List Keyword).isEmpty then 0 else 1) < 30)) = true := by rfl)
    (hline : (apos.endLine == cpos.line) = true := by rfl) (hs : starEach [a] X.env = (false, eval a X.env) :: starEach [] X.env := by rfl) (hplain : (backTo cpos (starEach [] X.env)).any (·.1) = false := by rfl)
    (hsw : swapsWith (.Call (.Attribute (.Name x px) "append" apos) [a] [] cpos) none pos.line X.env = pure false := by rfl) :
    PDS X G M L M Mb fr (.Expr (.Call (.Attribute (.Name x px) "append" apos) [a] [] cpos) pos) (sApp i f) :=
  (ps_expr (pe_bm PySem.F.plainAttrs_list PySem.F.slot_list_append PySem.F.type_list_append mt_append (pe_own i hv hN hd hcd) (pda_cons he pda_nil hs) hbase hfew hline hs hplain) hsw).weak fun D σ H ⟨S, ρ, o, os, e, q⟩ => by
    obtain ⟨l, e1, e⟩ := ob_some e
    obtain ⟨d, e2, e⟩ := ob_some e
    obtain ⟨l', e3, e⟩ := ob_some e
    cases e
    obtain ⟨ds, rfl, hz, rfl⟩ := appD_some e3
    obtain ⟨pp, a1, b1, c1, n1, w1, _⟩ := os.own i hM _ (vr_some e1)
    cases b1 with
    | @lst xs _ h t =>
      refine ⟨_, a1, .inl ⟨rfl, _, SqL.of h⟩, S, ρ, [d], os.ds, by show ob (f ρ) _ = _; rw [e2]; rfl, fun vs H2 g2 dl => ?_⟩
      obtain ⟨v, rfl, dv⟩ := dl.inv1
      have os2 := os.same g2
      refine ⟨pp, xs, v, rfl, rfl, g2 _ _ h, Nat.lt_of_lt_of_le (by rw [t.length]; exact hz) (Nat.le_of_lt (small1000 (Nat.le_refl _))), ?_⟩
      exact q _ _ _ (os2.write hM hL (vr_some e1) a1 rfl (.lst upd_same (((t.same g2).snoc dv).off os2.ds.1 (Off.upd c1))))
end
section
variable {X : Cx} {G : Gm} {M M' Mb L : List Nat} {fr : Fr} {a b c : Expr} {es : List Expr} {f g : Rho → Option PyData} {p : Rho → Option Bool} {pos : Pos} {u : Rho → Option Out}
def intD : PyData → Option Int
  | .int i => some i
  | _ => none
def PDO (X : Cx) (M : List Nat) (e : Option Expr) (f : Rho → Option (Option Int)) : Prop := PO X e (fun σ H Q => ∃ S ρ i, DenS X.K H S M σ ρ ∧ f ρ = some i ∧ ∀ H', Same H H' → Q i H')
def oN : Rho → Option (Option Int) := fun _ => some none
def oS (f : Rho → Option PyData) : Rho → Option (Option Int) := fun ρ => ob (f ρ) fun d => ob (intD d) fun i => some (some i)
theorem intD_some (h : intD d = some i) : d = .int i := by cases d <;> first | (cases h; rfl) | cases h
theorem pdo_none : PDO X M none oN := fun pins s σ H Q I ⟨S, ρ, i, hs, e, q⟩ => by
  cases e
  exact po_none pins s σ H Q I (q H (Same.refl H))
theorem pdo_some (h : PD X M a f) : PDO X M (some a) (oS f) := fun pins s σ H Q I ⟨S, ρ, i, hs, e, q⟩ => by
  obtain ⟨d, e1, e⟩ := ob_some e
  obtain ⟨j, e2, e⟩ := ob_some e
  cases e
  cases intD_some e2
  exact po_some h pins s σ H Q I ⟨S, ρ, _, hs, e1, fun v H' g d => ⟨j, d.int_inv, q H' g⟩⟩
def cutD (ds : List PyData) (lo hi : Option Int) : List PyData := (ds.drop (HT.sIx ds.length 0 lo)).take (HT.sIx ds.length ds.length hi - HT.sIx ds.length 0 lo)
def sliD (x : PyData) (lo hi : Option Int) : Option PyData := match x with
  | .list ds => some (.list (cutD ds lo hi))
  | .tuple ds => if HT.sIx ds.length 0 lo = 0 ∧ HT.sIx ds.length ds.length hi = ds.length then none else some (.tuple (cutD ds lo hi))
  | _ => none
def evS (fa : Rho → Option PyData) (fl fh : Rho → Option (Option Int)) : Rho → Option PyData := fun ρ => ob (fa ρ) fun x => ob (fl ρ) fun l => ob (fh ρ) fun h => sliD x l h
theorem cutD_den {K : PySem.W.Frag} {H : Hp} {S : Av} {vs : List V} {ds : List PyData} (t : DenL K H S vs ds) (lo hi : Option Int) : DenL K H S (cutV vs lo hi) (cutD ds lo hi) := by
  unfold cutV cutD
  rw [t.length]
  exact (t.drop _).take _
theorem pd_slice {lo hi : Option Expr} {fl fh : Rho → Option (Option Int)} {p2 : Pos} (ha : PD X M a f) (hl : PDO X M lo fl) (hh : PDO X M hi fh) : PD X M (.Subscript a (.Slice lo hi none p2) pos) (evS f fl fh) :=
  (pe_slice (r := fun x lo hi H Q => rSlL X.K x lo hi H Q ∨ rSlT X.K x lo hi H Q) (sl_list.or sl_tup) ha hl hh).weak fun σ H Q ⟨S, ρ, d, hs, e, q⟩ => by
    obtain ⟨x, e1, e⟩ := ob_some e
    obtain ⟨l, e2, e⟩ := ob_some e
    obtain ⟨h, e3, e⟩ := ob_some e
    refine ⟨S, ρ, x, hs, e1, fun v H1 g1 d1 => ⟨S, ρ, l, hs.same g1, e2, fun H2 g2 => ⟨S, ρ, h, hs.same (g1.trans g2), e3, fun H3 g3 => ?_⟩⟩⟩
    have g13 := g1.trans (g2.trans g3)
    have d3 := d1.same (g2.trans g3)
    cases d3 with
    | list hq t =>
      cases e
      exact .inl ⟨_, _, rfl, hq.sq, fun p hp => q _ _ (g13.lay' hp) (.list (SqLS.new upd_same ((hs.1.same g13).free hp)) ((cutD_den t l h).same (Same.lay hp)))⟩
    | @tuple a' xs ds hq t =>
      have e : (if HT.sIx ds.length 0 l = 0 ∧ HT.sIx ds.length ds.length h = ds.length then none else some (PyData.tuple (cutD ds l h))) = some d := e
      split at e
      · cases e
      · rename_i hc
        cases e
        refine .inr ⟨_, _, rfl, hq, by rw [t.length]; exact hc, fun p hp => q _ _ (g13.lay' hp) (.tuple (SqT.of upd_same) ((cutD_den t l h).same (Same.lay hp)))⟩
    | _ => cases e
def add2D (x y : PyData) : Option PyData := match x, y with
  | .int i, .int j => some (.int (i + j))
  | .tuple ds, .tuple es => if ds.length + es.length ≤ 1000 then some (.tuple (ds ++ es)) else none
  | _, _ => none
theorem cat_none {prog : Program} {w : World} {A : Around} {E : Value → Shared → Prop} {s : Shared} {t b : Addr} {vs ws : List Value} {Q : Value → Shared → Prop} (ht : IsTup s.heap t vs.toArray) (hb : IsTup s.heap b ws.toArray) (hv : vs = []) (h : Q (.ref b) s) :
    wpAny (model prog w) A (binaryOp .Add (.ref t) (.ref b)) Q E s := by
  obtain ⟨⟨cls, dd, data, sl⟩, ho, hc, n, hd⟩ := id ht
  obtain ⟨⟨cls2, dd2, data2, sl2⟩, ho2, hc2, n2, hd2⟩ := id hb
  simp only at hc hd hc2 hd2
  subst hc hd hc2 hd2
  exact concat_meets ⟨_, ho, rfl⟩ ⟨_, ho2, rfl⟩ noFill_tuple_add seq_tuple_add PySem.F.slot_tuple_add PySem.F.entry_tuple_add (PySem.F.args_tuple_add_2 _ _) (tuple_addW0 t b vs.toArray ws.toArray n n2 dd dd2 sl sl2 (by simp [hv])) ⟨ho, ho2, h⟩
theorem op_cat0 : OpR X (binaryOp .Add) (fun x y H Q => ∃ a b ys, x = .ref a ∧ y = .ref b ∧ SqT X.K H a [] ∧ SqT X.K H b ys ∧ Q (.ref b) H) := by
  intro pins s σ H x y v u Q I rx ry h
  obtain ⟨a, b, ys, rfl, rfl, ha, hb, q⟩ := h
  cases rx
  cases ry
  obtain ⟨its, r1, p1, _⟩ := I.tuple ha
  obtain ⟨its2, r2, p2, _⟩ := I.tuple hb
  exact cat_none p1 p2 (r1.nil_iff.mpr rfl) ⟨.ref b, H, I, rfl, q⟩
theorem d_add2 : OpD X (binaryOp .Add) add2D := by
  refine opD_of (r := fun x y H Q => rI0 (fun i j => .int (i + j)) x y H Q ∨ (rCatT X.K x y H Q ∨ (∃ a b ys, x = .ref a ∧ y = .ref b ∧ SqT X.K H a [] ∧ SqT X.K H b ys ∧ Q (.ref b) H))) (op_add.or (op_catT.or op_cat0)) fun x y dx dy d H S Q m h1 h2 e q => ?_
  unfold add2D at e
  split at e
  · cases e; cases h1; cases h2
    exact .inl ⟨_, _, rfl, rfl, q _ H (Same.refl H) (.int _)⟩
  · split at e
    · rename_i ds es hc
      cases e
      cases h1 with
      | tuple a1 t1 =>
        cases h2 with
        | tuple a2 t2 =>
          cases ds with
          | nil =>
            cases t1
            exact .inr (.inr ⟨_, _, _, rfl, rfl, a1, a2, q _ H (Same.refl H) (.tuple a2 t2)⟩)
          | cons d0 ds =>
            refine .inr (.inl ⟨_, _, _, _, rfl, rfl, a1, a2, fun z => ?_, ?_, fun z => ?_, fun z p hp => q _ _ (Same.lay hp) (.tuple (SqT.of upd_same) ((t1.append t2).same (Same.lay hp)))⟩)
            · subst z; cases t1
            · rw [t1.length, t2.length]
              exact Nat.le_of_lt (small1000 hc)
            · subst z; cases t2
              rw [List.append_nil] at q
              exact q _ H (Same.refl H) (.tuple a1 t1)
    · cases e
  · cases e
end
section
variable {X : Cx} {G : Gm} {M M1 M' Mb L : List Nat} {fr : Fr} {a b c : Expr} {es : List Expr} {f g : Rho → Option PyData} {p : Rho → Option Bool} {pos : Pos} {u : Rho → Option Out} {ss : List Stmt} {s1 : Stmt}
def PDR (X : Cx) (tg iter : Expr) (f : Rho → Option (List PyData)) : Prop := PI X tg iter (fun σ H R => ∃ S ρ ds, DenS X.K H S [] σ ρ ∧ f ρ = some ds ∧ ∀ J H', Same H H' → (∀ H2 S2, IsIt X.K S2 J H2 ds) → R J H')
theorem pdr_range1 {tg : Expr} {fs : Rho → Option (List PyData)} {p : Pos} (hg : Gl X "range") (hm : X.mg "range" = none) (ha : PDA X [] [a] fs) (hs : starEach [a] X.env = [(false, eval a X.env)] := by rfl) : PDR X tg (.Call (.Name "range" p) [a] [] pos) (evR fs rng1D) :=
  (pi_range1 hg hm ha hs).weak fun σ H R ⟨S, ρ, ds, hs, e, w⟩ => by
    obtain ⟨xs, e1, e⟩ := ob_some e
    refine ⟨S, ρ, xs, hs, e1, fun vs H1 g1 d1 => ?_⟩
    unfold rng1D at e
    split at e
    · rename_i j
      split at e
      · rename_i hj
        cases e
        obtain ⟨v, rfl, q⟩ := d1.inv1
        cases q
        exact ⟨j, rfl, by omega, by omega, w _ _ g1 fun _ _ => IsIt.rng 0 _⟩
      · cases e
    · cases e
theorem pds_forR {tg iter : Expr} {body : List Stmt} {fi : Rho → Option (List PyData)} {g : PyData → Rho → Option Rho} (hp : PassesOwn (model X.prog X.w) X.A X.env X.xe) (hc : X.calm = true) (hi : PDR X tg iter fi) (hg : PDG X G M L tg g) (hb : PDSs X G M L M M fr body u)
    (hs : ∀ x, foldedSetIterable iter X.env x = pure x := by intro _; rfl) : PDS X G M L M Mb fr (.For tg iter body [] pos) (sFor fi g u) := by
  refine (ps_for hp hc hi hg hb hs).weak fun D σ H ⟨S, ρ, o, os, e, q⟩ => ?_
  obtain ⟨ds, e1, e⟩ := ob_some e
  refine ⟨G.S0, ρ, ds, os.den, e1, fun J H1 g1 hJ => ?_⟩
  refine ⟨fun i m σ' H' => m = ds.length - i ∧ i ≤ ds.length ∧ ∃ S' ρ o, OwnS X.K G M L H' S' σ' ρ ∧ forD g u (ds.drop i) ρ = some o ∧ OutQ X.K G M Mb L fr D o, ⟨ds.length, by simp, Nat.zero_le _, S, ρ, o, os.same g1, e, q⟩, ?_⟩
  rintro i m σ' H' ⟨rfl, hi, S', ρ', o', hs', e', q'⟩
  by_cases hlt : i < ds.length
  · rw [List.drop_eq_getElem_cons hlt] at e'
    obtain ⟨ρ1, e2, e'⟩ := ob_some e'
    obtain ⟨o1, e3, e'⟩ := ob_some e'
    have key : ∀ N : St → Hp → Prop, OutQ X.K G M M L fr { D with nx := N, ct := N, bk := D.nx } o1 → ∀ x H2, J.yld i H' x H2 → tDG X.K G M L g x σ' H2 fun σ2 H2 => tDS X.K G M L M M fr u { D with nx := N, ct := N, bk := D.nx } σ2 H2 := fun N hN x H2 y => by
      obtain ⟨e4, yd⟩ := (hJ H' S').yld i H' x H2 (Same.refl _) y
      exact ⟨S', ρ', _, ρ1, hs'.same e4, yd _ (List.getElem?_eq_getElem hlt) S' fun y e q => q.same e4, e2, fun σ2 H3 g3 hs3 => ⟨S', ρ1, o1, hs3, e3, hN⟩⟩
    refine .inr ⟨(hJ H' S').go i H' (Same.refl _) hlt, ?_⟩
    have next : ∀ ρ2, forD g u (ds.drop (i + 1)) ρ2 = some o' → ∃ N : St → Hp → Prop, (∀ σ' H'', N σ' H'' → ∃ m', m' < ds.length - i ∧ (m' = ds.length - (i + 1) ∧ i + 1 ≤ ds.length ∧ ∃ S' ρ o, OwnS X.K G M L H'' S' σ' ρ ∧ forD g u (ds.drop (i + 1)) ρ = some o ∧ OutQ X.K G M Mb L fr D o)) ∧ ∀ σ2 H2 S2, OwnS X.K G M L H2 S2 σ2 ρ2 → N σ2 H2 := fun ρ2 e4 =>
      ⟨fun σ2 H2 => ∃ S2, OwnS X.K G M L H2 S2 σ2 ρ2, fun σ2 H2 ⟨S2, hs3⟩ => ⟨ds.length - (i + 1), by omega, rfl, hlt, S2, ρ2, o', hs3, e4, q'⟩, fun σ2 H2 S2 hs3 => ⟨S2, hs3⟩⟩
    cases o1 with
    | nx ρ2 =>
      obtain ⟨N, n1, n2⟩ := next ρ2 e'
      exact ⟨N, n1, key N fun σ3 H3 S3 hs3 => n2 σ3 H3 S3 hs3⟩
    | ct ρ2 =>
      obtain ⟨N, n1, n2⟩ := next ρ2 e'
      exact ⟨N, n1, key N fun σ3 H3 S3 hs3 => n2 σ3 H3 S3 hs3⟩
    | bk ρ2 =>
      cases e'
      exact ⟨fun _ _ => False, fun _ _ z => z.elim, key _ fun σ3 H3 S3 hs3 => q' σ3 H3 S3 hs3⟩
    | rt r =>
      cases e'
      have q2 : OutQ X.K G M Mb L fr D (.rt r) := q'
      exact ⟨fun _ _ => False, fun _ _ z => z.elim, key _ q2⟩
  · have hi' : i = ds.length := by omega
    subst hi'
    rw [List.drop_length] at e'
    cases e'
    exact .inl ⟨(hJ H' S').stop H' (Same.refl _), q' σ' H' S' hs'⟩
theorem pds_endO (M1 : List Nat) (h : PDSs X G M L M' Mb fr ss u) (h1 : subB M1 M' = true) (h2 : subB L M1 = true) : PDSs X G M L M1 Mb fr ss u := pds_end h h1 h2
theorem pds_dropO (M1 : List Nat) (h1 : subB M1 M = true) (h2 : subB L M1 = true) (h : PDS X G M1 L M' Mb fr s1 u) : PDS X G M L M' Mb fr s1 u := pds_drop1 h h1 h2
theorem pds_appB (i : Nat) {px apos cpos : Pos} (hv : Vis X.env.scope x) (hM : Flt M i) (hL : i ∉ L) (he : PD X [] a f) (hN : X.N[i]? = some x := by rfl) (hd : (x == ("__debug__" : Str)) = false := by decide +kernel) (hcd : (x == ("__classdict__" : Str)) = false := by decide +kernel)
    (hbase : attributeBase (.Name x px) "append" X.env (eval (.Name x px) X.env) = eval (.Name x px) X.env := by rfl)
    (hfew : ((backTo cpos (starEach [a] X.env)).all (fun x => !x.1) && (backToKw cpos (keywordEach [] X.env)).all (fun x => x.1.isSome)
      && decide ([a].length + ([] : List Keyword).length + (if ([] : List Keyword).isEmpty then 0 else 1) < 30)) = true := by rfl)
    (hline : (apos.endLine == cpos.line) = true := by rfl) (hs : starEach [a] X.env = (false, eval a X.env) :: starEach [] X.env := by rfl) (hplain : (backTo cpos (starEach [] X.env)).any (·.1) = false := by rfl)
    (hsw : swapsWith (.Call (.Attribute (.Name x px) "append" apos) [a] [] cpos) none pos.line X.env = pure false := by rfl) :
    PDS X G M L M Mb fr (.Expr (.Call (.Attribute (.Name x px) "append" apos) [a] [] cpos) pos) (sApp i (flatF f)) :=
  (ps_expr (pe_bm PySem.F.plainAttrs_list PySem.F.slot_list_append PySem.F.type_list_append mt_append (pe_own i hv hN hd hcd) (pda_cons he pda_nil hs) hbase hfew hline hs hplain) hsw).weak fun D σ H ⟨S, ρ, o, os, e, q⟩ => by
    obtain ⟨l, e1, e⟩ := ob_some e
    obtain ⟨d, e2, e⟩ := ob_some e
    obtain ⟨l', e3, e⟩ := ob_some e
    cases e
    obtain ⟨d', e4, e5⟩ := ob_some e2
    split at e5
    · rename_i hf
      cases e5
      obtain ⟨ds, rfl, hz, rfl⟩ := appD_some e3
      obtain ⟨pp, a1, b1, c1, n1, w1, _⟩ := os.own i hM _ (vr_some e1)
      cases b1 with
      | @lst xs _ h t =>
        refine ⟨_, a1, .inl ⟨rfl, _, SqL.of h⟩, G.S0, ρ, [d], os.den, by show ob (f ρ) _ = _; rw [e4]; rfl, fun vs H2 g2 dl => ?_⟩
        obtain ⟨v, rfl, dv⟩ := dl.inv1
        have os2 := os.same g2
        refine ⟨pp, xs, v, rfl, rfl, g2 _ _ h, Nat.lt_of_lt_of_le (by rw [t.length]; exact hz) (Nat.le_of_lt (small1000 (Nat.le_refl _))), ?_⟩
        exact q _ _ _ (os2.write hM hL (vr_some e1) a1 rfl (.lst upd_same (((t.same g2).snoc (dv.flat hf)).off os2.ds.1 (Off.upd c1))))
    · cases e5
end
def intsOf : List PyData → Option (List Int)
  | [] => some []
  | .int i :: r => ob (intsOf r) fun ns => some (i :: ns)
  | _ :: _ => none
theorem intsOf_some : ∀ {ds : List PyData} {ns : List Int}, intsOf ds = some ns → ds = ns.map .int
  | [], _, h => by cases h; rfl
  | .int i :: r, ns, h => by
    obtain ⟨ms, e1, e2⟩ := ob_some h
    cases e2
    rw [intsOf_some e1]
    rfl
  | .none :: _, _, h => by cases h
  | .bool _ :: _, _, h => by cases h
  | .str _ :: _, _, h => by cases h
  | .list _ :: _, _, h => by cases h
  | .tuple _ :: _, _, h => by cases h
  | .dict _ :: _, _, h => by cases h
def inOk (ds : List PyData) (x : PyData) : Bool := PyData.canLayAll0 ds && (x.canLay0 && decide (x.depth ≤ 63))
def inL (ds : List PyData) (x : PyData) : Bool := ds.any fun y => PyData.eqv y x
def ninD (x y : PyData) : Option PyData := match y with
  | .list ds => if inOk ds x = true then some (.bool (!inL ds x)) else none
  | .tuple ds => if inOk ds x = true then some (.bool (!inL ds x)) else none
  | _ => none
section
variable {X : Cx}
theorem inOk_parts {x : PyData} (h : inOk ds x = true) : PyData.canLayAll0 ds = true ∧ x.canLay0 = true ∧ x.depth ≤ 63 := by
  unfold inOk at h
  rw [Bool.and_eq_true, Bool.and_eq_true] at h
  exact ⟨h.1, h.2.1, of_decide_eq_true h.2.2⟩
theorem in_room {A : Around} {x : PyData} (hd : x.depth ≤ 63) (hu : A.units + 64 < cLine) : A.units + 1 + min (PyData.depthAll ds) x.depth < cLine := by
  have := Nat.min_le_right (PyData.depthAll ds) x.depth
  omega
theorem d_notin (hr : Room k X.A) : OpD X (compareOp .NotIn) ninD := by
  intro pins s σ H x y v u Q I rx ry h
  obtain ⟨S, dx, dy, d, m, h1, h2, e, q⟩ := h
  unfold ninD at e
  split at e
  · split at e
    · rename_i hc
      obtain ⟨c1, c2, c3⟩ := inOk_parts hc
      cases e
      obtain ⟨as, q1⟩ := h1.reads I c2 rx
      obtain ⟨bs, q2⟩ := h2.reads I (by rw [PyData.canLay0]; exact c1) ry
      exact SeqAt.notIn_list_reads q2 q1 c1 c2 (in_room c3 hr.units) (fin_bl I (q _ H (Same.refl H) (.bool _)) rfl)
    · cases e
  · split at e
    · rename_i hc
      obtain ⟨c1, c2, c3⟩ := inOk_parts hc
      cases e
      obtain ⟨as, q1⟩ := h1.reads I c2 rx
      obtain ⟨bs, q2⟩ := h2.reads I (by rw [PyData.canLay0]; exact c1) ry
      exact SeqAt.notIn_tuple_reads q2 q1 c1 c2 (in_room c3 hr.units) (fin_bl I (q _ H (Same.refl H) (.bool _)) rfl)
    · cases e
  · cases e
end
section
variable {X : Cx} {G : Gm} {M M' Mb L : List Nat} {fr : Fr} {f : Rho → Option PyData} {p : Rho → Option Bool} {pos : Pos}
theorem tFcomp {K : PySem.W.Frag} {n k : Nat} {fi : Rho → Option (List PyData)} {g : PyData → Rho → Option Rho} (hg : GIn n k g) : ∀ σ H Q, tF K M (compG n k fi g p f) σ H Q → tComp k (tDI K M fi) (tDGc K M g) (tDT K M p) (tD K M f) σ H Q := by
  intro σ H Q ⟨S, ρ, d, hs, e, q⟩
  obtain ⟨ds, ys, e1, hn, hz, e2, rfl⟩ := compG_some e
  exact tDcompG hg σ H Q S ρ ds ys hs e1 hn hz e2 fun H' zs g2 dl D hD => q _ _ (g2.lay' hD) (g2.free hD) (OwnO.laid hD dl)
variable {elt iter tg : Expr} {ifs : List Expr} {x : Str} {N' : List Str} {px : Pos} {sc : Scope} {n k : Nat} {fi : Rho → Option (List PyData)} {g : PyData → Rho → Option Rho}
def swB (sc₀ sc : Scope) (t : Str) (pt p : Pos) : Bool := decide (sc₀.names.lookup t = some .local) && (pt.line == p.line) && !(sc.names.any fun (n, k) => n == t && (k == .local || k == .cell))
theorem sw_local  (hsc : X.env.scope = sc₀) (h : swB sc₀ sc y py pos = true) : X.env.scope.names.lookup y = some .local := by
  subst hsc
  unfold swB at h
  rw [Bool.and_eq_true, Bool.and_eq_true] at h
  exact of_decide_eq_true h.1.1
theorem sw_of    (hsc : X.env.scope = sc₀) (h : swB sc₀ sc y py pos = true) (hbk : X.env.blockKind = .function) : swapsWith (.ListComp elt gens sc pos) (some (.Name y py)) line X.env = pure true := by
  have h0 := sw_local hsc h
  subst hsc
  unfold swB at h
  rw [Bool.and_eq_true, Bool.and_eq_true] at h
  show pure (X.env.blockKind == .function && X.env.kindOf y == some .local && py.line == pos.line && !(sc.names.any fun (n, k) => n == y && (k == .local || k == .cell))) = pure true
  have e1 : (X.env.blockKind == ScopeKind.function) = true := by rw [hbk]; rfl
  have e2 : (X.env.kindOf y == some NameKind.local) = true := by
    show (X.env.scope.names.lookup y == some NameKind.local) = true
    rw [h0]; rfl
  rw [e1, e2, h.1.2, h.2]
  rfl
theorem pds_compG (j : Nat) {py spos : Pos} (O : CompOk X N' k sc) (gi : GIn n k g) (sc₀ : Scope) (hsc : X.env.scope = sc₀) (hB : swB sc₀ sc y py pos = true) (hM : Out0 M j) (hL : j ∉ L) (hi : PDI X M tg iter fi) (hg : ∀ cl C fp pins s H, PDGc (compCx X N' sc cl C fp pins s H) M tg g) (hq : ∀ cl C fp pins s H, PDTs (compCx X N' sc cl C fp pins s H) M ifs p) (he : ∀ cl C fp pins s H, PD (compCx X N' sc cl C fp pins s H) M elt f)
    (hj : X.N[j]? = some y := by rfl) (hbk : X.env.blockKind = .function := by rfl)
    (hs : ∀ v, foldedSetIterable iter X.env v = pure v := by intro _; rfl) : PDS X G M L (j :: M) Mb fr (.Assign [.Name y py] (.ListComp elt [⟨tg, iter, ifs, 0⟩] sc pos) spos) (sTake j (compG n k fi g p f)) :=
  (ps_comp (wg := tDGc X.K M g) (tt := tDT X.K M p) (te := tD X.K M f) O hj (sw_local hsc hB) hi hg hq he (sw_of hsc hB hbk) hs).weak fun D σ H ⟨S, ρ, o, hs, e, q⟩ => by
    unfold sTake at e
    split at e
    · rename_i hz
      obtain ⟨d, e1, e⟩ := ob_some e
      cases e
      exact tFcomp gi σ H _ ⟨S, ρ, d, hs.ds, e1, fun p H1 g1 n o => q _ H1 _ (hs.take n g1 o hM hL hz)⟩
    · cases e
theorem pds_comp (j : Nat) {py spos : Pos} (O : CompOk X N' 1 sc) (hx : N'[n]? = some x) (hl : lc1 sc x = true) (sc₀ : Scope) (hsc : X.env.scope = sc₀) (hB : swB sc₀ sc y py pos = true) (hM : Out0 M j) (hL : j ∉ L) (hi : PDI X M (.Name x px) iter fi) (hq : ∀ cl C fp pins s H, PDTs (compCx X N' sc cl C fp pins s H) M ifs p) (he : ∀ cl C fp pins s H, PD (compCx X N' sc cl C fp pins s H) M elt f)
    (hj : X.N[j]? = some y := by rfl) (hbk : X.env.blockKind = .function := by rfl)
    (hs : ∀ v, foldedSetIterable iter X.env v = pure v := by intro _; rfl) : PDS X G M L (j :: M) Mb fr (.Assign [.Name y py] (.ListComp elt [⟨.Name x px, iter, ifs, 0⟩] sc pos) spos) (sTake j (compR n fi p f)) := by
  rw [compG_name]
  exact pds_compG j O (gin_name (Nat.le_refl _)) sc₀ hsc hB hM hL hi (pg_comp O hx hl) hq he hj hbk hs
end
def compOkB (N N' : List Str) (k : Nat) (sc₀ sc : Scope) : Bool :=
  decide (sc.kind = .function) && decide N.Nodup && decide N'.Nodup && decide (N'.length = N.length + k) && sc.names.all (fun y => decide (y.2 ≠ .cell) || decide (sc.names.lookup y.1 = some .cell)) && sc.names.all (fun y => decide (y.2 ≠ .local) || decide (sc.names.lookup y.1 = some .local)) &&
  (N.zip N').all (fun y => (decide (y.1 = y.2) && (decide (sc.names.lookup y.2 ≠ some .local) && decide (sc.names.lookup y.2 ≠ some .cell))) || decide (sc.names.lookup y.2 = none)) &&
  sc.names.all (fun y => decide (y.2 ≠ .free) || decide (sc₀.names.lookup y.1 = some .cell) || decide (sc₀.names.lookup y.1 = some .free))
theorem CompOk.of {X : Cx}  (N N' : List Str) (sc₀ : Scope) (hc : X.calm = true) (hN : X.N = N) (hs : X.env.scope = sc₀) (h : compOkB N N' k sc₀ sc = true) : CompOk X N' k sc := by
  subst hN
  subst hs
  unfold compOkB at h
  simp only [Bool.and_eq_true, decide_eq_true_eq, List.all_eq_true, Bool.or_eq_true] at h
  obtain ⟨⟨⟨⟨⟨⟨⟨h1, h2⟩, h2'⟩, h2l⟩, h3⟩, h4⟩, h7⟩, h8⟩ := h
  refine ⟨hc, h1, h2, h2', h2l, fun y hy q => (h3 y hy).resolve_left (fun z => z q), fun y hy q => (h4 y hy).resolve_left (fun z => z q), fun i y hi e => ?_, fun y hy q => ?_⟩
  · have hz : (X.N.zip N')[i]? = some (X.N[i], y) := by
      rw [List.getElem?_zip_eq_some]
      exact ⟨List.getElem?_eq_getElem hi, e⟩
    rcases h7 _ (List.mem_of_getElem? hz) with ⟨q, w⟩ | q
    · refine .inl ⟨?_, w⟩
      rw [List.getElem?_eq_getElem hi]
      exact congrArg some q
    · exact .inr q
  · rcases h8 y hy with (z | z) | z
    · exact absurd q z
    · exact .inl z
    · exact .inr z
theorem weight_mem : ∀ {ns : List Int} {n : Int}, n ∈ ns → PySem.W.WData.weight (.int n) ≤ PySem.W.WData.weightAll (ns.map .int)
  | m :: ns, n, h => by
    rw [List.map_cons, PySem.W.WData.weightAll]
    rcases List.mem_cons.mp h with rfl | h
    · omega
    · have := weight_mem h
      omega
theorem bits_of_script {ns : List Int} (h : PySem.W.WData.layableAll [.list (ns.map .int)] = true) : ∀ n ∈ ns, Builtin.Int.intBits n ≤ 2 ^ 20 := by
  intro n hn
  have h1 : PySem.W.WData.layable (.list (ns.map .int)) = true := by
    unfold PySem.W.WData.layableAll at h
    simpa using h
  unfold PySem.W.WData.layable at h1
  rw [Bool.and_eq_true] at h1
  have h2 := of_decide_eq_true h1.2
  rw [PySem.W.WData.weight] at h2
  have h3 := Nat.le_trans (weight_mem hn) h2
  rw [PySem.W.WData.weight] at h3
  exact h3
end L2
namespace Att
open PySem PySem.W PySem.Calls PyProof.Rows
theorem attach_callB {l : OpenLaw} {n : Nat} {q : Program} {loose : List Str} {XP : (Str → Option Value) → Heap → Prop} {YP : World → Heap → Prop} {d : DefRec}
    (hn : l.most = some n) (hdf : d.params.defaults = [])
    (call : ∀ (w : World) (s₀ s₁ : Shared) (mg mb : Str → Option Value) (fa : Addr) (o : Obj) (pm cd doc : Value) (a : Addr) (vs : List Value) (ns : List Int),
      Ground q loose [] XP w s₀ mg mb s₁.heap → YP w s₁.heap →
      s₁.heap.get? fa = some o → o.data = .func (docDef d.name d.params d.body d.scope pm cd doc) → s₁.heap.CodeRec cd d.name → mg d.name = some (.ref fa) →
      s₁.heap.get? a = some { cls := .type "list", data := .seq vs.toArray } → IntsAre vs ns → ns.length ≤ n → (∀ k ∈ ns, Builtin.Int.intBits k ≤ 2 ^ 20) → s₁.gens = #[] →
      codeAny (model l.prog w) callerA (.call (.ref fa) ⟨[.ref a], []⟩) (fun r s' => r = .ok (.ret (.bool true)) ∧ OldK s₁.heap s'.heap ∧ s'.os = s₁.os ∧ AllBare s'.gens) s₁) :
    WalkO q loose XP YP l.row.toRowW d [] (fun f vs => PySem.call f vs) := by
  intro w s₀ s₁ mg mb G Y fa o pm cd doc dV kV ho hd hcd hD hmg hg args vals as hpre hlay hrd hwl hlo
  obtain rfl : dV = .none := Dflts.none hD hdf
  obtain rfl : kV = .none := Dflts.noKw hD
  obtain ⟨a, vs, ns, rfl, rfl, hobj, hints, hlen⟩ := script_of hn hpre hwl
  refine enter_call (codeAny_mono (call w s₀ s₁ mg mb fa o pm cd doc a vs ns G Y ho (fd_plain hd) hcd hmg hobj hints hlen (L2.bits_of_script hlay) hg) fun r s' hq => ?_)
  obtain ⟨rfl, h2, h3, h4⟩ := hq
  exact ⟨.inl ⟨.bool true, .bool true, [], rfl, fun _ => rfl, .bool true, post_true l _, fun _ => ⟨List.Pairwise.nil, fun _ hm => (nomatch hm)⟩⟩, h2, h3, h4⟩
end Att
namespace L2
open PySem PySem.Spec PyProof.Rows
def spLawT (K : PySem.W.Frag) (n : Nat) : Sp := fun vs H Q _ => ∃ (a : Addr) (ns : List Int), vs = [.ref a] ∧ SqL K H a (ns.map V.int) ∧ ns.length ≤ n ∧ (∀ k ∈ ns, Builtin.Int.intBits k ≤ 2 ^ 20) ∧ ∀ H', Q (.bl true) H'
theorem law_true {P : Program} {w : World} {K : PySem.W.Frag} {mg : Str → Option Value} {base : Heap} {CX : CXT} {k n : Nat} {f : Addr} {fd : FuncData} {ps : List Str} {h : List PyData → Option PyData} (F : FnOk P w K mg base CX k f fd ps (spF K 1 h))
    (e : ∀ ns : List Int, ns.length ≤ n → (∀ k ∈ ns, Builtin.Int.intBits k ≤ 2 ^ 20) → h [.list (ns.map .int)] = some (.bool true)) : FnOk P w K mg base CX k f fd ps (spLawT K n) :=
  F.imp fun vs H Q E ⟨a, ns, h1, h2, h3, h4, q⟩ => by
    subst h1
    exact ⟨fun _ => False, [.list (ns.map .int)], .bool true, (fun _ z => z.elim), .cons (.list (h2.imp (fun y => ⟨y, id⟩) id) (DenL.ints ns)) .nil, rfl, e ns h3 h4, fun v H' _ d => by rw [d.bool_inv]; exact q H'⟩
theorem walk_pure {l : PySem.W.OpenLaw} {n k : Nat} {q : Program} {loose : List Str} {XP : (Str → Option Value) → Heap → Prop} {YP : World → Heap → Prop} {d : DefRec} {K : Params → PySem.W.Frag} {x : Str}
    (hn : l.most = some n) (hn2 : n ≤ sizeLine) (hdf : d.params.defaults = []) (hr : Room k callerA)
    (hY : ∀ (w : World) (h : Heap), YP w h → (K w.params).In h)
    (F : ∀ (w : World) (mg : Str → Option Value) (fa : Addr) (h : Heap), (K w.params).In h → h.Ns mainGlobals mg → mg d.name = some (.ref fa) →
      ∃ fd : FuncData, (∀ (s : Shared) (u : Value), BindsTo s fd ⟨[u], []⟩ [(x, u)]) ∧
        ∀ base : Heap, (K w.params).In base → base.Ns mainGlobals mg → FnOk l.prog w (K w.params) mg base CX0 k fa fd [x] (spLawT (K w.params) n)) :
    PySem.W.WalkO q loose XP YP l.row.toRowW d [] (fun f vs => PySem.call f vs) := by
  refine Att.attach_callB hn hdf fun w s₀ s₁ mg mb fa o pm cd doc a vs ns G Y ho hd hcd hmg hobj hints hlen hbits hg => ?_
  have KX := hY w _ Y
  obtain ⟨fd, hb, hF⟩ := F w mg fa _ KX G.T.g hmg
  exact law_call KX G.T.g G.T.b G.T.builtins G.T.nolimit hg hobj hints (Nat.le_trans hlen hn2) hr hF hb (fun H hO hS => ⟨a, ns, rfl, hS, hlen, hbits, fun _ => rfl⟩) fun H e s' h => h
mutual
def ltX : PyData → PyData → Option Bool
  | .int i, .int j => some (decide (i < j))
  | .tuple xs, .tuple ys => ltXs xs ys
  | .list xs, .list ys => ltXs xs ys
  | _, _ => none
def ltXs : List PyData → List PyData → Option Bool
  | [], [] => some false
  | [], _ :: _ => some true
  | _ :: _, [] => some false
  | x :: xs, y :: ys => if PyData.eqv x y = true then ltXs xs ys else ltX x y
end
def LtAt (A : Around) (s : Shared) (y x : Value) (b : Bool) : Prop := ∀ (prog : Program) (w : World) (E Q : Value → Shared → Prop), Q (.bool b) s → wpAny (model prog w) A (richCompare .Lt y x) Q E s
def LexAt (A : Around) (s : Shared) : List Value → List Value → Bool → Prop
  | [], [], r => r = false
  | [], _ :: _, r => r = true
  | _ :: _, [], r => r = false
  | y :: ys, x :: xs, r => ∃ e, SeqAt.EqAt A s y x e ∧ (e = true → LexAt A s ys xs r) ∧ (e = false → LtAt A s y x r)
section
open PySem.SeqAt
open PySem.AutoSeq1 (wpAny_loadPart')
open PySem.MeetsSeq PySem.MeetsSeq2 PySem.MeetsSeq3
theorem tuple_lt_lex (l b : Addr) (items items2 : Array Value) (n n2 : Nat) (dd dd2 : Option Addr) (sl sl2 : Array (Option Value)) :
    Meets (Builtin.«tuple.__lt__» ⟨[.ref l, .ref b], []⟩)
      (fun A R s => s.heap.get? l = some { cls := .type "tuple", dict := dd, data := .seq items n, slots := sl } ∧ s.heap.get? b = some { cls := .type "tuple", dict := dd2, data := .seq items2 n2, slots := sl2 } ∧
        ∃ r, LexAt A.in1 s items.toList items2.toList r ∧ R (.ok (.ret (.bool r))) s) :=
  .of_wp fun prog w A R s h => by
    obtain ⟨hp, g, d, tk, os⟩ := s; obtain ⟨hl, hb, r, hx, h⟩ := h
    have f2 := AutoSeq1.sub_tuple_tuple
    wp_walk using wpAny_loadPart' hl, wpAny_loadPart' hb, wpAny_forIn_list _ (fun rest b s' => b.1 = none ∧ s' = ⟨hp, g, d, tk, os⟩ ∧ ∃ (vs ws : List Value), rest = vs.zip ws ∧
      LexAt A.in1 ⟨hp, g, d, tk, os⟩ vs ws r ∧ vs.length + items2.size = ws.length + items.size) _
    case turn =>
      rintro ⟨y, x⟩ rest b s' ⟨hb', rfl, vs, ws, hz, hlx, hlen⟩
      cases vs with
      | nil => rw [List.zip_nil_left] at hz; cases hz
      | cons v vs =>
        cases ws with
        | nil => rw [List.zip_nil_right] at hz; cases hz
        | cons u ws =>
          rw [List.zip_cons_cons] at hz
          injection hz with hyx hrest
          injection hyx with hy hx'
          subst hy hx'
          simp only [List.length_cons] at hlen
          obtain ⟨e, he, h1, h2⟩ := hlx
          refine wpAny_bind (he prog w _ _ ?_)
          cases e with
          | true =>
            wp_walk
            exact ⟨rfl, rfl, _, _, hrest, h1 rfl, by omega⟩
          | false =>
            have hri := h2 rfl prog w
            wp_walk using hri
            exact ⟨_, rfl, by simpa using h⟩
    case fin =>
      rintro ⟨b1, b2⟩ s' ⟨hb', rfl, vs, ws, hz, hlx, hlen⟩
      simp only at hb'
      subst hb'
      have hv : r = decide (items.size < items2.size) := by
        cases vs with
        | nil =>
          cases ws with
          | nil =>
            simp only [List.length_nil] at hlen
            rw [show r = false from hlx]
            exact (decide_eq_false (by omega)).symm
          | cons c hw =>
            simp only [List.length_nil, List.length_cons] at hlen
            rw [show r = true from hlx]
            exact (decide_eq_true (by omega)).symm
        | cons a hv =>
          cases ws with
          | nil =>
            simp only [List.length_nil, List.length_cons] at hlen
            rw [show r = false from hlx]
            exact (decide_eq_false (by omega)).symm
          | cons c hw =>
            rw [List.zip_cons_cons] at hz
            cases hz
      rw [hv] at h
      wp_walk
      exact ⟨_, rfl, by simpa [Builtin.Tuple.tupleCompareSizes] using h⟩
    case h =>
      exact ⟨rfl, rfl, items.toList, items2.toList, rfl, hx, by simp [Nat.add_comm]⟩
end
theorem ltAt_tup {A : Around} {s : Shared} {items items2 : Array Value} (hl : IsTup s.heap l items) (hb : IsTup s.heap b items2) (hu : A.units < cLine) (h : LexAt A.in1 s items.toList items2.toList r) : LtAt A s (.ref l) (.ref b) r := fun prog w E Q q => by
  obtain ⟨⟨cls, dd, data, sl⟩, ho, hc, n, hd⟩ := id hl
  obtain ⟨⟨cls2, dd2, data2, sl2⟩, ho2, hc2, n2, hd2⟩ := id hb
  simp only at hc hd hc2 hd2
  subst hc hd hc2 hd2
  exact richCompare_meets_room (op := .Lt) ⟨_, ho, rfl⟩ ⟨_, ho2, rfl⟩ PySem.F.slot_tuple_lt PySem.F.entry_tuple_lt (PySem.F.args_tuple_lt_2 _ _) (tuple_lt_lex l b items items2 n n2 dd dd2 sl sl2)
    ⟨ho, ho2, r, h, show Value.bool r ≠ Value.notImplemented ∧ Q (.bool r) s from ⟨(fun x => nomatch x), q⟩⟩ hu
section
open PySem.SeqAt
open PySem.AutoSeq1 (wpAny_loadPart')
open PySem.MeetsSeq PySem.MeetsSeq2 PySem.MeetsSeq3
theorem list_lt_loop (l b : Addr) (xs ys : Array Value) (n n2 : Nat) (dd dd2 : Option Addr) (sl sl2 : Array (Option Value)) : ∀ (k i : Nat), xs.size = i + k → i ≤ ys.size → Meets (Builtin.«list.__eq__.loop» ⟨[.ref l, .ref b, rawInt i, rawInt 0], []⟩)
      (fun A R s => s.heap.get? l = some ⟨.type "list", dd, .seq xs n, sl⟩ ∧ s.heap.get? b = some ⟨.type "list", dd2, .seq ys n2, sl2⟩ ∧ ∃ r, LexAt A.in1 s (xs.toList.drop i) (ys.toList.drop i) r ∧ R (.ok (.ret (.bool r))) s) := by
  intro k
  induction k with
  | zero =>
    intro i hx hy prog w A R s ⟨hl, hb, r, hq, hR⟩
    obtain ⟨hp, g, d, tk, os⟩ := s
    have e1 : xs.toList.drop i = [] := List.drop_eq_nil_of_le (by rw [Array.length_toList]; omega)
    have e2 : xs[((i : Nat) : Int).toNat]? = none := by rw [Int.toNat_natCast]; exact Array.getElem?_eq_none (by omega)
    rw [e1] at hq
    have hr : r = decide (xs.size < ys.size) := by
      by_cases h : i < ys.size
      · have e3 : ys.toList.drop i = ys[i] :: ys.toList.drop (i + 1) := by rw [List.drop_eq_getElem_cons (by rw [Array.length_toList]; exact h), Array.getElem_toList]
        rw [e3] at hq
        rw [show r = true from hq]; exact (decide_eq_true (by omega)).symm
      · rw [List.drop_eq_nil_of_le (by rw [Array.length_toList]; omega)] at hq
        rw [show r = false from hq]; exact (decide_eq_false (by omega)).symm
    rw [hr] at hR
    wp_walk using wpAny_loadPart' hl, wpAny_loadPart' hb
    rw [e2]
    wp_walk using wpAny_loadPart' hl, wpAny_loadPart' hb
    exact hR
  | succ k ih =>
    intro i hx hy prog w A R s ⟨hl, hb, r, hq, hR⟩
    obtain ⟨hp, g, d, tk, os⟩ := s
    have h1 : i < xs.size := by omega
    have e1 : xs.toList.drop i = xs[i] :: xs.toList.drop (i + 1) := by rw [List.drop_eq_getElem_cons (by rw [Array.length_toList]; exact h1), Array.getElem_toList]
    have e2 : xs[((i : Nat) : Int).toNat]? = some xs[i] := by rw [Int.toNat_natCast]; exact Array.getElem?_eq_getElem h1
    rw [e1] at hq
    wp_walk using wpAny_loadPart' hl, wpAny_loadPart' hb
    by_cases h2 : i < ys.size
    · have e3 : ys.toList.drop i = ys[i] :: ys.toList.drop (i + 1) := by rw [List.drop_eq_getElem_cons (by rw [Array.length_toList]; exact h2), Array.getElem_toList]
      have e4 : ys[((i : Nat) : Int).toNat]? = some ys[i] := by rw [Int.toNat_natCast]; exact Array.getElem?_eq_getElem h2
      rw [e3] at hq
      obtain ⟨e, he, q1, q2⟩ := hq
      rw [e2, e4]
      refine wpAny_bind (he prog w _ _ ?_)
      cases e with
      | true =>
        wp_walk
        refine ⟨plainId_quiet plain_eq_loop _, codeAny_builtin entry_eq_loop ?_⟩
        rw [Around.under_plainId plain_eq_loop _]
        exact ih (i + 1) (by omega) h2 prog w A R _ ⟨hl, hb, r, q1 rfl, hR⟩
      | false =>
        wp_walk using wpAny_loadPart' hl, wpAny_loadPart' hb
        rw [e2, e4]
        have hri := q2 rfl prog w
        wp_walk using hri
        exact hR
    · rw [List.drop_eq_nil_of_le (as := ys.toList) (by rw [Array.length_toList]; omega)] at hq
      have e4 : ys[((i : Nat) : Int).toNat]? = none := by rw [Int.toNat_natCast]; exact Array.getElem?_eq_none (by omega)
      have hr : r = decide (xs.size < ys.size) := by rw [show r = false from hq]; exact (decide_eq_false (by omega)).symm
      rw [hr] at hR
      rw [e2, e4]
      wp_walk using wpAny_loadPart' hl, wpAny_loadPart' hb
      exact hR
theorem list_lt_lex (l b : Addr) (xs ys : Array Value) (n n2 : Nat) (dd dd2 : Option Addr) (sl sl2 : Array (Option Value)) : Meets (Builtin.«list.__lt__» ⟨[.ref l, .ref b], []⟩)
      (fun A R s => s.heap.get? l = some ⟨.type "list", dd, .seq xs n, sl⟩ ∧ s.heap.get? b = some ⟨.type "list", dd2, .seq ys n2, sl2⟩ ∧ ∃ r, LexAt A.in1 s xs.toList ys.toList r ∧ R (.ok (.ret (.bool r))) s) := by
  intro prog w A R s ⟨hl, hb, r, hq, hR⟩
  obtain ⟨hp, g, d, tk, os⟩ := s
  have f3 := AutoSeq1.sub_list_list
  wp_walk using wpAny_loadPart' hl, wpAny_loadPart' hb
  refine ⟨plainId_quiet plain_eq_loop _, codeAny_builtin entry_eq_loop ?_⟩
  rw [Around.under_plainId plain_eq_loop _]
  exact list_lt_loop l b xs ys n n2 dd dd2 sl sl2 xs.size 0 (Nat.zero_add _).symm (Nat.zero_le _) prog w A R _ ⟨hl, hb, r, hq, hR⟩
end
theorem ltAt_list {A : Around} {s : Shared} {o o2 : Obj} {xs ys : Array Value}  (h1 : s.heap.get? l = some o) (c1 : o.cls = .type "list") (d1 : o.data = .seq xs n) (h2 : s.heap.get? b = some o2) (c2 : o2.cls = .type "list") (d2 : o2.data = .seq ys n2) (hu : A.units < cLine) (h : LexAt A.in1 s xs.toList ys.toList r) : LtAt A s (.ref l) (.ref b) r := fun prog w E Q q => by
  obtain ⟨cls, dd, data, sl⟩ := o
  obtain ⟨cls2, dd2, data2, sl2⟩ := o2
  simp only at c1 d1 c2 d2
  subst c1 d1 c2 d2
  exact richCompare_meets_room (op := .Lt) ⟨_, h1, rfl⟩ ⟨_, h2, rfl⟩ PySem.F.slot_list_lt PySem.F.entry_list_lt (PySem.F.args_list_lt_2 _ _) (list_lt_lex l b xs ys n n2 dd dd2 sl sl2)
    ⟨h1, h2, r, h, show Value.bool r ≠ Value.notImplemented ∧ Q (.bool r) s from ⟨(fun x => nomatch x), q⟩⟩ hu
theorem lexAt_reads {A : Around} {s : Shared} (hu : A.units + m + 1 < cLine) (hit : ∀ (x y : PyData) (a b : Value) (as bs : List Addr) (r : Bool), x.depth ≤ m → Reads s.heap a x as → Reads s.heap b y bs → x.canLay0 = true → y.canLay0 = true → ltX x y = some r → LtAt A s a b r) :
    ∀ (xs ys : List PyData) (vs ws : List Value) (as bs : List Addr) (r : Bool), PyData.depthAll xs ≤ m → ReadsAll s.heap vs xs as → ReadsAll s.heap ws ys bs → PyData.canLayAll0 xs = true → PyData.canLayAll0 ys = true → ltXs xs ys = some r → LexAt A s vs ws r := by
  intro xs
  induction xs with
  | nil =>
    intro ys vs ws as bs r _ h1 h2 _ _ e
    cases h1
    cases ys with
    | nil => cases h2; rw [ltXs] at e; cases e; rfl
    | cons y ys => cases h2; rw [ltXs] at e; cases e; rfl
  | cons x xs ih =>
    intro ys vs ws as bs r hm h1 h2 c1 c2 e
    cases h1 with
    | cons rx rxs =>
      cases ys with
      | nil => cases h2; rw [ltXs] at e; cases e; rfl
      | cons y ys =>
        cases h2 with
        | cons ry rys =>
          have c1' : x.canLay0 = true ∧ PyData.canLayAll0 xs = true := by simpa [PyData.canLayAll0] using c1
          have c2' : y.canLay0 = true ∧ PyData.canLayAll0 ys = true := by simpa [PyData.canLayAll0] using c2
          have hd : max x.depth (PyData.depthAll xs) ≤ m := by rw [PyData.depthAll] at hm; exact hm
          have m1 := Nat.le_trans (Nat.le_max_left x.depth (PyData.depthAll xs)) hd
          have m2 := Nat.le_trans (Nat.le_max_right x.depth (PyData.depthAll xs)) hd
          rw [ltXs] at e
          refine ⟨PyData.eqv x y, SeqAt.eqAt_reads x y A s _ _ _ _ rx ry c1'.1 c2'.1 (by have := Nat.min_le_left x.depth y.depth; omega), fun q => ?_, fun q => ?_⟩
          · rw [if_pos q] at e
            exact ih ys _ _ _ _ r m2 rxs rys c1'.2 c2'.2 e
          · rw [if_neg (by rw [q]; exact Bool.false_ne_true)] at e
            exact hit x y _ _ _ _ r m1 rx ry c1'.1 c2'.1 e
theorem ltAt_reads : ∀ (n : Nat) (da db : PyData) (A : Around) (s : Shared) (a b : Value) (as bs : List Addr) (r : Bool), da.depth ≤ n → Reads s.heap a da as → Reads s.heap b db bs → da.canLay0 = true → db.canLay0 = true → A.units + n + 1 < cLine → ltX da db = some r → LtAt A s a b r := by
  intro n
  induction n with
  | zero =>
    intro da db A s a b as bs r hd ra rb ca cb hu e
    cases da with
    | int i =>
      cases db with
      | int j =>
        cases ra; cases rb
        rw [ltX] at e
        cases e
        exact fun prog w E Q q => HT.rcLt_int A s i _ j _ prog w E Q q
      | _ => simp [ltX] at e
    | tuple xs =>
      rw [PyData.depth] at hd
      omega
    | list xs =>
      rw [PyData.depth] at hd
      omega
    | _ => simp [ltX] at e
  | succ n ih =>
    intro da db A s a b as bs r hd ra rb ca cb hu e
    cases da with
    | int i =>
      cases db with
      | int j =>
        cases ra; cases rb
        rw [ltX] at e
        cases e
        exact fun prog w E Q q => HT.rcLt_int A s i _ j _ prog w E Q q
      | _ => simp [ltX] at e
    | tuple xs =>
      cases db with
      | tuple ys =>
        rw [PyData.depth] at hd
        rw [ltX] at e
        cases ra with
        | tuple e1 c1 d1 t1 =>
          cases rb with
          | tuple e2 c2 d2 t2 =>
            refine ltAt_tup ⟨_, e1, c1, _, d1⟩ ⟨_, e2, c2, _, d2⟩ (by omega) ?_
            exact lexAt_reads (m := n) (by show A.units + 1 + n + 1 < cLine; omega) (fun x y a b as bs r hx r1 r2 k1 k2 e => ih x y A.in1 s a b as bs r hx r1 r2 k1 k2 (by show A.units + 1 + n + 1 < cLine; omega) e)
              xs ys _ _ _ _ r (by omega) t1 t2 (by simpa [PyData.canLay0] using ca) (by simpa [PyData.canLay0] using cb) e
      | _ => simp [ltX] at e
    | list xs =>
      cases db with
      | list ys =>
        rw [PyData.depth] at hd
        rw [ltX] at e
        cases ra with
        | list e1 c1 d1 t1 =>
          cases rb with
          | list e2 c2 d2 t2 =>
            refine ltAt_list e1 c1 d1 e2 c2 d2 (by omega) ?_
            exact lexAt_reads (m := n) (by show A.units + 1 + n + 1 < cLine; omega) (fun x y a b as bs r hx r1 r2 k1 k2 e => ih x y A.in1 s a b as bs r hx r1 r2 k1 k2 (by show A.units + 1 + n + 1 < cLine; omega) e)
              xs ys _ _ _ _ r (by omega) t1 t2 (by simpa [PyData.canLay0] using ca) (by simpa [PyData.canLay0] using cb) e
      | _ => simp [ltX] at e
    | _ => simp [ltX] at e
def ltD2 (x y : PyData) : Option PyData := if SeqAt.shaped x = true ∧ SeqAt.shaped y = true ∧ x.depth ≤ 60 then ob (ltX x y) fun r => some (.bool r) else none
theorem d_lt2 {X : Cx} (hr : Room k X.A) : OpD X (compareOp .Lt) ltD2 := by
  intro pins s σ H x y v u Q I rx ry ⟨S, dx, dy, d, m, h1, h2, e, q⟩
  unfold ltD2 at e
  split at e
  · rename_i hc
    obtain ⟨as, q1⟩ := h1.reads I (SeqAt.canLay_of_shaped hc.1) rx
    obtain ⟨bs, q2⟩ := h2.reads I (SeqAt.canLay_of_shaped hc.2.1) ry
    obtain ⟨r, e1, e⟩ := ob_some e
    cases e
    have hu := hr.units
    exact ltAt_reads 60 dx dy X.A s v u as bs r hc.2.2 q1 q2 (SeqAt.canLay_of_shaped hc.1) (SeqAt.canLay_of_shaped hc.2.1) (by omega) e1 X.prog X.w X.xe _ (fin_bl I (q _ H (Same.refl H) (.bool r)) rfl)
  · cases e
end L2
namespace L2
open PySem PySem.Spec PyProof.Rows PySem.W
def runC {α : Type} (lt : Nat → Nat → Option Bool) : KasT α → Option α
  | .ret a => some a
  | .ask i j k => ob (lt i j) fun b => runC lt (k b)
theorem runC_wp {α : Type}  {Q : α → Shared → Prop} (hc : ∀ i j b C, lt i j = some b → C b s → cmp i j C s) :
    ∀ (t : KasT α) (a : α), runC lt t = some a → Q a s → t.kasWp cmp Q s
  | .ret x, a, e, q => by cases e; exact q
  | .ask i j k, a, e, q => by
    obtain ⟨b, e1, e2⟩ := ob_some e
    exact hc i j b _ e1 (runC_wp hc (k b) a e2 q)
section
variable {prog : Program} {w : World} {A : Around} {E : Value → Shared → Prop} {s : Shared}
def Kept (a : Addr) (s s' : Shared) : Prop := ∀ b o, b ≠ a → s.heap.get? b = some o → s'.heap.get? b = some o
theorem sort_shell {vs : List Value} {P : PySem.Fin → Shared → Prop} {κ : SortKind} {p : Array Nat} (ho : s.heap.get? a = some (seqObj "list" vs.toArray n)) (h2 : 2 ≤ vs.length) (h64 : vs.length < 64)
    (hk : ∀ (s' : Shared) (Q : SortKind → Shared → Prop), Kept a s s' → Q κ s' → wpAny (model prog w) A (keyKind' vs.toArray) Q E s')
    (hr : ∀ (s' : Shared) (G : Array Nat → Shared → Prop), Kept a s s' → G p s' → (kas_sort vs.length).kasWp (kas_ask prog w A κ vs) G s')
    (h : P (.done (.ret .none)) { s with heap := sortedHeap s.heap a vs (p.toList.map fun i => vs.getD i Value.none).toArray }) :
    wpAny (model prog w) A (Builtin.«list.sort» ⟨[.ref a], []⟩) P E s := by
  have small : vs.length ≤ sizeLine := by rw [sizeLine_eq]; omega
  have lt := Heap.lt_size ho
  obtain ⟨e1, o1⟩ : ∃ e1, (s.heap.update a (Obj.mapSeq fun _ => #[])).get? a = some (seqObj "list" #[] e1) := ⟨_, get?_update_seq ho fun _ => #[]⟩
  rw [list_sort_plain]
  refine wpAny_bind (listItems_at ho rfl (wpAny_bind (listUpdate_at ho rfl (wpAny_bind (seqEpoch_at o1 rfl (wpAny_bind ?_))) (by simpa using small) (Nat.zero_le _))))
  refine wpAny_newTuple (wpAny_bind (wpAny_newList (wpAny_holding ?_) (Nat.zero_le _))) (by simpa using small)
  obtain ⟨h6, hE⟩ : ∃ h6, h6 = ((s.heap.update a (Obj.mapSeq fun _ => (#[] : Array Value))).push (seqObj "tuple" vs.toArray 0)).push (seqObj "list" #[] 0) := ⟨_, rfl⟩
  have kp : Kept a s { s with heap := h6 } := fun b o ne e => by
    show h6.get? b = some o
    rw [hE]
    refine Heap.get?_push_of_some _ (Heap.get?_push_of_some _ ?_)
    rw [Heap.get?_update_ne _ _ _ _ ne]
    exact e
  have o6 : h6.get? a = some (seqObj "list" #[] e1) := by
    rw [hE]
    exact Heap.get?_push_of_some _ (Heap.get?_push_of_some _ o1)
  show wpAny (model prog w) A _ P E { s with heap := ((s.heap.update a (Obj.mapSeq fun _ => (#[] : Array Value))).push (seqObj "tuple" vs.toArray 0)).push (seqObj "list" #[] 0) }
  rw [← hE]
  have n2 : ¬ vs.toArray.size < 2 := by rw [List.size_toArray]; omega
  dsimp only
  rw [if_neg n2, if_neg n2]
  refine wpAny_bind (hk _ _ kp ?_)
  refine wpAny_bind (wpAny_mono (kat_run (Q := fun st' s' => s' = { s with heap := h6 } ∧ arrOf st' = p.map (kas_item (vs.toArray.zip vs.toArray)) ∧ failedOf st' = none ∧ p.size = vs.length) rfl h2 h64
    (fun p' st' s' z har hf hg => ⟨hg.1, by rw [← hg.2]; exact har, hf, by rw [← hg.2]; exact z⟩) (hr _ (fun p' s' => s' = { s with heap := h6 } ∧ p' = p) kp ⟨rfl, rfl⟩)) ?_ fun _ _ e => e)
  rintro ⟨⟨⟩, st'⟩ s' ⟨rfl, har, hf, hz⟩
  dsimp only
  rw [kat_snds rfl har]
  refine wpAny_bind (seqEpoch_at o6 rfl (wpAny_bind (listUpdate_at o6 rfl ?_ (Nat.zero_le _) (by rw [List.size_toArray, List.length_map, Array.length_toList, hz]; omega))))
  rw [hf]
  simp only [bne_self_eq_false, Bool.false_eq_true, if_false]
  refine wpAny_pure ?_
  rw [hE]
  exact h
theorem sort_small {vs : List Value} {P : PySem.Fin → Shared → Prop} (ho : s.heap.get? a = some (seqObj "list" vs.toArray n)) (h2 : vs.length < 2)
    (h : P (.done (.ret .none)) { s with heap := sortedHeap s.heap a vs vs.toArray }) : wpAny (model prog w) A (Builtin.«list.sort» ⟨[.ref a], []⟩) P E s := by
  have small : vs.length ≤ sizeLine := by rw [sizeLine_eq]; omega
  obtain ⟨e1, o1⟩ : ∃ e1, (s.heap.update a (Obj.mapSeq fun _ => #[])).get? a = some (seqObj "list" #[] e1) := ⟨_, get?_update_seq ho fun _ => #[]⟩
  rw [list_sort_plain]
  refine wpAny_bind (listItems_at ho rfl (wpAny_bind (listUpdate_at ho rfl (wpAny_bind (seqEpoch_at o1 rfl (wpAny_bind ?_))) (by simpa using small) (Nat.zero_le _))))
  refine wpAny_newTuple (wpAny_bind (wpAny_newList (wpAny_holding ?_) (Nat.zero_le _))) (by simpa using small)
  obtain ⟨h6, hE⟩ : ∃ h6, h6 = ((s.heap.update a (Obj.mapSeq fun _ => (#[] : Array Value))).push (seqObj "tuple" vs.toArray 0)).push (seqObj "list" #[] 0) := ⟨_, rfl⟩
  have o6 : h6.get? a = some (seqObj "list" #[] e1) := by
    rw [hE]
    exact Heap.get?_push_of_some _ (Heap.get?_push_of_some _ o1)
  show wpAny (model prog w) A _ P E { s with heap := ((s.heap.update a (Obj.mapSeq fun _ => (#[] : Array Value))).push (seqObj "tuple" vs.toArray 0)).push (seqObj "list" #[] 0) }
  rw [← hE]
  have n2 : vs.toArray.size < 2 := by rw [List.size_toArray]; omega
  dsimp only
  rw [if_pos n2, if_pos n2]
  refine wpAny_bind (wpAny_pure ?_)
  rw [StateT.run_pure]
  refine wpAny_bind (wpAny_pure ?_)
  dsimp only
  have eo : Array.map (fun x => x.2) (vs.toArray.zip vs.toArray) = vs.toArray := by
    apply Array.toList_inj.mp
    simp [List.map_snd_zip]
  show wpAny (model prog w) A (seqEpoch a >>= _) P E { s with heap := h6 }
  refine wpAny_bind (seqEpoch_at o6 rfl (wpAny_bind ?_))
  rw [show Array.map (fun x => x.2) (arrOf (SortSt.mk' general' (vs.toArray.zip vs.toArray) #[] 7 none)) = vs.toArray from eo]
  refine listUpdate_at o6 rfl ?_ (Nat.zero_le _) (by rw [List.size_toArray]; omega)
  simp only [bne_self_eq_false, Bool.false_eq_true, if_false]
  refine wpAny_pure ?_
  rw [hE]
  exact h
theorem sorted_shell {vs : List Value} {Q : Value → Shared → Prop} {κ : SortKind} {p : Array Nat} (hl : s.heap.IsList l vs.toArray) (h2 : 2 ≤ vs.length) (h64 : vs.length < 64)
    (hk : ∀ (s' : Shared) (Q : SortKind → Shared → Prop), (∀ b o, s.heap.get? b = some o → s'.heap.get? b = some o) → Q κ s' → wpAny (model prog w) A.in1.in1 (keyKind' vs.toArray) Q (fun _ _ => False) s')
    (hr : ∀ (s' : Shared) (G : Array Nat → Shared → Prop), (∀ b o, s.heap.get? b = some o → s'.heap.get? b = some o) → G p s' → (kas_sort vs.length).kasWp (kas_ask prog w A.in1.in1 κ vs) G s')
    (h : Q (.ref (s.heap.objs.size + 1)) { s with heap := sortedAll s.heap vs (p.toList.map fun i => vs.getD i Value.none).toArray }) :
    wpAny (model prog w) A (call (.builtin "sorted") [.ref l]) Q E s := by
  have small : vs.length ≤ sizeLine := by rw [sizeLine_eq]; omega
  refine Calls.call_function_entry kind_sorted plain_sorted entry_sorted (args_sorted1 _) ?_
  unfold Builtin.«sorted»
  refine wpAny_bind (m := checkCount "sorted" 1 1 _) (wpAny_pure (wpAny_bind (collect_list hl (wpAny_bind (wpAny_newList ?_ (by simpa using small))) (by simpa using small))))
  have zz : ((s.heap.push (seqObj "list" #[] 0)).update s.heap.objs.size (Obj.mapSeq (· ++ vs.toArray))).objs.size = s.heap.objs.size + 1 := by rw [Heap.size_update, size_push']
  obtain ⟨h3, hH⟩ : ∃ h3, h3 = ((s.heap.push (seqObj "list" #[] 0)).update s.heap.objs.size (Obj.mapSeq (· ++ vs.toArray))).push (seqObj "list" vs.toArray 0) := ⟨_, rfl⟩
  have oL : h3.get? (s.heap.objs.size + 1) = some (seqObj "list" vs.toArray 0) := by
    rw [hH, ← zz]
    exact Heap.get?_push_size _ rfl
  have keep : ∀ b o, s.heap.get? b = some o → h3.get? b = some o := fun b o e => by
    rw [hH]
    have hlt := Heap.lt_size e
    refine Heap.get?_push_of_some _ ?_
    rw [Heap.get?_update_ne _ _ _ _ (Nat.ne_of_lt hlt)]
    exact Heap.get?_push_of_some _ e
  show wpAny _ _ _ _ _ { s with heap := ((s.heap.push (seqObj "list" #[] 0)).update s.heap.objs.size (Obj.mapSeq (· ++ vs.toArray))).push (seqObj "list" vs.toArray 0) }
  rw [zz, ← hH]
  have k2 : ∀ s' : Shared, Kept (s.heap.objs.size + 1) { s with heap := h3 } s' → ∀ b o, s.heap.get? b = some o → s'.heap.get? b = some o := fun s' kp b o e => kp b o (Nat.ne_of_lt (Nat.lt_succ_of_lt (Heap.lt_size e))) (keep b o e)
  refine wpAny_bind (wpAny_holding (wpAny_call_entry slot_list_sort ⟨_, oL, rfl⟩ entry_list_sort (sort_shell (κ := κ) (p := p) oL h2 h64 (fun s' Q kp q => wpAny_mono (hk s' Q (k2 s' kp) q) (fun _ _ z => z) fun _ _ z => z.elim) (fun s' G kp q => hr s' G (k2 s' kp) q) ⟨_, rfl, ?_⟩) (args_list_sort _)))
  refine wpAny_pure ⟨_, rfl, ?_⟩
  have hA : sortedHeap h3 (s.heap.objs.size + 1) vs (p.toList.map fun i => vs.getD i Value.none).toArray = sortedAll s.heap vs (p.toList.map fun i => vs.getD i Value.none).toArray := by
    rw [hH]
    rfl
  rw [hA]
  exact h
theorem sorted_small {vs : List Value} {Q : Value → Shared → Prop} (hl : s.heap.IsList l vs.toArray) (h2 : vs.length < 2)
    (h : Q (.ref (s.heap.objs.size + 1)) { s with heap := sortedAll s.heap vs vs.toArray }) :
    wpAny (model prog w) A (call (.builtin "sorted") [.ref l]) Q E s := by
  have small : vs.length ≤ sizeLine := by rw [sizeLine_eq]; omega
  refine Calls.call_function_entry kind_sorted plain_sorted entry_sorted (args_sorted1 _) ?_
  unfold Builtin.«sorted»
  refine wpAny_bind (m := checkCount "sorted" 1 1 _) (wpAny_pure (wpAny_bind (collect_list hl (wpAny_bind (wpAny_newList ?_ (by simpa using small))) (by simpa using small))))
  have zz : ((s.heap.push (seqObj "list" #[] 0)).update s.heap.objs.size (Obj.mapSeq (· ++ vs.toArray))).objs.size = s.heap.objs.size + 1 := by rw [Heap.size_update, size_push']
  obtain ⟨h3, hH⟩ : ∃ h3, h3 = ((s.heap.push (seqObj "list" #[] 0)).update s.heap.objs.size (Obj.mapSeq (· ++ vs.toArray))).push (seqObj "list" vs.toArray 0) := ⟨_, rfl⟩
  have oL : h3.get? (s.heap.objs.size + 1) = some (seqObj "list" vs.toArray 0) := by
    rw [hH, ← zz]
    exact Heap.get?_push_size _ rfl
  show wpAny _ _ _ _ _ { s with heap := ((s.heap.push (seqObj "list" #[] 0)).update s.heap.objs.size (Obj.mapSeq (· ++ vs.toArray))).push (seqObj "list" vs.toArray 0) }
  rw [zz, ← hH]
  refine wpAny_bind (wpAny_holding (wpAny_call_entry slot_list_sort ⟨_, oL, rfl⟩ entry_list_sort (sort_small oL h2 ⟨_, rfl, ?_⟩) (args_list_sort _)))
  refine wpAny_pure ⟨_, rfl, ?_⟩
  have hA : sortedHeap h3 (s.heap.objs.size + 1) vs vs.toArray = sortedAll s.heap vs vs.toArray := by
    rw [hH]
    rfl
  rw [hA]
  exact h
end
def ltAtD (ds : List PyData) (i j : Nat) : Option Bool := match ds[i]?, ds[j]? with
  | some x, some y => ltX x y
  | _, _ => none
def keyD : PyData → Nat
  | .tuple (.int _ :: _) => 0
  | .tuple (.tuple _ :: _) => 1
  | .int _ => 2
  | _ => 3
def pickD (ds : List PyData) (p : Array Nat) : Option PyData := if (p.toList.all fun i => decide (i < ds.length)) = true ∧ p.toList.length ≤ 1000 then some (.list (p.toList.map fun i => ds.getD i .none)) else none
def sortOk (k : Nat) (ds : List PyData) : Bool := (ds.all fun d => keyD d == k) && (decide (2 ≤ ds.length) && (decide (ds.length < 64) && (PyData.canLayAll0 ds && decide (PyData.depthAll ds ≤ 50))))
def sortedD : List PyData → Option PyData
  | [.list ds] => if ds.length < 2 then some (.list ds) else if sortOk 0 ds = true ∨ sortOk 1 ds = true then ob (runC (ltAtD ds) (kas_sort ds.length)) fun p => pickD ds p else none
  | _ => none
section
variable {prog : Program} {w : World} {A : Around} {s : Shared}
theorem katLex_reads {b fin : Bool}  (hu : A.units + m + 1 < cLine) (q : Q r s) :
    ∀ (xs ys : List PyData) (vs ws : List Value) (as bs : List Addr) (i : Nat), PyData.depthAll xs ≤ m → ReadsAll s.heap vs xs as → ReadsAll s.heap ws ys bs → PyData.canLayAll0 xs = true → PyData.canLayAll0 ys = true → ltXs xs ys = some r →
      (b = true → i = 0 → ∀ x y, xs.head? = some x → ys.head? = some y → ∃ n k, x = .int n ∧ y = .int k) → fin = decide (xs.length < ys.length) → KatLex prog w A b fin Q (vs.zip ws) i s := by
  intro xs
  induction xs with
  | nil =>
    intro ys vs ws as bs i _ h1 h2 _ _ e _ hf
    cases h1
    rw [List.zip_nil_left]
    refine kat_nil ?_
    cases ys with
    | nil => rw [ltXs] at e; cases e; rw [hf]; simpa using q
    | cons y ys => rw [ltXs] at e; cases e; rw [hf]; simpa using q
  | cons x xs ih =>
    intro ys vs ws as bs i hm h1 h2 c1 c2 e hb hf
    cases h1 with
    | cons rx rxs =>
      cases ys with
      | nil =>
        cases h2
        rw [List.zip_nil_right]
        refine kat_nil ?_
        rw [ltXs] at e; cases e; rw [hf]; simpa using q
      | cons y ys =>
        cases h2 with
        | cons ry rys =>
          have c1' : x.canLay0 = true ∧ PyData.canLayAll0 xs = true := by simpa [PyData.canLayAll0] using c1
          have c2' : y.canLay0 = true ∧ PyData.canLayAll0 ys = true := by simpa [PyData.canLayAll0] using c2
          have hd : max x.depth (PyData.depthAll xs) ≤ m := by rw [PyData.depthAll] at hm; exact hm
          have m1 := Nat.le_trans (Nat.le_max_left x.depth (PyData.depthAll xs)) hd
          have m2 := Nat.le_trans (Nat.le_max_right x.depth (PyData.depthAll xs)) hd
          rw [ltXs] at e
          rw [List.zip_cons_cons]
          refine kat_cons (SeqAt.eqAt_reads x y A s _ _ _ _ rx ry c1'.1 c2'.1 (by have := Nat.min_le_left x.depth y.depth; omega) prog w _ _ (kat_go (fun z => ?_) fun z => ?_))
          · rw [if_pos z] at e
            refine kat_yes (ih ys _ _ _ _ (i + 1) m2 rxs rys c1'.2 c2'.2 e (fun _ z => by omega) ?_)
            rw [hf, List.length_cons, List.length_cons]
            exact decide_eq_decide.mpr (by omega)
          · rw [if_neg (by rw [z]; exact Bool.false_ne_true)] at e
            refine kat_no ?_
            cases hbi : (b && i == 0) with
            | true =>
              rw [Bool.and_eq_true] at hbi
              obtain ⟨n, k, rfl, rfl⟩ := hb hbi.1 (by simpa using hbi.2) x y rfl rfl
              cases rx; cases ry
              rw [ltX] at e
              cases e
              exact oneLt_int q
            | false =>
              exact kat_one _ _ (ltAt_reads m x y A s _ _ _ _ r m1 rx ry c1'.1 c2'.1 hu e prog w _ _ q)
theorem rAll_len : ∀ {vs : List Value} {ds : List PyData} {as : List Addr}, ReadsAll h vs ds as → vs.length = ds.length
  | _, _, _, .nil => rfl
  | _, _, _, .cons _ t => by rw [List.length_cons, List.length_cons, rAll_len t]
theorem rAll_get : ∀ {vs : List Value} {ds : List PyData} {as : List Addr} {i : Nat} {d : PyData}, ReadsAll h vs ds as → ds[i]? = some d → ∃ v bs, vs[i]? = some v ∧ Reads h v d bs
  | _, _, _, _, _, .nil, e => by simp at e
  | _, _, _, 0, _, .cons r _, e => by simp at e; subst e; exact ⟨_, _, rfl, r⟩
  | _, _, _, i + 1, d, .cons _ t, e => by
    obtain ⟨v, bs, h1, h2⟩ := rAll_get (i := i) (d := d) t (by simpa using e)
    exact ⟨v, bs, by simpa using h1, h2⟩
theorem canAll_get : ∀ {ds : List PyData} {i : Nat} {d : PyData}, PyData.canLayAll0 ds = true → ds[i]? = some d → d.canLay0 = true ∧ d.depth ≤ PyData.depthAll ds
  | [], _, _, _, e => by simp at e
  | x :: xs, 0, d, h, e => by
    have h' : x.canLay0 = true ∧ PyData.canLayAll0 xs = true := by simpa [PyData.canLayAll0] using h
    simp at e
    subst e
    exact ⟨h'.1, by rw [PyData.depthAll]; exact Nat.le_max_left _ _⟩
  | x :: xs, i + 1, d, h, e => by
    have h' : x.canLay0 = true ∧ PyData.canLayAll0 xs = true := by simpa [PyData.canLayAll0] using h
    obtain ⟨h1, h2⟩ := canAll_get (i := i) (d := d) h'.2 (by simpa using e)
    exact ⟨h1, Nat.le_trans h2 (by rw [PyData.depthAll]; exact Nat.le_max_right _ _)⟩
theorem katTups_of (hk : k < 2) : ∀ {vs : List Value} {ds : List PyData} {as : List Addr}, ReadsAll h vs ds as → (ds.all fun d => keyD d == k) = true → ∃ fs : List Value, KatTups h vs fs ∧ fs.length = vs.length ∧ ∀ (M : Model), ∀ f ∈ fs, Looks M h (typeOf f) (if k = 0 then Value.type "int" else Value.type "tuple")
  | _, _, _, .nil, _ => ⟨[], trivial, rfl, fun _ _ z => nomatch z⟩
  | _, d :: ds, _, .cons (d := _) r t, e => by
    rw [List.all_cons, Bool.and_eq_true] at e
    obtain ⟨fs, h1, h2, h3⟩ := katTups_of hk t e.2
    have e1 : keyD d = k := by simpa using e.1
    cases d with
    | tuple xs =>
      cases r with
      | @tuple a o its n xs' as' g1 g2 g3 g4 =>
        cases xs with
        | nil => rw [show keyD (.tuple []) = 3 from rfl] at e1; omega
        | cons x xs =>
          obtain ⟨v, rv, q1, rx⟩ := rAll_get (i := 0) g4 rfl
          have h0 : its[0]? = some v := by rw [← Array.getElem?_toList]; exact q1
          refine ⟨v :: fs, KatTups.cons g1 g2 g3 h0 h1, by rw [List.length_cons, List.length_cons, h2], fun M f hf => ?_⟩
          rcases List.mem_cons.mp hf with rfl | hf
          · cases x with
            | int n =>
              cases rx
              rw [show keyD (.tuple (.int n :: xs)) = 0 from rfl] at e1
              rw [if_pos e1.symm]
              exact Looks.of_pure rfl
            | tuple ys =>
              rw [show keyD (.tuple (.tuple ys :: xs)) = 1 from rfl] at e1
              cases rx with
              | tuple k1 k2 k3 k4 =>
                rw [if_neg (by omega), ← k2]
                exact (Looks.ld k1).andThen .now
            | none => rw [show keyD (.tuple (.none :: xs)) = 3 from rfl] at e1; omega
            | bool _ => rw [show keyD (.tuple (.bool _ :: xs)) = 3 from rfl] at e1; omega
            | str _ => rw [show keyD (.tuple (.str _ :: xs)) = 3 from rfl] at e1; omega
            | list _ => rw [show keyD (.tuple (.list _ :: xs)) = 3 from rfl] at e1; omega
            | dict _ => rw [show keyD (.tuple (.dict _ :: xs)) = 3 from rfl] at e1; omega
          · exact h3 M f hf
    | int n => rw [show keyD (.int n) = 2 from rfl] at e1; omega
    | none => rw [show keyD .none = 3 from rfl] at e1; omega
    | bool _ => rw [show keyD (.bool _) = 3 from rfl] at e1; omega
    | str _ => rw [show keyD (.str _) = 3 from rfl] at e1; omega
    | list _ => rw [show keyD (.list _) = 3 from rfl] at e1; omega
    | dict _ => rw [show keyD (.dict _) = 3 from rfl] at e1; omega
end
section
variable {h h' : Heap}
mutual
theorem readsKeep (k : ∀ b o, h.get? b = some o → h'.get? b = some o) : ∀ {d : PyData} {v : Value} {as : List Addr}, Reads h v d as → d.canLay0 = true → Reads h' v d as
  | .none, _, _, r, _ => by cases r; exact .none
  | .bool _, _, _, r, _ => by cases r; exact .bool _
  | .int _, _, _, r, _ => by cases r; exact .int _ _
  | .str _, _, _, r, _ => by cases r; exact .str _ _
  | .list xs, _, _, r, c => by
    cases r with
    | list e q g t => exact .list (k _ _ e) q g (readsAllKeep k t (by simpa [PyData.canLay0] using c))
  | .tuple xs, _, _, r, c => by
    cases r with
    | tuple e q g t => exact .tuple (k _ _ e) q g (readsAllKeep k t (by simpa [PyData.canLay0] using c))
  | .dict _, _, _, _, c => by simp [PyData.canLay0] at c
theorem readsAllKeep (k : ∀ b o, h.get? b = some o → h'.get? b = some o) : ∀ {ds : List PyData} {vs : List Value} {as : List Addr}, ReadsAll h vs ds as → PyData.canLayAll0 ds = true → ReadsAll h' vs ds as
  | [], _, _, r, _ => by cases r; exact .nil
  | d :: ds, _, _, r, c => by
    have c' : d.canLay0 = true ∧ PyData.canLayAll0 ds = true := by simpa [PyData.canLayAll0] using c
    cases r with
    | cons r t => exact .cons (readsKeep k r c'.1) (readsAllKeep k t c'.2)
end
end
theorem ltX_tups (hx : keyD x < 2) (e : ltX x y = some r) : ∃ xs ys, x = .tuple xs ∧ y = .tuple ys ∧ ltXs xs ys = some r := by
  cases x with
  | tuple xs =>
    cases y with
    | tuple ys => rw [ltX] at e; exact ⟨xs, ys, rfl, rfl, e⟩
    | _ => simp [ltX] at e
  | int n => simp [keyD] at hx
  | list xs => simp [keyD] at hx
  | _ => simp [ltX] at e
theorem key_heads {xs : List PyData} (e : keyD (.tuple xs) = k) (h0 : k = 0) : ∀ x, xs.head? = some x → ∃ n, x = .int n := by
  intro x hx
  cases xs with
  | nil => cases hx
  | cons y ys =>
    cases hx
    cases x with
    | int n => exact ⟨n, rfl⟩
    | _ => (first | (simp [keyD] at e; omega) | (simp only [keyD] at e; omega))
theorem getD_some {α : Type} {xs : List α} {i : Nat} {x d : α} (e : xs[i]? = some x) : xs.getD i d = x := by rw [List.getD_eq_getElem?_getD, e]; rfl
theorem n_sorted {X : Cx} {k : Nat} (hr : Room k X.A) : CallN X (.builtin "sorted") sortedD := by
  intro pins s σ H xs us Q I r ⟨S, ds, d, m, h1, e, q⟩
  unfold sortedD at e
  split at e
  · rename_i ds
    split at e
    · rename_i hlt
      cases e
      obtain ⟨v, rfl, hv⟩ := h1.inv1
      obtain ⟨a, ys, rfl, hs, ht⟩ := hv.list_inv
      obtain ⟨u, rfl, ru⟩ := vals1 r
      cases (show u = Value.ref a from ru)
      obtain ⟨its, rv, pl, hz⟩ := I.list hs.sq
      have hlen := rv.length
      have hl2 := ht.length
      refine sorted_small pl.isList (by omega) ?_
      obtain ⟨en, ob⟩ := sortedAll_at s.heap its its.toArray
      have hfr : H (s.heap.objs.size + 1) = none := I.hok.fresh (Nat.le_succ _)
      exact ⟨.ref (s.heap.objs.size + 1), _, I.laid (t' := s.toks) (o := .lst ys) (fun b o e => sortedAll_old e) (Nat.le_succ _) ⟨hz, _, en, rv, ob⟩, rfl, q _ _ (Same.lay hfr) hfr (OwnO.laid hfr ht)⟩
    split at e
    · rename_i hok
      obtain ⟨p, e1, e2⟩ := ob_some e
      obtain ⟨v, rfl, hv⟩ := h1.inv1
      obtain ⟨a, ys, rfl, hs, ht⟩ := hv.list_inv
      obtain ⟨u, rfl, ru⟩ := vals1 r
      cases (show u = Value.ref a from ru)
      obtain ⟨its, rv, pl, hz⟩ := I.list hs.sq
      obtain ⟨kk, hk2, hk⟩ : ∃ kk, kk < 2 ∧ sortOk kk ds = true := hok.elim (fun z => ⟨0, by decide, z⟩) fun z => ⟨1, by decide, z⟩
      unfold sortOk at hk
      simp only [Bool.and_eq_true, decide_eq_true_eq] at hk
      obtain ⟨hall, l2, l64, hcan, hdep⟩ := hk
      obtain ⟨as, ra⟩ := ht.reads I hcan rv
      have hlen := rAll_len ra
      unfold pickD at e2
      split at e2
      · rename_i hin
        cases e2
        have hin' : ∀ i ∈ p.toList, i < ds.length := fun i hi => by
          have := List.all_eq_true.mp hin.1 i hi
          simpa using this
        have hu := hr.units
        obtain ⟨T, hT⟩ : ∃ T, T = (if kk = 0 then Value.type "int" else Value.type "tuple") := ⟨_, rfl⟩
        have hT2 : (T == T) = true := by rw [hT]; split <;> rfl
        have hb : (T != Value.type "tuple") = true → kk = 0 := fun z => by
          rw [hT] at z
          by_cases h0 : kk = 0
          · exact h0
          · rw [if_neg h0] at z; exact absurd z (by decide)
        refine sorted_shell (κ := tuples' (T != Value.type "tuple")) (p := p) pl.isList (by omega) (by omega) (fun s' Q' keep q' => ?_) (fun s' G keep g => ?_) ?_
        · obtain ⟨fs, t1, t2, t3⟩ := katTups_of hk2 (readsAllKeep keep ra hcan) hall
          exact kat_kind t1 (by omega) (fun f hf => by rw [hT]; exact t3 _ f hf) hT2 q'
        · have ra' := readsAllKeep keep ra hcan
          rw [hlen]
          refine runC_wp (fun i j b C el hC => ?_) _ p e1 g
          unfold ltAtD at el
          split at el
          · rename_i x y ex ey
            obtain ⟨vx, bx, gx, rx⟩ := rAll_get ra' ex
            obtain ⟨vy, byy, gy, ry⟩ := rAll_get ra' ey
            obtain ⟨cx, dx⟩ := canAll_get hcan ex
            obtain ⟨cy, dy⟩ := canAll_get hcan ey
            have kx : keyD x = kk := by
              have := List.all_eq_true.mp hall x (List.mem_of_getElem? ex)
              simpa using this
            have ky : keyD y = kk := by
              have := List.all_eq_true.mp hall y (List.mem_of_getElem? ey)
              simpa using this
            obtain ⟨xs, ys', rfl, rfl, elx⟩ := ltX_tups (by omega) el
            show kas_ask X.prog X.w X.A.in1.in1 _ its i j C s'
            unfold kas_ask
            rw [getD_some gx, getD_some gy]
            cases rx with
            | @tuple ax ox ax1 nx _ _ x1 x2 x3 x4 =>
              cases ry with
              | @tuple ay oy ay1 ny _ _ y1 y2 y3 y4 =>
                have dxs : PyData.depthAll xs ≤ 50 := by rw [PyData.depth] at dx; omega
                refine kat_lt x1 x3 y1 y3 (katLex_reads (m := 50) (by show X.A.units + 1 + 1 + 50 + 1 < cLine; omega) hC xs ys' _ _ _ _ 0 dxs x4 y4 (by simpa [PyData.canLay0] using cx) (by simpa [PyData.canLay0] using cy) elx (fun hbb _ x y hx hy => ?_) ?_)
                · have h0 := hb hbb
                  obtain ⟨n1, rfl⟩ := key_heads kx h0 x hx
                  obtain ⟨n2, rfl⟩ := key_heads ky h0 y hy
                  exact ⟨n1, n2, rfl, rfl⟩
                · have z1 := rAll_len x4
                  have z2 := rAll_len y4
                  rw [Array.length_toList] at z1 z2
                  rw [z1, z2]
          · cases el
        · obtain ⟨en, ob⟩ := sortedAll_at s.heap its (p.toList.map fun i => its.getD i Value.none).toArray
          have hfr : H (s.heap.objs.size + 1) = none := I.hok.fresh (Nat.le_succ _)
          have dl : DenL X.K H S (p.toList.map fun i => ys.getD i .non) (p.toList.map fun i => ds.getD i .none) := by
            generalize p.toList = pl at hin'
            induction pl with
            | nil => exact .nil
            | cons i pl ih =>
              have hi := hin' i (.head _)
              obtain ⟨vy, gy, dy⟩ := ht.get (List.getElem?_eq_getElem hi)
              rw [List.map_cons, List.map_cons, getD_some gy, getD_some (List.getElem?_eq_getElem hi)]
              exact .cons dy (ih fun j hj => hin' j (.tail _ hj))
          have vl : Vals (p.toList.map fun i => ys.getD i .non) (p.toList.map fun i => its.getD i Value.none) := by
            generalize p.toList = pl at hin'
            induction pl with
            | nil => exact .nil
            | cons i pl ih =>
              have hi : i < ys.length := by rw [ht.length]; exact hin' i (.head _)
              obtain ⟨w, gw, rw'⟩ := rv.get (List.getElem?_eq_getElem hi)
              rw [List.map_cons, List.map_cons, getD_some (List.getElem?_eq_getElem hi), getD_some gw]
              exact .cons rw' (ih fun j hj => hin' j (.tail _ hj))
          have zz : (p.toList.map fun i => ys.getD i V.non).length ≤ sizeLine := by rw [List.length_map]; exact Nat.le_of_lt (small1000 hin.2)
          refine ⟨.ref (s.heap.objs.size + 1), _, I.laid (t' := s.toks) (o := .lst (p.toList.map fun i => ys.getD i .non)) (fun b o e => sortedAll_old e) (Nat.le_succ _) ⟨zz, _, en, vl, ob⟩, rfl, q _ _ (Same.lay hfr) hfr (OwnO.laid hfr dl)⟩
      · cases e2
    · cases e
  · cases e
end L2
namespace L2
open PySem PySem.Spec PyProof.Rows
def ConstK (K : PySem.W.Frag) (mg : Str → Option Value) (x : Str) (d : PyData) : Prop := ∃ v u, mg x = some u ∧ RelV v u ∧ ∀ H S, Den K H S v d
theorem pd_const {X : Cx}   (C : ConstK X.K X.mg x d) (hg : Gl X x) (hdb : (x == ("__debug__" : Str)) = false := by decide +kernel) : PD X M (.Name x pos) (kd d) := by
  obtain ⟨v, u, m, r, hd⟩ := C
  exact pd_glob hg m r hd hdb
end L2
namespace L2
open PySem
theorem boot_sortedD : bootBuiltins "sorted" = some (.builtin "sorted") := by decide +kernel
end L2
namespace L2
open PySem PySem.Spec PyProof.Rows
theorem ob_s {α β : Type} (x : α) (f : α → Option β) : ob (some x) f = f x := rfl
theorem vr_z (o : Option PyData) (ρ : Rho) : vr 0 (o :: ρ) = o := rfl
theorem vr_s (n : Nat) (o : Option PyData) (ρ : Rho) : vr (n + 1) (o :: ρ) = vr n ρ := rfl
theorem atI0 {α : Type} (x : α) (xs : List α) : atI (x :: xs) 0 = some x := by simp [atI, ixN]
theorem atI_succ {α : Type} (x : α) (xs : List α) (k : Nat) : atI (x :: xs) ((k : Int) + 1) = atI xs (k : Int) := by
  unfold atI ixN
  have h1 : (0 : Int) ≤ (k : Int) + 1 := by omega
  have h2 : (0 : Int) ≤ (k : Int) := by omega
  rw [if_pos h1, if_pos h2]
  by_cases h : (k : Int) < xs.length
  · have h' : (k : Int) + 1 < ((x :: xs).length : Int) := by rw [List.length_cons]; omega
    rw [if_pos h, if_pos h']
    have e1 : ((k : Int) + 1).toNat = k + 1 := by omega
    have e2 : (k : Int).toNat = k := by omega
    rw [e1, e2]
    rfl
  · have h' : ¬ (k : Int) + 1 < ((x :: xs).length : Int) := by rw [List.length_cons]; omega
    rw [if_neg h, if_neg h']
    rfl
theorem atI1 {α : Type} (x y : α) (xs : List α) : atI (x :: y :: xs) 1 = some y := (atI_succ x (y :: xs) 0).trans (atI0 y xs)
theorem atI2 {α : Type} (x y z : α) (xs : List α) : atI (x :: y :: z :: xs) 2 = some z := (atI_succ x (y :: z :: xs) 1).trans (atI1 y z xs)
theorem atI3 {α : Type} (x y z a : α) (xs : List α) : atI (x :: y :: z :: a :: xs) 3 = some a := (atI_succ x (y :: z :: a :: xs) 2).trans (atI2 y z a xs)
theorem atI4 {α : Type} (x y z a b : α) (xs : List α) : atI (x :: y :: z :: a :: b :: xs) 4 = some b := (atI_succ x (y :: z :: a :: b :: xs) 3).trans (atI3 y z a b xs)
theorem atI5 {α : Type} (x y z a b c : α) (xs : List α) : atI (x :: y :: z :: a :: b :: c :: xs) 5 = some c := (atI_succ x (y :: z :: a :: b :: c :: xs) 4).trans (atI4 y z a b c xs)
theorem mulD_ok (h : IntMulOk i j) : mulD (.int i) (.int j) = some (.int (i * j)) := by
  show (if IntMulOk i j then some (PyData.int (i * j)) else none) = _
  rw [if_pos h]
def Bd (n : Nat) (i : Int) : Prop := Builtin.Int.intBits i ≤ n
theorem Bd.ok (h : Bd n i) (g : Bd m j) (e : n + m ≤ 134217728 := by decide) : IntMulOk i j := IntMulOk.of_le h g e
theorem Bd.of {i : Int} (h : i.natAbs < 2 ^ n) : Bd n i := intBits_le_iff.mpr h
theorem natLit (n : Nat) : ((no_index (OfNat.ofNat n) : Nat) : Int) = (OfNat.ofNat n : Int) := rfl
theorem eqD_int (i j : Int) : eqD (.int i) (.int j) = some (.bool (i == j)) := rfl
theorem neD_int (i j : Int) : neD (.int i) (.int j) = some (.bool (!(i == j))) := rfl
theorem pow_a : powD (.int 7919) (.int 8) = some (.int (7919 ^ 8)) := rfl
theorem pow_b : powD (.int 10) (.int 30) = some (.int (10 ^ 30)) := rfl
theorem mod_pos (i : Int) (h : 0 < j) : modD (.int i) (.int j) = some (.int (i % j)) := by
  show (if 0 < j then some (PyData.int (i % j)) else none) = _
  rw [if_pos h]
theorem fdiv_pos (i : Int) (h : 0 < j) (h2 : j < 1073741824) : fdivD (.int i) (.int j) = some (.int (i / j)) := by
  show (if CDiv i j then some (PyData.int (i / j)) else none) = _
  rw [if_pos ⟨h, h2⟩]
def bindO (o : Option Out) (w : Rho → Option Out) : Option Out := match o with | some (.nx ρ') => w ρ' | o => o
theorem seqO_b (u w : Rho → Option Out) (ρ : Rho) : seqO u w ρ = bindO (u ρ) w := by
  unfold seqO ob bindO
  cases u ρ with
  | none => rfl
  | some o => cases o <;> rfl
theorem bindO_nx (ρ : Rho) (w : Rho → Option Out) : bindO (some (.nx ρ)) w = w ρ := rfl
theorem bindO_rt (d : PyData) (w : Rho → Option Out) : bindO (some (.rt d)) w = some (.rt d) := rfl
theorem bindO_bk (ρ : Rho) (w : Rho → Option Out) : bindO (some (.bk ρ)) w = some (.bk ρ) := rfl
theorem bindO_ct (ρ : Rho) (w : Rho → Option Out) : bindO (some (.ct ρ)) w = some (.ct ρ) := rfl
def ifO {α : Type} (b : Option Bool) (u w : Rho → Option α) (ρ : Rho) : Option α := match b with | some true => u ρ | some false => w ρ | none => none
theorem ifO_t {α : Type} (u w : Rho → Option α) (ρ : Rho) : ifO (some true) u w ρ = u ρ := rfl
theorem ifO_f {α : Type} (u w : Rho → Option α) (ρ : Rho) : ifO (some false) u w ρ = w ρ := rfl
theorem sIf_b (p : Rho → Option Bool) (u w : Rho → Option Out) (ρ : Rho) : sIf p u w ρ = ifO (p ρ) u w ρ := by
  unfold sIf ob ifO
  cases p ρ with
  | none => rfl
  | some b => cases b <;> rfl
theorem tA_b (p q : Rho → Option Bool) (ρ : Rho) : tA p q ρ = ifO (p ρ) q (fun _ => some false) ρ := by
  unfold tA ob ifO
  cases p ρ with
  | none => rfl
  | some b => cases b <;> rfl
theorem tO_b (p q : Rho → Option Bool) (ρ : Rho) : tO p q ρ = ifO (p ρ) (fun _ => some true) q ρ := by
  unfold tO ob ifO
  cases p ρ with
  | none => rfl
  | some b => cases b <;> rfl
theorem vA_b (f g : Rho → Option PyData) (ρ : Rho) : vA f g ρ = ifO (ob (f ρ) boolD) g (fun _ => some (.bool false)) ρ := by
  unfold vA ob ifO
  cases f ρ with
  | none => rfl
  | some x =>
    dsimp only
    cases boolD x with
    | none => rfl
    | some b => cases b <;> rfl
def setO (o : Option PyData) (i : Nat) (ρ : Rho) : Option Out := match o with | some d => some (.nx (ρ.set i (some d))) | none => none
theorem sSet_b (i : Nat) (f : Rho → Option PyData) (ρ : Rho) : sSet i f ρ = setO (f ρ) i ρ := by
  unfold sSet ob setO
  cases f ρ <;> rfl
theorem setO_s (d : PyData) (i : Nat) (ρ : Rho) : setO (some d) i ρ = some (.nx (ρ.set i (some d))) := rfl
def binO (a b : Option PyData) (g : PyData → PyData → Option PyData) : Option PyData := match a, b with | some x, some y => g x y | _, _ => none
theorem ev2_b (fa fb : Rho → Option PyData) (g : PyData → PyData → Option PyData) (ρ : Rho) : ev2 fa fb g ρ = binO (fa ρ) (fb ρ) g := by
  unfold ev2 ob binO
  cases fa ρ <;> cases fb ρ <;> rfl
theorem binO_s (x y : PyData) (g : PyData → PyData → Option PyData) : binO (some x) (some y) g = g x y := rfl
def consO (a : Option PyData) (b : Option (List PyData)) : Option (List PyData) := match a, b with | some x, some xs => some (x :: xs) | _, _ => none
theorem aC_b (fa : Rho → Option PyData) (fs : Rho → Option (List PyData)) (ρ : Rho) : aC fa fs ρ = consO (fa ρ) (fs ρ) := by
  unfold aC ob consO
  cases fa ρ <;> cases fs ρ <;> rfl
theorem consO_s (x : PyData) (xs : List PyData) : consO (some x) (some xs) = some (x :: xs) := rfl
def callO (n : Nat) (a : Option (List PyData)) (h : List PyData → Option PyData) : Option PyData := match a with | some ds => if ds.length = n then h ds else none | none => none
theorem evC_b (n : Nat) (fs : Rho → Option (List PyData)) (h : List PyData → Option PyData) (ρ : Rho) : evC n fs h ρ = callO n (fs ρ) h := by
  unfold evC ob callO
  cases fs ρ <;> rfl
theorem callO_s (n : Nat) (ds : List PyData) (h : List PyData → Option PyData) : callO n (some ds) h = if ds.length = n then h ds else none := rfl
def compO (b : Option Bool) (tt : Rho → Option Bool) (te : Rho → Option PyData) (ρ : Rho) (d : PyData) (ds : List PyData) : Option (List PyData) := match b with | some true => consO (te (ρ ++ [some d])) (compD tt te ρ ds) | some false => compD tt te ρ ds | none => none
theorem compD_c (tt : Rho → Option Bool) (te : Rho → Option PyData) (ρ : Rho) (d : PyData) (ds : List PyData) : compD tt te ρ (d :: ds) = compO (tt (ρ ++ [some d])) tt te ρ d ds := by
  rw [compD]
  unfold ob compO consO
  cases tt (ρ ++ [some d]) with
  | none => rfl
  | some b =>
    cases b with
    | false => rfl
    | true =>
      dsimp only [if_true]
      rw [if_pos rfl]
      cases te (ρ ++ [some d]) <;> cases compD tt te ρ ds <;> rfl
theorem compD_n (tt : Rho → Option Bool) (te : Rho → Option PyData) (ρ : Rho) : compD tt te ρ [] = some [] := rfl
theorem compO_t (tt : Rho → Option Bool) (te : Rho → Option PyData) (ρ : Rho) (d : PyData) (ds : List PyData) : compO (some true) tt te ρ d ds = consO (te (ρ ++ [some d])) (compD tt te ρ ds) := rfl
theorem compO_f (tt : Rho → Option Bool) (te : Rho → Option PyData) (ρ : Rho) (d : PyData) (ds : List PyData) : compO (some false) tt te ρ d ds = compD tt te ρ ds := rfl
def listO (a : Option (List PyData)) : Option PyData := match a with | some ys => some (.list ys) | none => none
def comRO (a : Option (List PyData)) (n : Nat) (tt : Rho → Option Bool) (te : Rho → Option PyData) (ρ : Rho) : Option PyData := match a with | some ds => if ρ.length = n ∧ ds.length ≤ 1000 then listO (compD tt te ρ ds) else none | none => none
theorem compR_b (n : Nat) (fi : Rho → Option (List PyData)) (tt : Rho → Option Bool) (te : Rho → Option PyData) (ρ : Rho) : compR n fi tt te ρ = comRO (fi ρ) n tt te ρ := by
  unfold compR ob comRO listO
  cases fi ρ with
  | none => rfl
  | some ds =>
    dsimp only
    split
    · cases compD tt te ρ ds <;> rfl
    · rfl
theorem comRO_s (ds : List PyData) (n : Nat) (tt : Rho → Option Bool) (te : Rho → Option PyData) (ρ : Rho) : comRO (some ds) n tt te ρ = if ρ.length = n ∧ ds.length ≤ 1000 then listO (compD tt te ρ ds) else none := rfl
theorem listO_s (ds : List PyData) : listO (some ds) = some (.list ds) := rfl
def forI (a : Option (List PyData)) (g : PyData → Rho → Option Rho) (u : Rho → Option Out) (ρ : Rho) : Option Out := match a with | some ds => forD g u ds ρ | none => none
theorem sFor_b (fi : Rho → Option (List PyData)) (g : PyData → Rho → Option Rho) (u : Rho → Option Out) (ρ : Rho) : sFor fi g u ρ = forI (fi ρ) g u ρ := by
  unfold sFor ob forI
  cases fi ρ <;> rfl
theorem forI_s (ds : List PyData) (g : PyData → Rho → Option Rho) (u : Rho → Option Out) (ρ : Rho) : forI (some ds) g u ρ = forD g u ds ρ := rfl
def forO (o : Option Out) (g : PyData → Rho → Option Rho) (u : Rho → Option Out) (ds : List PyData) : Option Out := match o with
  | some (.nx ρ') => forD g u ds ρ'
  | some (.ct ρ') => forD g u ds ρ'
  | some (.bk ρ') => some (.nx ρ')
  | some (.rt r) => some (.rt r)
  | none => none
theorem forD_c (g : PyData → Rho → Option Rho) (u : Rho → Option Out) (d : PyData) (ds : List PyData) (ρ : Rho) : forD g u (d :: ds) ρ = forO (ob (g d ρ) u) g u ds := by
  rw [forD]
  unfold ob forO
  cases g d ρ with
  | none => rfl
  | some ρ1 =>
    dsimp only
    cases u ρ1 with
    | none => rfl
    | some o => cases o <;> rfl
theorem forD_n (g : PyData → Rho → Option Rho) (u : Rho → Option Out) (ρ : Rho) : forD g u [] ρ = some (.nx ρ) := rfl
theorem forO_nx (ρ : Rho) (g : PyData → Rho → Option Rho) (u : Rho → Option Out) (ds : List PyData) : forO (some (.nx ρ)) g u ds = forD g u ds ρ := rfl
theorem forO_ct (ρ : Rho) (g : PyData → Rho → Option Rho) (u : Rho → Option Out) (ds : List PyData) : forO (some (.ct ρ)) g u ds = forD g u ds ρ := rfl
theorem forO_bk (ρ : Rho) (g : PyData → Rho → Option Rho) (u : Rho → Option Out) (ds : List PyData) : forO (some (.bk ρ)) g u ds = some (.nx ρ) := rfl
theorem forO_rt (d : PyData) (g : PyData → Rho → Option Rho) (u : Rho → Option Out) (ds : List PyData) : forO (some (.rt d)) g u ds = some (.rt d) := rfl
def retO (o : Option PyData) : Option Out := match o with | some d => some (.rt d) | none => none
theorem sRet_b (f : Rho → Option PyData) (ρ : Rho) : sRet f ρ = retO (f ρ) := by
  unfold sRet ob retO
  cases f ρ <;> rfl
theorem retO_s (d : PyData) : retO (some d) = some (.rt d) := rfl
theorem seqD_l (ds : List PyData) : seqD (.list ds) = some ds := rfl
theorem seqD_t (ds : List PyData) : seqD (.tuple ds) = some ds := rfl
theorem ixD_l (ds : List PyData) (i : Int) : ixD (.list ds) (.int i) = atI ds i := rfl
theorem ixD_t (ds : List PyData) (i : Int) : ixD (.tuple ds) (.int i) = atI ds i := rfl
theorem lenD_l (ds : List PyData) : lenD [.list ds] = some (.int ds.length) := rfl
theorem lenD_t (ds : List PyData) : lenD [.tuple ds] = some (.int ds.length) := rfl
theorem tupleD_l (ds : List PyData) : tupleD [.list ds] = some (.tuple ds) := rfl
theorem tupleD_t (ds : List PyData) : tupleD [.tuple ds] = some (.tuple ds) := rfl
theorem listD_l (ds : List PyData) : listD [.list ds] = some (.list ds) := rfl
theorem listD_t (ds : List PyData) : listD [.tuple ds] = some (.list ds) := rfl
theorem boolD_b (b : Bool) : boolD (.bool b) = some b := rfl
theorem outD_r (d : PyData) : outD (.rt d) = some d := rfl
theorem outD_n (ρ : Rho) : outD (.nx ρ) = some .none := rfl
theorem addD_i (i j : Int) : add2D (.int i) (.int j) = some (.int (i + j)) := rfl
def takO (b : Bool) (o : Option PyData) (i : Nat) (ρ : Rho) : Option Out := match b, o with | true, some d => some (.nx (ρ.set i (some d))) | _, _ => none
theorem sTake_b (i : Nat) (f : Rho → Option PyData) (ρ : Rho) : sTake i f ρ = takO (decide (i < ρ.length)) (f ρ) i ρ := by
  unfold sTake ob takO
  by_cases h : i < ρ.length
  · rw [if_pos h, decide_eq_true h]
    cases f ρ <;> rfl
  · rw [if_neg h, decide_eq_false h]
theorem takO_t (d : PyData) (i : Nat) (ρ : Rho) : takO true (some d) i ρ = some (.nx (ρ.set i (some d))) := rfl
def flaO (o : Option PyData) : Option PyData := match o with | some d => if flat d = true then some d else none | none => none
theorem flatF_b (f : Rho → Option PyData) (ρ : Rho) : flatF f ρ = flaO (f ρ) := by
  unfold flatF ob flaO
  cases f ρ <;> rfl
theorem flaO_s (d : PyData) : flaO (some d) = if flat d = true then some d else none := rfl
def flgO (o : Option PyData) : Option PyData := match o with | some d => if flatO d = true then some d else none | none => none
theorem flatG_b (f : Rho → Option PyData) (ρ : Rho) : flatG f ρ = flgO (f ρ) := by
  unfold flatG ob flgO
  cases f ρ <;> rfl
theorem flgO_s (d : PyData) : flgO (some d) = if flatO d = true then some d else none := rfl
def appO (l d : Option PyData) (i : Nat) (ρ : Rho) : Option Out := match l, d with | some x, some y => setO (appD x y) i ρ | _, _ => none
theorem sApp_b (i : Nat) (f : Rho → Option PyData) (ρ : Rho) : sApp i f ρ = appO (vr i ρ) (f ρ) i ρ := by
  unfold sApp ob appO setO
  cases vr i ρ with
  | none => rfl
  | some x =>
    cases f ρ with
    | none => rfl
    | some y => dsimp only; cases appD x y <;> rfl
theorem appO_s (x y : PyData) (i : Nat) (ρ : Rho) : appO (some x) (some y) i ρ = setO (appD x y) i ρ := rfl
theorem appD_l (ds : List PyData) (d : PyData) : appD (.list ds) d = if ds.length < 1000 then some (.list (ds ++ [d])) else none := rfl
theorem outF_r (d : PyData) : outF (.rt d) = some d := rfl
def sliO (a : Option PyData) (l h : Option (Option Int)) : Option PyData := match a, l, h with | some x, some l, some h => sliD x l h | _, _, _ => none
theorem evS_b (fa : Rho → Option PyData) (fl fh : Rho → Option (Option Int)) (ρ : Rho) : evS fa fl fh ρ = sliO (fa ρ) (fl ρ) (fh ρ) := by
  unfold evS ob sliO
  cases fa ρ <;> cases fl ρ <;> cases fh ρ <;> rfl
theorem sliO_s (x : PyData) (l h : Option Int) : sliO (some x) (some l) (some h) = sliD x l h := rfl
def prtO (a : Option PyData) : Option (Option Int) := match a with | some (.int i) => some (some i) | _ => none
theorem oS_b (f : Rho → Option PyData) (ρ : Rho) : oS f ρ = prtO (f ρ) := by
  unfold oS ob prtO
  cases f ρ with
  | none => rfl
  | some d => cases d <;> rfl
theorem prtO_s (i : Int) : prtO (some (.int i)) = some (some i) := rfl
theorem subD_i (i j : Int) : subD (.int i) (.int j) = some (.int (i - j)) := rfl
theorem negD_i (i : Int) : negD (.int i) = some (.int (-i)) := rfl
theorem ltD2_i (i j : Int) : ltD2 (.int i) (.int j) = some (.bool (decide (i < j))) := by
  show (if _ then ob (ltX (.int i) (.int j)) _ else none) = _
  rw [if_pos ⟨rfl, rfl, Nat.zero_le 60⟩, ltX]
  rfl
theorem gtD_i (i j : Int) : gtD (.int i) (.int j) = some (.bool (decide (j < i))) := rfl
theorem isiT_t (T : String) (ds : List PyData) : isiT T (.tuple ds) = (T == "tuple" || T == "object") := rfl
theorem isiT_l (T : String) (ds : List PyData) : isiT T (.list ds) = (T == "list" || T == "object") := rfl
theorem isiT_i (T : String) (i : Int) : isiT T (.int i) = (T == "int" || T == "object") := rfl
theorem isiT_b (T : String) (b : Bool) : isiT T (.bool b) = (T == "bool" || T == "int" || T == "object") := rfl
theorem isiT_s (T : String) (x : Str) : isiT T (.str x) = (T == "str" || T == "object") := rfl
theorem isiT_n (T : String) : isiT T .none = (T == "NoneType" || T == "object") := rfl
theorem rng1D_i (j : Int) : rng1D [.int j] = if -1000 ≤ j ∧ j ≤ 1000 then some (rngL 0 j.toNat) else none := rfl
section
variable {X : Cx} {G : Gm} {M M' Mb L : List Nat} {fr : Fr} {a b c : Expr} {es : List Expr} {f fk g : Rho → Option PyData} {pos : Pos} {u : Rho → Option Out}
theorem DenL.set {K : PySem.W.Frag} {H : Hp} {S : Av} : ∀ {vs : List V} {ds : List PyData} {v : V} {d : PyData} (j : Nat), DenL K H S vs ds → Den K H S v d → DenL K H S (vs.set j v) (ds.set j d)
  | _, _, _, _, _, .nil, _ => .nil
  | _, _, _, _, 0, .cons _ t, q => .cons q t
  | _, _, _, _, j + 1, .cons h t, q => .cons h (t.set j q)
theorem DenL.erase {K : PySem.W.Frag} {H : Hp} {S : Av} : ∀ {vs : List V} {ds : List PyData} (j : Nat), DenL K H S vs ds → DenL K H S (vs.eraseIdx j) (ds.eraseIdx j)
  | _, _, _, .nil => .nil
  | _, _, 0, .cons _ t => t
  | _, _, j + 1, .cons h t => .cons h (t.erase j)
def setD : PyData → PyData → PyData → Option PyData
  | .list ds, .int k, d => ob (ixN ds.length k) fun j => some (.list (ds.set j d))
  | _, _, _ => none
def sPut (i : Nat) (fk f : Rho → Option PyData) : Rho → Option Out := fun ρ => ob (f ρ) fun d => ob (vr i ρ) fun l => ob (fk ρ) fun k => ob (setD l k d) fun l' => some (.nx (ρ.set i (some l')))
theorem setD_some (e : setD l k d = some l') : ∃ ds n j, l = .list ds ∧ k = .int n ∧ ixN ds.length n = some j ∧ l' = .list (ds.set j d) := by
  unfold setD at e
  split at e
  · obtain ⟨j, e1, e⟩ := ob_some e
    cases e
    exact ⟨_, _, j, rfl, rfl, e1, rfl⟩
  · cases e
theorem pds_putB (i : Nat) {px sp : Pos} (hv : Vis X.env.scope x) (hM : Flt M i) (hL : i ∉ L) (hk : PD X [] b fk) (he : PD X [] a f) (hN : X.N[i]? = some x := by rfl) (hd : (x == ("__debug__" : Str)) = false := by decide +kernel) (hcd : (x == ("__classdict__" : Str)) = false := by decide +kernel)
    (ha : ∀ v, assign (.Subscript (.Name x px) b sp) X.env v = (do
      let ov ← holding [v] (eval (.Name x px) X.env)
      let iv ← holding [v, ov] (eval b X.env)
      standAt sp
      holding [v, ov, iv] (setItem ov iv v)
      release [v, ov, iv] []) := by intro _; rfl)
    (hs : swapsWithSole [.Subscript (.Name x px) b sp] a pos.line X.env = pure false := by rfl) (hw : swappedStores [.Subscript (.Name x px) b sp] a X.env = pure none := by rfl)
    (h1 : (assignEach [.Subscript (.Name x px) b sp] X.env).map (·.2) = [assign (.Subscript (.Name x px) b sp) X.env] := by rfl) :
    PDS X G M L M Mb fr (.Assign [.Subscript (.Name x px) b sp] a pos) (sPut i fk (flatF f)) :=
  (ps_asg he (pg_sub (pe_own i hv hN hd hcd) hk set_list ha) hs hw h1).weak fun D σ H ⟨S, ρ, o, os, e, q⟩ => by
    obtain ⟨d, e1, e⟩ := ob_some e
    obtain ⟨l, e2, e⟩ := ob_some e
    obtain ⟨k, e3, e⟩ := ob_some e
    obtain ⟨l', e4, e⟩ := ob_some e
    cases e
    obtain ⟨ds, n, j, rfl, rfl, ej, rfl⟩ := setD_some e4
    obtain ⟨d', e5, e6⟩ := ob_some e1
    have hf : flat d' = true ∧ d' = d := by
      split at e6
      · rename_i hf; cases e6; exact ⟨hf, rfl⟩
      · cases e6
    obtain ⟨hf, rfl⟩ := hf
    refine ⟨G.S0, ρ, d', os.den, e5, fun v H1 g1 d1' => ?_⟩
    have d1 : Den X.K H1 S v d' := d1'.flat hf
    have os1 := os.same g1
    obtain ⟨pp, a1, b1, c1, n1, w1, _⟩ := os1.own i hM _ (vr_some e2)
    cases b1 with
    | @lst xs _ h t =>
      refine ⟨_, a1, G.S0, ρ, _, os1.den, e3, fun kv H2 g2 dk => ?_⟩
      have os2 := os1.same g2
      refine ⟨pp, xs, n, j, rfl, dk.int_inv, g2 _ _ h, by rw [t.length]; exact ej, ?_⟩
      exact q _ _ _ (os2.write hM hL (vr_some e2) a1 rfl (.lst upd_same (((t.same g2).set j (d1.same g2)).off os2.ds.1 (Off.upd c1))))
def popAtD : PyData → PyData → Option (PyData × PyData)
  | .list ds, .int k => ob (if -1000 ≤ k ∧ k ≤ 1000 then seqIndex? k ds.length else none) fun n => ob (ds[n]?) fun d => some (d, .list (ds.eraseIdx n))
  | _, _ => none
def sPopAt (i j : Nat) (fk : Rho → Option PyData) : Rho → Option Out := fun ρ => ob (vr i ρ) fun l => ob (fk ρ) fun k => ob (popAtD l k) fun r => some (.nx ((ρ.set i (some r.2)).set j (some r.1)))
theorem popAtD_some (e : popAtD l k = some r) : ∃ ds m n d, l = .list ds ∧ k = .int m ∧ (-1000 ≤ m ∧ m ≤ 1000) ∧ seqIndex? m ds.length = some n ∧ ds[n]? = some d ∧ r = (d, .list (ds.eraseIdx n)) := by
  unfold popAtD at e
  split at e
  · obtain ⟨n, e1, e⟩ := ob_some e
    obtain ⟨d, e2, e⟩ := ob_some e
    cases e
    split at e1
    · rename_i hm
      exact ⟨_, _, n, d, rfl, rfl, hm, e1, e2, rfl⟩
    · cases e1
  · cases e
theorem pds_popAt (i j : Nat) {px py apos cpos : Pos} (hv : Vis X.env.scope x) (hM : Flt M i) (hL : i ∉ L) (hj : j ∉ M) (hN2 : X.N.Nodup) (hy : Loc X.env.scope y) (hk : PD X [] b fk) (hN : X.N[i]? = some x := by rfl) (hjN : X.N[j]? = some y := by rfl) (hd : (x == ("__debug__" : Str)) = false := by decide +kernel) (hcd : (x == ("__classdict__" : Str)) = false := by decide +kernel)
    (hf : X.fn y = true ∨ X.env.scope.names.lookup y = some .local := by first | exact .inl rfl | exact .inr rfl | assumption)
    (hbase : attributeBase (.Name x px) "pop" X.env (eval (.Name x px) X.env) = eval (.Name x px) X.env := by rfl)
    (hfew : ((backTo cpos (starEach [b] X.env)).all (fun x => !x.1) && (backToKw cpos (keywordEach [] X.env)).all (fun x => x.1.isSome)
      && decide ([b].length + ([] : List Keyword).length + (if ([] : List Keyword).isEmpty then 0 else 1) < 30)) = true := by rfl)
    (hline : (apos.endLine == cpos.line) = true := by rfl) (hs : starEach [b] X.env = (false, eval b X.env) :: starEach [] X.env := by rfl) (hplain : (backTo cpos (starEach [] X.env)).any (·.1) = false := by rfl)
    (hsw : swapsWith (.Call (.Attribute (.Name x px) "pop" apos) [b] [] cpos) (some (.Name y py)) pos.line X.env = pure false := by rfl) :
    PDS X G M L M Mb fr (.Assign [.Name y py] (.Call (.Attribute (.Name x px) "pop" apos) [b] [] cpos) pos) (sPopAt i j fk) :=
  (ps_set hN2 hjN hy (pe_bm PySem.F.plainAttrs_list PySem.F.slot_list_pop PySem.F.type_list_pop mt_popAt (pe_own i hv hN hd hcd) (pda_cons hk pda_nil hs) hbase hfew hline hs hplain) hsw hf).weak fun D σ H ⟨S, ρ, o, os, e, q⟩ => by
    obtain ⟨l, e1, e⟩ := ob_some e
    obtain ⟨k, e2, e⟩ := ob_some e
    obtain ⟨r, e3, e⟩ := ob_some e
    cases e
    obtain ⟨ds, m, n, d, rfl, rfl, hm, en, ed, rfl⟩ := popAtD_some e3
    obtain ⟨pp, a1, b1, c1, n1, w1, _⟩ := os.own i hM _ (vr_some e1)
    cases b1 with
    | @lst xs _ h t =>
      refine ⟨_, a1, .inl ⟨rfl, _, SqL.of h⟩, G.S0, ρ, [.int m], os.den, by show ob (fk ρ) _ = _; rw [e2]; rfl, fun vs H2 g2 dl => ?_⟩
      obtain ⟨kv, rfl, dk⟩ := dl.inv1
      have os2 := os.same g2
      obtain ⟨v, hv1, dv⟩ := (t.same g2).get ed
      refine ⟨pp, xs, m, n, v, rfl, by rw [dk.int_inv], g2 _ _ h, by omega, by omega, by rw [t.length]; exact en, hv1, ?_⟩
      have os3 := os2.write hM hL (vr_some e1) a1 (d := .list (ds.eraseIdx n)) (o := .lst (xs.eraseIdx n)) rfl (.lst upd_same (((t.same g2).erase n).off os2.ds.1 (Off.upd c1)))
      exact q _ _ _ (os3.set (dv.off os2.ds.1 (Off.upd c1)) hj)
end
end L2
namespace L2
open PySem
def putO (d l k : Option PyData) (i : Nat) (ρ : Rho) : Option Out := match d, l, k with | some d, some l, some k => setO (setD l k d) i ρ | _, _, _ => none
theorem sPut_b (i : Nat) (fk f : Rho → Option PyData) (ρ : Rho) : sPut i fk f ρ = putO (f ρ) (vr i ρ) (fk ρ) i ρ := by
  unfold sPut ob putO setO
  cases f ρ with
  | none => rfl
  | some d =>
    cases vr i ρ with
    | none => rfl
    | some l =>
      cases fk ρ with
      | none => rfl
      | some k => dsimp only; cases setD l k d <;> rfl
theorem putO_s (d l k : PyData) (i : Nat) (ρ : Rho) : putO (some d) (some l) (some k) i ρ = setO (setD l k d) i ρ := rfl
theorem setD_l (ds : List PyData) (k : Int) (d : PyData) : setD (.list ds) (.int k) d = ob (ixN ds.length k) fun j => some (.list (ds.set j d)) := rfl
def popO (r : Option (PyData × PyData)) (i j : Nat) (ρ : Rho) : Option Out := match r with | some r => some (.nx ((ρ.set i (some r.2)).set j (some r.1))) | none => none
def popA (l k : Option PyData) : Option (PyData × PyData) := match l, k with | some l, some k => popAtD l k | _, _ => none
theorem sPopAt_b (i j : Nat) (fk : Rho → Option PyData) (ρ : Rho) : sPopAt i j fk ρ = popO (popA (vr i ρ) (fk ρ)) i j ρ := by
  unfold sPopAt ob popO popA
  cases vr i ρ with
  | none => rfl
  | some l =>
    cases fk ρ with
    | none => rfl
    | some k => dsimp only; cases popAtD l k <;> rfl
theorem popO_s (r : PyData × PyData) (i j : Nat) (ρ : Rho) : popO (some r) i j ρ = some (.nx ((ρ.set i (some r.2)).set j (some r.1))) := rfl
theorem popA_s (l k : PyData) : popA (some l) (some k) = popAtD l k := rfl
end L2
namespace L2
open PySem PySem.Spec PyProof.Rows
def evCh (fa fb fc : Rho → Option PyData) (g g' : PyData → PyData → Option PyData) : Rho → Option PyData := fun ρ => ob (fa ρ) fun x => ob (fb ρ) fun y => ob (g x y) fun z => ob (boolD z) fun k => if k = true then ob (fc ρ) fun w => g' y w else some (.bool false)
section
variable {X : Cx} {M : List Nat} {a b c : Expr} {fa fb fc : Rho → Option PyData} {pos : Pos} {op op' : CmpOp} {g g' : PyData → PyData → Option PyData}
theorem tChD {K : PySem.W.Frag} : ∀ σ H Q, tD K M (evCh fa fb fc g g') σ H Q → tChain (rD2 K g) (rD2 K g') (tD K M fa) (tD K M fb) (tD K M fc) σ H Q := by
  intro σ H Q ⟨S, ρ, d, hs, e, q⟩
  obtain ⟨x, e1, e⟩ := ob_some e
  obtain ⟨y, e2, e⟩ := ob_some e
  obtain ⟨z, e3, e⟩ := ob_some e
  obtain ⟨k, e4, e⟩ := ob_some e
  cases boolD_some e4
  refine ⟨S, ρ, x, hs, e1, fun v H1 g1 d1 => ⟨S, ρ, y, hs.same g1, e2, fun w H2 g2 d2 => ⟨S, x, y, _, hs.1.same (g1.trans g2), d1.same g2, d2, e3, fun zv H3 g3 dz => ⟨k, dz.bool_inv, ?_⟩⟩⟩⟩
  have g123 := g1.trans (g2.trans g3)
  cases k with
  | true =>
    have e : (ob (fc ρ) fun w => g' y w) = some d := e
    obtain ⟨w', e5, e⟩ := ob_some e
    exact iteT ⟨S, ρ, w', hs.same g123, e5, fun wv H4 g4 d4 => ⟨S, y, w', d, hs.1.same (g123.trans g4), d2.same (g3.trans g4), d4, e, fun v5 H5 g5 d5 => q v5 H5 (g123.trans (g4.trans g5)) d5⟩⟩
  | false =>
    cases e
    exact iteF (q _ H3 g123 (.bool false))
theorem pdt_chain (ho : OpD X (compareOp op) g) (ho' : OpD X (compareOp op') g') (ha : PD X M a fa) (hb : PD X M b fb) (hc : PD X M c fc) (hm : lastMarks [op, op'] [b, c] = false := by with_unfolding_all rfl) : PDT X M (.Compare a [op, op'] [b, c] pos) (tV (evCh fa fb fc g g')) :=
  (pt_chain ho ho' ha hb hc hm).weak fun σ H Q ⟨S, ρ, d, hs, e, q⟩ => by
    obtain ⟨x, e1, e⟩ := ob_some e
    cases boolD_some e
    exact tChD σ H _ ⟨S, ρ, _, hs, e1, fun v H1 g1 d1 => ⟨d, d1.bool_inv, q H1 g1⟩⟩
end
def chO (y : Option PyData) (k : Option PyData) (fc : Rho → Option PyData) (g' : PyData → PyData → Option PyData) (ρ : Rho) : Option PyData := match y, k with
  | some y, some (.bool true) => ob (fc ρ) (g' y)
  | some _, some (.bool false) => some (.bool false)
  | _, _ => none
theorem evCh_b (fa fb fc : Rho → Option PyData) (g g' : PyData → PyData → Option PyData) (ρ : Rho) : evCh fa fb fc g g' ρ = chO (fb ρ) (binO (fa ρ) (fb ρ) g) fc g' ρ := by
  unfold evCh ob chO binO boolD
  cases fa ρ with
  | none => cases fb ρ <;> rfl
  | some x =>
    cases fb ρ with
    | none => rfl
    | some y =>
      dsimp only
      cases g x y with
      | none => rfl
      | some z =>
        cases z with
        | bool k => cases k <;> rfl
        | _ => rfl
theorem chO_t (y : PyData) (fc : Rho → Option PyData) (g' : PyData → PyData → Option PyData) (ρ : Rho) : chO (some y) (some (.bool true)) fc g' ρ = ob (fc ρ) (g' y) := rfl
theorem chO_f (y : PyData) (fc : Rho → Option PyData) (g' : PyData → PyData → Option PyData) (ρ : Rho) : chO (some y) (some (.bool false)) fc g' ρ = some (.bool false) := rfl
section
variable {X : Cx} {G : Gm} {M M' Mb L : List Nat} {fr : Fr} {a b c : Expr} {es : List Expr} {f fk g : Rho → Option PyData} {pos : Pos} {u : Rho → Option Out}
def add3D (x y : PyData) : Option PyData := match x, y with
  | .int i, .int j => some (.int (i + j))
  | .list ds, .list es => if ds.length + es.length ≤ 1000 then some (.list (ds ++ es)) else none
  | x, y => add2D x y
def rCatL (K : PySem.W.Frag) : R2 := fun x y H Q => ∃ l b xs zs, x = .ref l ∧ y = .ref b ∧ SqL K H l xs ∧ SqL K H b zs ∧ xs.length + zs.length ≤ sizeLine ∧ ∀ p, H p = none → Q (.ref p) (upd H p (.lst (xs ++ zs)))
theorem op_catL : OpR X (binaryOp .Add) (rCatL X.K) := by
  intro pins s σ H x y v u Q I rx ry h
  obtain ⟨l, b, xs, zs, rfl, rfl, hH, hB, hz, q⟩ := h
  cases rx
  cases ry
  obtain ⟨its, r, ⟨⟨cls, dd, data, sl⟩, n, g1, g2, _, g3⟩, _⟩ := I.list hH
  obtain ⟨its2, r2, ⟨⟨cls2, dd2, data2, sl2⟩, n2, k1, k2, _, k3⟩, _⟩ := I.list hB
  simp only at g2 g3 k2 k3
  subst g2 g3 k2 k3
  have ea : its.toArray ++ its2.toArray = (its ++ its2).toArray := by simp
  have l1 := r.length
  have l2 := r2.length
  refine concat_meets ⟨_, g1, rfl⟩ ⟨_, k1, rfl⟩ noFill_list_add seq_list_add PySem.F.slot_list_add PySem.F.entry_list_add (PySem.F.args_list_add_2 _ _) (list_addW l b its.toArray its2.toArray n n2 dd dd2 sl sl2 (by rw [List.size_toArray, List.size_toArray]; omega)) ⟨g1, k1, ?_⟩
  rw [ea]
  exact ⟨.ref _, _, I.lnew (t' := s.toks) (r.append r2) (by rw [List.length_append]; omega), rfl, q _ I.fresh⟩
theorem d_catL : OpD X (binaryOp .Add) (fun x y => match x, y with | .list ds, .list es => if ds.length + es.length ≤ 1000 then some (.list (ds ++ es)) else none | _, _ => none) := by
  refine opD_of op_catL fun x y dx dy d H S Q m h1 h2 e q => ?_
  split at e
  · split at e
    · rename_i ds es hc
      cases e
      cases h1 with
      | list a1 t1 =>
        cases h2 with
        | list a2 t2 =>
          exact ⟨_, _, _, _, rfl, rfl, a1.sq, a2.sq, by rw [t1.length, t2.length]; exact Nat.le_of_lt (small1000 hc), fun p hp => q _ _ (Same.lay hp) (.list (SqLS.new upd_same (m.free hp)) ((t1.append t2).same (Same.lay hp)))⟩
    · cases e
  · cases e
theorem d_add3 : OpD X (binaryOp .Add) add3D := by
  intro pins s σ H x y v u Q I rx ry h
  obtain ⟨S, dx, dy, d, m, h1, h2, e, q⟩ := h
  unfold add3D at e
  split at e
  · exact d_add2 pins s σ H x y v u Q I rx ry ⟨S, _, _, d, m, h1, h2, e, q⟩
  · exact d_catL pins s σ H x y v u Q I rx ry ⟨S, _, _, d, m, h1, h2, e, q⟩
  · exact d_add2 pins s σ H x y v u Q I rx ry ⟨S, _, _, d, m, h1, h2, e, q⟩
theorem add3D_i (i j : Int) : add3D (.int i) (.int j) = some (.int (i + j)) := rfl
theorem add3D_l (ds es : List PyData) (h : ds.length + es.length ≤ 1000) : add3D (.list ds) (.list es) = some (.list (ds ++ es)) := if_pos h
end
section
variable {X : Cx} {M : List Nat} {a : Expr} {es : List Expr} {f : Rho → Option PyData} {pos : Pos}
theorem compT_n (k : Nat) (g : PyData → Rho → Option Rho) (tt : Rho → Option Bool) (te : Rho → Option PyData) (ρ : Rho) : compT k g tt te ρ [] = some [] := rfl
end
def k1Of : PyData → Option (Int ⊕ List Int)
  | .int i => some (.inl i)
  | .tuple ds => ob (intsOf ds) fun js => some (.inr js)
  | _ => none
def k1sOf : List PyData → Option K2
  | [] => some []
  | d :: ds => ob (k1Of d) fun k => ob (k1sOf ds) fun ks => some (k :: ks)
def k2Of : PyData → Option K2
  | .tuple ds => k1sOf ds
  | _ => none
theorem k1Of_some (e : k1Of d = some k) : d = k2D k := by
  unfold k1Of at e
  split at e
  · cases e; rfl
  · obtain ⟨js, e1, e⟩ := ob_some e
    cases e
    rw [intsOf_some e1]; rfl
  · cases e
theorem k1sOf_some : ∀ {ds : List PyData} {ks : K2}, k1sOf ds = some ks → ds = ks.map k2D
  | [], _, e => by cases e; rfl
  | d :: ds, _, e => by
    obtain ⟨k, e1, e⟩ := ob_some e
    obtain ⟨ks, e2, e⟩ := ob_some e
    cases e
    rw [k1Of_some e1, k1sOf_some e2]; rfl
theorem k2Of_some (e : k2Of d = some ks) : d = k2T ks := by
  unfold k2Of at e
  split at e
  · rw [k1sOf_some e]; rfl
  · cases e
def kxOf : PyData → Option KX
  | .int i => some (.inl i)
  | d => ob (k2Of d) fun ks => some (.inr ks)
theorem kxOf_some (e : kxOf d = some k) : d = kxD k := by
  unfold kxOf at e
  split at e
  · cases e; rfl
  · obtain ⟨ks, e1, e⟩ := ob_some e
    cases e
    exact k2Of_some e1
def kOk (kvs : List (PyData × PyData)) (k : KX) : Bool := kvs.all fun p => isIntD p.1 == kxI k
theorem ints_can : ∀ js : List Int, PyData.canLayAll0 (js.map .int) = true
  | [] => rfl
  | j :: js => by rw [List.map_cons, PyData.canLayAll0, PyData.canLay0, ints_can js]; rfl
theorem k2_can : ∀ ks : K2, PyData.canLayAll0 (ks.map k2D) = true
  | [] => rfl
  | .inl i :: ks => by rw [List.map_cons, PyData.canLayAll0, k2_can ks]; rfl
  | .inr js :: ks => by
    rw [List.map_cons, PyData.canLayAll0, k2_can ks]
    show (PyData.canLay0 (.tuple (js.map .int)) && true) = true
    rw [PyData.canLay0, ints_can]; rfl
theorem k2T_can (ks : K2) : (k2T ks).canLay0 = true := by unfold k2T; rw [PyData.canLay0]; exact k2_can ks
theorem kOk_exc (c : Str) (z : Int) (d : PyData) (ks : KX) : kOk [(.str c, d), (.int z, .none)] ks = false := by
  cases ks with
  | inl i => rfl
  | inr k => rfl
theorem exc_no {α β : Type} {a : Option β} {g : β → KX} {F : β → Option α} {c : Str} {z : Int} {d : PyData} {r : α} (e : (ob a fun ks => if kOk [(.str c, d), (.int z, .none)] (g ks) = true then F ks else none) = some r) : False := by
  obtain ⟨ks, _, e⟩ := ob_some e
  rw [kOk_exc] at e
  cases e
def findD (kvs : List (PyData × PyData)) (ks : KX) : Option PyData := (kvs.find? fun p => PyData.eqv p.1 (kxD ks)).map (·.2)
def putD (kvs : List (PyData × PyData)) (ks : KX) (v : PyData) : List (PyData × PyData) :=
  if (findD kvs ks).isSome = true then kvs.map (fun p => if PyData.eqv p.1 (kxD ks) = true then (p.1, v) else p) else kvs ++ [(kxD ks, v)]
def putV (kvs : List (KX × Addr × V)) (ks : KX) (b : Addr) (v : V) : List (KX × Addr × V) :=
  if (kvs.any fun p => decide (p.1 = ks)) = true then kvs.map (fun p => if p.1 = ks then (p.1, p.2.1, v) else p) else kvs ++ [(ks, b, v)]
section
variable {K : PySem.W.Frag} {H : Hp} {S : Av}
theorem dkv_cons (p : KX × Addr × V) (kvs : List (KX × Addr × V)) (d : PyData) (ds : List PyData) : dkv (p :: kvs) (d :: ds) = (kxD p.1, d) :: dkv kvs ds := rfl
theorem findD_pos  (e : k = ks) : findD ((kxD k, d) :: kvs) ks = some d := by
  unfold findD
  rw [List.find?_cons, eqv_kxD, decide_eq_true e]; rfl
theorem findD_neg  (e : k ≠ ks) : findD ((kxD k, d) :: kvs) ks = findD kvs ks := by
  unfold findD
  rw [List.find?_cons, eqv_kxD, decide_eq_false e]
theorem snoc_pairs {α β : Type} {R : α → β → Prop} {a : α} {b : β} : ∀ {as : List α} {bs : List β}, Paired R as bs → R a b → Paired R (as ++ [a]) (bs ++ [b])
  | _, _, .nil, h => .cons h .nil
  | _, _, .cons h t, q => .cons h (snoc_pairs t q)
theorem put_map {ks : KX} {v : V} {d : PyData} (dv : Den K H S v d) : ∀ {kvs : List (KX × Addr × V)} {ds : List PyData}, DenL K H S (kvs.map (·.2.2)) ds → ∃ ds', DenL K H S ((kvs.map fun p => if p.1 = ks then (p.1, p.2.1, v) else p).map (·.2.2)) ds' ∧ dkv (kvs.map fun p => if p.1 = ks then (p.1, p.2.1, v) else p) ds' = (dkv kvs ds).map (fun p => if PyData.eqv p.1 (kxD ks) = true then (p.1, d) else p) := by
  intro kvs
  induction kvs with
  | nil => intro ds t; cases t; exact ⟨[], .nil, rfl⟩
  | cons p kvs ih =>
    intro ds t
    cases t with
    | @cons _ d0 _ ds dv0 t' =>
      obtain ⟨ds', h1, h2⟩ := ih t'
      rw [List.map_cons, List.map_cons, dkv_cons, List.map_cons, eqv_kxD]
      by_cases e : p.1 = ks
      · refine ⟨d :: ds', ?_, ?_⟩
        · rw [if_pos e]; exact .cons dv h1
        · rw [if_pos e, dkv_cons, h2, if_pos (decide_eq_true e)]
      · refine ⟨d0 :: ds', ?_, ?_⟩
        · rw [if_neg e]; exact .cons dv0 h1
        · rw [if_neg e, dkv_cons, h2, if_neg (fun z => e (of_decide_eq_true z))]
theorem dkv_snoc {kvs : List (KX × Addr × V)} {ds : List PyData} (hl : kvs.length = ds.length) (p : KX × Addr × V) (d : PyData) : dkv (kvs ++ [p]) (ds ++ [d]) = dkv kvs ds ++ [(kxD p.1, d)] := by
  unfold dkv
  rw [List.map_append, List.zip_append (by rw [List.length_map, hl])]
  rfl
theorem put_vals {b : Addr}  {kvs : List (KX × Addr × V)} (t : DenL K H S (kvs.map (·.2.2)) ds) (dv : Den K H S v d) (he : (kvs.any fun p => decide (p.1 = ks)) = (findD (dkv kvs ds) ks).isSome) :
    ∃ ds', DenL K H S ((putV kvs ks b v).map (·.2.2)) ds' ∧ dkv (putV kvs ks b v) ds' = putD (dkv kvs ds) ks d := by
  have hl : kvs.length = ds.length := by
    have := t.length
    rwa [List.length_map] at this
  unfold putV putD
  rw [he]
  split
  · exact put_map dv t
  · refine ⟨ds ++ [d], ?_, dkv_snoc hl _ _⟩
    rw [List.map_append]
    exact t.append (.cons dv .nil)
theorem put_keys  {kvs : List (KX × Addr × V)} (k : DenL K H S (kvs.map fun p => kxV p.1 p.2.1) (kvs.map fun p => kxD p.1)) (dk : Den K H S (kxV ks b) (kxD ks)) : DenL K H S ((putV kvs ks b v).map fun p => kxV p.1 p.2.1) ((putV kvs ks b v).map fun p => kxD p.1) := by
  unfold putV
  split
  · have e1 : (kvs.map fun p => if p.1 = ks then (p.1, p.2.1, v) else p).map (fun p => kxV p.1 p.2.1) = kvs.map fun p => kxV p.1 p.2.1 := by
      rw [List.map_map]
      refine List.map_congr_left fun p _ => ?_
      show kxV (if p.1 = ks then (p.1, p.2.1, v) else p).1 (if p.1 = ks then (p.1, p.2.1, v) else p).2.1 = _
      split <;> rfl
    have e2 : (kvs.map fun p => if p.1 = ks then (p.1, p.2.1, v) else p).map (fun p => kxD p.1) = kvs.map fun p => kxD p.1 := by
      rw [List.map_map]
      refine List.map_congr_left fun p _ => ?_
      show kxD (if p.1 = ks then (p.1, p.2.1, v) else p).1 = _
      split <;> rfl
    rw [e1, e2]; exact k
  · rw [List.map_append, List.map_append]
    exact k.append (.cons dk .nil)
end
section
variable {K : PySem.W.Frag} {H : Hp} {S : Av}
theorem kOk_dkv {kvs : List (KX × Addr × V)} {ds : List PyData} (hl : kvs.length = ds.length) (h : kOk (dkv kvs ds) k = true) : ∀ p ∈ kvs, kxI p.1 = kxI k := by
  intro p hp
  have hm : kxD p.1 ∈ (dkv kvs ds).map (·.1) := by rw [dkv_keys hl]; exact List.mem_map.mpr ⟨p, hp, rfl⟩
  obtain ⟨q, hq, e⟩ := List.mem_map.mp hm
  have := List.all_eq_true.mp h q hq
  rw [e, isIntD_kxD] at this
  simpa using this
theorem find_relT (ks : K2) : ∀ {kvs : List (KX × Addr × V)} {xs : List (K2 × Addr × Value)} {ds : List PyData}, Paired PkT kvs xs → DenL K H S (kvs.map (·.2.2)) ds →
    (findD (dkv kvs ds) (.inr ks) = none ∧ atKey xs ks = none ∧ (kvs.any fun p => decide (p.1 = .inr ks)) = false) ∨ ∃ d b y u, findD (dkv kvs ds) (.inr ks) = some d ∧ atKey xs ks = some (b, u) ∧ RelV y u ∧ Den K H S y d ∧ (kvs.any fun p => decide (p.1 = .inr ks)) = true := by
  intro kvs
  induction kvs with
  | nil =>
    intro _ _ r t
    cases r
    cases t
    exact .inl ⟨rfl, rfl, rfl⟩
  | cons p kvs ih =>
    intro _ _ r t
    cases r with
    | @cons _ q _ qs h r' =>
      cases t with
      | @cons _ d _ ds dv t' =>
        rw [dkv_cons]
        by_cases e : p.1 = .inr ks
        · refine .inr ⟨d, q.2.1, p.2.2, q.2.2, findD_pos e, ?_, h.2.2, dv, by rw [List.any_cons, decide_eq_true e, Bool.true_or]⟩
          unfold atKey
          have eq : q.1 = ks := Sum.inr.inj (h.1.symm.trans e)
          rw [List.find?_cons, decide_eq_true eq]; rfl
        · have e' : ¬ q.1 = ks := fun z => e (by rw [h.1, z])
          have ea : atKey (q :: qs) ks = atKey qs ks := by
            unfold atKey
            rw [List.find?_cons, decide_eq_false e']
          rw [findD_neg e, ea, List.any_cons, decide_eq_false e, Bool.false_or]
          exact ih r' t'
theorem find_relI (i : Int) : ∀ {kvs : List (KX × Addr × V)} {vs : List (Int × Value)} {ds : List PyData}, Paired PkI kvs vs → DenL K H S (kvs.map (·.2.2)) ds →
    (findD (dkv kvs ds) (.inl i) = none ∧ valueAt vs i = none ∧ (kvs.any fun p => decide (p.1 = .inl i)) = false) ∨ ∃ d y u, findD (dkv kvs ds) (.inl i) = some d ∧ valueAt vs i = some u ∧ RelV y u ∧ Den K H S y d ∧ (kvs.any fun p => decide (p.1 = .inl i)) = true := by
  intro kvs
  induction kvs with
  | nil =>
    intro _ _ r t
    cases r
    cases t
    exact .inl ⟨rfl, rfl, rfl⟩
  | cons p kvs ih =>
    intro _ _ r t
    cases r with
    | @cons _ q _ qs h r' =>
      cases t with
      | @cons _ d _ ds dv t' =>
        rw [dkv_cons]
        by_cases e : p.1 = .inl i
        · refine .inr ⟨d, p.2.2, q.2, findD_pos e, ?_, h.2, dv, by rw [List.any_cons, decide_eq_true e, Bool.true_or]⟩
          unfold valueAt
          have eq : q.1 = i := Sum.inl.inj (h.1.symm.trans e)
          rw [List.find?_cons, decide_eq_true eq]; rfl
        · have e' : ¬ q.1 = i := fun z => e (by rw [h.1, z])
          have ea : valueAt (q :: qs) i = valueAt qs i := by
            unfold valueAt
            rw [List.find?_cons, decide_eq_false e']
          rw [findD_neg e, ea, List.any_cons, decide_eq_false e, Bool.false_or]
          exact ih r' t'
theorem put_pairsT  (rv : RelV v u) : ∀ {kvs : List (KX × Addr × V)} {xs : List (K2 × Addr × Value)}, Paired PkT kvs xs → Paired PkT (kvs.map fun p => if p.1 = .inr ks then (p.1, p.2.1, v) else p) (xs.map (putAt ks u))
  | [], _, r => by cases r; exact .nil
  | p :: kvs, _, r => by
    cases r with
    | @cons _ q _ qs h r' =>
      rw [List.map_cons, List.map_cons]
      refine .cons ?_ (put_pairsT rv r')
      unfold putAt
      by_cases e : p.1 = .inr ks
      · have eq : q.1 = ks := Sum.inr.inj (h.1.symm.trans e)
        rw [if_pos e, if_pos eq]; exact ⟨h.1, h.2.1, rv⟩
      · rw [if_neg e, if_neg (fun z => e (by rw [h.1, z]))]; exact h
theorem put_relT {ks : K2} {b : Addr} {v : V} {u : Value} {kvs : List (KX × Addr × V)} {xs : List (K2 × Addr × Value)} (r : Paired PkT kvs xs) (rv : RelV v u) (he : (kvs.any fun p => decide (p.1 = .inr ks)) = (atKey xs ks).isSome) : Paired PkT (putV kvs (.inr ks) b v) (storedH xs ks b u) := by
  unfold putV storedH
  rw [he]
  split
  · exact put_pairsT rv r
  · exact snoc_pairs r ⟨rfl, rfl, rv⟩
theorem put_pairsI  (rv : RelV v u) : ∀ {kvs : List (KX × Addr × V)} {xs : List (Int × Value)}, Paired PkI kvs xs → Paired PkI (kvs.map fun p => if p.1 = .inl i then (p.1, p.2.1, v) else p) (xs.map fun q => if q.1 = i then (q.1, u) else q)
  | [], _, r => by cases r; exact .nil
  | p :: kvs, _, r => by
    cases r with
    | @cons _ q _ qs h r' =>
      rw [List.map_cons, List.map_cons]
      refine .cons ?_ (put_pairsI rv r')
      by_cases e : p.1 = .inl i
      · have eq : q.1 = i := Sum.inl.inj (h.1.symm.trans e)
        rw [if_pos e, if_pos eq]; exact ⟨h.1, rv⟩
      · rw [if_neg e, if_neg (fun z => e (by rw [h.1, z]))]; exact h
theorem any_pkI (i : Int) : ∀ {kvs : List (KX × Addr × V)} {xs : List (Int × Value)}, Paired PkI kvs xs → (kvs.any fun p => decide (p.1 = .inl i)) = xs.any fun q => decide (q.1 = i)
  | _, _, .nil => rfl
  | _, _, @Paired.cons _ _ _ p q _ _ h t => by
    rw [List.any_cons, List.any_cons, any_pkI i t]
    by_cases e : p.1 = .inl i
    · rw [decide_eq_true e, decide_eq_true (Sum.inl.inj (h.1.symm.trans e) : q.1 = i)]
    · rw [decide_eq_false e, decide_eq_false (fun z => e (by rw [h.1, z]) : ¬ q.1 = i)]
theorem put_relI {i : Int} {b : Addr} {v : V} {u : Value} {kvs : List (KX × Addr × V)} {xs : List (Int × Value)} (r : Paired PkI kvs xs) (rv : RelV v u) : Paired PkI (putV kvs (.inl i) b v) (stored xs i u) := by
  unfold putV stored
  rw [any_pkI i r]
  split
  · exact put_pairsI rv r
  · exact snoc_pairs r ⟨rfl, rv⟩
end
section
variable {X : Cx} {pins : List (Addr × Obj)} {σ : St} {H : Hp} {s : Shared} {S : Av}
theorem keys_at (I : Inv X pins σ H s) : ∀ {kvs : List (KX × Addr × V)} {xs : List (K2 × Addr × Value)}, Paired PkT kvs xs → DenL X.K H S (kvs.map fun p => kxV p.1 p.2.1) (kvs.map fun p => kxD p.1) → ∀ x ∈ xs, Is2 s.heap x.1 x.2.1
  | _, _, .nil, _, x, hx => by cases hx
  | _, _, @Paired.cons _ _ _ p q kvs qs h t, k, x, hx => by
    cases k with
    | cons dk k' =>
      have dk : Den X.K H S (kxV p.1 p.2.1) (kxD p.1) := dk
      rcases List.mem_cons.mp hx with rfl | hx
      · rw [h.1] at dk
        obtain ⟨as, r⟩ := Den.reads I dk (k2T_can _) (u := Value.ref x.2.1) (by rw [h.2.1]; rfl)
        exact ⟨as, r⟩
      · exact keys_at I t k' x hx
theorem dct_ofT (I : Inv X pins σ H s) {kvs : List (KX × Addr × V)} (h : H a = some (DctO a kvs ep)) (k : DenL X.K H S (kvs.map fun p => kxV p.1 p.2.1) (kvs.map fun p => kxD p.1)) (hk : ∀ p ∈ kvs, kxI p.1 = false) :
    kvs.length ≤ sizeLine ∧ (a == sysModules) = false ∧ ∃ xs : List (K2 × Addr × Value), Paired PkT kvs xs ∧ s.heap.DictOfH (kind2 X.prog X.w) a xs := by
  have d := DctAt.of (I.hok a _ h)
  obtain ⟨xs, pk, o, es, h1, h2, h3, h4, h5⟩ := d.tup hk
  exact ⟨d.1, d.2.1, xs, pk, o, es, ep, h1, h2, h3, h4, keys_at I pk k, h5⟩
theorem pairs_of : ∀ {es : List DictEntry} {vs : List (Int × Value)}, Paired EnI es vs → Pairs (intKind P w) es vs
  | _, _, .nil => .nil
  | _, _, .cons h t => by
    obtain ⟨_, ⟨tk, h2⟩, h3⟩ := h
    exact .cons (by rw [h2]; exact intKind_is P w _ tk) h3 (pairs_of t)
theorem keysOf_of {es : Array DictEntry} (h : Paired EnI es.toList vs) : PySem.KeysOf (intKind P w) es := by
  intro e he
  have he : e ∈ es.toList := Array.mem_toList_iff.mpr he
  generalize es.toList = l at h he
  induction h with
  | nil => cases he
  | @cons a b as bs h t ih =>
    rcases List.mem_cons.mp he with rfl | he
    · obtain ⟨h1, ⟨tk, h2⟩, _⟩ := h
      exact ⟨b.1, by rw [h2]; exact intKind_is P w _ tk, h1⟩
    · exact ih he
theorem pairs_back : ∀ {es : List DictEntry} {vs : List (Int × Value)}, Pairs (intKind P w) es vs → (∀ e ∈ es, ∃ k, (intKind P w).is k e.key = true ∧ e.hash = (intKind P w).hash k) → Paired EnI es vs
  | _, _, .nil, _ => .nil
  | _, _, .cons h1 h2 t, hk => by
    refine .cons ?_ (pairs_back t fun e he => hk e (.tail _ he))
    obtain ⟨k, g1, g2⟩ := hk _ (.head _)
    obtain ⟨tk, e⟩ := Value.isInt_shape h1
    have hkk := (intKind P w).inj _ _ _ g1 h1
    exact ⟨by rw [g2, hkk]; rfl, ⟨tk, e⟩, h2⟩
theorem dct_ofI (I : Inv X pins σ H s)  (h : H a = some (DctO a kvs ep)) (hk : ∀ p ∈ kvs, kxI p.1 = true) :
    kvs.length ≤ sizeLine ∧ (a == sysModules) = false ∧ ∃ vs : List (Int × Value), Paired PkI kvs vs ∧ s.heap.DictOf (intKind X.prog X.w) a vs := by
  have d := DctAt.of (I.hok a _ h)
  obtain ⟨vs, pk, o, es, h1, h2, h3, h4, h5⟩ := d.int hk
  exact ⟨d.1, d.2.1, vs, pk, o, es, ep, h1, h2, h3, keysOf_of h4, pairs_of h4, h5⟩
theorem key_is (I : Inv X pins σ H s)  (d : Den X.K H S y (k2T ks)) (r : RelV y u) : ∃ b, y = .ref b ∧ u = .ref b ∧ Is2 s.heap ks b := by
  obtain ⟨a, xs, e, _, _⟩ := d.tuple_inv
  subst e
  cases (show u = Value.ref a from r)
  obtain ⟨as, q⟩ := d.reads I (k2T_can ks) (u := .ref a) rfl
  exact ⟨a, rfl, rfl, as, q⟩
theorem key_int  (d : Den X.K H S y (.int i)) (r : RelV y u) : y = .int i ∧ ∃ t, u = .int i t := by
  cases d
  exact ⟨rfl, r⟩
end
def dgetD (d k : PyData) : Option PyData := match d with
  | .dict kvs => ob (kxOf k) fun ks => if kOk kvs ks = true then findD kvs ks else none
  | _ => none
def ix2D (d k : PyData) : Option PyData := match d with
  | .dict kvs => dgetD (.dict kvs) k
  | d => ixD d k
def dget2D (d k x : PyData) : Option PyData := match d with
  | .dict kvs => ob (kxOf k) fun ks => if kOk kvs ks = true then some ((findD kvs ks).getD x) else none
  | _ => none
def dputD (d k v : PyData) : Option PyData := match d with
  | .dict kvs => ob (kxOf k) fun ks => if kOk kvs ks = true ∧ kvs.length < 1000 then some (.dict (putD kvs ks v)) else none
  | _ => none
section
variable {X : Cx} {pins : List (Addr × Obj)} {σ : St} {H : Hp} {s : Shared} {S : Av} {A : Around} {E : Value → Shared → Prop} {a : Addr} {kvs : List (KX × Addr × V)} {ep : Nat} {ds : List PyData} {ks : KX} {y x v : V} {u r : Value} {d dx : PyData}
theorem room2 {A : Around} (hu : A.units + 64 < cLine) : A.in1.units + 3 < cLine := by show A.units + 1 + 3 < cLine; omega
theorem dct_type (I : Inv X pins σ H s) (h : H a = some (DctO a kvs ep)) : s.TypeIs (.ref a) "dict" ∧ ∃ o, s.heap.get? a = some o ∧ o.dict = none := by
  obtain ⟨o, es, h1, h2, _⟩ := (DctAt.of (I.hok a _ h)).vals
  exact ⟨⟨o, h1, h2.1⟩, o, h1, h2.2.1⟩
theorem dg_item {Q : Value → Shared → Prop} (hu : A.units + 64 < cLine) (I : Inv X pins σ H s) (h : H a = some (DctO a kvs ep)) (k : DenL X.K H S (kvs.map fun p => kxV p.1 p.2.1) (kvs.map fun p => kxD p.1)) (t : DenL X.K H S (kvs.map (·.2.2)) ds) (hk : ∀ p ∈ kvs, kxI p.1 = kxI ks)
    (dy : Den X.K H S y (kxD ks)) (ry : RelV y u) (e : findD (dkv kvs ds) ks = some d) (q : ∀ v w' s', Inv X pins σ H s' → RelV v w' → Den X.K H S v d → Q w' s') : wpAny (model X.prog X.w) A (getItem (.ref a) u) Q E s := by
  cases ks with
  | inr ks =>
    obtain ⟨z, hs, xs, pk, dd⟩ := dct_ofT I h k hk
    obtain ⟨b, rfl, rfl, hk⟩ := key_is I dy ry
    rcases find_relT ks pk t with ⟨e1, _, _⟩ | ⟨d', b', v, w', e1, e2, rv, dv, _⟩
    · rw [e] at e1; cases e1
    · rw [e] at e1
      cases e1
      exact wpAny_getItem_heap (knd := kind2 X.prog X.w) (room2 hu) hk dd e2 (q v w' _ (I.tok _) rv dv)
  | inl i =>
    obtain ⟨z, hs, vs, pk, dd⟩ := dct_ofI I h hk
    obtain ⟨rfl, t', rfl⟩ := key_int dy ry
    rcases find_relI i pk t with ⟨e1, _, _⟩ | ⟨d', v, w', e1, e2, rv, dv, _⟩
    · rw [e] at e1; cases e1
    · rw [e] at e1
      cases e1
      exact wpAny_getItem_of (intKind_is _ _ i t') dd.mapOf e2 (q v w' _ (I.tok _) rv dv)
theorem dg_get2 {Q : Value → Shared → Prop} (hu : A.units + 64 < cLine) (I : Inv X pins σ H s) (h : H a = some (DctO a kvs ep)) (k : DenL X.K H S (kvs.map fun p => kxV p.1 p.2.1) (kvs.map fun p => kxD p.1)) (t : DenL X.K H S (kvs.map (·.2.2)) ds) (hk : ∀ p ∈ kvs, kxI p.1 = kxI ks)
    (dy : Den X.K H S y (kxD ks)) (ry : RelV y u) (dxv : Den X.K H S x dx) (rx : RelV x r) (q : ∀ v w' s', Inv X pins σ H s' → RelV v w' → Den X.K H S v ((findD (dkv kvs ds) ks).getD dx) → Q w' s') : wpAny (model X.prog X.w) A (call (.builtin "dict.get") [.ref a, u, r]) Q E s := by
  cases ks with
  | inr ks =>
    obtain ⟨z, hs, xs, pk, dd⟩ := dct_ofT I h k hk
    obtain ⟨b, rfl, rfl, hk⟩ := key_is I dy ry
    refine call_meetsIn PySem.F.slot_dict_get dd.typeIs PySem.F.entry_dict_get (PySem.F.args_dict_get_3 _ _ _) (meetsH_dict_get_default (kind2 X.prog X.w) a b hs r) ⟨room2 hu, ks, xs, hk, dd, ?_⟩
    rcases find_relT ks pk t with ⟨e1, e2, _⟩ | ⟨d', b', v, w', e1, e2, rv, dv, _⟩
    · rw [e1] at q; rw [e2]; exact q _ _ _ (I.tok _) rx dxv
    · rw [e1] at q; rw [e2]; exact q _ _ _ (I.tok _) rv dv
  | inl i =>
    obtain ⟨z, hs, vs, pk, dd⟩ := dct_ofI I h hk
    obtain ⟨rfl, t', rfl⟩ := key_int dy ry
    refine call_meetsIn PySem.F.slot_dict_get dd.typeIs PySem.F.entry_dict_get (PySem.F.args_dict_get_3 _ _ _) (meets_dict_get_default (intKind X.prog X.w) a (intKind_is _ _ i t') hs r) ⟨_, dd.mapOf, ?_⟩
    rcases find_relI i pk t with ⟨e1, e2, _⟩ | ⟨d', v, w', e1, e2, rv, dv, _⟩
    · rw [e1] at q; rw [e2]; exact q _ _ _ (I.tok _) rx dxv
    · rw [e1] at q; rw [e2]; exact q _ _ _ (I.tok _) rv dv
def rSetDc (K : PySem.W.Frag) : TSet := fun o i v H Q => ∃ S p kvs ep ks ds d, o = .ref p ∧ H p = some (DctO p kvs ep) ∧ DenL K H S (kvs.map fun p => kxV p.1 p.2.1) (kvs.map fun p => kxD p.1) ∧ DenL K H S (kvs.map (·.2.2)) ds ∧ (∀ p ∈ kvs, kxI p.1 = kxI ks) ∧ Den K H S i (kxD ks) ∧ Den K H S v d ∧ kvs.length < 1000 ∧ ∀ b ep', i = kxV ks b → Q (upd H p (DctO p (putV kvs ks b v) ep'))
theorem putV_len (kvs : List (KX × Addr × V)) (ks : KX) (b : Addr) (v : V) : (putV kvs ks b v).length ≤ kvs.length + 1 := by
  unfold putV
  split
  · rw [List.length_map]; omega
  · rw [List.length_append, List.length_singleton]; omega
theorem set_dict (hu : X.A.units + 64 < cLine) : PSet X (rSetDc X.K) := by
  intro pins s σ H o i v ov iv u Q I ro ri rv h
  obtain ⟨S, p, kvs, ep, ks, ds, d, rfl, hp, k, t, hk, di, dv, hz, q⟩ := h
  cases ro
  have z1000 : 1000 < sizeLine := small1000 (Nat.le_refl _)
  cases ks with
  | inr ks =>
    obtain ⟨z, hs, xs, pk, dd⟩ := dct_ofT I hp k hk
    obtain ⟨b, rfl, rfl, hk⟩ := key_is I di ri
    have hxl : xs.length ≤ sizeLine := by rw [← Paired.length pk]; exact z
    have he : (kvs.any fun p => decide (p.1 = .inr ks)) = (atKey xs ks).isSome := by
      rcases find_relT ks pk t with ⟨_, e2, e3⟩ | ⟨_, _, _, _, _, e2, _, _, e3⟩
      · rw [e2, e3]; rfl
      · rw [e2, e3]; rfl
    refine wpAny_setItem_heap (knd := kind2 X.prog X.w) (hsz := hxl) (room2 hu) hk dd fun h' dd' hs' => ?_
    obtain ⟨o, es, ep', g1, g2, g3, g4, _, g5⟩ := dd'
    have dct : DctAt p (putV kvs (.inr ks) b v) ep' h' := ⟨by have := putV_len kvs (.inr ks) b v; omega, hs, .inl ⟨_, put_relT pk rv he, o, es, g1, g2, g3, g4, g5⟩⟩
    exact ⟨_, I.write (x := p) (e := p) (by rw [hp]; exact True.intro) (.inl rfl) (fun c o' hc e => (hs'.2 c hc).trans e) ⟨o, g1⟩ dct.ok, q b ep' rfl⟩
  | inl i =>
    obtain ⟨z, hs, vs, pk, dd⟩ := dct_ofI I hp hk
    obtain ⟨rfl, t', rfl⟩ := key_int di ri
    have hxl : vs.length ≤ sizeLine := by rw [← Paired.length pk]; exact z
    refine wpAny_setItem_pairs (hsz := hxl) (intKind_is _ _ i t') dd fun h' dd' hs' => ?_
    obtain ⟨o, es, ep', g1, g2, g3, g4, g4', g5⟩ := dd'
    have dct : DctAt p (putV kvs (.inl i) 0 v) ep' h' := ⟨by have := putV_len kvs (.inl i) 0 v; omega, hs, .inr ⟨_, put_relI pk rv, o, es, g1, g2, g3, pairs_back g4' fun e he => g4 e (Array.mem_toList_iff.mp he), g5⟩⟩
    exact ⟨_, I.write (x := p) (e := p) (by rw [hp]; exact True.intro) (.inl rfl) (fun c o' hc e => (hs'.2 c hc).trans e) ⟨o, g1⟩ dct.ok, q 0 ep' rfl⟩
end
section
variable {prog : Program} {w : World} {A : Around} {E : Value → Shared → Prop} {s : Shared}
theorem it_dict {od : Obj}  {Q : Value → Shared → Prop} (hd : (d == sysModules) = false) (ho : s.heap.get? d = some od) (hx : od.ExactDict) (hdat : od.data = .dict es ep)
    (hQ : Q (.ref s.heap.objs.size) { s with heap := s.heap.push { cls := .type "dict_keyiterator", data := .fields #[.ref d, .int 0 0, .int es.size 0, .int ep 0] } }) : wpAny (model prog w) A (pyIter (.ref d)) Q E s := by
  have hT : s.TypeIs (.ref d) "dict" := ⟨od, ho, hx.1⟩
  refine wpAny_pyIter_slot hT F.slot_dict_iter (wpAny_call_entry F.slot_dict_iter hT F.entry_dict_iter (id ?_) (F.args_dict_iter_1 _))
  unfold Builtin.«dict.__iter__»
  refine wpAny_bind (id ?_)
  unfold Builtin.Dict.dictSlotNone
  refine wpAny_bind (wpAny_notOrdered_dict hT (id ?_ : wpAny _ _ (pure (Value.ref d)) _ _ s))
  refine wpAny_pure (id ?_ : wpAny _ _ (Builtin.Dict.showsAll d >>= _) _ _ s)
  unfold Builtin.Dict.showsAll
  rw [if_neg (fun z => by rw [hd] at z; cases z)]
  refine wpAny_bind (wpAny_pure (wpAny_bind (wpAny_dictEntries ho hdat (wpAny_bind (wpAny_dictEpoch ho hdat ?_)))))
  refine wpAny_bind (wpAny_newObj_type (wpAny_pure ⟨_, rfl, "dict_keyiterator", _, ⟨_, Heap.get?_push_size _ rfl, rfl⟩, F.slot_dict_keyiterator_next.lookup, by simpa [rawInt] using hQ⟩))
theorem nx_dict_item {od : Obj} {es : Array DictEntry}  {Q : Option Value → Shared → Prop} (hit : s.heap.IsKeyIter it d i es.size ep) (hod : s.heap.get? d = some od) (hdd : od.data = .dict es ep) (hx : es[i]? = some e)
    (hQ : ∀ h', h'.IsKeyIter it d (i + 1) es.size ep → Heap.SameBut it s.heap h' → Q (some e.key) { s with heap := h' }) : wpAny (model prog w) A (pyNext (.ref it)) Q E s := by
  obtain ⟨o, ho, hc, hd⟩ := id hit
  unfold pyNext
  refine wpAny_bind (wpAny_attempt (wpAny_callSpecial?_slot (name := Str.ofString "__next__") hit.typeIs F.slot_dict_keyiterator_next (wpAny_call_entry F.slot_dict_keyiterator_next hit.typeIs F.entry_dict_keyiterator_next (wpAny_bind (wpAny_pure (wpAny_bind (wpAny_bind ?_)))) (F.args_dict_keyiterator_next_1 _))))
  first | refine wpAny_bind (wpAny_typeNameOfWhole_keyiter hit.typeIs (wpAny_pure (wpAny_bind (wpAny_fieldsOf ho hd ?_)))) | refine wpAny_bind (wpAny_typeNameOf_keyiter hit.typeIs (wpAny_pure (wpAny_bind (wpAny_fieldsOf ho hd ?_))))
  have hown : Builtin.Dict_items.ownsTuple "dict_keyiterator" = false := rfl
  simp only [Bool.false_eq_true, hown, if_false]
  refine (id ?_ : wpAny _ _ (if (Value.ref d == Value.none) = true then _ else _) _ _ s)
  rw [if_neg (fun z => Bool.false_ne_true z : ¬ ((Value.ref d == Value.none) = true))]
  refine wpAny_bind (wpAny_pure (wpAny_bind (wpAny_dictEntries hod hdd ?_)))
  rw [if_neg (by simp)]
  refine wpAny_bind (wpAny_pure (wpAny_bind (wpAny_dictEpoch hod hdd ?_)))
  rw [if_neg (by simp)]
  refine wpAny_pure (id ?_)
  have hlt : i < es.size := (Array.getElem?_eq_some_iff.mp hx).1
  have hee : es[i] = e := (Array.getElem?_eq_some_iff.mp hx).2
  simp only [show ¬ ((i : Int) < 0) from by omega, Int.toNat_natCast, if_false, Array.getElem?_eq_getElem hlt, hee]
  refine wpAny_bind (id ?_)
  first | refine wpAny_bind (wpAny_typeNameOfWhole_keyiter hit.typeIs (wpAny_pure (wpAny_bind (wpAny_isOneOf_keyiter hit.typeIs ?_)))) | refine wpAny_bind (wpAny_typeNameOf_keyiter hit.typeIs (wpAny_pure (wpAny_bind (wpAny_isOneOf_keyiter hit.typeIs ?_))))
  refine (wpAny_bind (wpAny_setField ho hd (by simp) ?_) : wpAny _ _ (setField (.ref it) 1 (rawInt ((i : Int) + 1)) >>= _) _ _ s)
  have hit' : (s.heap.update it (Obj.mapFields (·.setIfInBounds 1 (rawInt ((i : Int) + 1))))).IsKeyIter it d (i + 1) es.size ep := ⟨_, Heap.get?_update_self _ ho (Obj.isFreed_of_fields (Obj.data_mapFields hd _)), (Obj.cls_mapFields ..).trans hc, by rw [Obj.data_mapFields hd]; simp [rawInt]⟩
  refine wpAny_bind (wpAny_holding (wpAny_bind (wpAny_isOneOf_keyiter (s := { s with heap := s.heap.update it (Obj.mapFields (·.setIfInBounds 1 (rawInt ((i : Int) + 1)))) }) hit'.typeIs (id ?_ : wpAny _ _ (pure e.key) _ _ _))))
  exact wpAny_pure (wpAny_pure ⟨_, rfl, wpAny_pure (hQ _ hit' (Heap.SameBut.update ..))⟩)
theorem nx_dict_end {od : Obj} {es : Array DictEntry} {Q : Option Value → Shared → Prop} (hh : A.handled = none) (hit : s.heap.IsKeyIter it d i es.size ep) (hod : s.heap.get? d = some od) (hdd : od.data = .dict es ep) (hge : es.size ≤ i)
    (hQ : ∀ h', Heap.ExtBut it s.heap h' → Q none { s with heap := h' }) : wpAny (model prog w) A (pyNext (.ref it)) Q E s := by
  obtain ⟨o, ho, hc, hd⟩ := id hit
  unfold pyNext
  refine wpAny_bind (wpAny_attempt (wpAny_callSpecial?_slot (name := Str.ofString "__next__") hit.typeIs F.slot_dict_keyiterator_next (wpAny_call_entry F.slot_dict_keyiterator_next hit.typeIs F.entry_dict_keyiterator_next (wpAny_bind (wpAny_pure (wpAny_bind (wpAny_bind ?_)))) (F.args_dict_keyiterator_next_1 _))))
  first | refine wpAny_bind (wpAny_typeNameOfWhole_keyiter hit.typeIs (wpAny_pure (wpAny_bind (wpAny_fieldsOf ho hd ?_)))) | refine wpAny_bind (wpAny_typeNameOf_keyiter hit.typeIs (wpAny_pure (wpAny_bind (wpAny_fieldsOf ho hd ?_))))
  have hown : Builtin.Dict_items.ownsTuple "dict_keyiterator" = false := rfl
  simp only [Bool.false_eq_true, hown, if_false]
  refine (id ?_ : wpAny _ _ (if (Value.ref d == Value.none) = true then _ else _) _ _ s)
  rw [if_neg (fun z => Bool.false_ne_true z : ¬ ((Value.ref d == Value.none) = true))]
  refine wpAny_bind (wpAny_pure (wpAny_bind (wpAny_dictEntries hod hdd ?_)))
  rw [if_neg (by simp)]
  refine wpAny_bind (wpAny_pure (wpAny_bind (wpAny_dictEpoch hod hdd ?_)))
  rw [if_neg (by simp)]
  refine wpAny_pure (id ?_)
  simp only [show ¬ ((i : Int) < 0) from by omega, Int.toNat_natCast, if_false, Array.getElem?_eq_none hge]
  refine wpAny_bind (id ?_)
  first | refine wpAny_bind (wpAny_typeNameOfWhole_keyiter hit.typeIs (wpAny_pure (id ?_))) | refine wpAny_bind (wpAny_typeNameOf_keyiter hit.typeIs (wpAny_pure (id ?_)))
  refine (wpAny_bind (wpAny_setField ho hd (by simp) ?_) : wpAny _ _ (setField (.ref it) 0 .none >>= _) _ _ s)
  refine (wpAny_bind ?_ : wpAny _ _ (newExc (.type "StopIteration") [] >>= _) _ _ _)
  simp only [newExc, newTuple]
  refine wpAny_bind (wpAny_newObj_type (wpAny_bind (m := firstArgMember _ _) (wpAny_of_eq (a := Value.none) (by first | rfl | (simp only [firstArgMember]; rfl)) (wpAny_newObj_type ?_ (by size_fits)))) (by size_fits))
  simp only [raiseNew]
  refine wpAny_bind (wpAny_handled (id ?_))
  rw [show A.in1.handled = none from hh]
  refine wpAny_bind (wpAny_pure (wpAny_throw (id ?_)))
  exact wpAny_bind (wpAny_isInstance (T := "StopIteration") (b := true) ⟨_, Heap.get?_push_size _ rfl, rfl⟩ isSubtype_stop (wpAny_pure (hQ _ (((Heap.SameBut.update ..).extBut.push _).push _))))
end
def Itd (a : Addr) (kvs : List (KX × Addr × V)) (ep : Nat) : It :=
  ⟨fun i H => H a = some (DctO a kvs ep) ∧ i < kvs.length, fun i H x H' => H' = H ∧ ∃ p, kvs[i]? = some p ∧ x = kxV p.1 p.2.1, fun i H => H a = some (DctO a kvs ep) ∧ kvs.length ≤ i⟩
theorem dct_entries {h : Heap} {kvs : List (KX × Addr × V)} (d : DctAt a kvs ep h) : ∃ o es, h.get? a = some o ∧ o.ExactDict ∧ o.data = .dict es ep ∧ es.size = kvs.length ∧ ∀ (i : Nat) p, kvs[i]? = some p → ∃ e, es[i]? = some e ∧ RelV (kxV p.1 p.2.1) e.key ∧ RelV p.2.2 e.val := by
  obtain ⟨o, es, h1, h2, h3, vk, vv⟩ := d.vals
  have hsz : es.size = kvs.length := by
    have := vk.length
    rw [List.length_map, List.length_map, Array.length_toList] at this
    exact this.symm
  refine ⟨o, es, h1, h2, h3, hsz, fun i p hp => ?_⟩
  have hi : i < es.size := by rw [hsz]; exact (List.getElem?_eq_some_iff.mp hp).1
  refine ⟨es[i], Array.getElem?_eq_getElem hi, ?_, ?_⟩
  · obtain ⟨u, hu, ru⟩ := vk.get (i := i) (x := kxV p.1 p.2.1) (by rw [List.getElem?_map, hp]; rfl)
    rw [List.getElem?_map, Array.getElem?_toList, Array.getElem?_eq_getElem hi] at hu
    cases hu
    exact ru
  · obtain ⟨u, hu, ru⟩ := vv.get (i := i) (x := p.2.2) (by rw [List.getElem?_map, hp]; rfl)
    rw [List.getElem?_map, Array.getElem?_toList, Array.getElem?_eq_getElem hi] at hu
    cases hu
    exact ru
theorem turn_dict {P : Program} {w : World} {K : PySem.W.Frag} {tg : Expr} (a it : Addr) (kvs : List (KX × Addr × V)) (ep : Nat) : Turn P w K tg (Itd a kvs ep) [it] it (fun i h => h.IsKeyIter it a i kvs.length ep) where
  mem := by simp
  obj := fun i h st b hb => by
    have e : b = it := by simpa using hb
    subst e
    obtain ⟨o, e, c, d⟩ := st
    exact ⟨o, e, fun v z => by rw [d] at z; cases z⟩
  keep := fun i h h' st k => st.at fun o e => k it (by simp) o e
  item := by
    intro X hP hw hK hc i pins s σ H E I hf st hg
    subst hP hw hK
    obtain ⟨hq, hlt⟩ := hg
    obtain ⟨o, es, h1, h2, h3, hsz, hkey⟩ := dct_entries (DctAt.of (I.hok a _ hq))
    obtain ⟨e, he, hk, _⟩ := hkey i kvs[i] (List.getElem?_eq_getElem hlt)
    obtain ⟨f0, f1, f2, f3, f4, f5⟩ := hf it (by simp)
    have st' : s.heap.IsKeyIter it a i es.size ep := by rw [hsz]; exact st
    refine nx_dict_item st' h1 h3 he fun h' st2 sb => ?_
    have I1 : Inv X pins σ H { s with heap := h' } := I.turned (t' := s.toks) (fun b o hb e => (sb.2 b hb).trans e) f0 f1 f3 f4 f5
    obtain ⟨o2, e2, c2, d2⟩ := id st2
    refine ⟨e.key, rfl, go_of (s := { s with heap := h' }) e2 c2 d2 (by decide) ⟨kxV kvs[i].1 kvs[i].2.1, H, I1, hk, ⟨rfl, _, List.getElem?_eq_getElem hlt, rfl⟩, by rw [hsz] at st2; exact st2, fun b hb => (hf b hb).1⟩⟩
  done := by
    intro X hP hw hK hc i pins s σ H E I hf st hg
    subst hP hw hK
    obtain ⟨hq, hge⟩ := hg
    obtain ⟨o, es, h1, h2, h3, hsz, hkey⟩ := dct_entries (DctAt.of (I.hok a _ hq))
    obtain ⟨f0, f1, f2, f3, f4, f5⟩ := hf it (by simp)
    have st' : s.heap.IsKeyIter it a i es.size ep := by rw [hsz]; exact st
    exact nx_dict_end (I.ok.hd hc) st' h1 h3 (by omega) fun h' eb => ⟨rfl, I.turned (t' := s.toks) (fun b o hb e => eb b o hb e) f0 f1 f3 f4 f5⟩
  self := fun _ _ _ _ _ st h => wpAny_pyIter_keyiter st h
def iDct (tl : TE) : TI := fun σ H R => tl σ H fun x H1 => ∃ a kvs ep, x = .ref a ∧ H1 a = some (DctO a kvs ep) ∧ R (Itd a kvs ep) H1
section
variable {X : Cx} {M : List Nat} {a : Expr} {f : Rho → Option PyData}
theorem pi_dict {tg l : Expr} {tl : TE} (hl : PE X l tl) : PI X tg l (iDct tl) := by
  intro pins s σ H R I h
  refine thn (hl pins s σ H _ I h) fun v s1 ⟨x, H1, I1, r1, p, kvs, ep, ex, hq, q⟩ => ?_
  subst ex
  cases r1
  have d := DctAt.of (I1.hok p _ hq)
  obtain ⟨o, es, h1, h2, h3, hsz, _⟩ := dct_entries d
  refine it_dict d.2.1 h1 h2 h3 ?_
  rw [hsz]
  refine ⟨s1.heap.objs.size, [s1.heap.objs.size], _, _, H1, rfl, I1.kept (t' := s1.toks) fun b o e => Heap.get?_push_of_some _ e, turn_dict p _ kvs ep, ⟨_, Heap.get?_push_size _ rfl, rfl, rfl⟩, fun b hb => ?_, q⟩
  have e : b = s1.heap.objs.size := by simpa using hb
  subst e
  exact I1.fpOk (Nat.le_refl _) (I1.hok.fresh (Nat.le_refl _))
theorem IsIt.dct {K : PySem.W.Frag} {H : Hp} {S : Av} {l : Addr} {kvs : List (KX × Addr × V)} {ep : Nat} (h : H l = some (DctO l kvs ep)) (k : DenL K H S (kvs.map fun p => kxV p.1 p.2.1) (kvs.map fun p => kxD p.1)) : IsIt K S (Itd l kvs ep) H (kvs.map fun p => kxD p.1) where
  go := fun i H' e hi => ⟨e _ _ h, by rwa [List.length_map] at hi⟩
  yld := fun i H' x H2 e ⟨e2, p, hp, ex⟩ => ⟨by rw [e2]; exact Same.refl _, fun d hd S' w => by
    obtain ⟨v, h1, h2⟩ := k.get hd
    rw [List.getElem?_map, hp] at h1
    cases h1
    rw [ex]
    exact w _ _ h2⟩
  stop := fun H' e => ⟨e _ _ h, by rw [List.length_map]; exact Nat.le_refl _⟩
def keysD : PyData → Option (List PyData)
  | .dict kvs => if excK kvs = true then none else some (kvs.map (·.1))
  | _ => none
theorem pdi_dict (h : PD X M a f) : PDI X M tg a (evI f keysD) :=
  (pi_dict h).weak fun σ H R ⟨S, ρ, ds, hs, e, w⟩ => by
    obtain ⟨x, e1, e⟩ := ob_some e
    refine ⟨S, ρ, x, hs, e1, fun v H1 g1 d1 => ?_⟩
    cases d1 with
    | @dict p kvs ep ds' h k t =>
      have hl : kvs.length = ds'.length := by
        have := t.length
        rwa [List.length_map] at this
      have e : (if excK (dkv kvs ds') = true then none else some ((dkv kvs ds').map (·.1))) = some ds := e
      rw [excK_dkv, dkv_keys hl] at e
      cases e
      exact ⟨p, kvs, ep, rfl, h.1, w _ _ g1 fun H2 o => IsIt.dct (o _ _ h.2 h.1) (k.off (hs.1.same g1) o)⟩
    | _ => cases e
end
def rIxDc (K : PySem.W.Frag) : R2 := fun x y H Q => ∃ S a kvs ep ks ds d, x = .ref a ∧ H a = some (DctO a kvs ep) ∧ DenL K H S (kvs.map fun p => kxV p.1 p.2.1) (kvs.map fun p => kxD p.1) ∧ DenL K H S (kvs.map (·.2.2)) ds ∧ (∀ p ∈ kvs, kxI p.1 = kxI ks) ∧ Den K H S y (kxD ks) ∧ findD (dkv kvs ds) ks = some d ∧ ∀ v, Den K H S v d → Q v H
section
variable {X : Cx} {G : Gm} {M M' Mb L : List Nat} {fr : Fr} {a b c : Expr} {es : List Expr} {f fk fx g fa fb : Rho → Option PyData} {pos : Pos} {u : Rho → Option Out}
theorem ix_dict (hu : X.A.units + 64 < cLine) : IxR X (rIxDc X.K) := by
  intro value slice pins s σ H x y v u Q I rx ry h hs
  obtain ⟨S, p, kvs, ep, ks, ds, d, rfl, hp, k, t, hk, dy, e, q⟩ := h
  cases rx
  exact tail_any (dct_type I hp).1 PySem.F.slot_dict_getitem.lookup (dg_item hu I hp k t hk dy ry e fun v' w' s' I' r' d' => ⟨v', H, I', r', q v' d'⟩) hs
theorem pd_ix2 (hr : Room k X.A) (ha : PD X M a fa) (hb : PD X M b fb) (hs : PlainIx b := by intro _ _; rfl) : PD X M (.Subscript a b pos) (ev2 fa fb ix2D) :=
  (pe_ix (r := fun x y H Q => (rIxL X.K x y H Q ∨ rIxT X.K x y H Q) ∨ rIxDc X.K x y H Q) ((ix_list.or ix_tup).or (ix_dict hr.units)) ha hb hs).weak fun σ H Q ⟨S, ρ, d, hs, e, q⟩ => by
    obtain ⟨x, e1, e⟩ := ob_some e
    obtain ⟨y, e2, e⟩ := ob_some e
    refine ⟨S, ρ, x, hs, e1, fun v H1 g1 d1 => ⟨S, ρ, y, hs.same g1, e2, fun w H2 g2 d2 => ?_⟩⟩
    have d1' := d1.same g2
    cases d1' with
    | list h t =>
      cases d2 with
      | int i =>
        obtain ⟨z, h1, h2⟩ := t.atI e
        exact .inl (.inl ⟨_, _, i, z, rfl, rfl, h.sq, h1, q z H2 (g1.trans g2) h2⟩)
      | _ => cases e
    | tuple h t =>
      cases d2 with
      | int i =>
        obtain ⟨z, h1, h2⟩ := t.atI e
        exact .inl (.inr ⟨_, _, i, z, rfl, rfl, h, h1, q z H2 (g1.trans g2) h2⟩)
      | _ => cases e
    | @dict p kvs ep ds h k t =>
      have e : ob (kxOf y) (fun ks => if kOk (dkv kvs ds) ks = true then findD (dkv kvs ds) ks else none) = some d := e
      obtain ⟨ks, e3, e⟩ := ob_some e
      have hl : kvs.length = ds.length := by
        have := t.length
        rwa [List.length_map] at this
      split at e
      case isFalse => cases e
      rename_i hok
      rw [kxOf_some e3] at d2
      exact .inr ⟨S, p, kvs, ep, ks, ds, d, rfl, h.1, k, t, kOk_dkv hl hok, d2, e, fun v' d' => q v' H2 (g1.trans g2) d'⟩
    | exc0 h o => exact (exc_no (g := id) e).elim
    | exc1 h o x z t => exact (exc_no (g := id) e).elim
    | ins h o => exact (exc_no (g := id) e).elim
    | _ => cases e
theorem pf_dict0 : PF X M (.Dict [] [] pos) (kd (.dict [])) := fun pins s σ H Q I ⟨S, ρ, d, hs, e, q⟩ => by
  cases e
  have hb : sysModules < s.heap.objs.size := Nat.lt_trans (by decide) (show mainGlobals < s.heap.objs.size from (I.mod.glob.keeps I.bk).lt)
  have hn := I.hok.fresh (Nat.le_refl s.heap.objs.size)
  have dct : DctAt s.heap.objs.size [] 0 (s.heap.push { cls := .type "dict", data := .dict #[] }) := ⟨Nat.zero_le _, beq_eq_false_iff_ne.mpr (Ne.symm (Nat.ne_of_lt hb)), .inl ⟨[], .nil, _, #[], Heap.get?_push_size _ rfl, ⟨rfl, rfl, rfl⟩, rfl, rfl, List.nodup_nil⟩⟩
  exact wpAny_Dict_empty ⟨.ref s.heap.objs.size, _, I.laid (a := s.heap.objs.size) (o := DctO s.heap.objs.size [] 0) (t' := s.toks) (fun _ _ q => Heap.get?_push_of_some _ q) (Nat.le_refl _) dct.ok, rfl, q _ _ (Same.lay hn) hn (.dct (kvs := []) (ds := []) upd_same .nil .nil)⟩
def ev3 (f g h : Rho → Option PyData) (r : PyData → PyData → PyData → Option PyData) : Rho → Option PyData := fun ρ => ob (f ρ) fun x => ob (g ρ) fun y => ob (h ρ) fun z => r x y z
theorem pd_get2 {apos cpos : Pos} (hr : Room k X.A) (ho : PD X M o f) (he : PD X M a fk) (hx : PD X M b fx)
    (hbase : attributeBase o "get" X.env (eval o X.env) = eval o X.env := by rfl)
    (hfew : ((backTo cpos (starEach [a, b] X.env)).all (fun x => !x.1) && (backToKw cpos (keywordEach [] X.env)).all (fun x => x.1.isSome)
      && decide ([a, b].length + ([] : List Keyword).length + (if ([] : List Keyword).isEmpty then 0 else 1) < 30)) = true := by rfl)
    (hline : (apos.endLine == cpos.line) = true := by rfl) (htr : backTo cpos (starEach [a, b] X.env) = [(false, eval a X.env), (false, eval b X.env)] := by rfl) :
    PD X M (.Call (.Attribute o "get" apos) [a, b] [] cpos) (ev3 f fk fx dget2D) := by
  intro pins s σ H Q I ⟨S, ρ, d, hs, e, q⟩
  obtain ⟨x, e1, e⟩ := ob_some e
  obtain ⟨y, e2, e⟩ := ob_some e
  obtain ⟨z, e3, e⟩ := ob_some e
  refine wpAny_Call_method hbase hfew hline PySem.F.plainAttrs_dict PySem.F.slot_dict_get PySem.F.type_dict_get (thn (ho pins s σ H (fun v H1 => Same H H1 ∧ Den X.K H1 S v x) I ⟨S, ρ, x, hs, e1, fun v H1 g1 d1 => ⟨g1, d1⟩⟩) fun v s1 ⟨xv, H1, I1, rx, g1, d1⟩ => ?_)
  cases d1 with
  | @dict p kvs ep ds h kk t =>
    have e : ob (kxOf y) (fun ks => if kOk (dkv kvs ds) ks = true then some ((findD (dkv kvs ds) ks).getD z) else none) = some d := e
    obtain ⟨ks, e4, e⟩ := ob_some e
    have hl : kvs.length = ds.length := by
      have := t.length
      rwa [List.length_map] at this
    split at e
    case isFalse => cases e
    rename_i hok
    cases e
    obtain rfl : v = Value.ref p := rx
    refine ⟨(dct_type I1 h.1).1, fun a' q' => ?_, ?_⟩
    · cases q'
      exact (dct_type I1 h.1).2
    rw [htr]
    refine Calls.callWith_builtin rfl (Calls.evalArgs_plain (Calls.spliced_cons (thn (he pins s1 σ H1 (fun v H2 => Same H1 H2 ∧ Den X.K H2 S v y) I1 ⟨S, ρ, y, hs.same g1, e2, fun v H2 g2 d2 => ⟨g2, d2⟩⟩) fun kv s2 ⟨yv, H2, I2, ry, g2, d2⟩ =>
      Calls.spliced_cons (thn (hx pins s2 σ H2 (fun v H3 => Same H2 H3 ∧ Den X.K H3 S v z) I2 ⟨S, ρ, z, hs.same (g1.trans g2), e3, fun v H3 g3 d3 => ⟨g3, d3⟩⟩) fun zv s3 ⟨zz, H3, I3, rz, g3, d3⟩ => Calls.spliced_nil ?_))))
    have g23 := g2.trans g3
    rw [kxOf_some e4] at d2
    exact dg_get2 hr.units I3 (g23 _ _ h.1) (kk.same g23) (t.same g23) (kOk_dkv hl hok) (d2.same g3) ry d3 rz fun v' w' s' I' r' dv => ⟨v', H3, I', r', q v' H3 (g1.trans g23) dv⟩
  | exc0 h o => exact (exc_no (g := id) e).elim
  | exc1 h o x z t => exact (exc_no (g := id) e).elim
  | ins h o => exact (exc_no (g := id) e).elim
  | _ => cases e
def sDput (i : Nat) (fk f : Rho → Option PyData) : Rho → Option Out := fun ρ => ob (f ρ) fun d => ob (vr i ρ) fun l => ob (fk ρ) fun k => ob (dputD l k d) fun l' => some (.nx (ρ.set i (some l')))
theorem flat_k1 (js : List Int) : flatL (js.map .int) = true := by
  induction js with
  | nil => rfl
  | cons j js ih => exact ih
theorem flat_k2 : ∀ ks : K2, flatL (ks.map k2D) = true
  | [] => rfl
  | .inl _ :: ks => flat_k2 ks
  | .inr js :: ks => by
    show (flatL (js.map .int) && flatL (ks.map k2D)) = true
    rw [flat_k1, flat_k2]; rfl
theorem flat_kxD (k : KX) : flat (kxD k) = true := by
  cases k with
  | inl i => rfl
  | inr ks => exact flat_k2 ks
theorem dputD_some (e : dputD l k d = some l') : ∃ kvs ks, l = .dict kvs ∧ k = kxD ks ∧ kOk kvs ks = true ∧ kvs.length < 1000 ∧ l' = .dict (putD kvs ks d) := by
  unfold dputD at e
  split at e
  · obtain ⟨ks, e1, e⟩ := ob_some e
    split at e
    · rename_i hc; cases e; exact ⟨_, ks, rfl, kxOf_some e1, hc.1, hc.2, rfl⟩
    · cases e
  · cases e
theorem own_dput {kvs : List (KX × Addr × V)} {ep : Nat} {ds : List PyData} {S : Av} {σ : St} {ρ : Rho} {H : Hp} {i : Nat} {pp b : Addr} {ks : KX} {v : V} {d : PyData} {ep' : Nat} (os : OwnS X.K G M L H S σ ρ) (hM : Flt M i) (hL : i ∉ L) (e0 : ρ[i]? = some (some (.dict (dkv kvs ds)))) (a1 : σ[i]? = some (some (.ref pp))) (c1 : S pp) (h : H pp = some (DctO pp kvs ep)) (k : DenL X.K H S (kvs.map fun p => kxV p.1 p.2.1) (kvs.map fun p => kxD p.1)) (t : DenL X.K H S (kvs.map (·.2.2)) ds) (dk : Den X.K H S (kxV ks b) (kxD ks)) (dv : Den X.K H S v d)
    (he : (kvs.any fun p => decide (p.1 = ks)) = (findD (dkv kvs ds) ks).isSome) : OwnS X.K G M L (upd H pp (DctO pp (putV kvs ks b v) ep')) S σ (ρ.set i (some (.dict (putD (dkv kvs ds) ks d)))) := by
  obtain ⟨ds', t', ed⟩ := put_vals (b := b) t dv he
  refine os.write hM hL e0 a1 rfl ?_
  rw [← ed]
  exact .dct upd_same ((put_keys k dk).off os.ds.1 (Off.upd c1)) (t'.off os.ds.1 (Off.upd c1))
theorem any_find {K : PySem.W.Frag} {H : Hp} {S : Av} (ks : KX) : ∀ {kvs : List (KX × Addr × V)} {ds : List PyData}, DenL K H S (kvs.map (·.2.2)) ds → (kvs.any fun p => decide (p.1 = ks)) = (findD (dkv kvs ds) ks).isSome
  | [], _, t => by cases t; rfl
  | p :: kvs, _, t => by
    cases t with
    | @cons _ d _ ds dv t' =>
      rw [dkv_cons, List.any_cons]
      by_cases e : p.1 = ks
      · rw [findD_pos e, decide_eq_true e]; rfl
      · rw [findD_neg e, decide_eq_false e, Bool.false_or]; exact any_find ks t'
theorem dkv_len {kvs : List (KX × Addr × V)} {ds : List PyData} (h : kvs.length = ds.length) : (dkv kvs ds).length = kvs.length := by
  unfold dkv
  rw [List.length_zip, List.length_map, h, Nat.min_self]
def PQ (X : Cx) (a : Expr) (f : Rho → Option PyData) : Prop := PE X a fun σ H Q => ∃ S ρ d, DenS X.K H S [] σ ρ ∧ f ρ = some d ∧ ∀ v H', Same H H' → (∀ S', Dm S' H → Den X.K H' S' v d) → Q v H'
theorem pq_flat (h : PD X [] a f) : PQ X a (flatF f) := h.weak fun σ H Q ⟨S, ρ, d, hs, e, q⟩ => by
  obtain ⟨d', e1, e⟩ := ob_some e
  split at e
  · rename_i hf
    cases e
    exact ⟨S, ρ, d, hs, e1, fun v H' g dv => q v H' g fun S' _ => dv.flat hf⟩
  · cases e
theorem pds_dputQ {k : Nat} (hr : Room k X.A) (i : Nat) {x : Str} {px sp : Pos} (hv : Vis X.env.scope x) (hM : Flt M i) (hL : i ∉ L) (hk : PD X [] b fk) (he : PQ X a f) (hN : X.N[i]? = some x := by rfl) (hd : (x == ("__debug__" : Str)) = false := by decide +kernel) (hcd : (x == ("__classdict__" : Str)) = false := by decide +kernel)
    (ha : ∀ v, assign (.Subscript (.Name x px) b sp) X.env v = (do
      let ov ← holding [v] (eval (.Name x px) X.env)
      let iv ← holding [v, ov] (eval b X.env)
      standAt sp
      holding [v, ov, iv] (setItem ov iv v)
      release [v, ov, iv] []) := by intro _; rfl)
    (hs : swapsWithSole [.Subscript (.Name x px) b sp] a pos.line X.env = pure false := by rfl) (hw : swappedStores [.Subscript (.Name x px) b sp] a X.env = pure none := by rfl)
    (h1 : (assignEach [.Subscript (.Name x px) b sp] X.env).map (·.2) = [assign (.Subscript (.Name x px) b sp) X.env] := by rfl) :
    PDS X G M L M Mb fr (.Assign [.Subscript (.Name x px) b sp] a pos) (sDput i fk f) :=
  (ps_asg he (pg_sub (pe_own i hv hN hd hcd) hk (set_dict hr.units) ha) hs hw h1).weak fun D σ H ⟨S, ρ, o, os, e, q⟩ => by
    obtain ⟨d', e1, e⟩ := ob_some e
    obtain ⟨l, e2, e⟩ := ob_some e
    obtain ⟨kd, e3, e⟩ := ob_some e
    obtain ⟨l', e4, e⟩ := ob_some e
    cases e
    obtain ⟨kvs0, ks, rfl, rfl, hok, hz, rfl⟩ := dputD_some e4
    refine ⟨G.S0, ρ, d', os.den, e1, fun v H1 g1 d1' => ?_⟩
    have d1 : Den X.K H1 S v d' := d1' S os.ds.1
    have os1 := os.same g1
    obtain ⟨pp, a1, b1, c1, n1, w1, _⟩ := os1.own i hM _ (vr_some e2)
    cases b1 with
    | @dct kvs ep ds h kk t =>
      refine ⟨_, a1, G.S0, ρ, _, os1.den, e3, fun kv H2 g2 dk => ?_⟩
      have os2 := os1.same g2
      have dk : Den X.K H2 S kv (kxD ks) := dk.flat (flat_kxD ks)
      have hl : kvs.length = ds.length := by
        have := t.length
        rwa [List.length_map] at this
      rw [dkv_len hl] at hz
      refine ⟨S, pp, kvs, ep, ks, ds, d', rfl, g2 _ _ h, kk.same g2, t.same g2, kOk_dkv hl hok, dk, d1.same g2, hz, fun b' ep' eb => ?_⟩
      subst eb
      exact q _ _ _ (own_dput os2 hM hL (vr_some e2) a1 c1 (g2 _ _ h) (kk.same g2) (t.same g2) dk (d1.same g2) (any_find ks t))
theorem pds_dputB {k : Nat} (hr : Room k X.A) (i : Nat) {x : Str} {px sp : Pos} (hv : Vis X.env.scope x) (hM : Flt M i) (hL : i ∉ L) (hk : PD X [] b fk) (he : PD X [] a f) (hN : X.N[i]? = some x := by rfl) (hd : (x == ("__debug__" : Str)) = false := by decide +kernel) (hcd : (x == ("__classdict__" : Str)) = false := by decide +kernel)
    (ha : ∀ v, assign (.Subscript (.Name x px) b sp) X.env v = (do
      let ov ← holding [v] (eval (.Name x px) X.env)
      let iv ← holding [v, ov] (eval b X.env)
      standAt sp
      holding [v, ov, iv] (setItem ov iv v)
      release [v, ov, iv] []) := by intro _; rfl)
    (hs : swapsWithSole [.Subscript (.Name x px) b sp] a pos.line X.env = pure false := by rfl) (hw : swappedStores [.Subscript (.Name x px) b sp] a X.env = pure none := by rfl)
    (h1 : (assignEach [.Subscript (.Name x px) b sp] X.env).map (·.2) = [assign (.Subscript (.Name x px) b sp) X.env] := by rfl) :
    PDS X G M L M Mb fr (.Assign [.Subscript (.Name x px) b sp] a pos) (sDput i fk (flatF f)) := pds_dputQ hr i hv hM hL hk (pq_flat he) hN hd hcd ha hs hw h1
end
theorem Kids.length {K : PySem.W.Frag} {H : Hp} {S : Av} {qs : List Addr} {ds : List PyData} (h : Kids K H S qs ds) : qs.length = ds.length := by
  induction h with
  | nil => rfl
  | cons _ _ _ _ r => rw [List.length_cons, List.length_cons, r]
section
open PySem.SeqAt
open PySem.AutoSeq1 (wpAny_loadPart')
open PySem.MeetsSeq PySem.MeetsSeq2 PySem.MeetsSeq3
end
end L2
namespace L2
open PySem
def nxdO (o : Option PyData) (i : Nat) (ρ : Rho) : Option Out := match o with | some l => some (.nx (ρ.set i (some l))) | none => none
theorem nxdO_s (l : PyData) (i : Nat) (ρ : Rho) : nxdO (some l) i ρ = some (.nx (ρ.set i (some l))) := rfl
def dpO (d l k : Option PyData) (i : Nat) (ρ : Rho) : Option Out := match d, l, k with | some d, some l, some k => nxdO (dputD l k d) i ρ | _, _, _ => none
theorem dpO_s (d l k : PyData) (i : Nat) (ρ : Rho) : dpO (some d) (some l) (some k) i ρ = nxdO (dputD l k d) i ρ := rfl
theorem sDput_b (i : Nat) (fk f : Rho → Option PyData) (ρ : Rho) : sDput i fk f ρ = dpO (f ρ) (vr i ρ) (fk ρ) i ρ := by
  unfold sDput dpO ob
  cases f ρ with
  | none => rfl
  | some d =>
    cases vr i ρ with
    | none => rfl
    | some l =>
      cases fk ρ with
      | none => rfl
      | some k =>
        dsimp only
        unfold nxdO
        cases dputD l k d <;> rfl
def triO (a b c : Option PyData) (r : PyData → PyData → PyData → Option PyData) : Option PyData := match a, b, c with | some x, some y, some z => r x y z | _, _, _ => none
theorem triO_s (x y z : PyData) (r : PyData → PyData → PyData → Option PyData) : triO (some x) (some y) (some z) r = r x y z := rfl
theorem ev3_b (f g h : Rho → Option PyData) (r : PyData → PyData → PyData → Option PyData) (ρ : Rho) : ev3 f g h r ρ = triO (f ρ) (g ρ) (h ρ) r := by
  unfold ev3 triO ob
  cases f ρ <;> cases g ρ <;> cases h ρ <;> rfl
end L2
namespace L2
open PySem PySem.Spec PyProof.Rows
def scB (N P G : List Str) (sc : Scope) : Bool :=
  decide (sc.kind = .function) && (decide (sc.isCoroutine = false) && (decide (sc.isGenerator = false) && (decide N.Nodup && (decide (N.take P.length = P) && (P.all (locB sc) && (sc.names.all (fun y => decide (y.2 ≠ .free)) && (N.all (fun x => visB sc x && locB sc x) && (G.all (glB sc) && N.all fun x => !(x == ("__debug__" : Str)) && !(x == ("__classdict__" : Str))))))))))
structure ScOk (N P G : List Str) (sc : Scope) : Prop where
  fs : FnScope N P sc
  nm : ∀ x ∈ N, visB sc x = true ∧ locB sc x = true
  gb : ∀ x ∈ G, glB sc x = true
  db : ∀ x ∈ N, (x == ("__debug__" : Str)) = false ∧ (x == ("__classdict__" : Str)) = false
theorem scmk (h : scB N P G sc = true) : ScOk N P G sc := by
  unfold scB at h
  simp only [Bool.and_eq_true, decide_eq_true_eq, List.all_eq_true, Bool.not_eq_true'] at h
  obtain ⟨h1, h2, h3, h4, h5, h6, h7, h8, h9, h10⟩ := h
  exact ⟨⟨h1, h2, h3, h4, h5, fun x hx => loc_fn (h6 x hx), h7⟩, h8, h9, h10⟩
section
variable {N P G : List Str} {sc : Scope} {x : Str}
theorem ScOk.vis (S : ScOk N P G sc) (i : Nat) (e : N[i]? = some x) : Vis sc x := vis_fn (S.nm x (List.mem_of_getElem? e)).1
theorem ScOk.loc (S : ScOk N P G sc) (i : Nat) (e : N[i]? = some x) : Loc sc x := loc_fn (S.nm x (List.mem_of_getElem? e)).2
theorem ScOk.gl {X : Cx} (S : ScOk N P G sc) (i : Nat) (e : G[i]? = some x) (hs : X.env.scope = sc) : Gl X x := gl_fn sc hs (S.gb x (List.mem_of_getElem? e))
end
section
variable {X : Cx} {G : Gm} {P Gn : List Str} {M L : List Nat} {x : Str} {pos : Pos} {a b c d : Expr} {fa fb fc fd : Rho → Option PyData}
theorem pd_v (A : ScOk X.N P Gn X.env.scope) (i : Nat) (e : X.N[i]? = some x := by rfl) (hM : i ∉ M := by decide) : PD X M (.Name x pos) (vr i) := pd_var i (A.vis i e) hM e (A.db x (List.mem_of_getElem? e)).1 (A.db x (List.mem_of_getElem? e)).2
theorem pdg_n (A : ScOk X.N P Gn X.env.scope) (i : Nat) (e : X.N[i]? = some x := by rfl) (hM : i ∉ M := by decide) (hf : X.fn x = true ∨ X.env.scope.names.lookup x = some .local := by first | exact .inl rfl | exact .inr rfl | assumption) : PDG X G M L (.Name x pos) (gNm i) := pdg_name i A.fs.nd (A.loc i e) hM e hf
theorem pda1 (ha : PD X M a fa) (ea : starEach [a] X.env = (false, eval a X.env) :: starEach [] X.env := by rfl) : PDA X M [a] (aC fa aN) := pda_cons ha pda_nil ea
theorem pda2 (ha : PD X M a fa) (hb : PD X M b fb) (ea : starEach [a, b] X.env = (false, eval a X.env) :: starEach [b] X.env := by rfl) (eb : starEach [b] X.env = (false, eval b X.env) :: starEach [] X.env := by rfl) : PDA X M [a, b] (aC fa (aC fb aN)) := pda_cons ha (pda1 hb eb) ea
theorem pda3 (ha : PD X M a fa) (hb : PD X M b fb) (hc : PD X M c fc) (ea : starEach [a, b, c] X.env = (false, eval a X.env) :: starEach [b, c] X.env := by rfl) (eb : starEach [b, c] X.env = (false, eval b X.env) :: starEach [c] X.env := by rfl) (ec : starEach [c] X.env = (false, eval c X.env) :: starEach [] X.env := by rfl) : PDA X M [a, b, c] (aC fa (aC fb (aC fc aN))) := pda_cons ha (pda2 hb hc eb ec) ea
end
def FnK (K : PySem.W.Frag) (n : Str) (st : Stmt) : Prop := ∃ (f : Addr) (fd : FuncData), PySem.W.nsIn K mainGlobals n = some (some (.ref f)) ∧ Fun K n n st f fd
theorem FnK.of {K : PySem.W.Frag} {n : Str} {st : Stmt} {f : Addr} {oc : Value} {od an : Option Addr} {osl : Array (Option Value)} {kV doc pm cdv ct : Value} (a : PySem.W.nsIn K mainGlobals n = some (some (.ref f))) (l : K.lookup f = some ⟨oc, od, .func (PySem.W.fnOf n n (defArgs st) (defBody st) (defScope st) .none kV doc pm an cdv ct), osl⟩)
    (c : PySem.W.codeIn K cdv n = true) (k : PySem.W.keepIn K (.ref f) = true) : FnK K n st := ⟨f, _, a, fun_mk l c k⟩
end L2
namespace L2
open PySem PySem.W PyProof.Rows
theorem runC_bind {α β : Type} {lt : Nat → Nat → Option Bool} {f : α → KasT β} : ∀ (t : KasT α), runC lt (t.bind f) = ob (runC lt t) fun a => runC lt (f a)
  | .ret _ => rfl
  | .ask i j k => by
    show ob (lt i j) (fun b => runC lt ((k b).bind f)) = ob (ob (lt i j) fun b => runC lt (k b)) _
    cases lt i j with
    | none => rfl
    | some b => exact runC_bind (k b)
structure IOrd (n : Nat) (lt : Nat → Nat → Option Bool) (blt : Nat → Nat → Bool) : Prop where
  ask : ∀ i j, i < n → j < n → lt i j = some (blt i j)
  irr : ∀ i, blt i i = false
  tr : ∀ i j k, blt i j = true → blt j k = true → blt i k = true
  neg : ∀ i j k, blt i k = true → blt i j = true ∨ blt j k = true
def gp (p : Array Nat) (i : Nat) : Nat := p.getD i 0
def PermN (n : Nat) (p : Array Nat) : Prop := p.toList.Perm (List.range n)
def UpTo (blt : Nat → Nat → Bool) (p : Array Nat) (m : Nat) : Prop := ∀ i j, i ≤ j → j < m → blt (gp p j) (gp p i) = false
section
variable {n : Nat} {lt : Nat → Nat → Option Bool} {blt : Nat → Nat → Bool} {p : Array Nat}
theorem PermN.size (h : PermN n p) : p.size = n := by
  have := h.length_eq
  rw [Array.length_toList, List.length_range] at this
  exact this
theorem PermN.inb (h : PermN n p) (hi : i < n) : gp p i < n := by
  have hs := h.size
  have e : gp p i = p[i]'(by omega) := by simp [gp, Array.getD, hs, hi]
  have hm : p[i]'(by omega) ∈ p.toList := by simp
  have := h.mem_iff.mp hm
  rw [e]
  exact List.mem_range.mp this
theorem gp_of (h : q[i]? = p[j]?) : gp q i = gp p j := by
  unfold gp
  simp only [Array.getD_eq_getD_getElem?, h]
theorem IOrd.le_tr (O : IOrd n lt blt) (h1 : blt b a = false) (h2 : blt c b = false) : blt c a = false := by
  cases h : blt c a with
  | false => rfl
  | true =>
    rcases O.neg c b a h with z | z
    · rw [h2] at z; cases z
    · rw [h1] at z; cases z
theorem IOrd.asym (O : IOrd n lt blt) (h : blt a b = true) : blt b a = false := by
  cases z : blt b a with
  | false => rfl
  | true =>
    have := O.tr a b a h z
    rw [O.irr] at this
    cases this
theorem place_run (O : IOrd n lt blt) (hp : PermN n p) (hk : k < n) (hs : UpTo blt p k) : ∀ (f l r : Nat), r - l ≤ f → l ≤ r → r ≤ k → (∀ i, i < l → blt (gp p k) (gp p i) = false) → (∀ i, r ≤ i → i < k → blt (gp p k) (gp p i) = true) →
    ∃ m, runC lt (kas_place p k f l r) = some m ∧ m ≤ k ∧ (∀ i, i < m → blt (gp p k) (gp p i) = false) ∧ (∀ i, m ≤ i → i < k → blt (gp p k) (gp p i) = true) := by
  intro f
  induction f with
  | zero =>
    intro l r h1 h2 h3 h4 h5
    exact ⟨l, rfl, by omega, h4, fun i hi hi2 => h5 i (by omega) hi2⟩
  | succ f ih =>
    intro l r h1 h2 h3 h4 h5
    unfold kas_place
    by_cases hlr : l ≥ r
    · rw [if_pos hlr]
      exact ⟨l, rfl, by omega, h4, fun i hi hi2 => h5 i (by omega) hi2⟩
    · rw [if_neg hlr]
      have hm : (l + r) / 2 < k := by omega
      have ea := O.ask (gp p k) (gp p ((l + r) / 2)) (hp.inb hk) (hp.inb (by omega))
      show ∃ m, ob (lt (gp p k) (gp p ((l + r) / 2))) (fun c => runC lt (if c = true then kas_place p k f l ((l + r) / 2) else kas_place p k f ((l + r) / 2 + 1) r)) = some m ∧ _
      rw [ea]
      cases hb : blt (gp p k) (gp p ((l + r) / 2)) with
      | true =>
        refine ih l ((l + r) / 2) (by omega) (by omega) (by omega) h4 fun i hi hi2 => ?_
        cases z : blt (gp p k) (gp p i) with
        | true => rfl
        | false =>
          have := hs ((l + r) / 2) i hi hi2
          have q := O.le_tr this z
          rw [hb] at q
          cases q
      | false =>
        refine ih ((l + r) / 2 + 1) r (by omega) (by omega) h3 (fun i hi => ?_) h5
        exact O.le_tr (hs i ((l + r) / 2) (by omega) hm) hb
theorem permN_of {q : Array Nat} (h : PermN n p) (hq : q.Perm p) : PermN n q := (Array.perm_iff_toList_perm.mp hq).trans h
theorem gp_bubble (hk : k < p.size) (hm : m ≤ k) (i : Nat) : gp (bubble p k (k - m)) i = if i = m then gp p k else if m < i ∧ i ≤ k then gp p (i - 1) else gp p i := by
  have e := getElem?_bubble hk (k - m) (by omega) i
  have hkm : k - (k - m) = m := by omega
  rw [hkm] at e
  by_cases h1 : i = m
  · rw [if_pos h1] at e ⊢; exact gp_of e
  · rw [if_neg h1] at e ⊢
    by_cases h2 : m < i ∧ i ≤ k
    · rw [if_pos h2] at e ⊢; exact gp_of e
    · rw [if_neg h2] at e ⊢; exact gp_of e
theorem gp_rev (hj : j ≤ p.size) (k : Nat) : gp (kas_rev p i j) k = if i ≤ k ∧ k < j then gp p (i + j - 1 - k) else gp p k := by
  have e := getElem?_mirror_all (i := i) hj k
  unfold kas_rev
  by_cases h1 : i ≤ k ∧ k < j
  · rw [if_pos h1] at e ⊢; exact gp_of e
  · rw [if_neg h1] at e ⊢; exact gp_of e
theorem permN_rev (h : PermN n p) (i j : Nat) : PermN n (kas_rev p i j) := permN_of h (mirror_perm _ _ _ _)
theorem bin_run (O : IOrd n lt blt) : ∀ (f : Nat) (p : Array Nat) (k : Nat), PermN n p → UpTo blt p k → k + f = n → ∃ p', runC lt (kas_bin f p k) = some p' ∧ PermN n p' ∧ UpTo blt p' n := by
  intro f
  induction f with
  | zero => exact fun p k hp hs e => ⟨p, rfl, hp, by rw [← e]; exact hs⟩
  | succ f ih =>
    intro p k hp hs e
    have hk : k < n := by omega
    obtain ⟨m, e1, h1, h2, h3⟩ := place_run O hp hk hs k 0 k (by omega) (by omega) (by omega) (fun i hi => by omega) (fun i hi hi2 => by omega)
    have hz := hp.size
    obtain ⟨p', e2, h4, h5⟩ := ih (bubble p k (k - m)) (k + 1) (permN_of hp (bubble_perm _ _ _)) (fun i j hij hj => by
      rw [gp_bubble (by omega) h1, gp_bubble (by omega) h1]
      by_cases a1 : j = m
      · rw [if_pos a1]
        by_cases a2 : i = m
        · rw [if_pos a2]; exact O.irr _
        · rw [if_neg a2, if_neg (by omega)]
          exact h2 i (by omega)
      · rw [if_neg a1]
        by_cases a3 : m < j ∧ j ≤ k
        · rw [if_pos a3]
          by_cases a2 : i = m
          · rw [if_pos a2]
            exact O.asym (h3 (j - 1) (by omega) (by omega))
          · rw [if_neg a2]
            by_cases a4 : m < i ∧ i ≤ k
            · rw [if_pos a4]
              exact hs (i - 1) (j - 1) (by omega) (by omega)
            · rw [if_neg a4]
              exact hs i (j - 1) (by omega) (by omega)
        · rw [if_neg a3, if_neg (by omega), if_neg (by omega)]
          exact hs i j hij (by omega)) (by omega)
    refine ⟨p', ?_, h4, h5⟩
    unfold kas_bin
    rw [runC_bind, e1]
    exact e2
theorem asc_run (O : IOrd n lt blt) (hp : PermN n p) : ∀ (f m : Nat), 1 ≤ m → m + f ≤ n → UpTo blt p m → ∃ m', runC lt (kas_asc p f m) = some m' ∧ m ≤ m' ∧ m' ≤ m + f ∧ UpTo blt p m' ∧ (m' < m + f → blt (gp p m') (gp p (m' - 1)) = true) := by
  intro f
  induction f with
  | zero => exact fun m h1 h2 hs => ⟨m, rfl, by omega, by omega, hs, fun z => by omega⟩
  | succ f ih =>
    intro m h1 h2 hs
    have ea := O.ask (gp p m) (gp p (m - 1)) (hp.inb (by omega)) (hp.inb (by omega))
    unfold kas_asc
    show ∃ m', ob (lt (gp p m) (gp p (m - 1))) (fun c => runC lt (if c = true then .ret m else kas_asc p f (m + 1))) = some m' ∧ _
    rw [ea]
    cases hb : blt (gp p m) (gp p (m - 1)) with
    | true => exact ⟨m, rfl, by omega, by omega, hs, fun _ => hb⟩
    | false =>
      obtain ⟨m', e1, h3, h4, h5, h6⟩ := ih (m + 1) (by omega) (by omega) (fun i j hij hj => by
        by_cases hjm : j = m
        · subst hjm
          by_cases hi : i = j
          · subst hi; exact O.irr _
          · exact O.le_tr (hs i (j - 1) (by omega) (by omega)) hb
        · exact hs i j hij (by omega))
      exact ⟨m', e1, by omega, by omega, h5, fun z => h6 (by omega)⟩
def DownTo (blt : Nat → Nat → Bool) (p : Array Nat) (m : Nat) : Prop := ∀ i j, i ≤ j → j < m → blt (gp p i) (gp p j) = false
def EqSeg (blt : Nat → Nat → Bool) (p : Array Nat) (a b : Nat) : Prop := ∀ i j, a ≤ i → i < b → a ≤ j → j < b → blt (gp p i) (gp p j) = false
theorem down_rev (hp : PermN n p) (hm : m ≤ n) (ha : a ≤ m) (hd : DownTo blt p m) (hs : EqSeg blt p a m) : DownTo blt (kas_rev p a m) m ∧ ∀ i, i < m → ∃ i', i' < m ∧ gp (kas_rev p a m) i = gp p i' := by
  have hz := hp.size
  refine ⟨fun i j hij hj => ?_, fun i hi => ?_⟩
  · rw [gp_rev (by omega), gp_rev (by omega)]
    by_cases h1 : a ≤ i ∧ i < m
    · rw [if_pos h1, if_pos (by omega)]
      exact hs _ _ (by omega) (by omega) (by omega) (by omega)
    · rw [if_neg h1]
      by_cases h2 : a ≤ j ∧ j < m
      · rw [if_pos h2]; exact hd _ _ (by omega) (by omega)
      · rw [if_neg h2]; exact hd _ _ hij hj
  · rw [gp_rev (by omega)]
    by_cases h1 : a ≤ i ∧ i < m
    · rw [if_pos h1]; exact ⟨_, by omega, rfl⟩
    · rw [if_neg h1]; exact ⟨i, hi, rfl⟩
theorem desc_run (O : IOrd n lt blt) : ∀ (f : Nat) (p : Array Nat) (m q : Nat), PermN n p → m + f ≤ n → q + 1 ≤ m → DownTo blt p m → EqSeg blt p (m - (q + 1)) m →
    ∃ p' m' q', runC lt (kas_desc f p m q) = some (p', m', q') ∧ PermN n p' ∧ m ≤ m' ∧ m' ≤ m + f ∧ q' + 1 ≤ m' ∧ DownTo blt p' m' ∧ EqSeg blt p' (m' - (q' + 1)) m' := by
  intro f
  induction f with
  | zero => exact fun p m q hp _ hq hd hs => ⟨p, m, q, rfl, hp, by omega, by omega, hq, hd, hs⟩
  | succ f ih =>
    intro p m q hp hm hq hd hs
    have hz := hp.size
    have e1 := O.ask (gp p m) (gp p (m - 1)) (hp.inb (by omega)) (hp.inb (by omega))
    have e2 := O.ask (gp p (m - 1)) (gp p m) (hp.inb (by omega)) (hp.inb (by omega))
    unfold kas_desc
    show ∃ p' m' q', ob (lt (gp p m) (gp p (m - 1))) (fun c => runC lt (if c = true then (if q > 0 then kas_desc f (kas_rev p (m - (q + 1)) m) (m + 1) 0 else kas_desc f p (m + 1) 0)
      else .ask (p.getD (m - 1) 0) (p.getD m 0) fun d => if d = true then .ret (p, m, q) else kas_desc f p (m + 1) (q + 1))) = some (p', m', q') ∧ _
    rw [e1]
    cases hb : blt (gp p m) (gp p (m - 1)) with
    | true =>
      have below : ∀ i, i < m → blt (gp p i) (gp p m) = false := fun i hi => O.le_tr (O.asym hb) (hd i (m - 1) (by omega) (by omega))
      show ∃ p' m' q', runC lt (if q > 0 then kas_desc f (kas_rev p (m - (q + 1)) m) (m + 1) 0 else kas_desc f p (m + 1) 0) = some (p', m', q') ∧ _
      by_cases hq0 : q > 0
      · rw [if_pos hq0]
        obtain ⟨d1, d2⟩ := down_rev (blt := blt) hp (m := m) (a := m - (q + 1)) (by omega) (by omega) hd hs
        have gm : gp (kas_rev p (m - (q + 1)) m) m = gp p m := by rw [gp_rev (by omega), if_neg (by omega)]
        obtain ⟨p', m', q', r1, r2, r3, r4, r5, r6, r7⟩ := ih (kas_rev p (m - (q + 1)) m) (m + 1) 0 (permN_rev hp _ _) (by omega) (by omega) (fun i j hij hj => by
          by_cases hjm : j = m
          · subst hjm
            by_cases hi : i = j
            · subst hi; exact O.irr _
            · obtain ⟨i', hi', ei⟩ := d2 i (by omega)
              rw [ei, gm]
              exact below i' hi'
          · exact d1 i j hij (by omega)) (fun i j h1 h2 h3 h4 => by
            have : i = m := by omega
            have : j = m := by omega
            subst i; subst j; exact O.irr _)
        exact ⟨p', m', q', r1, r2, by omega, by omega, r5, r6, r7⟩
      · rw [if_neg hq0]
        obtain ⟨p', m', q', r1, r2, r3, r4, r5, r6, r7⟩ := ih p (m + 1) 0 hp (by omega) (by omega) (fun i j hij hj => by
          by_cases hjm : j = m
          · subst hjm
            by_cases hi : i = j
            · subst hi; exact O.irr _
            · exact below i (by omega)
          · exact hd i j hij (by omega)) (fun i j h1 h2 h3 h4 => by
            have : i = m := by omega
            have : j = m := by omega
            subst i; subst j; exact O.irr _)
        exact ⟨p', m', q', r1, r2, by omega, by omega, r5, r6, r7⟩
    | false =>
      show ∃ p' m' q', ob (lt (gp p (m - 1)) (gp p m)) (fun d => runC lt (if d = true then .ret (p, m, q) else kas_desc f p (m + 1) (q + 1))) = some (p', m', q') ∧ _
      rw [e2]
      cases hd2 : blt (gp p (m - 1)) (gp p m) with
      | true => exact ⟨p, m, q, rfl, hp, by omega, by omega, hq, hd, hs⟩
      | false =>
        obtain ⟨p', m', q', r1, r2, r3, r4, r5, r6, r7⟩ := ih p (m + 1) (q + 1) hp (by omega) (by omega) (fun i j hij hj => by
          by_cases hjm : j = m
          · subst hjm
            by_cases hi : i = j
            · subst hi; exact O.irr _
            · exact O.le_tr hd2 (hd i (j - 1) (by omega) (by omega))
          · exact hd i j hij (by omega)) (fun i j h1 h2 h3 h4 => by
            have s1 : ∀ i, m - (q + 1) ≤ i → i < m → blt (gp p i) (gp p m) = false ∧ blt (gp p m) (gp p i) = false := fun i a b =>
              ⟨O.le_tr hd2 (hs i (m - 1) a b (by omega) (by omega)), O.le_tr (hs (m - 1) i (by omega) (by omega) a b) hb⟩
            by_cases hi : i = m
            · subst hi
              by_cases hj : j = i
              · subst hj; exact O.irr _
              · exact (s1 j (by omega) (by omega)).2
            · by_cases hj : j = m
              · subst hj; exact (s1 i (by omega) (by omega)).1
              · exact hs i j (by omega) (by omega) (by omega) (by omega))
        exact ⟨p', m', q', r1, r2, by omega, by omega, r5, r6, r7⟩
theorem tail3_run (O : IOrd n lt blt) (hp : PermN n p) {m : Nat} (h1 : 1 ≤ m) (h2 : m ≤ n) (hd : DownTo blt p m) : ∃ m' p', runC lt (kas_tail3 m n p) = some (m', p') ∧ PermN n p' ∧ 1 ≤ m' ∧ m' ≤ n ∧ UpTo blt p' m' := by
  have hz := hp.size
  obtain ⟨m', e1, h3, h4, h5, _⟩ := asc_run O (permN_rev hp 0 m) (n - m) m h1 (by omega) (fun i j hij hj => by
    rw [gp_rev (by omega), gp_rev (by omega), if_pos (by omega), if_pos (by omega)]
    exact hd _ _ (by omega) (by omega))
  refine ⟨m', kas_rev p 0 m, ?_, permN_rev hp 0 m, by omega, by omega, h5⟩
  unfold kas_tail3
  rw [runC_bind, e1]
  rfl
theorem descPart_run (O : IOrd n lt blt) (hp : PermN n p) {k : Nat} (h2 : k + 1 ≤ n) (hd : DownTo blt p (k + 1)) : ∃ m' p', runC lt (kas_descPart k n p) = some (m', p') ∧ PermN n p' ∧ 1 ≤ m' ∧ m' ≤ n ∧ UpTo blt p' m' := by
  obtain ⟨p1, m1, q1, e1, r2, r3, r4, r5, r6, r7⟩ := desc_run O (n - (k + 1)) p (k + 1) 0 hp (by omega) (by omega) hd (fun i j a1 a2 a3 a4 => by
    have : i = k := by omega
    have : j = k := by omega
    subst i; subst j; exact O.irr _)
  unfold kas_descPart
  rw [runC_bind, e1]
  show ∃ m' p', runC lt (if q1 > 0 then kas_tail3 m1 n (kas_rev p1 (m1 - (q1 + 1)) m1) else kas_tail3 m1 n p1) = some (m', p') ∧ _
  by_cases hq : q1 > 0
  · rw [if_pos hq]
    exact tail3_run O (permN_rev r2 _ _) (by omega) (by omega) (down_rev r2 (by omega) (by omega) r6 r7).1
  · rw [if_neg hq]
    exact tail3_run O r2 (by omega) (by omega) r6
theorem count_run (O : IOrd n lt blt) (hp : PermN n p) (hn : 1 ≤ n) : ∃ m' p', runC lt (kas_count n p) = some (m', p') ∧ PermN n p' ∧ 1 ≤ m' ∧ m' ≤ n ∧ UpTo blt p' m' := by
  have hz := hp.size
  obtain ⟨m, e1, h3, h4, h5, h6⟩ := asc_run O hp (n - 1) 1 (by omega) (by omega) (fun i j hij hj => by
    have : i = 0 := by omega
    have : j = 0 := by omega
    subst i; subst j; exact O.irr _)
  unfold kas_count
  rw [runC_bind, e1]
  show ∃ m' p', runC lt (if (m == n) = true then .ret (m, p) else if m > 1 then .ask (p.getD 0 0) (p.getD (m - 1) 0) fun c => if c = true then .ret (m, p) else kas_descPart m n (kas_rev p 0 m) else kas_descPart m n p) = some (m', p') ∧ _
  by_cases hmn : m = n
  · rw [if_pos (by simpa using hmn)]
    exact ⟨m, p, rfl, hp, by omega, by omega, h5⟩
  · rw [if_neg (by simpa using hmn)]
    have hb := h6 (by omega)
    by_cases hm1 : m > 1
    · rw [if_pos hm1]
      have ea := O.ask (gp p 0) (gp p (m - 1)) (hp.inb (by omega)) (hp.inb (by omega))
      show ∃ m' p', ob (lt (gp p 0) (gp p (m - 1))) (fun c => runC lt (if c = true then .ret (m, p) else kas_descPart m n (kas_rev p 0 m))) = some (m', p') ∧ _
      rw [ea]
      cases hc : blt (gp p 0) (gp p (m - 1)) with
      | true => exact ⟨m, p, rfl, hp, by omega, by omega, h5⟩
      | false =>
        refine descPart_run O (permN_rev hp 0 m) (by omega) (fun i j hij hj => ?_)
        by_cases hjm : j = m
        · by_cases hi : i = j
          · rw [hi]; exact O.irr _
          · rw [gp_rev (by omega), gp_rev (by omega), if_pos (by omega), if_neg (by omega), hjm]
            exact O.le_tr (O.asym hb) (O.le_tr hc (h5 0 (0 + m - 1 - i) (by omega) (by omega)))
        · rw [gp_rev (by omega), gp_rev (by omega), if_pos (by omega), if_pos (by omega)]
          exact h5 _ _ (by omega) (by omega)
    · rw [if_neg hm1]
      have hm : m = 1 := by omega
      subst hm
      refine descPart_run O hp (by omega) (fun i j hij hj => ?_)
      by_cases hi : i = j
      · rw [hi]; exact O.irr _
      · have e0 : i = 0 := by omega
        have ej : j = 1 := by omega
        rw [e0, ej]
        exact O.asym hb
theorem sort_run (O : IOrd n lt blt) (hn : 1 ≤ n) : ∃ p', runC lt (kas_sort n) = some p' ∧ PermN n p' ∧ UpTo blt p' n := by
  obtain ⟨m, p, e1, h1, h2, h3, h4⟩ := count_run O (p := (List.range n).toArray) (show PermN n _ from by unfold PermN; exact List.Perm.refl _) hn
  unfold kas_sort
  rw [runC_bind, e1]
  show ∃ p', runC lt (if m < n then kas_bin (n - max m 1) p (max m 1) else .ret p) = some p' ∧ _
  have hmax : max m 1 = m := by omega
  by_cases hm : m < n
  · rw [if_pos hm, hmax]
    exact bin_run O (n - m) p m h1 h4 (by omega)
  · rw [if_neg hm]
    have : m = n := by omega
    subst this
    exact ⟨p, rfl, h1, h4⟩
end
def tI (ns : List Int) : PyData := .tuple (ns.map .int)
theorem lexLt_irr : ∀ xs : List Int, HT.lexLt xs xs = false
  | [] => rfl
  | x :: xs => by rw [HT.lexLt_cons, if_pos rfl]; exact lexLt_irr xs
theorem lexLt_tr : ∀ xs ys zs : List Int, HT.lexLt xs ys = true → HT.lexLt ys zs = true → HT.lexLt xs zs = true
  | [], [], _, h, _ => by cases h
  | [], _ :: _, [], _, h => by cases h
  | [], _ :: _, _ :: _, _, _ => rfl
  | _ :: _, [], _, h, _ => by cases h
  | _ :: _, _ :: _, [], _, h => by cases h
  | x :: xs, y :: ys, z :: zs, h1, h2 => by
    rw [HT.lexLt_cons] at h1 h2 ⊢
    by_cases e1 : x = y
    · rw [if_pos e1] at h1
      by_cases e2 : y = z
      · rw [if_pos e2] at h2
        rw [if_pos (e1.trans e2)]
        exact lexLt_tr xs ys zs h1 h2
      · rw [if_neg e2] at h2
        rw [if_neg (by rw [e1]; exact e2), e1]
        exact h2
    · rw [if_neg e1] at h1
      have h1' := of_decide_eq_true h1
      by_cases e2 : y = z
      · rw [if_neg (by rw [← e2]; exact e1), ← e2]
        exact h1
      · rw [if_neg e2] at h2
        have h2' := of_decide_eq_true h2
        rw [if_neg (by omega)]
        exact decide_eq_true (by omega)
theorem lexLt_neg : ∀ xs ys zs : List Int, HT.lexLt xs zs = true → HT.lexLt xs ys = true ∨ HT.lexLt ys zs = true
  | [], [], zs, h => .inr h
  | [], _ :: _, _, _ => .inl rfl
  | _ :: _, _, [], h => by cases h
  | _ :: _, [], _ :: _, _ => .inr rfl
  | x :: xs, y :: ys, z :: zs, h => by
    rw [HT.lexLt_cons] at h ⊢
    rw [HT.lexLt_cons]
    by_cases e1 : x = z
    · rw [if_pos e1] at h
      subst e1
      by_cases e2 : x = y
      · subst e2
        rw [if_pos rfl, if_pos rfl]
        exact lexLt_neg xs ys zs h
      · rw [if_neg e2, if_neg (fun z => e2 z.symm)]
        by_cases hl : x < y
        · exact .inl (decide_eq_true hl)
        · exact .inr (decide_eq_true (by omega))
    · rw [if_neg e1] at h
      have h' := of_decide_eq_true h
      by_cases e2 : x = y
      · subst e2
        rw [if_neg e1]
        exact .inr h
      · rw [if_neg e2]
        by_cases hl : x < y
        · exact .inl (decide_eq_true hl)
        · right
          rw [if_neg (by omega)]
          exact decide_eq_true (by omega)
theorem lexLt_tot : ∀ xs ys : List Int, HT.lexLt xs ys = false → HT.lexLt ys xs = false → xs = ys
  | [], [], _, _ => rfl
  | [], _ :: _, h, _ => by cases h
  | _ :: _, [], _, h => by cases h
  | x :: xs, y :: ys, h1, h2 => by
    rw [HT.lexLt_cons] at h1 h2
    by_cases e : x = y
    · subst e
      rw [if_pos rfl] at h1 h2
      rw [lexLt_tot xs ys h1 h2]
    · rw [if_neg e] at h1
      rw [if_neg (fun z => e z.symm)] at h2
      have a1 := of_decide_eq_false h1
      have a2 := of_decide_eq_false h2
      omega
theorem ltXs_ints : ∀ xs ys : List Int, ltXs (xs.map .int) (ys.map .int) = some (HT.lexLt xs ys)
  | [], [] => by rw [List.map_nil, ltXs]; rfl
  | [], _ :: _ => by rw [List.map_nil, List.map_cons, ltXs]; rfl
  | _ :: _, [] => by rw [List.map_nil, List.map_cons, ltXs]; rfl
  | x :: xs, y :: ys => by
    rw [List.map_cons, List.map_cons, ltXs, HT.lexLt_cons]
    have e : PyData.eqv (.int x) (.int y) = (x == y) := rfl
    rw [e]
    by_cases h : x = y
    · rw [if_pos (by simpa using h), if_pos h]
      exact ltXs_ints xs ys
    · rw [if_neg (by simpa using h), if_neg h, ltX]
theorem ltX_ints (xs ys : List Int) : ltX (tI xs) (tI ys) = some (HT.lexLt xs ys) := by
  unfold tI
  rw [ltX]
  exact ltXs_ints xs ys
theorem perm_range_map {α : Type} (xs : List α) (d : α) : (List.range xs.length).map (fun i => xs.getD i d) = xs := by
  apply List.ext_getElem
  · simp
  · intro i h1 h2
    simp [List.getD_eq_getElem?_getD, h2]
theorem sortedD_enc {tI : List Int → PyData} {nss : List (List Int)} (hlt : ∀ a ∈ nss, ∀ b ∈ nss, ltX (tI a) (tI b) = some (HT.lexLt a b)) (hok : sortOk 0 (nss.map tI) = true ∨ sortOk 1 (nss.map tI) = true) : ∃ mss : List (List Int), sortedD [.list (nss.map tI)] = some (.list (mss.map tI)) ∧ mss.Perm nss ∧ mss.Pairwise (fun a b => HT.lexLt b a = false) := by
  have hn : 2 ≤ nss.length ∧ nss.length < 64 := by
    unfold sortOk at hok
    simp only [Bool.and_eq_true, decide_eq_true_eq, List.length_map] at hok
    exact hok.elim (fun h => ⟨h.2.1, h.2.2.1⟩) fun h => ⟨h.2.1, h.2.2.1⟩
  have O : IOrd nss.length (ltAtD (nss.map tI)) (fun i j => HT.lexLt (nss.getD i []) (nss.getD j [])) := by
    refine ⟨fun i j hi hj => ?_, fun i => lexLt_irr _, fun i j k => lexLt_tr _ _ _, fun i j k => lexLt_neg _ _ _⟩
    unfold ltAtD
    rw [List.getElem?_map, List.getElem?_map, List.getElem?_eq_getElem hi, List.getElem?_eq_getElem hj]
    show ltX (tI nss[i]) (tI nss[j]) = _
    rw [hlt _ (List.getElem_mem hi) _ (List.getElem_mem hj), getD_some (List.getElem?_eq_getElem hi), getD_some (List.getElem?_eq_getElem hj)]
  obtain ⟨p, e1, hp, hs⟩ := sort_run O (by omega)
  have hin : ∀ i ∈ p.toList, i < nss.length := fun i hi => List.mem_range.mp (hp.mem_iff.mp hi)
  refine ⟨p.toList.map fun i => nss.getD i [], ?_, ?_, ?_⟩
  · show (if (nss.map tI).length < 2 then some (PyData.list (nss.map tI)) else if sortOk 0 (nss.map tI) = true ∨ sortOk 1 (nss.map tI) = true then ob (runC (ltAtD (nss.map tI)) (kas_sort (nss.map tI).length)) fun p => pickD (nss.map tI) p else none) = _
    rw [if_neg (by rw [List.length_map]; omega), if_pos hok, List.length_map, e1]
    show pickD (nss.map tI) p = _
    unfold pickD
    rw [if_pos ⟨List.all_eq_true.mpr fun i hi => by rw [List.length_map]; exact decide_eq_true (hin i hi), by rw [Array.length_toList, hp.size]; omega⟩]
    congr 2
    rw [List.map_map]
    refine List.map_congr_left fun i hi => ?_
    have hi' := hin i hi
    show (nss.map tI).getD i .none = tI (nss.getD i [])
    rw [getD_some (show (nss.map tI)[i]? = some (tI nss[i]) from by rw [List.getElem?_map, List.getElem?_eq_getElem hi']; rfl), getD_some (List.getElem?_eq_getElem hi')]
  · have := hp.map (fun i => nss.getD i [])
    rw [perm_range_map] at this
    exact this
  · rw [List.pairwise_map, List.pairwise_iff_getElem]
    intro i j hi hj hij
    have hsz := hp.size
    rw [Array.length_toList] at hi hj
    have := hs i j (by omega) (by omega)
    have g1 : gp p i = p.toList[i]'(by rw [Array.length_toList]; exact hi) := by simp [gp, Array.getD, hi]
    have g2 : gp p j = p.toList[j]'(by rw [Array.length_toList]; exact hj) := by simp [gp, Array.getD, hj]
    rw [g1, g2] at this
    exact this
theorem sortedD_ints {nss : List (List Int)} (hok : sortOk 0 (nss.map tI) = true) : ∃ mss : List (List Int), sortedD [.list (nss.map tI)] = some (.list (mss.map tI)) ∧ mss.Perm nss ∧ mss.Pairwise (fun a b => HT.lexLt b a = false) := sortedD_enc (fun a _ b _ => ltX_ints a b) (.inl hok)
theorem can_ints : ∀ ns : List Int, PyData.canLayAll0 (ns.map .int) = true ∧ PyData.depthAll (ns.map .int) = 0
  | [] => ⟨rfl, rfl⟩
  | n :: ns => by
    obtain ⟨h1, h2⟩ := can_ints ns
    rw [List.map_cons]
    exact ⟨by simp [PyData.canLayAll0, PyData.canLay0, h1], by simp [PyData.depthAll, PyData.depth, h2]⟩
theorem can_tups : ∀ nss : List (List Int), PyData.canLayAll0 (nss.map tI) = true ∧ PyData.depthAll (nss.map tI) ≤ 1
  | [] => ⟨rfl, Nat.zero_le _⟩
  | ns :: nss => by
    obtain ⟨h1, h2⟩ := can_tups nss
    obtain ⟨h3, h4⟩ := can_ints ns
    rw [List.map_cons]
    refine ⟨by simp [PyData.canLayAll0, tI, PyData.canLay0, h1, h3], ?_⟩
    rw [PyData.depthAll, show (tI ns).depth = 1 from by simp [tI, PyData.depth, h4]]
    omega
theorem sortOk_tups {nss : List (List Int)} (h2 : 2 ≤ nss.length) (h64 : nss.length < 64) (hne : ∀ ns ∈ nss, ns ≠ []) : sortOk 0 (nss.map tI) = true := by
  obtain ⟨h3, h4⟩ := can_tups nss
  unfold sortOk
  simp only [Bool.and_eq_true, decide_eq_true_eq, List.length_map]
  refine ⟨List.all_eq_true.mpr fun d hd => ?_, h2, h64, h3, by omega⟩
  obtain ⟨ns, hn, rfl⟩ := List.mem_map.mp hd
  cases ns with
  | nil => exact absurd rfl (hne [] hn)
  | cons n ns => rfl
theorem sortedD_tups {nss : List (List Int)} (h64 : nss.length < 64) (hne : ∀ ns ∈ nss, ns ≠ []) : ∃ mss : List (List Int), sortedD [.list (nss.map tI)] = some (.list (mss.map tI)) ∧ mss.Perm nss ∧ mss.Pairwise (fun a b => HT.lexLt b a = false) := by
  by_cases h2 : 2 ≤ nss.length
  · exact sortedD_ints (sortOk_tups h2 h64 hne)
  · refine ⟨nss, ?_, List.Perm.refl _, ?_⟩
    · show (if (nss.map tI).length < 2 then some (PyData.list (nss.map tI)) else _) = _
      rw [if_pos (by rw [List.length_map]; omega)]
    · match nss, h2 with
      | [], _ => exact .nil
      | [a], _ => exact .cons (fun _ z => nomatch z) .nil
      | _ :: _ :: _, h2 => exact absurd (by simp) h2
theorem sorted_unique : ∀ {as bs : List (List Int)}, as.Perm bs → as.Pairwise (fun a b => HT.lexLt b a = false) → bs.Pairwise (fun a b => HT.lexLt b a = false) → as = bs
  | [], bs, h, _, _ => (List.nil_perm.mp h).symm
  | a :: as, [], h, _, _ => absurd h (by simp)
  | a :: as, b :: bs, h, h1, h2 => by
    rw [List.pairwise_cons] at h1 h2
    have e : a = b := by
      have ma : a ∈ b :: bs := h.mem_iff.mp (.head _)
      have mb : b ∈ a :: as := h.mem_iff.mpr (.head _)
      rcases List.mem_cons.mp ma with z | z
      · exact z
      · rcases List.mem_cons.mp mb with y | y
        · exact y.symm
        · exact lexLt_tot a b (h2.1 a z) (h1.1 b y)
    subst e
    rw [sorted_unique h.cons_inv h1.2 h2.2]
end L2
namespace L2
open PySem PySem.Spec PyProof.Rows PySem.W
def galP : Bool → Keyed → Array Keyed → Nat → Nat → Nat → StateT SortSt Sem (Option Nat) := sortPriv% PySem.Builtin.gallop
def mLo : Array Keyed → Array Keyed → StateT SortSt Sem (Array Keyed) := sortPriv% PySem.Builtin.mergeLo
def mHi : Array Keyed → Array Keyed → StateT SortSt Sem (Array Keyed) := sortPriv% PySem.Builtin.mergeHi
structure TmC (prog : Program) (w : World) (A : Around) (E : Value → Shared → Prop) (s : Shared) (κ : SortKind) (rk : Keyed → Int) (G : Keyed → Prop) : Prop where
  lt : ∀ (x y : Keyed) (Q : Bool → Shared → Prop), G x → G y → Q (decide (rk x < rk y)) s → wpAny (model prog w) A (keyLt' κ x.1 y.1) Q (fun _ _ => False) s
def TmS (κ : SortKind) (a : Array Keyed) (p : Array (Nat × Nat × Nat)) (st : SortSt) : Prop := kindOf st = κ ∧ arrOf st = a ∧ pendingOf st = p ∧ failedOf st = none
section
variable {prog : Program} {w : World} {A : Around} {E : Value → Shared → Prop} {s : Shared} {κ : SortKind} {rk : Keyed → Int} {G : Keyed → Prop}
theorem tm_lt (C : TmC prog w A E s κ rk G) {x y : Keyed} {Q : Option Bool → SortSt → Prop} {st : SortSt} (hk : kindOf st = κ) (hx : G x) (hy : G y) (h : Q (some (decide (rk x < rk y))) st) : wpS (model prog w) A E s (lt' x y) Q st := by
  rw [lt'_eq]
  refine wpS_bind (wpS_get (wpS_bind (wpS_lift (wpAny_attempt ?_))))
  rw [hk]
  exact wpAny_mono (C.lt x y _ hx hy ⟨rfl, wpS_pure h⟩) (fun _ _ z => z) fun _ _ z => z.elim
theorem tm_el {a : Array Keyed} {i : Nat} {Q : Keyed → SortSt → Prop} {st : SortSt} (hi : i < a.size) (h : Q a[i] st) : wpS (model prog w) A E s (elem' a i) Q st := by
  rw [elem'_eq, Array.getElem?_eq_getElem hi]
  exact wpS_pure h
def TmB (prog : Program) (w : World) (A : Around) (E : Value → Shared → Prop) (s : Shared) (κ : SortKind) (by_ : Nat → StateT SortSt Sem (Option Bool)) (n : Nat) (P : Nat → Bool) : Prop :=
  ∀ (i : Nat) (Q : Option Bool → SortSt → Prop) (st : SortSt), i < n → kindOf st = κ → Q (some (P i)) st → wpS (model prog w) A E s (by_ i) Q st
def TmK (P : Nat → Bool) (n k : Nat) : Prop := k ≤ n ∧ (∀ i, i < k → P i = true) ∧ ∀ i, k ≤ i → i < n → P i = false
theorem tm_bin {P : Nat → Bool} {n lo hi : Nat} {f : Nat → Option (Option Nat) × Nat × Nat → StateT SortSt Sem (ForInStep (Option (Option Nat) × Nat × Nat))} {Q : Option (Option Nat) × Nat × Nat → SortSt → Prop} {st : SortSt} (mono : ∀ i j, i ≤ j → j < n → P j = true → P i = true)
    (f1 : ∀ x l r, l ≥ r → f x (none, l, r) = pure (.done (none, l, r)))
    (f2 : ∀ x l r (Q' : ForInStep (Option (Option Nat) × Nat × Nat) → SortSt → Prop), l < r → r ≤ n → (P (l + (r - l) / 2) = true → Q' (.yield (none, l + (r - l) / 2 + 1, r)) st) → (P (l + (r - l) / 2) = false → Q' (.yield (none, l, l + (r - l) / 2)) st) → wpS (model prog w) A E s (f x (none, l, r)) Q' st)
    (h1 : lo ≤ hi) (h2 : hi ≤ n) (h3 : ∀ i, i < lo → P i = true) (h4 : ∀ i, hi ≤ i → i < n → P i = false) (h : ∀ k, TmK P n k → Q (none, k, k) st) : wpS (model prog w) A E s (forIn [:n] (none, lo, hi) f) Q st := by
  refine wpS_forRange (I := fun x c st' => st' = st ∧ ∃ l r, c = (none, l, r) ∧ l ≤ r ∧ r ≤ n ∧ r - l ≤ n - x ∧ (∀ i, i < l → P i = true) ∧ ∀ i, r ≤ i → i < n → P i = false) ?_ ?_ ⟨rfl, lo, hi, rfl, h1, h2, by omega, h3, h4⟩
  · rintro x c st' _ hx ⟨rfl, l, r, rfl, g1, g2, g3, g4, g5⟩
    by_cases hlr : l ≥ r
    · rw [f1 x l r hlr]
      have : l = r := by omega
      subst this
      exact wpS_pure (h l ⟨g2, g4, g5⟩)
    · refine f2 x l r _ (by omega) g2 (fun e => ⟨rfl, _, _, rfl, by omega, g2, by omega, fun i hi => mono i _ (by omega) (by omega) e, g5⟩) fun e => ⟨rfl, _, _, rfl, by omega, by omega, by omega, g4, fun j hj hn => ?_⟩
      cases z : P j with
      | false => rfl
      | true => rw [mono _ j hj hn z] at e; cases e
  · rintro c st' ⟨rfl, l, r, rfl, g1, g2, g3, g4, g5⟩
    have : l = r := by omega
    subst this
    exact h l ⟨g2, g4, g5⟩
theorem tm_gal {left : Bool} {key : Keyed} {arr : Array Keyed} {base n hint : Nat} {P : Nat → Bool} {Q : Option Nat → SortSt → Prop} {st : SortSt} (hk : kindOf st = κ) (hh : hint < n)
    (hb : TmB prog w A E s κ (fun i => elem' arr (base + i) >>= fun x => if left = true then lt' x key else lt' key x >>= fun r => pure (Option.map (fun x => !x) r)) n P)
    (mono : ∀ i j, i ≤ j → j < n → P j = true → P i = true) (h : ∀ k, TmK P n k → Q (some k) st) : wpS (model prog w) A E s (galP left key arr base n hint) Q st := by
  have up : ∀ i, i < n → P i = true → ∀ j, j < i + 1 → P j = true := fun i hi e j hj => mono j i (by omega) hi e
  have dn : ∀ i, P i = false → ∀ j, i ≤ j → j < n → P j = false := fun i e j hj hn => by
    cases z : P j with
    | false => rfl
    | true => rw [mono i j hj hn z] at e; cases e
  refine wpS_bind (hb hint _ _ hh hk ?_)
  cases e : P hint with
  | true =>
    refine wpS_bind (wpS_mono (wpS_forRange (I := fun x c st' => st' = st ∧ ∃ l o, c = (none, l, o) ∧ l < o ∧ x + 1 ≤ o ∧ hint + l < n ∧ P (hint + l) = true) (Q := fun c st' => st' = st ∧ ∃ l o, c = (none, l, o) ∧ l < o ∧ hint + l < n ∧ P (hint + l) = true ∧ (hint + o < n → P (hint + o) = false)) ?_ ?_ ⟨rfl, 0, 1, rfl, by omega, by omega, hh, e⟩) ?_)
    · rintro x c st' _ hx ⟨rfl, l, o, rfl, g1, g2, g3, g4⟩
      dsimp only
      by_cases ho : o ≥ n - hint
      · rw [if_pos ho]
        exact wpS_pure ⟨rfl, l, o, rfl, g1, g3, g4, fun z => by omega⟩
      · rw [if_neg ho]
        refine wpS_bind (hb (hint + o) _ _ (by omega) hk ?_)
        cases e2 : P (hint + o) with
        | true => exact wpS_pure ⟨rfl, o, 2 * o + 1, rfl, by omega, by omega, by omega, e2⟩
        | false => exact wpS_pure ⟨rfl, l, o, rfl, g1, g3, g4, fun _ => e2⟩
    · rintro c st' ⟨rfl, l, o, rfl, g1, g2, g3, g4⟩
      exact ⟨rfl, l, o, rfl, g1, g3, g4, fun z => by omega⟩
    · rintro c st' ⟨rfl, l, o, rfl, g1, g3, g4, g5⟩
      have F1 := up _ g3 g4
      have F3 : hint + l + 1 ≤ hint + min o (n - hint) := by omega
      have F4 : hint + min o (n - hint) ≤ n := by omega
      have F2 : ∀ i, hint + min o (n - hint) ≤ i → i < n → P i = false := fun i h1 h2 => dn _ (g5 (by omega)) i (by omega) h2
      refine wpS_bind (wpS_mono (tm_bin mono (fun _ _ _ z => if_pos z) (fun x l r Q' z z2 q1 q2 => ?_) F3 F4 F1 F2 fun k hK => ?_) fun _ _ z => z)
      · dsimp only
        rw [if_neg (by omega)]
        refine wpS_bind (hb (l + (r - l) / 2) _ _ (by omega) hk ?_)
        cases e : P (l + (r - l) / 2) with
        | true => exact wpS_pure (q1 e)
        | false => exact wpS_pure (q2 e)
      · exact wpS_pure (h k hK)
  | false =>
    refine wpS_bind (wpS_mono (wpS_forRange (I := fun x c st' => st' = st ∧ ∃ l o, c = (none, l, o) ∧ l < o ∧ x + 1 ≤ o ∧ l ≤ hint ∧ P (hint - l) = false) (Q := fun c st' => st' = st ∧ ∃ l o, c = (none, l, o) ∧ l < o ∧ l ≤ hint ∧ P (hint - l) = false ∧ (o ≤ hint → P (hint - o) = true)) ?_ ?_ ⟨rfl, 0, 1, rfl, by omega, by omega, by omega, e⟩) ?_)
    · rintro x c st' _ hx ⟨rfl, l, o, rfl, g1, g2, g3, g4⟩
      dsimp only
      by_cases ho : o ≥ hint + 1
      · rw [if_pos ho]
        exact wpS_pure ⟨rfl, l, o, rfl, g1, g3, g4, fun z => by omega⟩
      · rw [if_neg ho]
        refine wpS_bind (hb (hint - o) _ _ (by omega) hk ?_)
        cases e2 : P (hint - o) with
        | false => exact wpS_pure ⟨rfl, o, 2 * o + 1, rfl, by omega, by omega, by omega, e2⟩
        | true => exact wpS_pure ⟨rfl, l, o, rfl, g1, g3, g4, fun _ => e2⟩
    · rintro c st' ⟨rfl, l, o, rfl, g1, g2, g3, g4⟩
      exact ⟨rfl, l, o, rfl, g1, g3, g4, fun z => by omega⟩
    · rintro c st' ⟨rfl, l, o, rfl, g1, g3, g4, g5⟩
      have F1 : ∀ i, i < hint + 1 - min o (hint + 1) → P i = true := fun i hi => mono i (hint - o) (by omega) (by omega) (g5 (by omega))
      have F2 := dn _ g4
      have F3 : hint + 1 - min o (hint + 1) ≤ hint - l := by omega
      have F4 : hint - l ≤ n := by omega
      refine wpS_bind (wpS_mono (tm_bin mono (fun _ _ _ z => if_pos z) (fun x l r Q' z z2 q1 q2 => ?_) F3 F4 F1 F2 fun k hK => ?_) fun _ _ z => z)
      · dsimp only
        rw [if_neg (by omega)]
        refine wpS_bind (hb (l + (r - l) / 2) _ _ (by omega) hk ?_)
        cases e : P (l + (r - l) / 2) with
        | true => exact wpS_pure (q1 e)
        | false => exact wpS_pure (q2 e)
      · exact wpS_pure (h k hK)
end
def TmM (rk : Keyed → Int) (X Y out T : List Keyed) : Prop := (out ++ (X ++ Y)).Perm T ∧ out.Pairwise (fun x y => rk x ≤ rk y) ∧ ∀ x ∈ out, ∀ y ∈ X ++ Y, rk x ≤ rk y
def TmF (rk : Keyed → Int) (out T : List Keyed) : Prop := out.Perm T ∧ out.Pairwise (fun x y => rk x ≤ rk y)
theorem TmM.swap {rk : Keyed → Int} {X Y out T : List Keyed} (h : TmM rk X Y out T) : TmM rk Y X out T :=
  ⟨(List.perm_append_comm.append_left _).trans h.1, h.2.1, fun x hx y hy => h.2.2 x hx y ((List.perm_append_comm).mem_iff.mp hy)⟩
theorem TmM.chunk {rk : Keyed → Int} {t X Y out T : List Keyed} (h : TmM rk (t ++ X) Y out T) (hs : (t ++ X).Pairwise fun x y => rk x ≤ rk y) (hc : ∀ x ∈ t, ∀ y ∈ Y, rk x ≤ rk y) : TmM rk X Y (out ++ t) T := by
  obtain ⟨h1, h2, h3⟩ := h
  rw [List.pairwise_append] at hs
  refine ⟨by rw [List.append_assoc, ← List.append_assoc t]; exact h1, List.pairwise_append.mpr ⟨h2, hs.1, fun x hx y hy => h3 x hx y (List.mem_append_left _ (List.mem_append_left _ hy))⟩, fun x hx y hy => ?_⟩
  rcases List.mem_append.mp hx with hx | hx
  · refine h3 x hx y ?_
    rw [List.append_assoc]
    exact List.mem_append_right _ hy
  · exact (List.mem_append.mp hy).elim (fun hy => hs.2.2 x hx y hy) fun hy => hc x hx y hy
theorem TmM.fin {rk : Keyed → Int} {X Y out T : List Keyed} (h : TmM rk X Y out T) (hX : X.Pairwise fun x y => rk x ≤ rk y) (hY : Y.Pairwise fun x y => rk x ≤ rk y) (hc : ∀ x ∈ X, ∀ y ∈ Y, rk x ≤ rk y) : TmF rk (out ++ X ++ Y) T := by
  obtain ⟨h1, h2, h3⟩ := h
  refine ⟨by rw [List.append_assoc]; exact h1, ?_⟩
  rw [List.append_assoc]
  exact List.pairwise_append.mpr ⟨h2, List.pairwise_append.mpr ⟨hX, hY, hc⟩, h3⟩
def Rk (rk : Keyed → Int) (a : Array Keyed) (i : Nat) : Int := (a[i]?.map rk).getD 0
def Srt (rk : Keyed → Int) (a : Array Keyed) (lo hi : Nat) : Prop := ∀ i j, lo ≤ i → i ≤ j → j < hi → Rk rk a i ≤ Rk rk a j
section
variable {rk : Keyed → Int} {a b : Array Keyed}
theorem Rk_eq {i : Nat} (h : i < a.size) : Rk rk a i = rk a[i] := by
  unfold Rk
  rw [Array.getElem?_eq_getElem h]
  rfl
theorem Rk_of {i j : Nat} (h : a[i]? = b[j]?) : Rk rk a i = Rk rk b j := by unfold Rk; rw [h]
theorem ext_drop (i : Nat) : (a.extract i a.size).toList = a.toList.drop i := by
  rw [Array.toList_extract, List.extract_eq_take_drop]
  exact List.take_of_length_le (by rw [List.length_drop, Array.length_toList]; omega)
theorem ext_chunk (i k : Nat) : (a.extract i (i + k)).toList = (a.toList.drop i).take k := by
  rw [Array.toList_extract, List.extract_eq_take_drop]
  congr 1
  omega
theorem ext_take (k : Nat) : (a.extract 0 k).toList = a.toList.take k := by
  rw [Array.toList_extract, List.extract_eq_take_drop]
  rfl
theorem mem_chunk {i k : Nat} {x : Keyed} (h : x ∈ (a.toList.drop i).take k) : ∃ j, j < k ∧ ∃ hj : i + j < a.size, x = a[i + j] := by
  obtain ⟨j, hj, rfl⟩ := List.mem_iff_getElem.mp h
  rw [List.length_take, List.length_drop, Array.length_toList] at hj
  refine ⟨j, by omega, by omega, ?_⟩
  rw [List.getElem_take, List.getElem_drop, Array.getElem_toList]
theorem mem_from {i : Nat} {x : Keyed} (h : x ∈ a.toList.drop i) : ∃ j, i ≤ j ∧ ∃ hj : j < a.size, x = a[j] := by
  obtain ⟨j, hj, rfl⟩ := List.mem_iff_getElem.mp h
  rw [List.length_drop, Array.length_toList] at hj
  exact ⟨i + j, by omega, by omega, by rw [List.getElem_drop, Array.getElem_toList]⟩
theorem mem_upto {i : Nat} {x : Keyed} (h : x ∈ a.toList.take i) : ∃ j, j < i ∧ ∃ hj : j < a.size, x = a[j] := by
  obtain ⟨j, hj, rfl⟩ := List.mem_iff_getElem.mp h
  rw [List.length_take, Array.length_toList] at hj
  exact ⟨j, by omega, by omega, by rw [List.getElem_take, Array.getElem_toList]⟩
theorem Srt.pw {lo hi : Nat} (h : Srt rk a lo hi) (hh : hi ≤ a.size) : ((a.extract lo hi).toList).Pairwise fun x y => rk x ≤ rk y := by
  rw [List.pairwise_iff_getElem]
  intro i j hi' hj' hij
  rw [Array.length_toList, Array.size_extract] at hi' hj'
  rw [Array.getElem_toList, Array.getElem_toList, Array.getElem_extract, Array.getElem_extract]
  have := h (lo + i) (lo + j) (by omega) (by omega) (by omega)
  rw [Rk_eq (by omega), Rk_eq (by omega)] at this
  exact this
theorem Srt.all (h : Srt rk a 0 a.size) : a.toList.Pairwise fun x y => rk x ≤ rk y := by
  have := h.pw (Nat.le_refl _)
  rw [ext_drop] at this
  exact this
theorem drop_one {i : Nat} (h : i < a.size) : a.toList.drop i = [a[i]] ++ a.toList.drop (i + 1) := by
  rw [List.drop_eq_getElem_cons (by rw [Array.length_toList]; exact h), Array.getElem_toList]
  rfl
theorem drop_more (i k : Nat) : a.toList.drop i = (a.toList.drop i).take k ++ a.toList.drop (i + k) := by
  rw [← List.drop_drop, List.take_append_drop]
end
section
variable {prog : Program} {w : World} {A : Around} {E : Value → Shared → Prop} {s : Shared} {κ : SortKind} {rk : Keyed → Int} {G : Keyed → Prop}
theorem tm_galR (C : TmC prog w A E s κ rk G) {key : Keyed} {arr : Array Keyed} {base n hint : Nat} {Q : Option Nat → SortSt → Prop} {st : SortSt} (hk : kindOf st = κ) (hh : hint < n) (hn : base + n ≤ arr.size) (gk : G key) (ga : ∀ x ∈ arr.toList, G x) (hs : Srt rk arr base (base + n))
    (h : ∀ k, k ≤ n → (∀ i, i < k → Rk rk arr (base + i) ≤ rk key) → (∀ i, k ≤ i → i < n → rk key < Rk rk arr (base + i)) → Q (some k) st) : wpS (model prog w) A E s (galP false key arr base n hint) Q st := by
  refine tm_gal (P := fun i => !decide (rk key < Rk rk arr (base + i))) hk hh (fun i Q' st' hi hk' q => ?_) (fun i j hij hj e => ?_) fun k hK => h k hK.1 (fun i hi => ?_) fun i hi hi2 => ?_
  · have hb : base + i < arr.size := by omega
    refine wpS_bind (tm_el hb ?_)
    refine wpS_bind (tm_lt C hk' gk (ga _ (by simp)) ?_)
    rw [← Rk_eq (rk := rk) hb]
    exact wpS_pure q
  · have := hs (base + i) (base + j) (by omega) (by omega) (by omega)
    simp only [Bool.not_eq_true', decide_eq_false_iff_not, Int.not_lt] at e ⊢
    omega
  · have := hK.2.1 i hi
    simp only [Bool.not_eq_true', decide_eq_false_iff_not, Int.not_lt] at this
    exact this
  · have := hK.2.2 i hi hi2
    simp only [Bool.not_eq_false', decide_eq_true_eq] at this
    exact this
theorem tm_galL (C : TmC prog w A E s κ rk G) {key : Keyed} {arr : Array Keyed} {base n hint : Nat} {Q : Option Nat → SortSt → Prop} {st : SortSt} (hk : kindOf st = κ) (hh : hint < n) (hn : base + n ≤ arr.size) (gk : G key) (ga : ∀ x ∈ arr.toList, G x) (hs : Srt rk arr base (base + n))
    (h : ∀ k, k ≤ n → (∀ i, i < k → Rk rk arr (base + i) < rk key) → (∀ i, k ≤ i → i < n → rk key ≤ Rk rk arr (base + i)) → Q (some k) st) : wpS (model prog w) A E s (galP true key arr base n hint) Q st := by
  refine tm_gal (P := fun i => decide (Rk rk arr (base + i) < rk key)) hk hh (fun i Q' st' hi hk' q => ?_) (fun i j hij hj e => ?_) fun k hK => h k hK.1 (fun i hi => of_decide_eq_true (hK.2.1 i hi)) fun i hi hi2 => Int.not_lt.mp (of_decide_eq_false (hK.2.2 i hi hi2))
  · have hb : base + i < arr.size := by omega
    refine wpS_bind (tm_el hb ?_)
    refine tm_lt C hk' (ga _ (by simp)) gk ?_
    rw [← Rk_eq (rk := rk) hb]
    exact q
  · have := hs (base + i) (base + j) (by omega) (by omega) (by omega)
    have e := of_decide_eq_true e
    exact decide_eq_true (by omega)
end
section
variable {prog : Program} {w : World} {A : Around} {E : Value → Shared → Prop} {s : Shared} {κ : SortKind} {rk : Keyed → Int} {G : Keyed → Prop} {c : Array Keyed} {p : Array (Nat × Nat × Nat)}
def setG : Nat → StateT SortSt Sem Unit := sortPriv% PySem.Builtin.setMinGallop
theorem tm_setG {g : Nat} {Q : Unit → SortSt → Prop} {st : SortSt} (h : ∀ st', TmS κ c p st' → Q () st') (hk : TmS κ c p st) : wpS (model prog w) A E s (setG g) Q st := by
  unfold setG
  exact wpS_modify (h _ hk)
theorem tm_if {α : Type} {q : Prop} [Decidable q] {x y : StateT SortSt Sem α} {Q : α → SortSt → Prop} {st : SortSt} (h1 : q → wpS (model prog w) A E s x Q st) (h2 : ¬ q → wpS (model prog w) A E s y Q st) : wpS (model prog w) A E s (if q then x else y) Q st := by
  by_cases e : q
  · rw [if_pos e]; exact h1 e
  · rw [if_neg e]; exact h2 e
theorem tm_lo (C : TmC prog w A E s κ rk G) {a b : Array Keyed} {Q : Array Keyed → SortSt → Prop} {st : SortSt} (hk : TmS κ c p st) (ga : ∀ x ∈ a.toList, G x) (gb : ∀ x ∈ b.toList, G x) (sa : Srt rk a 0 a.size) (sb : Srt rk b 0 b.size) (za : 0 < a.size) (zb : 0 < b.size) (h0 : Rk rk b 0 < Rk rk a 0) (h1 : ∀ i, i < b.size → Rk rk b i ≤ Rk rk a (a.size - 1))
    (h : ∀ out st', TmS κ c p st' → TmF rk out.toList (a.toList ++ b.toList) → Q out st') : wpS (model prog w) A E s (mLo a b) Q st := by
  have geA : ∀ {i : Nat} {y : Keyed} (hi : i < a.size), y ∈ a.toList.drop i → rk a[i] ≤ rk y := fun {i y} hi hy => by
    obtain ⟨j, hj, hj2, rfl⟩ := mem_from hy
    rw [← Rk_eq (rk := rk) hi, ← Rk_eq (rk := rk) hj2]
    exact sa _ _ (Nat.zero_le _) hj hj2
  have geB : ∀ {i : Nat} {y : Keyed} (hi : i < b.size), y ∈ b.toList.drop i → rk b[i] ≤ rk y := fun {i y} hi hy => by
    obtain ⟨j, hj, hj2, rfl⟩ := mem_from hy
    rw [← Rk_eq (rk := rk) hi, ← Rk_eq (rk := rk) hj2]
    exact sb _ _ (Nat.zero_le _) hj hj2
  have pwA : ∀ i, (a.toList.drop i).Pairwise fun x y => rk x ≤ rk y := fun i => sa.all.sublist (List.drop_sublist _ _)
  have pwB : ∀ i, (b.toList.drop i).Pairwise fun x y => rk x ≤ rk y := fun i => sb.all.sublist (List.drop_sublist _ _)
  obtain ⟨T, hT⟩ : ∃ T, T = a.toList ++ b.toList := ⟨_, rfl⟩
  have cA : ∀ {out : Array Keyed} {ia ib : Nat} (k : Nat), TmM rk (a.toList.drop ia) (b.toList.drop ib) out.toList T → (∀ x ∈ (a.toList.drop ia).take k, ∀ y ∈ b.toList.drop ib, rk x ≤ rk y) → TmM rk (a.toList.drop (ia + k)) (b.toList.drop ib) (out ++ a.extract ia (ia + k)).toList T := fun {out ia ib} k m hc => by
    rw [Array.toList_append, ext_chunk]
    have e := drop_more (a := a) ia k
    have q := pwA ia
    rw [e] at m q
    exact m.chunk q hc
  have cB : ∀ {out : Array Keyed} {ia ib : Nat} (k : Nat), TmM rk (a.toList.drop ia) (b.toList.drop ib) out.toList T → (∀ x ∈ (b.toList.drop ib).take k, ∀ y ∈ a.toList.drop ia, rk x ≤ rk y) → TmM rk (a.toList.drop ia) (b.toList.drop (ib + k)) (out ++ b.extract ib (ib + k)).toList T := fun {out ia ib} k m hc => by
    rw [Array.toList_append, ext_chunk]
    have e := drop_more (a := b) ib k
    have q := pwB ib
    have m := m.swap
    rw [e] at m q
    exact (m.chunk q hc).swap
  have pA : ∀ {out : Array Keyed} {ia ib : Nat} (hi : ia < a.size), TmM rk (a.toList.drop ia) (b.toList.drop ib) out.toList T → (∀ y ∈ b.toList.drop ib, rk a[ia] ≤ rk y) → TmM rk (a.toList.drop (ia + 1)) (b.toList.drop ib) (out.push a[ia]).toList T := fun {out ia ib} hi m hc => by
    rw [Array.toList_push]
    have q := pwA ia
    rw [drop_one hi] at m q
    exact m.chunk q fun x hx => by rw [List.mem_singleton.mp hx]; exact hc
  have pB : ∀ {out : Array Keyed} {ia ib : Nat} (hi : ib < b.size), TmM rk (a.toList.drop ia) (b.toList.drop ib) out.toList T → (∀ y ∈ a.toList.drop ia, rk b[ib] ≤ rk y) → TmM rk (a.toList.drop ia) (b.toList.drop (ib + 1)) (out.push b[ib]).toList T := fun {out ia ib} hi m hc => by
    rw [Array.toList_push]
    have q := pwB ib
    have m := m.swap
    rw [drop_one hi] at m q
    exact (m.chunk q fun x hx => by rw [List.mem_singleton.mp hx]; exact hc).swap
  have dn : ∀ {out : Array Keyed} {ia ib : Nat}, TmM rk (a.toList.drop ia) (b.toList.drop ib) out.toList T → (ia = a.size ∨ ib = b.size) → TmF rk (out ++ a.extract ia a.size ++ b.extract ib b.size).toList T := fun {out ia ib} m hz => by
    rw [Array.toList_append, Array.toList_append, ext_drop, ext_drop]
    refine m.fin (pwA _) (pwB _) fun x hx y hy => ?_
    obtain ⟨j, hj, hj2, rfl⟩ := mem_from hx
    obtain ⟨i, hi, hi2, rfl⟩ := mem_from hy
    omega
  have ls : ∀ {out : Array Keyed} {ia ib : Nat}, TmM rk (a.toList.drop ia) (b.toList.drop ib) out.toList T → ia + 1 = a.size → TmF rk (out ++ b.extract ib b.size ++ a.extract ia a.size).toList T := fun {out ia ib} m hz => by
    rw [Array.toList_append, Array.toList_append, ext_drop, ext_drop]
    refine m.swap.fin (pwB _) (pwA _) fun x hx y hy => ?_
    obtain ⟨j, hj, hj2, rfl⟩ := mem_from hx
    obtain ⟨i, hi, hi2, rfl⟩ := mem_from hy
    have := h1 j hj2
    rw [Rk_eq hj2, show a.size - 1 = i by omega, Rk_eq hi2] at this
    exact this
  have start : TmM rk (a.toList.drop 0) (b.toList.drop 1) (#[b[0]] : Array Keyed).toList T := by
    refine pB (out := #[]) (ib := 0) zb ⟨by rw [hT]; exact .refl _, .nil, fun x hx => nomatch hx⟩ fun y hy => ?_
    have := geA za hy
    rw [Rk_eq zb, Rk_eq za] at h0
    omega
  rw [← hT] at h
  refine wpS_bind (wpS_lift (wpAny_rule ⟨rfl, ?_⟩))
  refine wpS_bind (tm_el zb ?_)
  refine tm_if (fun e => wpS_pure (h _ _ hk (dn start (.inr (by simpa using e))))) fun e1 => ?_
  refine tm_if (fun e => wpS_pure (h _ _ hk (ls start (by simpa using e)))) fun e2 => ?_
  have e1 : ¬ 1 = b.size := by simpa using e1
  have e2 : ¬ 0 + 1 = a.size := by simpa using e2
  refine wpS_bind (wpS_get ?_)
  refine wpS_bind (wpS_mono (wpS_forRange (I := fun x cc st' => TmS κ c p st' ∧ ∃ out ia ib g, cc = (none, out, ia, ib, g) ∧ TmM rk (a.toList.drop ia) (b.toList.drop ib) out.toList T ∧ ia + 1 < a.size ∧ ib < b.size ∧ x + 1 ≤ ia + ib)
    (Q := fun cc st' => TmS κ c p st' ∧ ∃ r o, cc = (some r, o) ∧ TmF rk r.toList T) ?_ ?_ ⟨hk, _, 0, 1, _, rfl, start, by omega, by omega, by omega⟩) ?_)
  · rintro x cc st' _ hx ⟨k', out, ia, ib, g, rfl, m, b1, b2, b3⟩
    refine wpS_bind (wpS_mono (wpS_forRange (I := fun y cc st' => TmS κ c p st' ∧ ∃ out ia ib ac bc, cc = (none, out, ia, ib, ac, bc) ∧ TmM rk (a.toList.drop ia) (b.toList.drop ib) out.toList T ∧ ia + 1 < a.size ∧ ib < b.size ∧ x + 1 + y ≤ ia + ib)
      (Q := fun cc st' => TmS κ c p st' ∧ ((∃ r o, cc = (some r, o) ∧ TmF rk r.toList T) ∨ ∃ out ia ib ac bc, cc = (none, out, ia, ib, ac, bc) ∧ TmM rk (a.toList.drop ia) (b.toList.drop ib) out.toList T ∧ ia + 1 < a.size ∧ ib < b.size ∧ x + 2 ≤ ia + ib)) ?_ ?_ ⟨k', out, ia, ib, 0, 0, rfl, m, b1, b2, by omega⟩) ?_)
    · rintro y cc st' _ hy ⟨k', out, ia, ib, ac, bc, rfl, m, b1, b2, b3⟩
      have ia1 : ia < a.size := by omega
      refine wpS_bind (tm_el b2 (wpS_bind (tm_el ia1 (wpS_bind (tm_lt C k'.1 (gb _ (by simp)) (ga _ (by simp)) ?_)))))
      by_cases hw : rk b[ib] < rk a[ia]
      · rw [decide_eq_true hw]
        refine wpS_bind (tm_el b2 ?_)
        have m' := pB b2 m fun y hy => by have := geA ia1 hy; omega
        refine tm_if (fun e => wpS_pure ⟨k', .inl ⟨_, _, rfl, dn m' (.inr (by simpa using e))⟩⟩) fun e => ?_
        have e : ¬ ib + 1 = b.size := by simpa using e
        have z1 : ib + 1 < b.size := by omega
        have z2 : x + 2 ≤ ia + (ib + 1) := by omega
        have z3 : x + 1 + (y + 1) ≤ ia + (ib + 1) := by omega
        exact tm_if (fun _ => wpS_pure ⟨k', .inr ⟨_, _, _, _, _, rfl, m', b1, z1, z2⟩⟩) fun _ => wpS_pure ⟨k', _, _, _, _, _, rfl, m', b1, z1, z3⟩
      · rw [decide_eq_false hw]
        refine wpS_bind (tm_el ia1 ?_)
        have m' := pA ia1 m fun y hy => by have := geB b2 hy; omega
        refine tm_if (fun e => wpS_pure ⟨k', .inl ⟨_, _, rfl, ls m' (by simpa using e)⟩⟩) fun e => ?_
        have e : ¬ ia + 1 + 1 = a.size := by simpa using e
        have z1 : ia + 1 + 1 < a.size := by omega
        have z2 : x + 2 ≤ ia + 1 + ib := by omega
        have z3 : x + 1 + (y + 1) ≤ ia + 1 + ib := by omega
        exact tm_if (fun _ => wpS_pure ⟨k', .inr ⟨_, _, _, _, _, rfl, m', z1, b2, z2⟩⟩) fun _ => wpS_pure ⟨k', _, _, _, _, _, rfl, m', z1, b2, z3⟩
    · rintro cc st' ⟨k', out, ia, ib, ac, bc, rfl, m, b1, b2, b3⟩
      exact ⟨k', .inr ⟨_, _, _, _, _, rfl, m, b1, b2, by omega⟩⟩
    · rintro cc st' ⟨k', ⟨r, o, rfl, hF⟩ | ⟨out, ia, ib, ac, bc, rfl, m, b1, b2, b3⟩⟩
      · exact wpS_pure ⟨k', r, _, rfl, hF⟩
      refine wpS_bind (wpS_lift (wpAny_rule ⟨rfl, ?_⟩))
      refine wpS_bind (wpS_mono (wpS_forRange (I := fun y cc st' => TmS κ c p st' ∧ ∃ out ia ib g ac bc, cc = (none, out, ia, ib, g, ac, bc) ∧ TmM rk (a.toList.drop ia) (b.toList.drop ib) out.toList T ∧ ia + 1 < a.size ∧ ib < b.size ∧ x + 2 ≤ ia + ib)
        (Q := fun cc st' => TmS κ c p st' ∧ ((∃ r o, cc = (some r, o) ∧ TmF rk r.toList T) ∨ ∃ out ia ib g ac bc, cc = (none, out, ia, ib, g, ac, bc) ∧ TmM rk (a.toList.drop ia) (b.toList.drop ib) out.toList T ∧ ia + 1 < a.size ∧ ib < b.size ∧ x + 2 ≤ ia + ib)) ?_ ?_ ⟨k', out, ia, ib, _, _, _, rfl, m, b1, b2, by omega⟩) ?_)
      · rintro y cc st' _ hy ⟨k', out, ia, ib, g, ac, bc, rfl, m, b1, b2, b3⟩
        have lenA : ia + (a.size - ia) = a.size := by omega
        have ia0 : 0 < a.size - ia := by omega
        refine tm_if (fun _ => ?_) fun _ => ?_
        all_goals
          refine wpS_bind (tm_setG (fun st2 k2 => ?_) k')
          refine wpS_bind (tm_el b2 (wpS_bind (tm_galR C k2.1 ia0 (Nat.le_of_eq lenA) (gb _ (by simp)) ga (fun i j g1 g2 g3 => sa i j (Nat.zero_le _) g2 (lenA ▸ g3)) fun k q1 q2 q3 => ?_)))
          have q1 : k ≤ a.size - ia := q1
          have q2 : ∀ i, i < k → Rk rk a (ia + i) ≤ rk b[ib] := q2
          have q3 : ∀ i, k ≤ i → i < a.size - ia → rk b[ib] < Rk rk a (ia + i) := q3
          have mk := cA k m fun x hx y hy => by
            obtain ⟨j, hj, hj2, rfl⟩ := mem_chunk hx
            have := q2 j hj
            rw [Rk_eq hj2] at this
            have := geB b2 hy
            omega
          refine tm_if (fun k0 => tm_if (fun e => wpS_pure ⟨k2, .inl ⟨_, _, rfl, ls mk (by simpa using e)⟩⟩) fun e1 => tm_if (fun e => wpS_pure ⟨k2, .inl ⟨_, _, rfl, dn mk (.inl (by simpa using e))⟩⟩) fun e2 => ?_) fun k0 => ?_
          · have e1 : ¬ ia + k + 1 = a.size := by simpa using e1
            have e2 : ¬ ia + k = a.size := by simpa using e2
            have hb1 : ia + k + 1 < a.size := by omega
            have hR := q3 k (Nat.le_refl _) (by omega)
            have hia : (ia + k) < a.size := by omega
            have hR : rk b[ib] < Rk rk a (ia + k) := hR
            rw [Rk_eq hia] at hR
            have m3 := pB b2 mk fun y hy => by have := geA hia hy; omega
            refine wpS_bind (tm_el b2 (tm_if (fun e => wpS_pure ⟨k2, .inl ⟨_, _, rfl, dn m3 (.inr (by simpa using e))⟩⟩) fun e3 => ?_))
            have e3 : ¬ ib + 1 = b.size := by simpa using e3
            have lenB : ib + 1 + (b.size - (ib + 1)) = b.size := by omega
            refine wpS_bind (tm_el hia (wpS_bind (tm_galL C k2.1 (by omega : 0 < b.size - (ib + 1)) (Nat.le_of_eq lenB) (ga _ (by simp)) gb (fun i j g1 g2 g3 => sb i j (Nat.zero_le _) g2 (lenB ▸ g3)) fun l r1 r2 r3 => ?_)))
            have r1 : l ≤ b.size - (ib + 1) := r1
            have r2 : ∀ i, i < l → Rk rk b (ib + 1 + i) < rk a[ia + k] := r2
            have r3 : ∀ i, l ≤ i → i < b.size - (ib + 1) → rk a[ia + k] ≤ Rk rk b (ib + 1 + i) := r3
            have m4 := cB l m3 fun x hx y hy => by
              obtain ⟨j, hj, hj2, rfl⟩ := mem_chunk hx
              have := r2 j hj
              rw [Rk_eq hj2] at this
              have := geA hia hy
              omega
            refine tm_if (fun l0 => tm_if (fun e => wpS_pure ⟨k2, .inl ⟨_, _, rfl, dn m4 (.inr (by simpa using e))⟩⟩) fun e4 => ?_) fun l0 => ?_
            · have e4 : ¬ ib + 1 + l = b.size := by simpa using e4
              have m5 := pA hia m4 fun y hy => by
                obtain ⟨j, hj, hj2, rfl⟩ := mem_from hy
                have := r3 (j - (ib + 1)) (by omega) (by omega)
                rw [show ib + 1 + (j - (ib + 1)) = j by omega, Rk_eq hj2] at this
                exact this
              refine wpS_bind (tm_el hia (tm_if (fun e => wpS_pure ⟨k2, .inl ⟨_, _, rfl, ls m5 (by simpa using e)⟩⟩) fun e5 => ?_))
              have e5 : ¬ (ia + k) + 1 + 1 = a.size := by simpa using e5
              have z1 : (ia + k) + 1 + 1 < a.size := by omega
              have z2 : (ib + 1 + l) < b.size := by omega
              have z3 : x + 2 ≤ (ia + k) + 1 + (ib + 1 + l) := by omega
              exact tm_if (fun _ => wpS_pure ⟨k2, .inr ⟨_, _, _, _, _, _, rfl, m5, z1, z2, z3⟩⟩) fun _ => wpS_pure ⟨k2, _, _, _, _, _, _, rfl, m5, z1, z2, z3⟩
            · have l0 : l = 0 := by omega
              have m5 := pA hia m3 fun y hy => by
                obtain ⟨j, hj, hj2, rfl⟩ := mem_from hy
                have := r3 (j - (ib + 1)) (by omega) (by omega)
                rw [show ib + 1 + (j - (ib + 1)) = j by omega, Rk_eq hj2] at this
                exact this
              refine wpS_bind (tm_el hia (tm_if (fun e => wpS_pure ⟨k2, .inl ⟨_, _, rfl, ls m5 (by simpa using e)⟩⟩) fun e5 => ?_))
              have e5 : ¬ (ia + k) + 1 + 1 = a.size := by simpa using e5
              have z1 : (ia + k) + 1 + 1 < a.size := by omega
              have z2 : (ib + 1) < b.size := by omega
              have z3 : x + 2 ≤ (ia + k) + 1 + (ib + 1) := by omega
              exact tm_if (fun _ => wpS_pure ⟨k2, .inr ⟨_, _, _, _, _, _, rfl, m5, z1, z2, z3⟩⟩) fun _ => wpS_pure ⟨k2, _, _, _, _, _, _, rfl, m5, z1, z2, z3⟩
          · have hb1 : ia + 1 < a.size := b1
            have hR := q3 0 (by omega) ia0
            have hia : ia < a.size := by omega
            have hR : rk b[ib] < Rk rk a ia := hR
            rw [Rk_eq hia] at hR
            have m3 := pB b2 m fun y hy => by have := geA hia hy; omega
            refine wpS_bind (tm_el b2 (tm_if (fun e => wpS_pure ⟨k2, .inl ⟨_, _, rfl, dn m3 (.inr (by simpa using e))⟩⟩) fun e3 => ?_))
            have e3 : ¬ ib + 1 = b.size := by simpa using e3
            have lenB : ib + 1 + (b.size - (ib + 1)) = b.size := by omega
            refine wpS_bind (tm_el hia (wpS_bind (tm_galL C k2.1 (by omega : 0 < b.size - (ib + 1)) (Nat.le_of_eq lenB) (ga _ (by simp)) gb (fun i j g1 g2 g3 => sb i j (Nat.zero_le _) g2 (lenB ▸ g3)) fun l r1 r2 r3 => ?_)))
            have r1 : l ≤ b.size - (ib + 1) := r1
            have r2 : ∀ i, i < l → Rk rk b (ib + 1 + i) < rk a[ia] := r2
            have r3 : ∀ i, l ≤ i → i < b.size - (ib + 1) → rk a[ia] ≤ Rk rk b (ib + 1 + i) := r3
            have m4 := cB l m3 fun x hx y hy => by
              obtain ⟨j, hj, hj2, rfl⟩ := mem_chunk hx
              have := r2 j hj
              rw [Rk_eq hj2] at this
              have := geA hia hy
              omega
            refine tm_if (fun l0 => tm_if (fun e => wpS_pure ⟨k2, .inl ⟨_, _, rfl, dn m4 (.inr (by simpa using e))⟩⟩) fun e4 => ?_) fun l0 => ?_
            · have e4 : ¬ ib + 1 + l = b.size := by simpa using e4
              have m5 := pA hia m4 fun y hy => by
                obtain ⟨j, hj, hj2, rfl⟩ := mem_from hy
                have := r3 (j - (ib + 1)) (by omega) (by omega)
                rw [show ib + 1 + (j - (ib + 1)) = j by omega, Rk_eq hj2] at this
                exact this
              refine wpS_bind (tm_el hia (tm_if (fun e => wpS_pure ⟨k2, .inl ⟨_, _, rfl, ls m5 (by simpa using e)⟩⟩) fun e5 => ?_))
              have e5 : ¬ ia + 1 + 1 = a.size := by simpa using e5
              have z1 : ia + 1 + 1 < a.size := by omega
              have z2 : (ib + 1 + l) < b.size := by omega
              have z3 : x + 2 ≤ ia + 1 + (ib + 1 + l) := by omega
              exact tm_if (fun _ => wpS_pure ⟨k2, .inr ⟨_, _, _, _, _, _, rfl, m5, z1, z2, z3⟩⟩) fun _ => wpS_pure ⟨k2, _, _, _, _, _, _, rfl, m5, z1, z2, z3⟩
            · have l0 : l = 0 := by omega
              have m5 := pA hia m3 fun y hy => by
                obtain ⟨j, hj, hj2, rfl⟩ := mem_from hy
                have := r3 (j - (ib + 1)) (by omega) (by omega)
                rw [show ib + 1 + (j - (ib + 1)) = j by omega, Rk_eq hj2] at this
                exact this
              refine wpS_bind (tm_el hia (tm_if (fun e => wpS_pure ⟨k2, .inl ⟨_, _, rfl, ls m5 (by simpa using e)⟩⟩) fun e5 => ?_))
              have e5 : ¬ ia + 1 + 1 = a.size := by simpa using e5
              have z1 : ia + 1 + 1 < a.size := by omega
              have z2 : (ib + 1) < b.size := by omega
              have z3 : x + 2 ≤ ia + 1 + (ib + 1) := by omega
              exact tm_if (fun _ => wpS_pure ⟨k2, .inr ⟨_, _, _, _, _, _, rfl, m5, z1, z2, z3⟩⟩) fun _ => wpS_pure ⟨k2, _, _, _, _, _, _, rfl, m5, z1, z2, z3⟩
      · rintro cc st' ⟨k', out, ia, ib, g, ac, bc, rfl, m, b1, b2, b3⟩
        exact ⟨k', .inr ⟨_, _, _, _, _, _, rfl, m, b1, b2, b3⟩⟩
      · rintro cc st' ⟨k', ⟨r, o, rfl, hF⟩ | ⟨out, ia, ib, g, ac, bc, rfl, m, b1, b2, b3⟩⟩
        · exact wpS_pure ⟨k', r, _, rfl, hF⟩
        · exact wpS_bind (tm_setG (fun st'' k'' => wpS_pure ⟨k'', out, ia, ib, _, rfl, m, b1, b2, (by omega : x + 1 + 1 ≤ ia + ib)⟩) k')
  · rintro cc st' ⟨k', out, ia, ib, g, rfl, m, b1, b2, b3⟩
    omega
  · rintro cc st' ⟨k', r, o, rfl, hF⟩
    exact wpS_pure (h _ _ k' hF)
end
theorem TmF.rev {rk : Keyed → Int} {L T : List Keyed} (h : TmF (fun x => - rk x) L T) : TmF rk L.reverse T :=
  ⟨(List.reverse_perm _).trans h.1, List.pairwise_reverse.mpr (h.2.imp fun {x y} z => by dsimp only at z; omega)⟩
section
variable {rk : Keyed → Int} {a b : Array Keyed}
theorem take_one {i : Nat} (h : i < a.size) : (a.toList.take (i + 1)).reverse = [a[i]] ++ (a.toList.take i).reverse := by
  rw [List.take_succ_eq_append_getElem (by rw [Array.length_toList]; exact h), List.reverse_append, Array.getElem_toList]
  rfl
theorem take_more {i k : Nat} (h : i ≤ k) : (a.toList.take k).reverse = (a.extract i k).reverse.toList ++ (a.toList.take i).reverse := by
  rw [Array.toList_reverse, Array.toList_extract, List.extract_eq_take_drop, ← List.reverse_append]
  congr 1
  have e : (a.toList.take k).take i = a.toList.take i := by rw [List.take_take, Nat.min_eq_left h]
  rw [← List.drop_take, ← e, List.take_append_drop]
theorem mem_rchunk {i k : Nat} {x : Keyed} (h : x ∈ (a.extract i k).reverse.toList) : ∃ j, i ≤ j ∧ j < k ∧ ∃ hj : j < a.size, x = a[j] := by
  rw [Array.toList_reverse] at h
  obtain ⟨j, hj, rfl⟩ := List.mem_iff_getElem.mp (List.mem_reverse.mp h)
  rw [Array.length_toList, Array.size_extract] at hj
  exact ⟨i + j, by omega, by omega, by omega, by rw [Array.getElem_toList, Array.getElem_extract]⟩
end
section
variable {prog : Program} {w : World} {A : Around} {E : Value → Shared → Prop} {s : Shared} {κ : SortKind} {rk : Keyed → Int} {G : Keyed → Prop} {c : Array Keyed} {p : Array (Nat × Nat × Nat)}
theorem tm_ltr (C : TmC prog w A E s κ rk G) {x y : Keyed} {Q : Option Bool → SortSt → Prop} {st : SortSt} (hk : kindOf st = κ) (hx : G x) (hy : G y) (h : ∀ r, r = decide (rk x < rk y) → Q (some r) st) : wpS (model prog w) A E s (lt' x y) Q st := tm_lt C hk hx hy (h _ rfl)
theorem tm_hi (C : TmC prog w A E s κ rk G) {a b : Array Keyed} {Q : Array Keyed → SortSt → Prop} {st : SortSt} (hk : TmS κ c p st) (ga : ∀ x ∈ a.toList, G x) (gb : ∀ x ∈ b.toList, G x) (sa : Srt rk a 0 a.size) (sb : Srt rk b 0 b.size) (za : 0 < a.size) (zb : 0 < b.size) (h0 : Rk rk b 0 < Rk rk a 0) (h1 : ∀ i, i < b.size → Rk rk b i ≤ Rk rk a (a.size - 1))
    (h : ∀ out st', TmS κ c p st' → TmF rk out.toList (a.toList ++ b.toList) → Q out st') : wpS (model prog w) A E s (mHi a b) Q st := by
  have leA : ∀ {i : Nat} {y : Keyed} (hi : i < a.size), y ∈ (a.toList.take (i + 1)).reverse → rk y ≤ rk a[i] := fun {i y} hi hy => by
    obtain ⟨j, hj, hj2, rfl⟩ := mem_upto (List.mem_reverse.mp hy)
    rw [← Rk_eq (rk := rk) hi, ← Rk_eq (rk := rk) hj2]
    exact sa _ _ (Nat.zero_le _) (by omega) hi
  have leB : ∀ {i : Nat} {y : Keyed} (hi : i < b.size), y ∈ (b.toList.take (i + 1)).reverse → rk y ≤ rk b[i] := fun {i y} hi hy => by
    obtain ⟨j, hj, hj2, rfl⟩ := mem_upto (List.mem_reverse.mp hy)
    rw [← Rk_eq (rk := rk) hi, ← Rk_eq (rk := rk) hj2]
    exact sb _ _ (Nat.zero_le _) (by omega) hi
  have pw : ∀ {d : Array Keyed}, Srt rk d 0 d.size → ∀ i, (d.toList.take i).reverse.Pairwise fun x y => - rk x ≤ - rk y := fun {d} sd i => List.pairwise_reverse.mpr ((sd.all.sublist (List.take_sublist _ _)).imp fun z => by omega)
  have pwA := pw sa
  have pwB := pw sb
  obtain ⟨T, hT⟩ : ∃ T, T = a.toList ++ b.toList := ⟨_, rfl⟩
  have cA : ∀ {out : Array Keyed} {na nb : Nat} (k : Nat), k ≤ na → TmM (fun x => - rk x) (a.toList.take na).reverse (b.toList.take nb).reverse out.toList T → (∀ x ∈ (a.extract k na).reverse.toList, ∀ y ∈ (b.toList.take nb).reverse, rk y ≤ rk x) → TmM (fun x => - rk x) (a.toList.take k).reverse (b.toList.take nb).reverse (out ++ (a.extract k na).reverse).toList T := fun {out na nb} k hk m hc => by
    rw [Array.toList_append]
    have q := pwA na
    rw [take_more hk] at m q
    exact m.chunk q fun x hx y hy => by have := hc x hx y hy; omega
  have cB : ∀ {out : Array Keyed} {na nb : Nat} (k : Nat), k ≤ nb → TmM (fun x => - rk x) (a.toList.take na).reverse (b.toList.take nb).reverse out.toList T → (∀ x ∈ (b.extract k nb).reverse.toList, ∀ y ∈ (a.toList.take na).reverse, rk y ≤ rk x) → TmM (fun x => - rk x) (a.toList.take na).reverse (b.toList.take k).reverse (out ++ (b.extract k nb).reverse).toList T := fun {out na nb} k hk m hc => by
    rw [Array.toList_append]
    have q := pwB nb
    have m := m.swap
    rw [take_more hk] at m q
    exact (m.chunk q fun x hx y hy => by have := hc x hx y hy; omega).swap
  have pA : ∀ {out : Array Keyed} {na nb : Nat} (hi : na < a.size), TmM (fun x => - rk x) (a.toList.take (na + 1)).reverse (b.toList.take nb).reverse out.toList T → (∀ y ∈ (b.toList.take nb).reverse, rk y ≤ rk a[na]) → TmM (fun x => - rk x) (a.toList.take na).reverse (b.toList.take nb).reverse (out.push a[na]).toList T := fun {out na nb} hi m hc => by
    rw [Array.toList_push]
    have q := pwA (na + 1)
    rw [take_one hi] at m q
    exact m.chunk q fun x hx y hy => by have := hc y hy; rw [List.mem_singleton.mp hx]; omega
  have pB : ∀ {out : Array Keyed} {na nb : Nat} (hi : nb < b.size), TmM (fun x => - rk x) (a.toList.take na).reverse (b.toList.take (nb + 1)).reverse out.toList T → (∀ y ∈ (a.toList.take na).reverse, rk y ≤ rk b[nb]) → TmM (fun x => - rk x) (a.toList.take na).reverse (b.toList.take nb).reverse (out.push b[nb]).toList T := fun {out na nb} hi m hc => by
    rw [Array.toList_push]
    have q := pwB (nb + 1)
    have m := m.swap
    rw [take_one hi] at m q
    exact (m.chunk q fun x hx y hy => by have := hc y hy; rw [List.mem_singleton.mp hx]; omega).swap
  have dn : ∀ {out : Array Keyed} {na nb : Nat}, TmM (fun x => - rk x) (a.toList.take na).reverse (b.toList.take nb).reverse out.toList T → (na = 0 ∨ nb = 0) → TmF rk (a.extract 0 na ++ b.extract 0 nb ++ out.reverse).toList T := fun {out na nb} m hz => by
    have := (m.swap.fin (pwB nb) (pwA na) fun x hx y hy => by
      obtain ⟨j, hj, _, _⟩ := mem_upto (List.mem_reverse.mp hx)
      obtain ⟨i, hi, _, _⟩ := mem_upto (List.mem_reverse.mp hy)
      omega).rev
    rw [List.reverse_append, List.reverse_append, List.reverse_reverse, List.reverse_reverse] at this
    rw [Array.toList_append, Array.toList_append, ext_take, ext_take, Array.toList_reverse, List.append_assoc]
    exact this
  have fs : ∀ {out : Array Keyed} {na nb : Nat}, TmM (fun x => - rk x) (a.toList.take na).reverse (b.toList.take nb).reverse out.toList T → nb = 1 → TmF rk (b.extract 0 nb ++ a.extract 0 na ++ out.reverse).toList T := fun {out na nb} m hz => by
    have := (m.fin (pwA na) (pwB nb) fun x hx y hy => by
      obtain ⟨j, hj, hj2, rfl⟩ := mem_upto (List.mem_reverse.mp hx)
      obtain ⟨i, hi, hi2, rfl⟩ := mem_upto (List.mem_reverse.mp hy)
      have e0 : i = 0 := by omega
      subst e0
      have := sa 0 j (Nat.le_refl _) (Nat.zero_le _) hj2
      rw [← Rk_eq (rk := rk) hi2, ← Rk_eq (rk := rk) hj2]
      omega).rev
    rw [List.reverse_append, List.reverse_append, List.reverse_reverse, List.reverse_reverse] at this
    rw [Array.toList_append, Array.toList_append, ext_take, ext_take, Array.toList_reverse, List.append_assoc]
    exact this
  obtain ⟨n1, hn1⟩ : ∃ n1, a.size = n1 + 1 := ⟨a.size - 1, by omega⟩
  have zn : a.size - 1 < a.size := by omega
  have start : TmM (fun x => - rk x) (a.toList.take (a.size - 1)).reverse (b.toList.take b.size).reverse (#[a[a.size - 1]] : Array Keyed).toList T := by
    refine pA (out := #[]) zn ⟨?_, .nil, fun x hx => nomatch hx⟩ fun y hy => ?_
    · rw [show a.size - 1 + 1 = a.size by omega, ← Array.length_toList, ← Array.length_toList, List.take_length, List.take_length, hT]
      exact (List.reverse_perm _).append (List.reverse_perm _)
    · obtain ⟨j, hj, hj2, rfl⟩ := mem_upto (List.mem_reverse.mp hy)
      rw [← Rk_eq (rk := rk) zn, ← Rk_eq (rk := rk) hj2]
      exact h1 j hj2
  rw [← hT] at h
  refine wpS_bind (wpS_lift (wpAny_rule ⟨rfl, ?_⟩))
  refine wpS_bind (tm_el zn ?_)
  refine tm_if (fun e => wpS_pure (h _ _ hk (dn start (.inl (by simpa using e))))) fun e1 => ?_
  refine tm_if (fun e => wpS_pure (h _ _ hk (fs start (by simpa using e)))) fun e2 => ?_
  have e1 : ¬ a.size - 1 = 0 := by simpa using e1
  have e2 : ¬ b.size = 1 := by simpa using e2
  refine wpS_bind (wpS_get ?_)
  refine wpS_bind (wpS_mono (wpS_forRange (I := fun x cc st' => TmS κ c p st' ∧ ∃ na nb out g, cc = (none, na, nb, out, g) ∧ TmM (fun x => - rk x) (a.toList.take na).reverse (b.toList.take nb).reverse out.toList T ∧ 0 < na ∧ na ≤ a.size ∧ 1 < nb ∧ nb ≤ b.size ∧ x + 1 + (na + nb) ≤ a.size + b.size)
    (Q := fun cc st' => TmS κ c p st' ∧ ∃ r o, cc = (some r, o) ∧ TmF rk r.toList T) ?_ ?_ ⟨hk, a.size - 1, b.size, _, _, rfl, start, by omega, by omega, by omega, by omega, by omega⟩) ?_)
  · rintro x cc st' _ hx ⟨k', na, nb, out, g, rfl, m, b1, b2, b3, b4, b5⟩
    refine wpS_bind (wpS_mono (wpS_forRange (I := fun y cc st' => TmS κ c p st' ∧ ∃ na nb out ac bc, cc = (none, na, nb, out, ac, bc) ∧ TmM (fun x => - rk x) (a.toList.take na).reverse (b.toList.take nb).reverse out.toList T ∧ 0 < na ∧ na ≤ a.size ∧ 1 < nb ∧ nb ≤ b.size ∧ x + 1 + y + (na + nb) ≤ a.size + b.size)
      (Q := fun cc st' => TmS κ c p st' ∧ ((∃ r o, cc = (some r, o) ∧ TmF rk r.toList T) ∨ ∃ na nb out ac bc, cc = (none, na, nb, out, ac, bc) ∧ TmM (fun x => - rk x) (a.toList.take na).reverse (b.toList.take nb).reverse out.toList T ∧ 0 < na ∧ na ≤ a.size ∧ 1 < nb ∧ nb ≤ b.size ∧ x + 2 + (na + nb) ≤ a.size + b.size)) ?_ ?_ ⟨k', na, nb, out, 0, 0, rfl, m, b1, b2, b3, b4, by omega⟩) ?_)
    · rintro y cc st' _ hy ⟨k', na, nb, out, ac, bc, rfl, m, b1, b2, b3, b4, b5⟩
      obtain ⟨na, rfl⟩ : ∃ n, na = n + 1 := ⟨na - 1, by omega⟩
      obtain ⟨nb, rfl⟩ : ∃ n, nb = n + 1 := ⟨nb - 1, by omega⟩
      have ia : na < a.size := by omega
      have ib : nb < b.size := by omega
      refine wpS_bind (tm_el (i := nb + 1 - 1) ib (wpS_bind (tm_el (i := na + 1 - 1) ia (wpS_bind (tm_ltr C k'.1 (gb _ (by simp)) (ga _ (by simp)) fun r hr => ?_)))))
      have hr : r = decide (rk b[nb] < rk a[na]) := hr
      cases r with
      | true =>
        have hw := of_decide_eq_true hr.symm
        refine wpS_bind (tm_el (i := na + 1 - 1) ia ?_)
        have m' := pA ia m fun y hy => by have := leB ib hy; omega
        refine tm_if (fun e => wpS_pure ⟨k', .inl ⟨_, _, rfl, dn m' (.inl (by simpa using e))⟩⟩) fun e => ?_
        have e : ¬ na = 0 := by simpa using e
        have z1 : 0 < na := by omega
        have z2 : na ≤ a.size := by omega
        have z3 : x + 2 + (na + (nb + 1)) ≤ a.size + b.size := by omega
        have z4 : x + 1 + (y + 1) + (na + (nb + 1)) ≤ a.size + b.size := by omega
        exact tm_if (fun _ => wpS_pure ⟨k', .inr ⟨_, _, _, _, _, rfl, m', z1, z2, b3, b4, z3⟩⟩) fun _ => wpS_pure ⟨k', _, _, _, _, _, rfl, m', z1, z2, b3, b4, z4⟩
      | false =>
        have hw := of_decide_eq_false hr.symm
        refine wpS_bind (tm_el (i := nb + 1 - 1) ib ?_)
        have m' := pB ib m fun y hy => by have := leA ia hy; omega
        refine tm_if (fun e => wpS_pure ⟨k', .inl ⟨_, _, rfl, fs m' (by simpa using e)⟩⟩) fun e => ?_
        have e : ¬ nb = 1 := by simpa using e
        have z1 : 1 < nb := by omega
        have z2 : nb ≤ b.size := by omega
        have z3 : x + 2 + (na + 1 + nb) ≤ a.size + b.size := by omega
        have z4 : x + 1 + (y + 1) + (na + 1 + nb) ≤ a.size + b.size := by omega
        exact tm_if (fun _ => wpS_pure ⟨k', .inr ⟨_, _, _, _, _, rfl, m', b1, b2, z1, z2, z3⟩⟩) fun _ => wpS_pure ⟨k', _, _, _, _, _, rfl, m', b1, b2, z1, z2, z4⟩
    · rintro cc st' ⟨k', na, nb, out, ac, bc, rfl, m, b1, b2, b3, b4, b5⟩
      exact ⟨k', .inr ⟨_, _, _, _, _, rfl, m, b1, b2, b3, b4, by omega⟩⟩
    · rintro cc st' ⟨k', ⟨r, o, rfl, hF⟩ | ⟨na, nb, out, ac, bc, rfl, m, b1, b2, b3, b4, b5⟩⟩
      · exact wpS_pure ⟨k', r, _, rfl, hF⟩
      refine wpS_bind (wpS_lift (wpAny_rule ⟨rfl, ?_⟩))
      refine wpS_bind (wpS_mono (wpS_forRange (I := fun y cc st' => TmS κ c p st' ∧ ∃ na nb out g ac bc, cc = (none, na, nb, out, g, ac, bc) ∧ TmM (fun x => - rk x) (a.toList.take na).reverse (b.toList.take nb).reverse out.toList T ∧ 0 < na ∧ na ≤ a.size ∧ 1 < nb ∧ nb ≤ b.size ∧ x + 2 + (na + nb) ≤ a.size + b.size)
        (Q := fun cc st' => TmS κ c p st' ∧ ((∃ r o, cc = (some r, o) ∧ TmF rk r.toList T) ∨ ∃ na nb out g ac bc, cc = (none, na, nb, out, g, ac, bc) ∧ TmM (fun x => - rk x) (a.toList.take na).reverse (b.toList.take nb).reverse out.toList T ∧ 0 < na ∧ na ≤ a.size ∧ 1 < nb ∧ nb ≤ b.size ∧ x + 2 + (na + nb) ≤ a.size + b.size)) ?_ ?_ ⟨k', na, nb, out, _, _, _, rfl, m, b1, b2, b3, b4, by omega⟩) ?_)
      · rintro y cc st' _ hy ⟨k', na, nb, out, g, ac, bc, rfl, m, b1, b2, b3, b4, b5⟩
        obtain ⟨nb, rfl⟩ : ∃ n, nb = n + 1 := ⟨nb - 1, by omega⟩
        have ib : nb < b.size := by omega
        have sA : Srt rk a 0 (0 + na) := fun i j g1 g2 g3 => sa i j g1 g2 (by omega)
        have hz : 0 + na ≤ a.size := by omega
        have hz2 : na - 1 < na := by omega
        refine tm_if (fun _ => ?_) fun _ => ?_
        all_goals
          refine wpS_bind (tm_setG (fun st2 k2 => ?_) k')
          refine wpS_bind (tm_el (i := nb + 1 - 1) ib (wpS_bind (tm_galR C k2.1 hz2 hz (gb _ (by simp)) ga sA fun k q1 q2 q3 => ?_)))
          have q1 : k ≤ na := q1
          have q2 : ∀ i, i < k → Rk rk a i ≤ rk b[nb] := fun i hi => by have := q2 i hi; rw [Nat.zero_add] at this; exact this
          have q3 : ∀ i, k ≤ i → i < na → rk b[nb] < Rk rk a i := fun i hi hi2 => by have := q3 i hi hi2; rw [Nat.zero_add] at this; exact this
          have mk := cA k q1 m fun x hx y hy => by
            obtain ⟨j, g1, g2, hj, rfl⟩ := mem_rchunk hx
            have := q3 j g1 g2
            rw [Rk_eq hj] at this
            have := leB ib hy
            omega
          refine tm_if (fun k0 => tm_if (fun e => wpS_pure ⟨k2, .inl ⟨_, _, rfl, dn mk (.inl (by simpa using e))⟩⟩) fun e1 => ?_) fun k0 => ?_
          · have e1 : ¬ k = 0 := by simpa using e1
            obtain ⟨k, rfl⟩ : ∃ n, k = n + 1 := ⟨k - 1, by omega⟩
            have ia : k < a.size := by omega
            have hq := q2 k (by omega)
            rw [Rk_eq ia] at hq
            have m3 := pB ib mk fun y hy => by have := leA ia hy; omega
            refine wpS_bind (tm_el (i := nb + 1 - 1) ib (tm_if (fun e => wpS_pure ⟨k2, .inl ⟨_, _, rfl, fs m3 (by simpa using e)⟩⟩) fun e3 => ?_))
            have e3 : ¬ nb = 1 := by simpa using e3
            have sB : Srt rk b 0 (0 + nb) := fun i j g1 g2 g3 => sb i j g1 g2 (by omega)
            refine wpS_bind (tm_el (i := k + 1 - 1) ia (wpS_bind (tm_galL C k2.1 (by omega : nb - 1 < nb) (by omega : 0 + nb ≤ b.size) (ga _ (by simp)) gb sB fun l r1 r2 r3 => ?_)))
            have r1 : l ≤ nb := r1
            have r2 : ∀ i, i < l → Rk rk b i < rk a[k] := fun i hi => by have := r2 i hi; rw [Nat.zero_add] at this; exact this
            have r3 : ∀ i, l ≤ i → i < nb → rk a[k] ≤ Rk rk b i := fun i hi hi2 => by have := r3 i hi hi2; rw [Nat.zero_add] at this; exact this
            have m4 := cB l r1 m3 fun x hx y hy => by
              obtain ⟨j, g1, g2, hj, rfl⟩ := mem_rchunk hx
              have := r3 j g1 g2
              rw [Rk_eq hj] at this
              have := leA ia hy
              omega
            refine tm_if (fun l0 => tm_if (fun e => wpS_pure ⟨k2, .inl ⟨_, _, rfl, fs m4 (by simpa using e)⟩⟩) fun e4 => tm_if (fun e => wpS_pure ⟨k2, .inl ⟨_, _, rfl, dn m4 (.inr (by simpa using e))⟩⟩) fun e6 => ?_) fun l0 => ?_
            · have e4 : ¬ l = 1 := by simpa using e4
              have e6 : ¬ l = 0 := by simpa using e6
              have m5 := pA ia m4 fun y hy => by
                obtain ⟨j, hj, hj2, rfl⟩ := mem_upto (List.mem_reverse.mp hy)
                have := r2 j hj
                rw [Rk_eq hj2] at this
                omega
              refine wpS_bind (tm_el (i := k + 1 - 1) ia (tm_if (fun e => wpS_pure ⟨k2, .inl ⟨_, _, rfl, dn m5 (.inl (by simpa using e))⟩⟩) fun e5 => ?_))
              have e5 : ¬ k = 0 := by simpa using e5
              have z1 : 0 < k := by omega
              have z2 : k ≤ a.size := by omega
              have z3 : 1 < l := by omega
              have z4 : l ≤ b.size := by omega
              have z5 : x + 2 + (k + l) ≤ a.size + b.size := by omega
              exact tm_if (fun _ => wpS_pure ⟨k2, .inr ⟨_, _, _, _, _, _, rfl, m5, z1, z2, z3, z4, z5⟩⟩) fun _ => wpS_pure ⟨k2, _, _, _, _, _, _, rfl, m5, z1, z2, z3, z4, z5⟩
            · have e4 : l = nb := by have : ¬ nb - l > 0 := l0; omega
              subst e4
              have m5 := pA ia m3 fun y hy => by
                obtain ⟨j, hj, hj2, rfl⟩ := mem_upto (List.mem_reverse.mp hy)
                have := r2 j hj
                rw [Rk_eq hj2] at this
                omega
              refine wpS_bind (tm_el (i := k + 1 - 1) ia (tm_if (fun e => wpS_pure ⟨k2, .inl ⟨_, _, rfl, dn m5 (.inl (by simpa using e))⟩⟩) fun e5 => ?_))
              have e5 : ¬ k = 0 := by simpa using e5
              have z1 : 0 < k := by omega
              have z2 : k ≤ a.size := by omega
              have z3 : 1 < l := by omega
              have z4 : l ≤ b.size := by omega
              have z5 : x + 2 + (k + l) ≤ a.size + b.size := by omega
              exact tm_if (fun _ => wpS_pure ⟨k2, .inr ⟨_, _, _, _, _, _, rfl, m5, z1, z2, z3, z4, z5⟩⟩) fun _ => wpS_pure ⟨k2, _, _, _, _, _, _, rfl, m5, z1, z2, z3, z4, z5⟩
          · have e1 : k = na := by have : ¬ na - k > 0 := k0; omega
            subst e1
            obtain ⟨k, rfl⟩ : ∃ n, k = n + 1 := ⟨k - 1, by omega⟩
            have ia : k < a.size := by omega
            have hq := q2 k (by omega)
            rw [Rk_eq ia] at hq
            have m3 := pB ib m fun y hy => by have := leA ia hy; omega
            refine wpS_bind (tm_el (i := nb + 1 - 1) ib (tm_if (fun e => wpS_pure ⟨k2, .inl ⟨_, _, rfl, fs m3 (by simpa using e)⟩⟩) fun e3 => ?_))
            have e3 : ¬ nb = 1 := by simpa using e3
            have sB : Srt rk b 0 (0 + nb) := fun i j g1 g2 g3 => sb i j g1 g2 (by omega)
            refine wpS_bind (tm_el (i := k + 1 - 1) ia (wpS_bind (tm_galL C k2.1 (by omega : nb - 1 < nb) (by omega : 0 + nb ≤ b.size) (ga _ (by simp)) gb sB fun l r1 r2 r3 => ?_)))
            have r1 : l ≤ nb := r1
            have r2 : ∀ i, i < l → Rk rk b i < rk a[k] := fun i hi => by have := r2 i hi; rw [Nat.zero_add] at this; exact this
            have r3 : ∀ i, l ≤ i → i < nb → rk a[k] ≤ Rk rk b i := fun i hi hi2 => by have := r3 i hi hi2; rw [Nat.zero_add] at this; exact this
            have m4 := cB l r1 m3 fun x hx y hy => by
              obtain ⟨j, g1, g2, hj, rfl⟩ := mem_rchunk hx
              have := r3 j g1 g2
              rw [Rk_eq hj] at this
              have := leA ia hy
              omega
            refine tm_if (fun l0 => tm_if (fun e => wpS_pure ⟨k2, .inl ⟨_, _, rfl, fs m4 (by simpa using e)⟩⟩) fun e4 => tm_if (fun e => wpS_pure ⟨k2, .inl ⟨_, _, rfl, dn m4 (.inr (by simpa using e))⟩⟩) fun e6 => ?_) fun l0 => ?_
            · have e4 : ¬ l = 1 := by simpa using e4
              have e6 : ¬ l = 0 := by simpa using e6
              have m5 := pA ia m4 fun y hy => by
                obtain ⟨j, hj, hj2, rfl⟩ := mem_upto (List.mem_reverse.mp hy)
                have := r2 j hj
                rw [Rk_eq hj2] at this
                omega
              refine wpS_bind (tm_el (i := k + 1 - 1) ia (tm_if (fun e => wpS_pure ⟨k2, .inl ⟨_, _, rfl, dn m5 (.inl (by simpa using e))⟩⟩) fun e5 => ?_))
              have e5 : ¬ k = 0 := by simpa using e5
              have z1 : 0 < k := by omega
              have z2 : k ≤ a.size := by omega
              have z3 : 1 < l := by omega
              have z4 : l ≤ b.size := by omega
              have z5 : x + 2 + (k + l) ≤ a.size + b.size := by omega
              exact tm_if (fun _ => wpS_pure ⟨k2, .inr ⟨_, _, _, _, _, _, rfl, m5, z1, z2, z3, z4, z5⟩⟩) fun _ => wpS_pure ⟨k2, _, _, _, _, _, _, rfl, m5, z1, z2, z3, z4, z5⟩
            · have e4 : l = nb := by have : ¬ nb - l > 0 := l0; omega
              subst e4
              have m5 := pA ia m3 fun y hy => by
                obtain ⟨j, hj, hj2, rfl⟩ := mem_upto (List.mem_reverse.mp hy)
                have := r2 j hj
                rw [Rk_eq hj2] at this
                omega
              refine wpS_bind (tm_el (i := k + 1 - 1) ia (tm_if (fun e => wpS_pure ⟨k2, .inl ⟨_, _, rfl, dn m5 (.inl (by simpa using e))⟩⟩) fun e5 => ?_))
              have e5 : ¬ k = 0 := by simpa using e5
              have z1 : 0 < k := by omega
              have z2 : k ≤ a.size := by omega
              have z3 : 1 < l := by omega
              have z4 : l ≤ b.size := by omega
              have z5 : x + 2 + (k + l) ≤ a.size + b.size := by omega
              exact tm_if (fun _ => wpS_pure ⟨k2, .inr ⟨_, _, _, _, _, _, rfl, m5, z1, z2, z3, z4, z5⟩⟩) fun _ => wpS_pure ⟨k2, _, _, _, _, _, _, rfl, m5, z1, z2, z3, z4, z5⟩
      · rintro cc st' ⟨k', na, nb, out, g, ac, bc, rfl, m, b1, b2, b3, b4, b5⟩
        exact ⟨k', .inr ⟨_, _, _, _, _, _, rfl, m, b1, b2, b3, b4, b5⟩⟩
      · rintro cc st' ⟨k', ⟨r, o, rfl, hF⟩ | ⟨na, nb, out, g, ac, bc, rfl, m, b1, b2, b3, b4, b5⟩⟩
        · exact wpS_pure ⟨k', r, _, rfl, hF⟩
        · exact wpS_bind (tm_setG (fun st'' k'' => wpS_pure ⟨k'', na, nb, out, _, rfl, m, b1, b2, b3, b4, (by omega : x + 1 + 1 + (na + nb) ≤ a.size + b.size)⟩) k')
  · rintro cc st' ⟨k', na, nb, out, g, rfl, m, b1, b2, b3, b4, b5⟩
    omega
  · rintro cc st' ⟨k', r, o, rfl, hF⟩
    exact wpS_pure (h _ _ k' hF)
end
def TB (a : Array Keyed) (lo hi : Nat) (b : Array Keyed) : Prop := b.Perm a ∧ ∀ k, (k < lo ∨ hi ≤ k) → b[k]? = a[k]?
def Dsc (rk : Keyed → Int) (a : Array Keyed) (lo hi : Nat) : Prop := ∀ i j, lo ≤ i → i ≤ j → j < hi → Rk rk a j ≤ Rk rk a i
section
variable {rk : Keyed → Int} {a b c : Array Keyed} {lo hi : Nat} {G : Keyed → Prop}
theorem TB.refl : TB a lo hi a := ⟨.refl _, fun _ _ => rfl⟩
theorem TB.trans (h : TB a lo hi b) (g : TB b lo hi c) : TB a lo hi c := ⟨g.1.trans h.1, fun k hk => (g.2 k hk).trans (h.2 k hk)⟩
theorem TB.wide {l h' : Nat} (h : TB a lo hi b) (h1 : l ≤ lo) (h2 : hi ≤ h') : TB a l h' b := ⟨h.1, fun k hk => h.2 k (by omega)⟩
theorem TB.size (h : TB a lo hi b) : b.size = a.size := h.1.size_eq
theorem TB.all (h : TB a lo hi b) (g : ∀ x ∈ a.toList, G x) : ∀ x ∈ b.toList, G x := fun x hx => g x ((Array.perm_iff_toList_perm.mp h.1).mem_iff.mp hx)
theorem tb_mirror {i j : Nat} (hj : j ≤ a.size) (h1 : lo ≤ i) (h2 : j ≤ hi) : TB a lo hi (mirror a i j ((j - i) / 2)) := ⟨mirror_perm _ _ _ _, fun k hk => by rw [getElem?_mirror_all hj, if_neg (by omega)]⟩
theorem rk_mirror {i j : Nat} (hj : j ≤ a.size) (k : Nat) : Rk rk (mirror a i j ((j - i) / 2)) k = if i ≤ k ∧ k < j then Rk rk a (i + j - 1 - k) else Rk rk a k := by
  have e := getElem?_mirror_all (i := i) hj k
  by_cases h : i ≤ k ∧ k < j
  · rw [if_pos h] at e ⊢; exact Rk_of e
  · rw [if_neg h] at e ⊢; exact Rk_of e
theorem rk_mirror_eq {i j : Nat} {v : Int} (hj : j ≤ a.size) (he : ∀ k, i ≤ k → k < j → Rk rk a k = v) (k : Nat) : Rk rk (mirror a i j ((j - i) / 2)) k = Rk rk a k := by
  rw [rk_mirror hj]
  by_cases h : i ≤ k ∧ k < j
  · rw [if_pos h, he _ (by omega) (by omega), he k h.1 h.2]
  · rw [if_neg h]
end
section
variable {prog : Program} {w : World} {A : Around} {E : Value → Shared → Prop} {s : Shared} {κ : SortKind} {rk : Keyed → Int} {G : Keyed → Prop} {a : Array Keyed} {p : Array (Nat × Nat × Nat)}
theorem tm_ltAt (C : TmC prog w A E s κ rk G) {i j : Nat} {Q : Option Bool → SortSt → Prop} {st : SortSt} (hk : TmS κ a p st) (ga : ∀ x ∈ a.toList, G x) (hi : i < a.size) (hj : j < a.size) (h1 : Rk rk a i < Rk rk a j → Q (some true) st) (h2 : ¬ Rk rk a i < Rk rk a j → Q (some false) st) : wpS (model prog w) A E s (ltAt' i j) Q st := by
  rw [ltAt'_eq]
  refine wpS_bind (wpS_get ?_)
  dsimp only
  rw [hk.2.1]
  refine wpS_bind (tm_el hi (wpS_bind (tm_el hj (tm_ltr C hk.1 (ga _ (by simp)) (ga _ (by simp)) fun r hr => ?_))))
  rw [← Rk_eq (rk := rk) hi, ← Rk_eq (rk := rk) hj] at hr
  cases r with
  | true => exact h1 (of_decide_eq_true hr.symm)
  | false => exact h2 (of_decide_eq_false hr.symm)
theorem TmS.set {st : SortSt} {b : Array Keyed} (h : TmS κ a p st) : TmS κ b p (setArr st b) := ⟨h.1, rfl, h.2.2.1, h.2.2.2⟩
theorem tm_revs {i j : Nat} {Q : Unit → SortSt → Prop} {st : SortSt} (hk : TmS κ a p st) (h : ∀ st', TmS κ (mirror a i j ((j - i) / 2)) p st' → Q () st') : wpS (model prog w) A E s (reverseSlice' i j) Q st := by
  rw [reverseSlice'_eq]
  refine wpS_modify (h _ ?_)
  rw [hk.2.1]
  exact hk.set
theorem tm_move {i j : Nat} {Q : Unit → SortSt → Prop} {st : SortSt} (hk : TmS κ a p st) (h : ∀ st', TmS κ (bubble a i (i - j)) p st' → Q () st') : wpS (model prog w) A E s (moveDown' i j) Q st := by
  rw [moveDown'_eq]
  refine wpS_modify (h _ ?_)
  rw [hk.2.1]
  exact hk.set
theorem tm_bs (C : TmC prog w A E s κ rk G) {lo n ok : Nat} {Q : Bool → SortSt → Prop} {st : SortSt} (hk : TmS κ a p st) (ga : ∀ x ∈ a.toList, G x) (hn : lo + n ≤ a.size) (hok : ok ≤ n) (hs : Srt rk a lo (lo + ok))
    (h : ∀ b st', TmS κ b p st' → TB a lo (lo + n) b → Srt rk b lo (lo + n) → Q true st') : wpS (model prog w) A E s (binarySort' lo n ok) Q st := by
  refine wpS_bind (wpS_mono (wpS_forRange (I := fun k c st' => c = (none, ()) ∧ ∃ b, TmS κ b p st' ∧ TB a lo (lo + n) b ∧ Srt rk b lo (lo + min k n)) (Q := fun c st' => c = (none, ()) ∧ ∃ b, TmS κ b p st' ∧ TB a lo (lo + n) b ∧ Srt rk b lo (lo + n)) ?_ ?_ ⟨rfl, a, hk, .refl, fun i j g1 g2 g3 => ?_⟩) ?_)
  · rintro k c st' hak hkn ⟨rfl, b, hb, tb, sb⟩
    rw [Nat.min_eq_left (Nat.le_of_lt hkn)] at sb
    have bz := tb.size
    have gb := tb.all ga
    refine wpS_bind (wpS_mono (wpS_forRange (I := fun x c st'' => st'' = st' ∧ ∃ l r, c = (none, l, r) ∧ l ≤ r ∧ r ≤ k ∧ r - l ≤ k - x ∧ (∀ i, i < l → Rk rk b (lo + i) ≤ Rk rk b (lo + k)) ∧ ∀ i, r ≤ i → i < k → Rk rk b (lo + k) < Rk rk b (lo + i))
      (Q := fun c st'' => st'' = st' ∧ ∃ l, c = (none, l, l) ∧ l ≤ k ∧ (∀ i, i < l → Rk rk b (lo + i) ≤ Rk rk b (lo + k)) ∧ ∀ i, l ≤ i → i < k → Rk rk b (lo + k) < Rk rk b (lo + i)) ?_ ?_ ⟨rfl, 0, k, rfl, by omega, by omega, by omega, fun i hi => by omega, fun i h1 h2 => by omega⟩) ?_)
    · rintro x c st'' _ hxk ⟨rfl, l, r, rfl, g1, g2, g3, g4, g5⟩
      refine tm_if (fun e => ?_) fun e => ?_
      · have : l = r := by have : l ≥ r := e; omega
        subst this
        exact wpS_pure ⟨rfl, l, rfl, g2, g4, g5⟩
      have e : ¬ l ≥ r := e
      refine wpS_bind (tm_ltAt C hb gb (by omega) (show lo + (l + r) / 2 < b.size by omega) (fun hl => ?_) fun hl => ?_)
      · have hl : Rk rk b (lo + k) < Rk rk b (lo + (l + r) / 2) := hl
        refine wpS_pure ⟨rfl, l, (l + r) / 2, rfl, by omega, by omega, by omega, g4, fun i h1 h2 => ?_⟩
        have := sb (lo + (l + r) / 2) (lo + i) (by omega) (by omega) (by omega)
        omega
      · have hl : ¬ Rk rk b (lo + k) < Rk rk b (lo + (l + r) / 2) := hl
        refine wpS_pure ⟨rfl, (l + r) / 2 + 1, r, rfl, by omega, g2, by omega, fun i h1 => ?_, g5⟩
        have := sb (lo + i) (lo + (l + r) / 2) (by omega) (by omega) (by omega)
        omega
    · rintro c st'' ⟨rfl, l, r, rfl, g1, g2, g3, g4, g5⟩
      have : l = r := by omega
      subst this
      exact ⟨rfl, l, rfl, g2, g4, g5⟩
    · rintro c st'' ⟨rfl, l, rfl, g2, g4, g5⟩
      refine wpS_bind (tm_move hb fun st3 k3 => wpS_pure ⟨rfl, _, k3, tb.trans ⟨bubble_perm _ _ _, fun q hq => ?_⟩, fun i j h1 h2 h3 => ?_⟩)
      · rw [getElem?_bubble (by omega) _ (by omega), if_neg (by omega), if_neg (by omega)]
      · have ee : ∀ q, Rk rk (bubble b (lo + k) (lo + k - (lo + l))) q = if q = lo + l then Rk rk b (lo + k) else if lo + l < q ∧ q ≤ lo + k then Rk rk b (q - 1) else Rk rk b q := fun q => by
          have e := getElem?_bubble (xs := b) (src := lo + k) (by omega) (lo + k - (lo + l)) (by omega) q
          rw [show lo + k - (lo + k - (lo + l)) = lo + l by omega] at e
          by_cases z1 : q = lo + l
          · rw [if_pos z1] at e ⊢; exact Rk_of e
          · rw [if_neg z1] at e ⊢
            by_cases z2 : lo + l < q ∧ q ≤ lo + k
            · rw [if_pos z2] at e ⊢; exact Rk_of e
            · rw [if_neg z2] at e ⊢; exact Rk_of e
        have f4 : ∀ q, lo ≤ q → q < lo + l → Rk rk b q ≤ Rk rk b (lo + k) := fun q q1 q2 => by
          have := g4 (q - lo) (by omega)
          rw [show lo + (q - lo) = q by omega] at this
          exact this
        have f5 : ∀ q, lo + l ≤ q → q < lo + k → Rk rk b (lo + k) < Rk rk b q := fun q q1 q2 => by
          have := g5 (q - lo) (by omega) (by omega)
          rw [show lo + (q - lo) = q by omega] at this
          exact this
        have h3 : j < lo + (k + 1) := by omega
        rw [ee, ee]
        by_cases a1 : j = lo + l
        · rw [if_pos a1]
          by_cases a2 : i = lo + l
          · rw [if_pos a2]; exact Int.le_refl _
          · rw [if_neg a2, if_neg (by omega)]
            exact f4 i h1 (by omega)
        · rw [if_neg a1]
          by_cases a3 : lo + l < j ∧ j ≤ lo + k
          · rw [if_pos a3]
            by_cases a2 : i = lo + l
            · rw [if_pos a2]
              exact Int.le_of_lt (f5 _ (by omega) (by omega))
            · rw [if_neg a2]
              by_cases a4 : lo + l < i ∧ i ≤ lo + k
              · rw [if_pos a4]; exact sb _ _ (by omega) (by omega) (by omega)
              · rw [if_neg a4]; exact sb _ _ (by omega) (by omega) (by omega)
          · rw [if_neg a3, if_neg (by omega), if_neg (by omega)]
            exact sb _ _ h1 h2 (by omega)
  · rintro c st' ⟨rfl, b, hb, tb, sb⟩
    rw [show min (max (max ok 1) n) n = n by omega] at sb
    exact ⟨rfl, b, hb, tb, sb⟩
  · by_cases e : ok = 0
    · have : i = j := by omega
      subst this; exact Int.le_refl _
    · exact hs i j g1 g2 (by omega)
  · rintro c st' ⟨rfl, b, hb, tb, sb⟩
    exact wpS_pure (h b st' hb tb sb)
theorem tm_asc {lo nrem n0 : Nat} {f : Nat → Option (Option Nat) × Nat → StateT SortSt Sem (ForInStep (Option (Option Nat) × Nat))} {Q : Option (Option Nat) × Nat → SortSt → Prop} {st : SortSt}
    (hf : ∀ x n (Q' : ForInStep (Option (Option Nat) × Nat) → SortSt → Prop), 1 ≤ n → n < nrem → (Rk rk a (lo + n) < Rk rk a (lo + n - 1) → Q' (.done (none, n)) st) → (¬ Rk rk a (lo + n) < Rk rk a (lo + n - 1) → Q' (.yield (none, n + 1)) st) → wpS (model prog w) A E s (f x (none, n)) Q' st)
    (h1 : 1 ≤ n0) (h2 : n0 ≤ nrem) (hs : Srt rk a lo (lo + n0)) (h : ∀ n, n0 ≤ n → n ≤ nrem → Srt rk a lo (lo + n) → (n = nrem ∨ Rk rk a (lo + n) < Rk rk a (lo + n - 1)) → Q (none, n) st) : wpS (model prog w) A E s (forIn [n0:nrem] (none, n0) f) Q st := by
  refine wpS_forRange (I := fun x c st' => st' = st ∧ c = (none, x) ∧ Srt rk a lo (lo + x)) ?_ ?_ ⟨rfl, rfl, hs⟩
  · rintro x c st' g1 g2 ⟨rfl, rfl, sx⟩
    refine hf x x _ (by omega) g2 (fun z => h x g1 (by omega) sx (.inr z)) fun z => ⟨rfl, rfl, fun i j i1 i2 i3 => ?_⟩
    by_cases hj : j < lo + x
    · exact sx i j i1 i2 hj
    · by_cases e : i = j
      · subst e; exact Int.le_refl _
      · have e2 : j = lo + x := by omega
        subst e2
        have := sx i (lo + x - 1) i1 (by omega) (by omega)
        omega
  · rintro c st' ⟨rfl, rfl, sx⟩
    rw [Nat.max_eq_right h2] at sx ⊢
    exact h nrem h2 (Nat.le_refl _) sx (.inl rfl)
end
section
variable {prog : Program} {w : World} {A : Around} {E : Value → Shared → Prop} {s : Shared} {κ : SortKind} {rk : Keyed → Int} {G : Keyed → Prop} {a : Array Keyed} {p : Array (Nat × Nat × Nat)}
theorem tm_cnt (C : TmC prog w A E s κ rk G) {lo nrem : Nat} {Q : Option Nat → SortSt → Prop} {st : SortSt} (hk : TmS κ a p st) (ga : ∀ x ∈ a.toList, G x) (hn : lo + nrem ≤ a.size) (h1 : 1 ≤ nrem)
    (h : ∀ b m st', TmS κ b p st' → TB a lo (lo + nrem) b → 1 ≤ m → m ≤ nrem → Srt rk b lo (lo + m) → Q (some m) st') : wpS (model prog w) A E s (countRun' lo nrem) Q st := by
  refine wpS_bind (tm_asc (a := a) (hf := fun x n Q' g1 g2 q1 q2 => wpS_bind (tm_ltAt C hk ga (by omega) (by omega) (fun z => wpS_pure (q1 z)) fun z => wpS_pure (q2 z))) (Nat.le_refl 1) h1 (fun i j g1 g2 g3 => by rw [show i = j by omega]; exact Int.le_refl _) fun n n1 n2 sn hor => ?_)
  refine tm_if (fun e => wpS_pure (h a n st hk .refl n1 n2 sn)) fun e => ?_
  have e : ¬ n = nrem := by simpa using e
  have hl := hor.resolve_left e
  refine tm_if (fun e2 => wpS_bind (tm_ltAt C hk ga (show lo < a.size by omega) (show lo + n - 1 < a.size by omega) (fun _ => wpS_pure (h a n st hk .refl n1 n2 sn)) fun hm => wpS_bind (tm_revs hk fun st3 k3 => ?_))) fun e2 => ?_
  · have hm : ¬ Rk rk a lo < Rk rk a (lo + n - 1) := hm
    have all : ∀ k, lo ≤ k → k < lo + n → Rk rk a k = Rk rk a lo := fun k g1 g2 => by
      have := sn lo k (Nat.le_refl _) g1 g2
      have := sn k (lo + n - 1) g1 (by omega) (by omega)
      omega
    have rm := rk_mirror_eq (show lo + n ≤ a.size by omega) all
    have tb : TB a lo (lo + nrem) (mirror a lo (lo + n) ((lo + n - lo) / 2)) := tb_mirror (by omega) (Nat.le_refl _) (by omega)
    have hb : TmS κ (mirror a lo (lo + n) ((lo + n - lo) / 2)) p st3 := k3
    have db : Dsc rk (mirror a lo (lo + n) ((lo + n - lo) / 2)) lo (lo + (n + 1)) := fun i j i1 i2 i3 => by
      rw [rm, rm]
      by_cases e : j < lo + n
      · rw [all j (by omega) e, all i i1 (by omega)]; exact Int.le_refl _
      · by_cases e5 : i = j
        · rw [e5]; exact Int.le_refl _
        · have := all (lo + n - 1) (by omega) (by omega)
          rw [show j = lo + n by omega, all i i1 (by omega)]
          omega
    generalize mirror a lo (lo + n) ((lo + n - lo) / 2) = b at *
    refine wpS_bind (wpS_lift (wpAny_rule ⟨rfl, ?_⟩))
    refine wpS_bind (wpS_mono (wpS_forRange (I := fun x c st' => ∃ b' q, c = (none, x, q) ∧ TmS κ b' p st' ∧ TB a lo (lo + nrem) b' ∧ Dsc rk b' lo (lo + x) ∧ q + 1 ≤ x ∧ ∀ i, lo + x - (q + 1) ≤ i → i < lo + x → Rk rk b' i = Rk rk b' (lo + x - 1)) (Q := fun c st' => ∃ b' m q, c = (none, m, q) ∧ n + 1 ≤ m ∧ m ≤ nrem ∧ TmS κ b' p st' ∧ TB a lo (lo + nrem) b' ∧ Dsc rk b' lo (lo + m) ∧ q + 1 ≤ m ∧ ∀ i, lo + m - (q + 1) ≤ i → i < lo + m → Rk rk b' i = Rk rk b' (lo + m - 1)) ?_ ?_ ⟨b, 0, rfl, hb, tb, db, by omega, fun i h1 h2 => by rw [show i = lo + (n + 1) - 1 by omega]⟩) ?_)
    · rintro x c st' g1 g2 ⟨b', q, rfl, hb', tb', db', hq, eq⟩
      have bz := tb'.size
      refine wpS_bind (tm_ltAt C hb' (tb'.all ga) (show lo + x < b'.size by omega) (show lo + x - 1 < b'.size by omega) (fun hl => ?_) fun hl => ?_)
      · have hl : Rk rk b' (lo + x) < Rk rk b' (lo + x - 1) := hl
        have nx : ∀ d : Array Keyed, (∀ k, Rk rk d k = Rk rk b' k) → Dsc rk d lo (lo + (x + 1)) := fun d hd i j i1 i2 i3 => by
          rw [hd, hd]
          by_cases e : j < lo + x
          · exact db' i j i1 i2 e
          · by_cases e2 : i = j
            · subst e2; exact Int.le_refl _
            · have := db' i (lo + x - 1) i1 (by omega) (by omega)
              rw [show j = lo + x by omega]
              omega
        have hq1 : 0 + 1 ≤ x + 1 := by omega
        have hq2 : ∀ d : Array Keyed, ∀ i, lo + (x + 1) - (0 + 1) ≤ i → i < lo + (x + 1) → Rk rk d i = Rk rk d (lo + (x + 1) - 1) := fun d i h1 h2 => by rw [show i = lo + (x + 1) - 1 by omega]
        refine tm_if (fun _ => tm_if (fun _ => wpS_bind (tm_revs hb' fun st3 k3 => ?_)) fun _ => ?_) fun z => absurd rfl z
        · exact wpS_pure ⟨_, 0, rfl, k3, tb'.trans (tb_mirror (show lo + x ≤ b'.size by omega) (show lo ≤ lo + x - (q + 1) by omega) (show lo + x ≤ lo + nrem by omega)), nx _ (rk_mirror_eq (show lo + x ≤ b'.size by omega) eq), hq1, hq2 _⟩
        · exact wpS_pure ⟨b', 0, rfl, hb', tb', nx _ fun _ => rfl, hq1, hq2 _⟩
      · have hl : ¬ Rk rk b' (lo + x) < Rk rk b' (lo + x - 1) := hl
        refine wpS_bind (tm_ltAt C hb' (tb'.all ga) (show lo + x - 1 < b'.size by omega) (show lo + x < b'.size by omega) (fun hm => ?_) fun hm => ?_)
        · exact wpS_pure ⟨b', x, q, rfl, g1, by omega, hb', tb', db', hq, eq⟩
        · have hm : ¬ Rk rk b' (lo + x - 1) < Rk rk b' (lo + x) := hm
          have ex : Rk rk b' (lo + x) = Rk rk b' (lo + x - 1) := by omega
          refine wpS_pure ⟨b', q + 1, rfl, hb', tb', fun i j i1 i2 i3 => ?_, by omega, fun i i1 i2 => ?_⟩
          · by_cases e : j < lo + x
            · exact db' i j i1 i2 e
            · by_cases e2 : i = j
              · subst e2; exact Int.le_refl _
              · have := db' i (lo + x - 1) i1 (by omega) (by omega)
                rw [show j = lo + x by omega]
                omega
          · rw [show lo + (x + 1) - 1 = lo + x by omega]
            by_cases e : i = lo + x
            · rw [e]
            · rw [ex]; exact eq i (by omega) (by omega)
    · rintro c st' ⟨b', q, rfl, hb', tb', db', hq, eq⟩
      rw [show max (n + 1) nrem = nrem by omega] at *
      exact ⟨b', nrem, q, rfl, by omega, Nat.le_refl _, hb', tb', db', hq, eq⟩
    · rintro c st' ⟨b', m, q, rfl, m1, m2, hb', tb', db', hq, eq⟩
      have bz := tb'.size
      have last : ∀ (d : Array Keyed) (st4 : SortSt), TmS κ d p st4 → TB a lo (lo + nrem) d → Dsc rk d lo (lo + m) → TB a lo (lo + nrem) (mirror d lo (lo + m) ((lo + m - lo) / 2)) ∧ Srt rk (mirror d lo (lo + m) ((lo + m - lo) / 2)) lo (lo + m) := fun d st4 hd td dd => by
        have dz := td.size
        refine ⟨td.trans (tb_mirror (by omega) (Nat.le_refl _) (by omega)), fun i j i1 i2 i3 => ?_⟩
        rw [rk_mirror (by omega), rk_mirror (by omega), if_pos (by omega), if_pos (by omega)]
        exact dd _ _ (by omega) (by omega) (by omega)
      refine tm_if (fun _ => wpS_bind (tm_revs hb' fun st3 k3 => ?_)) fun _ => ?_
      · have k3 : TmS κ (mirror b' (lo + m - (q + 1)) (lo + m) ((lo + m - (lo + m - (q + 1))) / 2)) p st3 := k3
        obtain ⟨t1, s1⟩ := last _ _ k3 (tb'.trans (tb_mirror (show lo + m ≤ b'.size by omega) (show lo ≤ lo + m - (q + 1) by omega) (show lo + m ≤ lo + nrem by omega))) (fun i j i1 i2 i3 => by rw [rk_mirror_eq (show lo + m ≤ b'.size by omega) eq, rk_mirror_eq (show lo + m ≤ b'.size by omega) eq]; exact db' i j i1 i2 i3)
        generalize mirror b' (lo + m - (q + 1)) (lo + m) ((lo + m - (lo + m - (q + 1))) / 2) = D at k3 t1 s1
        refine wpS_bind (tm_revs k3 fun st5 k5 => ?_)
        have k5 : TmS κ (mirror D lo (lo + m) ((lo + m - lo) / 2)) p st5 := k5
        generalize mirror D lo (lo + m) ((lo + m - lo) / 2) = d at k5 t1 s1
        have dz := t1.size
        exact wpS_bind (tm_asc (a := d) (lo := lo) (nrem := nrem) (n0 := m) (hf := fun x n Q' g1 g2 q1 q2 => wpS_bind (tm_ltAt C k5 (t1.all ga) (show lo + n < d.size by omega) (show lo + n - 1 < d.size by omega) (fun z => wpS_pure (q1 z)) fun z => wpS_pure (q2 z))) (by omega) m2 s1 fun m' g1 g2 g3 _ => wpS_pure (h _ m' _ k5 t1 (by omega) g2 g3))
      · obtain ⟨t1, s1⟩ := last _ _ hb' tb' db'
        refine wpS_bind (tm_revs hb' fun st5 k5 => ?_)
        have k5 : TmS κ (mirror b' lo (lo + m) ((lo + m - lo) / 2)) p st5 := k5
        generalize mirror b' lo (lo + m) ((lo + m - lo) / 2) = d at k5 t1 s1
        have dz := t1.size
        exact wpS_bind (tm_asc (a := d) (lo := lo) (nrem := nrem) (n0 := m) (hf := fun x n Q' g1 g2 q1 q2 => wpS_bind (tm_ltAt C k5 (t1.all ga) (show lo + n < d.size by omega) (show lo + n - 1 < d.size by omega) (fun z => wpS_pure (q1 z)) fun z => wpS_pure (q2 z))) (by omega) m2 s1 fun m' g1 g2 g3 _ => wpS_pure (h _ m' _ k5 t1 (by omega) g2 g3))
  · have e3 : n = 1 := by have : ¬ n > 1 := e2; omega
    have hb := hk
    have tb : TB a lo (lo + nrem) a := .refl
    have db : Dsc rk a lo (lo + (n + 1)) := fun i j i1 i2 i3 => by
      by_cases e : i = j
      · rw [e]; exact Int.le_refl _
      · rw [show i = lo + n - 1 by omega, show j = lo + n by omega]
        omega
    obtain ⟨b, hbe⟩ : ∃ b, b = a := ⟨_, rfl⟩
    rw [← hbe] at hb db
    have tb : TB a lo (lo + nrem) b := by rw [hbe]; exact .refl
    refine wpS_bind (wpS_lift (wpAny_rule ⟨rfl, ?_⟩))
    refine wpS_bind (wpS_mono (wpS_forRange (I := fun x c st' => ∃ b' q, c = (none, x, q) ∧ TmS κ b' p st' ∧ TB a lo (lo + nrem) b' ∧ Dsc rk b' lo (lo + x) ∧ q + 1 ≤ x ∧ ∀ i, lo + x - (q + 1) ≤ i → i < lo + x → Rk rk b' i = Rk rk b' (lo + x - 1)) (Q := fun c st' => ∃ b' m q, c = (none, m, q) ∧ n + 1 ≤ m ∧ m ≤ nrem ∧ TmS κ b' p st' ∧ TB a lo (lo + nrem) b' ∧ Dsc rk b' lo (lo + m) ∧ q + 1 ≤ m ∧ ∀ i, lo + m - (q + 1) ≤ i → i < lo + m → Rk rk b' i = Rk rk b' (lo + m - 1)) ?_ ?_ ⟨b, 0, rfl, hb, tb, db, by omega, fun i h1 h2 => by rw [show i = lo + (n + 1) - 1 by omega]⟩) ?_)
    · rintro x c st' g1 g2 ⟨b', q, rfl, hb', tb', db', hq, eq⟩
      have bz := tb'.size
      refine wpS_bind (tm_ltAt C hb' (tb'.all ga) (show lo + x < b'.size by omega) (show lo + x - 1 < b'.size by omega) (fun hl => ?_) fun hl => ?_)
      · have hl : Rk rk b' (lo + x) < Rk rk b' (lo + x - 1) := hl
        have nx : ∀ d : Array Keyed, (∀ k, Rk rk d k = Rk rk b' k) → Dsc rk d lo (lo + (x + 1)) := fun d hd i j i1 i2 i3 => by
          rw [hd, hd]
          by_cases e : j < lo + x
          · exact db' i j i1 i2 e
          · by_cases e2 : i = j
            · subst e2; exact Int.le_refl _
            · have := db' i (lo + x - 1) i1 (by omega) (by omega)
              rw [show j = lo + x by omega]
              omega
        have hq1 : 0 + 1 ≤ x + 1 := by omega
        have hq2 : ∀ d : Array Keyed, ∀ i, lo + (x + 1) - (0 + 1) ≤ i → i < lo + (x + 1) → Rk rk d i = Rk rk d (lo + (x + 1) - 1) := fun d i h1 h2 => by rw [show i = lo + (x + 1) - 1 by omega]
        refine tm_if (fun _ => tm_if (fun _ => wpS_bind (tm_revs hb' fun st3 k3 => ?_)) fun _ => ?_) fun z => absurd rfl z
        · exact wpS_pure ⟨_, 0, rfl, k3, tb'.trans (tb_mirror (show lo + x ≤ b'.size by omega) (show lo ≤ lo + x - (q + 1) by omega) (show lo + x ≤ lo + nrem by omega)), nx _ (rk_mirror_eq (show lo + x ≤ b'.size by omega) eq), hq1, hq2 _⟩
        · exact wpS_pure ⟨b', 0, rfl, hb', tb', nx _ fun _ => rfl, hq1, hq2 _⟩
      · have hl : ¬ Rk rk b' (lo + x) < Rk rk b' (lo + x - 1) := hl
        refine wpS_bind (tm_ltAt C hb' (tb'.all ga) (show lo + x - 1 < b'.size by omega) (show lo + x < b'.size by omega) (fun hm => ?_) fun hm => ?_)
        · exact wpS_pure ⟨b', x, q, rfl, g1, by omega, hb', tb', db', hq, eq⟩
        · have hm : ¬ Rk rk b' (lo + x - 1) < Rk rk b' (lo + x) := hm
          have ex : Rk rk b' (lo + x) = Rk rk b' (lo + x - 1) := by omega
          refine wpS_pure ⟨b', q + 1, rfl, hb', tb', fun i j i1 i2 i3 => ?_, by omega, fun i i1 i2 => ?_⟩
          · by_cases e : j < lo + x
            · exact db' i j i1 i2 e
            · by_cases e2 : i = j
              · subst e2; exact Int.le_refl _
              · have := db' i (lo + x - 1) i1 (by omega) (by omega)
                rw [show j = lo + x by omega]
                omega
          · rw [show lo + (x + 1) - 1 = lo + x by omega]
            by_cases e : i = lo + x
            · rw [e]
            · rw [ex]; exact eq i (by omega) (by omega)
    · rintro c st' ⟨b', q, rfl, hb', tb', db', hq, eq⟩
      rw [show max (n + 1) nrem = nrem by omega] at *
      exact ⟨b', nrem, q, rfl, by omega, Nat.le_refl _, hb', tb', db', hq, eq⟩
    · rintro c st' ⟨b', m, q, rfl, m1, m2, hb', tb', db', hq, eq⟩
      have bz := tb'.size
      have last : ∀ (d : Array Keyed) (st4 : SortSt), TmS κ d p st4 → TB a lo (lo + nrem) d → Dsc rk d lo (lo + m) → TB a lo (lo + nrem) (mirror d lo (lo + m) ((lo + m - lo) / 2)) ∧ Srt rk (mirror d lo (lo + m) ((lo + m - lo) / 2)) lo (lo + m) := fun d st4 hd td dd => by
        have dz := td.size
        refine ⟨td.trans (tb_mirror (by omega) (Nat.le_refl _) (by omega)), fun i j i1 i2 i3 => ?_⟩
        rw [rk_mirror (by omega), rk_mirror (by omega), if_pos (by omega), if_pos (by omega)]
        exact dd _ _ (by omega) (by omega) (by omega)
      refine tm_if (fun _ => wpS_bind (tm_revs hb' fun st3 k3 => ?_)) fun _ => ?_
      · have k3 : TmS κ (mirror b' (lo + m - (q + 1)) (lo + m) ((lo + m - (lo + m - (q + 1))) / 2)) p st3 := k3
        obtain ⟨t1, s1⟩ := last _ _ k3 (tb'.trans (tb_mirror (show lo + m ≤ b'.size by omega) (show lo ≤ lo + m - (q + 1) by omega) (show lo + m ≤ lo + nrem by omega))) (fun i j i1 i2 i3 => by rw [rk_mirror_eq (show lo + m ≤ b'.size by omega) eq, rk_mirror_eq (show lo + m ≤ b'.size by omega) eq]; exact db' i j i1 i2 i3)
        generalize mirror b' (lo + m - (q + 1)) (lo + m) ((lo + m - (lo + m - (q + 1))) / 2) = D at k3 t1 s1
        refine wpS_bind (tm_revs k3 fun st5 k5 => ?_)
        have k5 : TmS κ (mirror D lo (lo + m) ((lo + m - lo) / 2)) p st5 := k5
        generalize mirror D lo (lo + m) ((lo + m - lo) / 2) = d at k5 t1 s1
        have dz := t1.size
        exact wpS_bind (tm_asc (a := d) (lo := lo) (nrem := nrem) (n0 := m) (hf := fun x n Q' g1 g2 q1 q2 => wpS_bind (tm_ltAt C k5 (t1.all ga) (show lo + n < d.size by omega) (show lo + n - 1 < d.size by omega) (fun z => wpS_pure (q1 z)) fun z => wpS_pure (q2 z))) (by omega) m2 s1 fun m' g1 g2 g3 _ => wpS_pure (h _ m' _ k5 t1 (by omega) g2 g3))
      · obtain ⟨t1, s1⟩ := last _ _ hb' tb' db'
        refine wpS_bind (tm_revs hb' fun st5 k5 => ?_)
        have k5 : TmS κ (mirror b' lo (lo + m) ((lo + m - lo) / 2)) p st5 := k5
        generalize mirror b' lo (lo + m) ((lo + m - lo) / 2) = d at k5 t1 s1
        have dz := t1.size
        exact wpS_bind (tm_asc (a := d) (lo := lo) (nrem := nrem) (n0 := m) (hf := fun x n Q' g1 g2 q1 q2 => wpS_bind (tm_ltAt C k5 (t1.all ga) (show lo + n < d.size by omega) (show lo + n - 1 < d.size by omega) (fun z => wpS_pure (q1 z)) fun z => wpS_pure (q2 z))) (by omega) m2 s1 fun m' g1 g2 g3 _ => wpS_pure (h _ m' _ k5 t1 (by omega) g2 g3))
end
theorem wr_list (s : Nat) : ∀ (l : List Keyed) (n : Nat) (arr : Array Keyed), s + n + l.length ≤ arr.size → ((l.zipIdx n).foldl (fun a q => a.setIfInBounds (s + q.2) q.1) arr).toList = arr.toList.take (s + n) ++ (l ++ arr.toList.drop (s + n + l.length)) := by
  intro l
  induction l with
  | nil =>
    intro n arr _
    show arr.toList = _
    rw [List.nil_append]
    exact (List.take_append_drop _ _).symm
  | cons q l ih =>
    intro n arr h
    rw [List.length_cons] at h
    show ((l.zipIdx (n + 1)).foldl (fun a q => a.setIfInBounds (s + q.2) q.1) (arr.setIfInBounds (s + n) q)).toList = _
    have hl : s + n < arr.toList.length := by rw [Array.length_toList]; omega
    rw [ih (n + 1) _ (by rw [Array.size_setIfInBounds]; omega), Array.toList_setIfInBounds, List.set_eq_take_append_cons_drop, if_pos hl]
    have h1 : (arr.toList.take (s + n)).length = s + n := by rw [List.length_take]; omega
    have e1 : (arr.toList.take (s + n) ++ q :: arr.toList.drop (s + n + 1)).take (s + (n + 1)) = arr.toList.take (s + n) ++ [q] := by
      rw [List.take_append, h1, List.take_of_length_le (by omega), show s + (n + 1) - (s + n) = 1 by omega]
      rfl
    have e2 : (arr.toList.take (s + n) ++ q :: arr.toList.drop (s + n + 1)).drop (s + (n + 1) + l.length) = arr.toList.drop (s + n + (l.length + 1)) := by
      rw [List.drop_append, h1, List.drop_of_length_le (by omega), show s + (n + 1) + l.length - (s + n) = l.length + 1 by omega, List.nil_append, List.drop_succ_cons, List.drop_drop]
      congr 1
      omega
    rw [e1, e2, List.length_cons, List.append_assoc]
    rfl
def Runs (rk : Keyed → Int) (a : Array Keyed) : Nat → List (Nat × Nat × Nat) → Nat → Prop
  | s, [], e => s = e
  | s, q :: l, e => q.1 = s ∧ 1 ≤ q.2.1 ∧ Srt rk a s (s + q.2.1) ∧ Runs rk a (s + q.2.1) l e
section
variable {rk : Keyed → Int} {a b : Array Keyed}
theorem Runs.le : ∀ {l : List (Nat × Nat × Nat)} {s e : Nat}, Runs rk a s l e → s + l.length ≤ e
  | [], s, e, h => Nat.le_of_eq h
  | q :: l, s, e, h => by
    have := h.2.2.2.le
    have := h.2.1
    rw [List.length_cons]
    omega
theorem Runs.app : ∀ {l m : List (Nat × Nat × Nat)} {s e : Nat}, Runs rk a s (l ++ m) e ↔ ∃ t, Runs rk a s l t ∧ Runs rk a t m e
  | [], m, s, e => ⟨fun h => ⟨s, rfl, h⟩, fun ⟨t, h1, h2⟩ => by cases h1; exact h2⟩
  | q :: l, m, s, e => ⟨fun h => by
      obtain ⟨t, h1, h2⟩ := Runs.app.mp h.2.2.2
      exact ⟨t, ⟨h.1, h.2.1, h.2.2.1, h1⟩, h2⟩, fun ⟨t, h1, h2⟩ => ⟨h1.1, h1.2.1, h1.2.2.1, Runs.app.mpr ⟨t, h1.2.2.2, h2⟩⟩⟩
theorem Srt.congr {lo hi : Nat} (h : Srt rk a lo hi) (he : ∀ k, lo ≤ k → k < hi → Rk rk b k = Rk rk a k) : Srt rk b lo hi := fun i j h1 h2 h3 => by
  rw [he i h1 (by omega), he j (by omega) h3]
  exact h i j h1 h2 h3
theorem Runs.congr : ∀ {l : List (Nat × Nat × Nat)} {s e : Nat}, Runs rk a s l e → (∀ k, s ≤ k → k < e → Rk rk b k = Rk rk a k) → Runs rk b s l e
  | [], _, _, h, _ => h
  | q :: l, s, e, h, he => by
    have := h.2.2.2.le
    exact ⟨h.1, h.2.1, h.2.2.1.congr fun k h1 h2 => he k h1 (by omega), h.2.2.2.congr fun k h1 h2 => he k (by omega) h2⟩
theorem TB.rkE {lo hi k : Nat} (h : TB a lo hi b) (hk : k < lo ∨ hi ≤ k) : Rk rk b k = Rk rk a k := Rk_of (h.2 k hk)
end
section
variable {prog : Program} {w : World} {A : Around} {E : Value → Shared → Prop} {s : Shared} {κ : SortKind} {rk : Keyed → Int} {G : Keyed → Prop} {a : Array Keyed} {p : Array (Nat × Nat × Nat)}
theorem TmS.as {st : SortSt} (h : TmS κ a p st) : ∃ g, st = SortSt.mk' κ a p g none := ⟨gallopOf st, by rw [← h.1, ← h.2.1, ← h.2.2.1, ← h.2.2.2]⟩
theorem tm_set {st st' st0 : SortSt} {Q : PUnit → SortSt → Prop} (e : st0 = st') (h : Q ⟨⟩ st') : wpS (model prog w) A E s (set st0 : StateT SortSt Sem PUnit) Q st := by
  subst e
  exact wpAny_pure ⟨rfl, h⟩
theorem tm_at (C : TmC prog w A E s κ rk G) {i sa na pw sb nb pv : Nat} {Q : Bool → SortSt → Prop} {st : SortSt} (hk : TmS κ a p st) (ga : ∀ x ∈ a.toList, G x) (hp : p[i]? = some (sa, na, pw)) (hq : p[i + 1]? = some (sb, nb, pv)) (hsb : sb = sa + na) (n1 : 1 ≤ na) (n2 : 1 ≤ nb) (hz : sb + nb ≤ a.size) (s1 : Srt rk a sa (sa + na)) (s2 : Srt rk a sb (sb + nb))
    (h : ∀ b st', TmS κ b ((p.setIfInBounds i (sa, na + nb, pw)).eraseIdxIfInBounds (i + 1)) st' → TB a sa (sb + nb) b → Srt rk b sa (sb + nb) → Q true st') : wpS (model prog w) A E s (mergeAt' i) Q st := by
  obtain ⟨g, rfl⟩ := hk.as
  refine wpS_bind (wpS_get ?_)
  show wpS _ _ _ _ (match (p[i]?, p[i + 1]?) with | (some (sa, na, power), some (sb, nb, _)) => _ | _ => _) _ _
  rw [hp, hq]
  obtain ⟨p', hp'⟩ : ∃ p', p' = (p.setIfInBounds i (sa, na + nb, pw)).eraseIdxIfInBounds (i + 1) := ⟨_, rfl⟩
  rw [← hp'] at h
  have z0 : sb < a.size := by omega
  refine wpS_bind (tm_set (st' := SortSt.mk' κ a p' g none) (by rw [hp']) ?_)
  have hk : TmS κ a p' (SortSt.mk' κ a p' g none) := ⟨rfl, rfl, rfl, rfl⟩
  generalize SortSt.mk' κ a p' g none = st at hk
  refine wpS_bind (tm_el (a := a) z0 (wpS_bind (tm_galR (arr := a) C hk.1 (by omega) (by omega) (ga _ (by simp)) ga s1 fun k q1 q2 q3 => ?_)))
  rw [← Rk_eq (rk := rk) z0] at q2 q3
  have f2 : ∀ q, sa ≤ q → q < sa + k → Rk rk a q ≤ Rk rk a sb := fun q h1 h2 => by
    have := q2 (q - sa) (by omega)
    rw [show sa + (q - sa) = q by omega] at this
    exact this
  have f3 : ∀ q, sa + k ≤ q → q < sb → Rk rk a sb < Rk rk a q := fun q h1 h2 => by
    have := q3 (q - sa) (by omega) (by omega)
    rw [show sa + (q - sa) = q by omega] at this
    exact this
  refine tm_if (fun e => wpS_pure (h a _ hk .refl fun i j h1 h2 h3 => ?_)) fun e => ?_
  · have e : na - k = 0 := by simpa using e
    by_cases h4 : j < sb
    · exact s1 i j h1 h2 (by omega)
    · by_cases h5 : sb ≤ i
      · exact s2 i j h5 h2 h3
      · have := f2 i h1 (by omega)
        have := s2 sb j (Nat.le_refl _) (by omega) h3
        omega
  have e : ¬ na - k = 0 := by simpa using e
  have z1 : sa + k + (na - k) - 1 < a.size := by omega
  refine wpS_bind (tm_el (a := a) z1 (wpS_bind (tm_galL (arr := a) C hk.1 (by omega) (by omega) (ga _ (by simp)) ga s2 fun l r1 r2 r3 => ?_)))
  rw [← Rk_eq (rk := rk) z1, show sa + k + (na - k) - 1 = sb - 1 by omega] at r2 r3
  have g2 : ∀ q, sb ≤ q → q < sb + l → Rk rk a q < Rk rk a (sb - 1) := fun q h1 h2 => by
    have := r2 (q - sb) (by omega)
    rw [show sb + (q - sb) = q by omega] at this
    exact this
  have g3 : ∀ q, sb + l ≤ q → q < sb + nb → Rk rk a (sb - 1) ≤ Rk rk a q := fun q h1 h2 => by
    have := r3 (q - sb) (by omega) (by omega)
    rw [show sb + (q - sb) = q by omega] at this
    exact this
  refine tm_if (fun e2 => wpS_pure (h a _ hk .refl fun i j h1 h2 h3 => ?_)) fun e2 => ?_
  · have e2 : l = 0 := by simpa using e2
    by_cases h4 : j < sb
    · exact s1 i j h1 h2 (by omega)
    · by_cases h5 : sb ≤ i
      · exact s2 i j h5 h2 h3
      · have := g3 j (by omega) h3
        have := s1 i (sb - 1) h1 (by omega) (by omega)
        omega
  have e2 : ¬ l = 0 := by simpa using e2
  have rx : ∀ q, q < sb - (sa + k) → Rk rk (a.extract (sa + k) sb) q = Rk rk a (sa + k + q) := fun q hq => Rk_of (by rw [Array.getElem?_extract, if_pos (by omega)])
  have ry : ∀ q, q < l → Rk rk (a.extract sb (sb + l)) q = Rk rk a (sb + q) := fun q hq => Rk_of (by rw [Array.getElem?_extract, if_pos (by omega)])
  have xz : (a.extract (sa + k) sb).size = sb - (sa + k) := by rw [Array.size_extract]; omega
  have yz : (a.extract sb (sb + l)).size = l := by rw [Array.size_extract]; omega
  have xz0 : 0 < (a.extract (sa + k) sb).size := by rw [xz]; omega
  have yz0 : 0 < (a.extract sb (sb + l)).size := by rw [yz]; omega
  have gx : ∀ q ∈ (a.extract (sa + k) sb).toList, G q := fun q hq => by
    obtain ⟨j, hj, rfl⟩ := List.mem_iff_getElem.mp hq
    rw [Array.getElem_toList, Array.getElem_extract]
    exact ga _ (by simp)
  have gy : ∀ q ∈ (a.extract sb (sb + l)).toList, G q := fun q hq => by
    obtain ⟨j, hj, rfl⟩ := List.mem_iff_getElem.mp hq
    rw [Array.getElem_toList, Array.getElem_extract]
    exact ga _ (by simp)
  have sx : Srt rk (a.extract (sa + k) sb) 0 (a.extract (sa + k) sb).size := fun i j h1 h2 h3 => by
    rw [xz] at h3
    rw [rx i (by omega), rx j h3]
    exact s1 _ _ (by omega) (by omega) (by omega)
  have sy : Srt rk (a.extract sb (sb + l)) 0 (a.extract sb (sb + l)).size := fun i j h1 h2 h3 => by
    rw [yz] at h3
    rw [ry i (by omega), ry j h3]
    exact s2 _ _ (by omega) (by omega) (by omega)
  have c0 : Rk rk (a.extract sb (sb + l)) 0 < Rk rk (a.extract (sa + k) sb) 0 := by
    rw [rx 0 (by omega), ry 0 (by omega)]
    exact f3 _ (by omega) (by omega)
  have c1 : ∀ i, i < (a.extract sb (sb + l)).size → Rk rk (a.extract sb (sb + l)) i ≤ Rk rk (a.extract (sa + k) sb) ((a.extract (sa + k) sb).size - 1) := fun i hi => by
    rw [yz] at hi
    rw [xz, ry i hi, rx _ (by omega), show sa + k + (sb - (sa + k) - 1) = sb - 1 by omega]
    exact Int.le_of_lt (g2 _ (by omega) (by omega))
  have last : ∀ (mg : Array Keyed) (st' : SortSt), TmS κ a p' st' → TmF rk mg.toList ((a.extract (sa + k) sb).toList ++ (a.extract sb (sb + l)).toList) → Q true (setArr st' (mg.toList.zipIdx.foldl (fun a q => a.setIfInBounds (sa + k + q.2) q.1) a)) := fun mg st' k' F => by
    obtain ⟨F1, F2⟩ := F
    have ml : mg.toList.length = sb + l - (sa + k) := by
      rw [F1.length_eq, List.length_append, Array.length_toList, Array.length_toList, xz, yz]
      omega
    have W := wr_list (sa + k) mg.toList 0 a (by rw [ml]; omega)
    rw [Nat.add_zero, ml] at W
    obtain ⟨b, hb⟩ : ∃ b, b = mg.toList.zipIdx.foldl (fun a q => a.setIfInBounds (sa + k + q.2) q.1) a := ⟨_, rfl⟩
    rw [show (mg.toList.zipIdx 0) = mg.toList.zipIdx from rfl, ← hb] at W
    rw [← hb]
    have l1 : (a.toList.take (sa + k)).length = sa + k := by rw [List.length_take, Array.length_toList]; omega
    have at_ : ∀ q, b[q]? = if sa + k ≤ q ∧ q < sb + l then mg[q - (sa + k)]? else a[q]? := fun q => by
      rw [← Array.getElem?_toList, W]
      by_cases h1 : q < sa + k
      · rw [List.getElem?_append_left (by omega), List.getElem?_take, if_pos h1, if_neg (by omega), Array.getElem?_toList]
      · rw [List.getElem?_append_right (by omega), l1]
        by_cases h2 : q < sb + l
        · rw [List.getElem?_append_left (by omega), if_pos (by omega), Array.getElem?_toList]
        · rw [List.getElem?_append_right (by omega), List.getElem?_drop, if_neg (by omega), Array.getElem?_toList, ml]
          congr 1
          omega
    have pm : b.Perm a := by
      rw [Array.perm_iff_toList_perm, W]
      have ea : a.toList = a.toList.take (sa + k) ++ (((a.extract (sa + k) sb).toList ++ (a.extract sb (sb + l)).toList) ++ a.toList.drop (sa + k + (sb + l - (sa + k)))) := by
        have x1 := ext_chunk (a := a) (sa + k) (sb - (sa + k))
        have y1 := ext_chunk (a := a) sb l
        rw [show sa + k + (sb - (sa + k)) = sb by omega] at x1
        rw [x1, y1, List.append_assoc, show sa + k + (sb + l - (sa + k)) = sb + l by omega, ← drop_more (a := a) sb l]
        have := drop_more (a := a) (sa + k) (sb - (sa + k))
        rw [show sa + k + (sb - (sa + k)) = sb by omega] at this
        rw [← this, List.take_append_drop]
      conv => rhs; rw [ea]
      exact (F1.append_right _).append_left _
    have mid : ∀ q (h1 : sa + k ≤ q) (h2 : q < sb + l), ∃ hm : q - (sa + k) < mg.size, Rk rk b q = rk mg[q - (sa + k)] := fun q h1 h2 => by
      have hm : q - (sa + k) < mg.size := by rw [← Array.length_toList, ml]; omega
      refine ⟨hm, ?_⟩
      rw [← Rk_eq (rk := rk) hm]
      exact Rk_of (by rw [at_, if_pos ⟨h1, h2⟩])
    have bnd : ∀ x ∈ mg.toList, Rk rk a sb ≤ rk x ∧ rk x ≤ Rk rk a (sb - 1) := fun x hx => by
      rcases List.mem_append.mp (F1.mem_iff.mp hx) with hx | hx
      · obtain ⟨j, hj, rfl⟩ := List.mem_iff_getElem.mp hx
        rw [Array.length_toList] at hj
        rw [Array.getElem_toList, ← Rk_eq (rk := rk) hj, rx j (by omega)]
        have := f3 (sa + k + j) (by omega) (by omega)
        have := s1 (sa + k + j) (sb - 1) (by omega) (by omega) (by omega)
        omega
      · obtain ⟨j, hj, rfl⟩ := List.mem_iff_getElem.mp hx
        rw [Array.length_toList] at hj
        rw [Array.getElem_toList, ← Rk_eq (rk := rk) hj, ry j (by omega)]
        have := g2 (sb + j) (by omega) (by omega)
        have := s2 sb (sb + j) (by omega) (by omega) (by omega)
        omega
    have out : ∀ q, (q < sa + k ∨ sb + l ≤ q) → Rk rk b q = Rk rk a q := fun q hq => Rk_of (by rw [at_, if_neg (by omega)])
    refine h b _ k'.set ⟨pm, fun q hq => by rw [at_, if_neg (by omega)]⟩ fun i j h1 h2 h3 => ?_
    by_cases j1 : j < sa + k
    · rw [out i (by omega), out j (by omega)]
      exact s1 i j h1 h2 (by omega)
    · by_cases j2 : j < sb + l
      · obtain ⟨hm, ej⟩ := mid j (by omega) j2
        have bj := bnd mg[j - (sa + k)] (by simp)
        by_cases i1 : i < sa + k
        · rw [out i (by omega), ej]
          have := f2 i h1 i1
          omega
        · obtain ⟨hm', ei⟩ := mid i (by omega) (by omega)
          rw [ei, ej]
          by_cases eij : i = j
          · subst eij; exact Int.le_refl _
          · have := List.pairwise_iff_getElem.mp F2 (i - (sa + k)) (j - (sa + k)) (by rw [Array.length_toList]; exact hm') (by rw [Array.length_toList]; exact hm) (by omega)
            rw [Array.getElem_toList, Array.getElem_toList] at this
            exact this
      · rw [out j (by omega)]
        by_cases i1 : i < sa + k
        · rw [out i (by omega)]
          have := s1 i (sb - 1) h1 (by omega) (by omega)
          have := g3 j (by omega) h3
          omega
        · by_cases i2 : i < sb + l
          · obtain ⟨hm', ei⟩ := mid i (by omega) i2
            have := (bnd mg[i - (sa + k)] (by simp)).2
            have := g3 j (by omega) h3
            omega
          · rw [out i (by omega)]
            exact s2 i j (by omega) h2 h3
  refine tm_if (fun _ => wpS_bind (tm_lo C hk gx gy sx sy xz0 yz0 c0 c1 fun mg st' k' F => ?_)) fun _ => wpS_bind (tm_hi C hk gx gy sx sy xz0 yz0 c0 c1 fun mg st' k' F => ?_)
  all_goals
    have L := last mg st' k' F
    obtain ⟨g', rfl⟩ := k'.as
    exact wpS_bind (wpS_modify (wpS_bind (wpS_get (wpS_pure L))))
end
section
variable {rk : Keyed → Int} {a b : Array Keyed}
theorem Runs.mod {f : Nat × Nat × Nat → Nat × Nat × Nat} (hf : ∀ q, (f q).1 = q.1 ∧ (f q).2.1 = q.2.1) : ∀ {l : List (Nat × Nat × Nat)} {i s e : Nat}, Runs rk a s l e → Runs rk a s (l.modify i f) e
  | [], i, s, e, h => by cases i <;> exact h
  | q :: l, 0, s, e, h => by
    show Runs rk a s (f q :: l) e
    unfold Runs
    rw [(hf q).1, (hf q).2]
    exact h
  | q :: l, i + 1, s, e, h => ⟨h.1, h.2.1, h.2.2.1, h.2.2.2.mod hf⟩
end
section
variable {prog : Program} {w : World} {A : Around} {E : Value → Shared → Prop} {s : Shared} {κ : SortKind} {rk : Keyed → Int} {G : Keyed → Prop} {a : Array Keyed} {p : Array (Nat × Nat × Nat)}
theorem tm_mrg (C : TmC prog w A E s κ rk G) {i e : Nat} {Q : Bool → SortSt → Prop} {st : SortSt} (hk : TmS κ a p st) (ga : ∀ x ∈ a.toList, G x) (hi : i + 1 < p.size) (hr : Runs rk a 0 p.toList e) (he : e ≤ a.size)
    (h : ∀ b p' st', TmS κ b p' st' → TB a 0 e b → Runs rk b 0 p'.toList e → p'.size + 1 = p.size → Q true st') : wpS (model prog w) A E s (mergeAt' i) Q st := by
  have hl : i + 1 < p.toList.length := by rw [Array.length_toList]; exact hi
  have e1 : p.toList = p.toList.take i ++ (p[i] :: p[i + 1] :: p.toList.drop (i + 2)) := by
    conv => lhs; rw [← List.take_append_drop i p.toList, List.drop_eq_getElem_cons (by omega), List.drop_eq_getElem_cons (by omega)]
    rw [Array.getElem_toList, Array.getElem_toList]
  have hr0 := hr
  rw [e1] at hr
  obtain ⟨t, r1, r2⟩ := Runs.app.mp hr
  obtain ⟨q1, q2, q3, q4, q5, q6, q7⟩ := r2
  have le1 := r1.le
  have le2 := q7.le
  obtain ⟨x, hx⟩ : ∃ x, x = p[i] := ⟨_, rfl⟩
  obtain ⟨y, hy⟩ : ∃ y, y = p[i + 1] := ⟨_, rfl⟩
  rw [← hx] at q1 q2 q3 q4 q6 q7 le2
  rw [← hy] at q4 q5 q6 q7 le2
  have px : p[i]? = some (x.1, x.2.1, x.2.2) := by rw [Array.getElem?_eq_getElem (by omega), hx]
  have py : p[i + 1]? = some (y.1, y.2.1, y.2.2) := by rw [Array.getElem?_eq_getElem (by omega), hy]
  have ln : (p.toList.take i).length = i := by rw [List.length_take]; omega
  have pe : ((p.setIfInBounds i (x.1, x.2.1 + y.2.1, x.2.2)).eraseIdxIfInBounds (i + 1)).toList = p.toList.take i ++ ((x.1, x.2.1 + y.2.1, x.2.2) :: p.toList.drop (i + 2)) := by
    rw [Array.toList_eraseIdxIfInBounds, Array.toList_setIfInBounds, List.set_eq_take_append_cons_drop, if_pos (by omega), List.eraseIdx_append_of_length_le (by omega), ln, show i + 1 - i = 1 by omega]
    congr 1
    rw [List.drop_eq_getElem_cons (by omega)]
    rfl
  have px : p[i]? = some (t, x.2.1, x.2.2) := by rw [← q1]; exact px
  have s2 : Srt rk a y.1 (y.1 + y.2.1) := by rw [q4]; exact q6
  refine tm_at C hk ga px py (by rw [q4]) q2 q5 (by omega) q3 s2 fun b st' k' tb sb => h b _ st' k' (tb.wide (by omega) (by omega)) ?_ ?_
  · rw [← q1, pe]
    refine Runs.app.mpr ⟨t, r1.congr fun k h1 h2 => tb.rkE (by omega), q1, ?_, ?_, ?_⟩
    · show 1 ≤ x.2.1 + y.2.1
      omega
    · show Srt rk b t (t + (x.2.1 + y.2.1))
      rw [← Nat.add_assoc, ← q4]
      exact sb
    · show Runs rk b (t + (x.2.1 + y.2.1)) _ e
      rw [← Nat.add_assoc]
      exact q7.congr fun k h1 h2 => tb.rkE (by omega)
  · have := congrArg List.length pe
    rw [q1] at this
    rw [Array.length_toList, List.length_append, ln, List.length_cons, List.length_drop, Array.length_toList] at this
    omega
theorem ite_lt {c : Prop} [Decidable c] {x y n : Nat} (h1 : x + 1 < n) (h2 : y + 1 < n) : (if c then x else y) + 1 < n := by
  by_cases h : c
  · rw [if_pos h]; exact h1
  · rw [if_neg h]; exact h2
theorem tm_sort (C : TmC prog w A E s κ rk G) {g : Nat} {Q : Unit → SortSt → Prop} (ga : ∀ x ∈ a.toList, G x) (hz : 1 ≤ a.size)
    (h : ∀ b p st', TmS κ b p st' → b.Perm a → Srt rk b 0 b.size → Q () st') : wpS (model prog w) A E s sortRuns' Q (SortSt.mk' κ a #[] g none) := by
  have hk : TmS κ a #[] (SortSt.mk' κ a #[] g none) := ⟨rfl, rfl, rfl, rfl⟩
  have push : ∀ {b : Array Keyed} {p : Array (Nat × Nat × Nat)} {lo n : Nat}, Runs rk b 0 p.toList lo → Srt rk b lo (lo + n) → 1 ≤ n → Runs rk b 0 (p.push (lo, n, 0)).toList (lo + n) := fun {b p lo n} r1 r2 r3 => by
    rw [Array.toList_push]
    exact Runs.app.mpr ⟨lo, r1, rfl, r3, r2, rfl⟩
  refine wpS_bind (wpS_get ?_)
  refine wpS_bind (wpS_mono (wpS_forRange (I := fun x c st' => ∃ b p lo, c = (none, lo) ∧ TmS κ b p st' ∧ TB a 0 a.size b ∧ Runs rk b 0 p.toList lo ∧ lo ≤ a.size ∧ x ≤ lo) (Q := fun c st' => ∃ b p, c = (none, a.size) ∧ TmS κ b p st' ∧ TB a 0 a.size b ∧ Runs rk b 0 p.toList a.size) ?_ ?_ ⟨a, #[], 0, rfl, hk, .refl, rfl, by omega, by omega⟩) ?_)
  · rintro x c st' _ hx ⟨b, p, lo, rfl, k', tb, rr, hl, hxl⟩
    refine tm_if (fun e => ?_) fun e => ?_
    · have : lo = a.size := by have : lo ≥ a.size := e; omega
      subst this
      exact wpS_pure ⟨b, p, rfl, k', tb, rr⟩
    have e : ¬ lo ≥ a.size := e
    have bz := tb.size
    refine wpS_bind (tm_cnt C k' (tb.all ga) (show lo + (a.size - lo) ≤ b.size by omega) (by omega) fun b2 m st2 k2 tb2 m1 m2 s2 => ?_)
    have m2 : m ≤ a.size - lo := m2
    have tb2 : TB b lo (lo + (a.size - lo)) b2 := tb2
    have rr2 : Runs rk b2 0 p.toList lo := rr.congr fun k h1 h2 => tb2.rkE (.inl h2)
    have tb3 : TB a 0 a.size b2 := tb.trans (tb2.wide (by omega) (by omega))
    refine tm_if (fun hm => ?_) fun _ => ?_
    · have hm : m < minRun' a.size a.size 0 := hm
      have fz : lo + min (a.size - lo) (minRun' a.size a.size 0) ≤ b2.size := by rw [tb3.size]; omega
      have fm : m ≤ min (a.size - lo) (minRun' a.size a.size 0) := by omega
      refine wpS_bind (wpS_lift (wpAny_rule ⟨rfl, ?_⟩))
      refine wpS_bind (tm_bs C k2 (tb3.all ga) fz fm s2 fun b3 st3 k3 tb4 s3 => tm_if (fun z => nomatch z) fun _ => ?_)
      have tb4 : TB b2 lo (lo + min (a.size - lo) (minRun' a.size a.size 0)) b3 := tb4
      have s3 : Srt rk b3 lo (lo + min (a.size - lo) (minRun' a.size a.size 0)) := s3
      generalize hn : min (a.size - lo) (minRun' a.size a.size 0) = n at tb4 s3 fz fm
      have tb5 := tb3.trans (tb4.wide (Nat.zero_le _) (show lo + n ≤ a.size by have := tb3.size; omega))
      have rr3 : Runs rk b3 0 p.toList lo := rr2.congr fun k h1 h2 => tb4.rkE (.inl h2)
      have w1 : 1 ≤ n := by omega
      have w2 : lo + n ≤ a.size := by have := tb3.size; omega
      have w3 : x + 1 ≤ lo + n := by omega
      subst hn
      refine wpS_bind (wpS_get ?_)
      obtain ⟨g2, rfl⟩ := k3.as
      show wpS _ _ _ _ (match p.back? with | some (s1, n1, _) => _ | _ => _) _ _
      cases p.back? with
      | none =>
        exact wpS_bind (wpS_modify (wpS_pure ⟨_, _, _, rfl, ⟨rfl, rfl, rfl, rfl⟩, tb5, push rr3 s3 w1, w2, w3⟩))
      | some q =>
        obtain ⟨s1, n1, v1⟩ := q
        refine wpS_bind (wpS_mono (wpS_forRange (I := fun _ c st' => c = (none, ()) ∧ ∃ b p, TmS κ b p st' ∧ TB a 0 a.size b ∧ Runs rk b 0 p.toList lo ∧ Srt rk b lo (lo + min (a.size - lo) (minRun' a.size a.size 0))) (Q := fun c st' => c = (none, ()) ∧ ∃ b p, TmS κ b p st' ∧ TB a 0 a.size b ∧ Runs rk b 0 p.toList lo ∧ Srt rk b lo (lo + min (a.size - lo) (minRun' a.size a.size 0))) ?_ (fun _ _ z => z) ⟨rfl, _, _, k3, tb5, rr3, s3⟩) ?_)
        · rintro y c st' _ _ ⟨rfl, b, p, k', tb, rr, ss⟩
          obtain ⟨g3, rfl⟩ := k'.as
          refine wpS_bind (wpS_get ?_)
          show wpS _ _ _ _ (match (if p.size > 1 then p[p.size - 2]? else none) with | some (_, _, older) => _ | _ => _) _ _
          by_cases hp : p.size > 1
          · rw [if_pos hp, Array.getElem?_eq_getElem (by omega)]
            obtain ⟨o1, o2, o3⟩ := p[p.size - 2]
            refine tm_if (fun _ => wpS_pure ⟨rfl, b, p, k', tb, rr, ss⟩) fun _ => ?_
            refine wpS_bind (tm_mrg C k' (tb.all ga) (show p.size - 2 + 1 < p.size by omega) rr (by rw [tb.size]; omega) fun b' p' st' k2 tb' rr' _ => tm_if (fun z => nomatch z) fun _ => wpS_pure ⟨rfl, b', p', k2, tb.trans (tb'.wide (Nat.le_refl _) (by omega)), rr', ss.congr fun k h1 h2 => tb'.rkE (.inr h1)⟩)
          · rw [if_neg hp]
            exact wpS_pure ⟨rfl, b, p, k', tb, rr, ss⟩
        · rintro c st' ⟨rfl, b, p, k', tb, rr, ss⟩
          obtain ⟨g3, rfl⟩ := k'.as
          have rm : ∀ v, Runs rk b 0 (p.modify (p.size - 1) fun x => (x.1, x.2.1, v)).toList lo := fun v => by
            rw [Array.toList_modify]
            exact rr.mod (f := fun x => (x.1, x.2.1, v)) fun _ => ⟨rfl, rfl⟩
          exact wpS_bind (wpS_modify (wpS_bind (wpS_modify (wpS_pure ⟨_, _, _, rfl, ⟨rfl, rfl, rfl, rfl⟩, tb, push (rm (power' a.size (2 * s1 + n1) (2 * s1 + n1 + n1 + min (a.size - lo) (minRun' a.size a.size 0)) a.size)) ss w1, w2, w3⟩))))
    · have w2 : lo + m ≤ a.size := by omega
      have w3 : x + 1 ≤ lo + m := by omega
      have w1 := m1
      refine wpS_bind (wpS_get ?_)
      obtain ⟨g2, rfl⟩ := k2.as
      show wpS _ _ _ _ (match p.back? with | some (s1, n1, _) => _ | _ => _) _ _
      cases p.back? with
      | none =>
        exact wpS_bind (wpS_modify (wpS_pure ⟨_, _, _, rfl, ⟨rfl, rfl, rfl, rfl⟩, tb3, push rr2 s2 w1, w2, w3⟩))
      | some q =>
        obtain ⟨s1, n1, v1⟩ := q
        refine wpS_bind (wpS_mono (wpS_forRange (I := fun _ c st' => c = (none, ()) ∧ ∃ b p, TmS κ b p st' ∧ TB a 0 a.size b ∧ Runs rk b 0 p.toList lo ∧ Srt rk b lo (lo + m)) (Q := fun c st' => c = (none, ()) ∧ ∃ b p, TmS κ b p st' ∧ TB a 0 a.size b ∧ Runs rk b 0 p.toList lo ∧ Srt rk b lo (lo + m)) ?_ (fun _ _ z => z) ⟨rfl, _, _, k2, tb3, rr2, s2⟩) ?_)
        · rintro y c st' _ _ ⟨rfl, b, p, k', tb, rr, ss⟩
          obtain ⟨g3, rfl⟩ := k'.as
          refine wpS_bind (wpS_get ?_)
          show wpS _ _ _ _ (match (if p.size > 1 then p[p.size - 2]? else none) with | some (_, _, older) => _ | _ => _) _ _
          by_cases hp : p.size > 1
          · rw [if_pos hp, Array.getElem?_eq_getElem (by omega)]
            obtain ⟨o1, o2, o3⟩ := p[p.size - 2]
            refine tm_if (fun _ => wpS_pure ⟨rfl, b, p, k', tb, rr, ss⟩) fun _ => ?_
            refine wpS_bind (tm_mrg C k' (tb.all ga) (show p.size - 2 + 1 < p.size by omega) rr (by rw [tb.size]; omega) fun b' p' st' k2 tb' rr' _ => tm_if (fun z => nomatch z) fun _ => wpS_pure ⟨rfl, b', p', k2, tb.trans (tb'.wide (Nat.le_refl _) (by omega)), rr', ss.congr fun k h1 h2 => tb'.rkE (.inr h1)⟩)
          · rw [if_neg hp]
            exact wpS_pure ⟨rfl, b, p, k', tb, rr, ss⟩
        · rintro c st' ⟨rfl, b, p, k', tb, rr, ss⟩
          obtain ⟨g3, rfl⟩ := k'.as
          have rm : ∀ v, Runs rk b 0 (p.modify (p.size - 1) fun x => (x.1, x.2.1, v)).toList lo := fun v => by
            rw [Array.toList_modify]
            exact rr.mod (f := fun x => (x.1, x.2.1, v)) fun _ => ⟨rfl, rfl⟩
          exact wpS_bind (wpS_modify (wpS_bind (wpS_modify (wpS_pure ⟨_, _, _, rfl, ⟨rfl, rfl, rfl, rfl⟩, tb, push (rm (power' a.size (2 * s1 + n1) (2 * s1 + n1 + n1 + m) a.size)) ss w1, w2, w3⟩))))
  · rintro c st' ⟨b, p, lo, rfl, k', tb, rr, hl, hxl⟩
    have e : lo = a.size := by
      have hxl : max 0 a.size ≤ lo := hxl
      omega
    subst e
    exact ⟨b, p, rfl, k', tb, rr⟩
  · rintro c st' ⟨b, p, rfl, k', tb, rr⟩
    have pz := rr.le
    rw [Array.length_toList] at pz
    refine wpS_bind (wpS_mono (wpS_forRange (I := fun x c st' => c = (none, ()) ∧ ∃ b p, TmS κ b p st' ∧ TB a 0 a.size b ∧ Runs rk b 0 p.toList a.size ∧ (p.size + x ≤ a.size ∨ p.size ≤ 1)) (Q := fun c st' => c = (none, ()) ∧ ∃ b p, TmS κ b p st' ∧ TB a 0 a.size b ∧ Runs rk b 0 p.toList a.size ∧ p.size ≤ 1) ?_ ?_ ⟨rfl, b, p, k', tb, rr, .inl (by omega)⟩) ?_)
    · rintro x c st' _ _ ⟨rfl, b, p, k', tb, rr, hp⟩
      obtain ⟨g3, rfl⟩ := k'.as
      refine wpS_bind (wpS_get (tm_if (fun e => wpS_pure ⟨rfl, b, p, k', tb, rr, e⟩) fun e => ?_))
      have e : ¬ p.size ≤ 1 := e
      refine wpS_bind (tm_mrg C k' (tb.all ga) ?_ rr (by rw [tb.size]; omega) fun b' p' st' k2 tb' rr' hz => tm_if (fun z => nomatch z) fun _ => wpS_pure ⟨rfl, b', p', k2, tb.trans tb', rr', by omega⟩)
      exact ite_lt (show p.size - 2 - 1 + 1 < p.size by omega) (show p.size - 2 + 1 < p.size by omega)
    · rintro c st' ⟨rfl, b, p, k', tb, rr, hp⟩
      exact ⟨rfl, b, p, k', tb, rr, by have hp : p.size + max 0 a.size ≤ a.size ∨ p.size ≤ 1 := hp; omega⟩
    · rintro c st' ⟨rfl, b, p, k', tb, rr, hp⟩
      refine wpS_pure (h b p st' k' tb.1 ?_)
      rw [tb.size]
      rw [← Array.length_toList] at hp
      cases hq : p.toList with
      | nil =>
        rw [hq] at rr
        have : 0 = a.size := rr
        omega
      | cons q l =>
        rw [hq] at rr hp
        obtain ⟨_, _, r3, r4⟩ := rr
        cases l with
        | nil =>
          have r4 : 0 + q.2.1 = a.size := r4
          rw [← r4]
          exact r3
        | cons q2 l2 => rw [List.length_cons, List.length_cons] at hp; omega
end
def toIs : List PyData → Option (List Int)
  | [] => some []
  | .int n :: ds => ob (toIs ds) fun ns => some (n :: ns)
  | _ :: _ => none
def toT : PyData → Option (List Int)
  | .tuple (d :: ds) => toIs (d :: ds)
  | _ => none
def toTs : List PyData → Option (List (List Int))
  | [] => some []
  | d :: ds => ob (toT d) fun n => ob (toTs ds) fun ns => some (n :: ns)
def bigD : List PyData → Option PyData
  | [.list ds] => ob (toTs ds) fun nss => if nss.length ≤ 1000 then some (.list ((nss.mergeSort fun a b => !HT.lexLt b a).map tI)) else none
  | _ => none
def sortedB (args : List PyData) : Option PyData := match sortedD args with
  | some r => some r
  | none => bigD args
theorem toIs_eq : ∀ {ds : List PyData} {ns : List Int}, toIs ds = some ns → ds = ns.map .int
  | [], ns, e => by cases e; rfl
  | d :: ds, ns, e => by
    cases d with
    | int n =>
      obtain ⟨ms, e1, e2⟩ := ob_some (show ob (toIs ds) (fun ns => some (n :: ns)) = some ns from e)
      cases e2
      rw [List.map_cons, ← toIs_eq e1]
    | _ => cases e
theorem toT_eq {d : PyData} {ns : List Int} (e : toT d = some ns) : d = tI ns ∧ ns ≠ [] := by
  unfold toT at e
  split at e
  · rename_i d ds
    have h := toIs_eq e
    exact ⟨congrArg PyData.tuple h, fun z => by rw [z] at h; cases h⟩
  · cases e
theorem toTs_eq : ∀ {ds : List PyData} {nss : List (List Int)}, toTs ds = some nss → ds = nss.map tI ∧ ∀ ns ∈ nss, ns ≠ []
  | [], nss, e => by cases e; exact ⟨rfl, fun _ z => nomatch z⟩
  | d :: ds, nss, e => by
    obtain ⟨n, e1, e⟩ := ob_some (show ob (toT d) (fun n => ob (toTs ds) fun ns => some (n :: ns)) = some nss from e)
    obtain ⟨ms, e2, e⟩ := ob_some e
    cases e
    obtain ⟨h1, h2⟩ := toT_eq e1
    obtain ⟨h3, h4⟩ := toTs_eq e2
    exact ⟨by rw [List.map_cons, ← h1, ← h3], fun ns hn => (List.mem_cons.mp hn).elim (fun z => by rw [z]; exact h2) (h4 ns)⟩
theorem toIs_of : ∀ ns : List Int, toIs (ns.map .int) = some ns
  | [] => rfl
  | n :: ns => by
    show ob (toIs (ns.map .int)) (fun ns => some (n :: ns)) = _
    rw [toIs_of ns]
    rfl
theorem toTs_of : ∀ nss : List (List Int), (∀ ns ∈ nss, ns ≠ []) → toTs (nss.map tI) = some nss
  | [], _ => rfl
  | ns :: nss, h => by
    show ob (toT (tI ns)) (fun n => ob (toTs (nss.map tI)) fun ns => some (n :: ns)) = _
    have e : toT (tI ns) = some ns := by
      cases ns with
      | nil => exact absurd rfl (h [] (.head _))
      | cons n ns => exact toIs_of (n :: ns)
    rw [e, toTs_of nss fun m hm => h m (.tail _ hm)]
    rfl
theorem msort_ok (nss : List (List Int)) : (nss.mergeSort fun a b => !HT.lexLt b a).Perm nss ∧ (nss.mergeSort fun a b => !HT.lexLt b a).Pairwise (fun a b => HT.lexLt b a = false) := by
  refine ⟨List.mergeSort_perm _ _, (List.pairwise_mergeSort (fun a b c h1 h2 => ?_) (fun a b => ?_) nss).imp fun z => by simpa using z⟩
  · cases h : HT.lexLt c a with
    | false => rfl
    | true =>
      rcases lexLt_neg c b a h with z | z
      · rw [z] at h2; cases h2
      · rw [z] at h1; cases h1
  · cases h1 : HT.lexLt b a with
    | false => rfl
    | true =>
      cases h2 : HT.lexLt a b with
      | false => rfl
      | true =>
        have := lexLt_tr b a b h1 h2
        rw [lexLt_irr] at this
        cases this
theorem sortedB_tups {nss : List (List Int)} (hl : nss.length ≤ 1000) (hne : ∀ ns ∈ nss, ns ≠ []) : ∃ mss : List (List Int), sortedB [.list (nss.map tI)] = some (.list (mss.map tI)) ∧ mss.Perm nss ∧ mss.Pairwise (fun a b => HT.lexLt b a = false) := by
  by_cases h64 : nss.length < 64
  · obtain ⟨mss, e, p, o⟩ := sortedD_tups h64 hne
    exact ⟨mss, by unfold sortedB; rw [e], p, o⟩
  · obtain ⟨p, o⟩ := msort_ok nss
    refine ⟨_, ?_, p, o⟩
    have e : sortedD [.list (nss.map tI)] = none := by
      show (if (nss.map tI).length < 2 then some (PyData.list (nss.map tI)) else if sortOk 0 (nss.map tI) = true ∨ sortOk 1 (nss.map tI) = true then _ else none) = none
      rw [if_neg (by rw [List.length_map]; omega), if_neg]
      unfold sortOk
      simp only [Bool.and_eq_true, decide_eq_true_eq, List.length_map]
      rintro (h | h) <;> exact h64 h.2.2.1
    unfold sortedB
    rw [e]
    show ob (toTs (nss.map tI)) _ = _
    rw [toTs_of nss hne]
    show (if nss.length ≤ 1000 then _ else none) = _
    rw [if_pos hl]
theorem perm_lift {α β : Type} {f : α → β} {l m : List β} (h : l.Perm m) : ∀ z : List α, z.map f = m → ∃ z' : List α, z'.Perm z ∧ z'.map f = l := by
  induction h with
  | nil => exact fun z e => ⟨z, .refl _, e⟩
  | cons x _ ih =>
    intro z e
    cases z with
    | nil => cases e
    | cons a z =>
      obtain ⟨e0, e2⟩ := List.cons.inj e
      obtain ⟨z', p, e'⟩ := ih z e2
      exact ⟨a :: z', p.cons a, by rw [List.map_cons, e', e0]⟩
  | swap x y l =>
    intro z e
    match z, e with
    | a :: b :: z, e =>
      obtain ⟨e0, e2⟩ := List.cons.inj e
      obtain ⟨e1, e3⟩ := List.cons.inj e2
      exact ⟨b :: a :: z, .swap _ _ _, by rw [List.map_cons, List.map_cons, e0, e1, e3]⟩
  | trans _ _ ih1 ih2 =>
    intro z e
    obtain ⟨z2, p2, e2⟩ := ih2 z e
    obtain ⟨z1, p1, e1⟩ := ih1 z2 e2
    exact ⟨z1, p1.trans p2, e1⟩
theorem count_lt {α : Type} {p q : α → Bool} {a : α} : ∀ {l : List α}, a ∈ l → (∀ x, p x = true → q x = true) → q a = true → p a = false → l.countP p < l.countP q
  | x :: l, h, h1, h2, h3 => by
    have le : l.countP p ≤ l.countP q := List.countP_mono_left fun x _ => h1 x
    rcases List.mem_cons.mp h with rfl | h
    · rw [List.countP_cons_of_pos h2, List.countP_cons_of_neg (by rw [h3]; exact Bool.false_ne_true)]
      omega
    · have ih := count_lt h h1 h2 h3
      rw [List.countP_cons, List.countP_cons]
      cases e : p x with
      | true => rw [h1 x e]; omega
      | false => rw [if_neg Bool.false_ne_true]; omega
section
variable {prog : Program} {w : World} {A : Around} {E : Value → Shared → Prop} {s : Shared}
theorem sort_shellB {a : Addr} {vs : List Value} {n : Nat} {P : PySem.Fin → Shared → Prop} {κ : SortKind} {Z : Array Keyed → Prop} (ho : s.heap.get? a = some (seqObj "list" vs.toArray n)) (h2 : 2 ≤ vs.length) (hm : vs.length ≤ 1000)
    (hk : ∀ (s' : Shared) (Q : SortKind → Shared → Prop), Kept a s s' → Q κ s' → wpAny (model prog w) A (keyKind' vs.toArray) Q E s')
    (hr : ∀ s' : Shared, Kept a s s' → wpS (model prog w) A E s' sortRuns' (fun _ st => failedOf st = none ∧ (arrOf st).size = vs.length ∧ Z (arrOf st)) (SortSt.mk' κ (vs.toArray.zip vs.toArray) #[] 7 none))
    (h : ∀ b : Array Keyed, b.size = vs.length → Z b → P (.done (.ret .none)) { s with heap := sortedHeap s.heap a vs (b.map (·.2)) }) :
    wpAny (model prog w) A (Builtin.«list.sort» ⟨[.ref a], []⟩) P E s := by
  have small : vs.length ≤ sizeLine := by rw [sizeLine_eq]; omega
  obtain ⟨e1, o1⟩ : ∃ e1, (s.heap.update a (Obj.mapSeq fun _ => #[])).get? a = some (seqObj "list" #[] e1) := ⟨_, get?_update_seq ho fun _ => #[]⟩
  rw [list_sort_plain]
  refine wpAny_bind (listItems_at ho rfl (wpAny_bind (listUpdate_at ho rfl (wpAny_bind (seqEpoch_at o1 rfl (wpAny_bind ?_))) (by simpa using small) (Nat.zero_le _))))
  refine wpAny_newTuple (wpAny_bind (wpAny_newList (wpAny_holding ?_) (Nat.zero_le _))) (by simpa using small)
  obtain ⟨h6, hE⟩ : ∃ h6, h6 = ((s.heap.update a (Obj.mapSeq fun _ => (#[] : Array Value))).push (seqObj "tuple" vs.toArray 0)).push (seqObj "list" #[] 0) := ⟨_, rfl⟩
  have kp : Kept a s { s with heap := h6 } := fun b o ne e => by
    show h6.get? b = some o
    rw [hE]
    refine Heap.get?_push_of_some _ (Heap.get?_push_of_some _ ?_)
    rw [Heap.get?_update_ne _ _ _ _ ne]
    exact e
  have o6 : h6.get? a = some (seqObj "list" #[] e1) := by
    rw [hE]
    exact Heap.get?_push_of_some _ (Heap.get?_push_of_some _ o1)
  show wpAny (model prog w) A _ P E { s with heap := ((s.heap.update a (Obj.mapSeq fun _ => (#[] : Array Value))).push (seqObj "tuple" vs.toArray 0)).push (seqObj "list" #[] 0) }
  rw [← hE]
  have n2 : ¬ vs.toArray.size < 2 := by rw [List.size_toArray]; omega
  dsimp only
  rw [if_neg n2, if_neg n2]
  refine wpAny_bind (hk _ _ kp ?_)
  refine wpAny_bind (wpAny_mono (hr _ kp) ?_ fun _ _ e => e)
  rintro ⟨⟨⟩, st'⟩ s' ⟨rfl, hf, hz, hZ⟩
  dsimp only
  refine wpAny_bind (seqEpoch_at o6 rfl (wpAny_bind (listUpdate_at o6 rfl ?_ (Nat.zero_le _) (by rw [Array.size_map, show (arrOf st').size = vs.length from hz]; omega))))
  rw [show failedOf st' = none from hf]
  simp only [bne_self_eq_false, Bool.false_eq_true, if_false]
  refine wpAny_pure ?_
  rw [hE]
  exact h _ hz hZ
theorem sorted_shellB {l : Addr} {vs : List Value} {Q : Value → Shared → Prop} {κ : SortKind} {Z : Array Keyed → Prop} (hl : s.heap.IsList l vs.toArray) (h2 : 2 ≤ vs.length) (hm : vs.length ≤ 1000)
    (hk : ∀ (s' : Shared) (Q : SortKind → Shared → Prop), (∀ b o, s.heap.get? b = some o → s'.heap.get? b = some o) → Q κ s' → wpAny (model prog w) A.in1.in1 (keyKind' vs.toArray) Q (fun _ _ => False) s')
    (hr : ∀ s' : Shared, (∀ b o, s.heap.get? b = some o → s'.heap.get? b = some o) → wpS (model prog w) A.in1.in1 (fun _ _ => False) s' sortRuns' (fun _ st => failedOf st = none ∧ (arrOf st).size = vs.length ∧ Z (arrOf st)) (SortSt.mk' κ (vs.toArray.zip vs.toArray) #[] 7 none))
    (h : ∀ b : Array Keyed, b.size = vs.length → Z b → Q (.ref (s.heap.objs.size + 1)) { s with heap := sortedAll s.heap vs (b.map (·.2)) }) :
    wpAny (model prog w) A (call (.builtin "sorted") [.ref l]) Q E s := by
  have small : vs.length ≤ sizeLine := by rw [sizeLine_eq]; omega
  refine Calls.call_function_entry kind_sorted plain_sorted entry_sorted (args_sorted1 _) ?_
  unfold Builtin.«sorted»
  refine wpAny_bind (m := checkCount "sorted" 1 1 _) (wpAny_pure (wpAny_bind (collect_list hl (wpAny_bind (wpAny_newList ?_ (by simpa using small))) (by simpa using small))))
  have zz : ((s.heap.push (seqObj "list" #[] 0)).update s.heap.objs.size (Obj.mapSeq (· ++ vs.toArray))).objs.size = s.heap.objs.size + 1 := by rw [Heap.size_update, size_push']
  obtain ⟨h3, hH⟩ : ∃ h3, h3 = ((s.heap.push (seqObj "list" #[] 0)).update s.heap.objs.size (Obj.mapSeq (· ++ vs.toArray))).push (seqObj "list" vs.toArray 0) := ⟨_, rfl⟩
  have oL : h3.get? (s.heap.objs.size + 1) = some (seqObj "list" vs.toArray 0) := by
    rw [hH, ← zz]
    exact Heap.get?_push_size _ rfl
  have keep : ∀ b o, s.heap.get? b = some o → h3.get? b = some o := fun b o e => by
    rw [hH]
    have hlt := Heap.lt_size e
    refine Heap.get?_push_of_some _ ?_
    rw [Heap.get?_update_ne _ _ _ _ (Nat.ne_of_lt hlt)]
    exact Heap.get?_push_of_some _ e
  show wpAny _ _ _ _ _ { s with heap := ((s.heap.push (seqObj "list" #[] 0)).update s.heap.objs.size (Obj.mapSeq (· ++ vs.toArray))).push (seqObj "list" vs.toArray 0) }
  rw [zz, ← hH]
  have k2 : ∀ s' : Shared, Kept (s.heap.objs.size + 1) { s with heap := h3 } s' → ∀ b o, s.heap.get? b = some o → s'.heap.get? b = some o := fun s' kp b o e => kp b o (Nat.ne_of_lt (Nat.lt_succ_of_lt (Heap.lt_size e))) (keep b o e)
  refine wpAny_bind (wpAny_holding (wpAny_call_entry slot_list_sort ⟨_, oL, rfl⟩ entry_list_sort (sort_shellB (κ := κ) (Z := Z) oL h2 hm (fun s' Q kp q => wpAny_mono (hk s' Q (k2 s' kp) q) (fun _ _ z => z) fun _ _ z => z.elim) (fun s' kp => wpAny_mono (hr s' (k2 s' kp)) (fun _ _ z => z) fun _ _ z => z.elim) fun b hz hZ => ⟨_, rfl, ?_⟩) (args_list_sort _)))
  refine wpAny_pure ⟨_, rfl, ?_⟩
  have hA : sortedHeap h3 (s.heap.objs.size + 1) vs (b.map (·.2)) = sortedAll s.heap vs (b.map (·.2)) := by
    rw [hH]
    rfl
  rw [hA]
  exact h b hz hZ
end
theorem readsI_det {h : Heap} : ∀ {vs : List Value} {ns ms : List Int} {as bs : List Addr}, ReadsAll h vs (ns.map .int) as → ReadsAll h vs (ms.map .int) bs → ns = ms := by
  intro vs
  induction vs with
  | nil =>
    intro ns ms as bs r1 r2
    cases ns with
    | cons _ _ => cases r1
    | nil =>
      cases ms with
      | nil => rfl
      | cons _ _ => cases r2
  | cons v vs ih =>
    intro ns ms as bs r1 r2
    cases ns with
    | nil => cases r1
    | cons n ns =>
      cases ms with
      | nil => cases r2
      | cons m ms =>
        cases r1 with
        | cons a1 t1 =>
          cases r2 with
          | cons a2 t2 =>
            cases a1
            cases a2
            rw [ih t1 t2]
theorem readsT_det {h : Heap} {v : Value} {ns ms : List Int} {as bs : List Addr} (r1 : Reads h v (tI ns) as) (r2 : Reads h v (tI ms) bs) : ns = ms := by
  unfold tI at r1 r2
  cases r1 with
  | tuple e1 c1 d1 t1 =>
    cases r2 with
    | tuple e2 c2 d2 t2 =>
      rw [e1] at e2
      cases e2
      rw [d1] at d2
      cases d2
      exact readsI_det t1 t2
noncomputable def dT (h : Heap) (v : Value) : List Int := Classical.epsilon fun ns => ∃ as, Reads h v (tI ns) as
theorem dT_eq {h : Heap} {v : Value} {ns : List Int} {as : List Addr} (r : Reads h v (tI ns) as) : dT h v = ns := by
  obtain ⟨bs, r2⟩ := Classical.epsilon_spec (p := fun ns => ∃ as, Reads h v (tI ns) as) ⟨ns, as, r⟩
  exact readsT_det r2 r
theorem trip {K : PySem.W.Frag} {H : Hp} {S : Av} {h : Heap} : ∀ (nss : List (List Int)) {ys : List V} {its : List Value} {as : List Addr}, DenL K H S ys (nss.map tI) → Vals ys its → ReadsAll h its (nss.map tI) as → ∃ Z : List (V × Value × List Int), Z.map (·.1) = ys ∧ Z.map (·.2.1) = its ∧ Z.map (·.2.2) = nss ∧ ∀ z ∈ Z, Den K H S z.1 (tI z.2.2) ∧ RelV z.1 z.2.1 ∧ ∃ bs, Reads h z.2.1 (tI z.2.2) bs
  | [], _, _, _, d, v, r => by
    cases d
    cases v
    exact ⟨[], rfl, rfl, rfl, fun _ z => nomatch z⟩
  | ns :: nss, _, _, _, d, v, r => by
    rw [List.map_cons] at d r
    cases d with
    | cons d1 d2 =>
      cases v with
      | cons v1 v2 =>
        cases r with
        | cons r1 r2 =>
          obtain ⟨Z, e1, e2, e3, hZ⟩ := trip nss d2 v2 r2
          exact ⟨(_, _, ns) :: Z, by rw [List.map_cons, e1], by rw [List.map_cons, e2], by rw [List.map_cons, e3], fun z hz => (List.mem_cons.mp hz).elim (fun e => by rw [e]; exact ⟨d1, v1, _, r1⟩) (hZ z)⟩
theorem untrip {K : PySem.W.Frag} {H : Hp} {S : Av} : ∀ {Z : List (V × Value × List Int)}, (∀ z ∈ Z, Den K H S z.1 (tI z.2.2) ∧ RelV z.1 z.2.1) → DenL K H S (Z.map (·.1)) ((Z.map (·.2.2)).map tI) ∧ Vals (Z.map (·.1)) (Z.map (·.2.1))
  | [], _ => ⟨.nil, .nil⟩
  | z :: Z, h => by
    obtain ⟨h1, h2⟩ := untrip (Z := Z) fun y hy => h y (.tail _ hy)
    obtain ⟨g1, g2⟩ := h z (.head _)
    exact ⟨.cons g1 h1, .cons g2 h2⟩
theorem n_sortedB {X : Cx} {k : Nat} (hr : Room k X.A) : CallN X (.builtin "sorted") sortedB := by
  intro pins s σ H xs us Q I r ⟨S, ds, d, m, h1, e, q⟩
  unfold sortedB at e
  split at e
  · rename_i r0 e0
    cases e
    exact n_sorted hr pins s σ H xs us Q I r ⟨S, ds, _, m, h1, e0, q⟩
  rename_i e0
  unfold bigD at e
  split at e
  · rename_i ds
    obtain ⟨nss, e1, e2⟩ := ob_some e
    obtain ⟨rfl, hne⟩ := toTs_eq e1
    clear e
    split at e2
    · rename_i hlen
      cases e2
      have h2 : 2 ≤ nss.length := by
        rcases Nat.lt_or_ge nss.length 2 with z | z
        · have : sortedD [.list (nss.map tI)] = some (.list (nss.map tI)) := if_pos (by rw [List.length_map]; exact z)
          rw [this] at e0
          cases e0
        · exact z
      obtain ⟨v, rfl, hv⟩ := h1.inv1
      obtain ⟨a, ys, rfl, hs, ht⟩ := hv.list_inv
      obtain ⟨u, rfl, ru⟩ := vals1 r
      cases (show u = Value.ref a from ru)
      obtain ⟨its, rv, pl, hz⟩ := I.list hs.sq
      obtain ⟨hcan, hdep⟩ := can_tups nss
      obtain ⟨as, ra⟩ := ht.reads I hcan rv
      have hl1 := rAll_len ra
      rw [List.length_map] at hl1
      obtain ⟨Zl, z1, z2, z3, hZ⟩ := trip nss ht rv ra
      have hu := hr.units
      have hall : (nss.map tI).all (fun d => keyD d == 0) = true := List.all_eq_true.mpr fun d hd => by
        obtain ⟨ns, hn, rfl⟩ := List.mem_map.mp hd
        cases ns with
        | nil => exact absurd rfl (hne [] hn)
        | cons n ns => rfl
      obtain ⟨rk, hrk⟩ : ∃ rk : Keyed → Int, rk = fun x => ((nss.countP fun m => HT.lexLt m (dT s.heap x.1) : Nat) : Int) := ⟨_, rfl⟩
      obtain ⟨G, hG⟩ : ∃ G : Keyed → Prop, G = fun x => ∃ z ∈ Zl, x = (z.2.1, z.2.1) := ⟨_, rfl⟩
      have lt : ∀ z ∈ Zl, ∀ y ∈ Zl, decide (rk (z.2.1, z.2.1) < rk (y.2.1, y.2.1)) = HT.lexLt z.2.2 y.2.2 := fun z hz y hy => by
        obtain ⟨_, _, bz, rz⟩ := hZ z hz
        obtain ⟨_, _, by', ry⟩ := hZ y hy
        have kz : rk (z.2.1, z.2.1) = ((nss.countP fun m => HT.lexLt m z.2.2 : Nat) : Int) := by rw [hrk, ← dT_eq rz]
        have ky : rk (y.2.1, y.2.1) = ((nss.countP fun m => HT.lexLt m y.2.2 : Nat) : Int) := by rw [hrk, ← dT_eq ry]
        have mz : z.2.2 ∈ nss := by rw [← z3]; exact List.mem_map.mpr ⟨z, hz, rfl⟩
        cases el : HT.lexLt z.2.2 y.2.2 with
        | true =>
          have := count_lt (p := fun m => HT.lexLt m z.2.2) (q := fun m => HT.lexLt m y.2.2) mz (fun x hx => lexLt_tr _ _ _ hx el) el (lexLt_irr _)
          exact decide_eq_true (by omega)
        | false =>
          have : nss.countP (fun m => HT.lexLt m y.2.2) ≤ nss.countP (fun m => HT.lexLt m z.2.2) := List.countP_mono_left fun x _ hx => by
            rcases lexLt_neg x z.2.2 y.2.2 hx with g | g
            · exact g
            · rw [el] at g; cases g
          exact decide_eq_false (by omega)
      have hzip : ((its.toArray.zip its.toArray).toList) = Zl.map fun z => (z.2.1, z.2.1) := by
        rw [← z2, Array.toList_zip]
        generalize Zl = L
        induction L with
        | nil => rfl
        | cons z L ih => exact congrArg _ ih
      refine sorted_shellB (κ := tuples' (Value.type "int" != Value.type "tuple")) (Z := fun b => b.toList.Perm (Zl.map fun z => (z.2.1, z.2.1)) ∧ Srt rk b 0 b.size) pl.isList (by omega) (by omega) (fun s' Q' keep q' => ?_) (fun s' keep => ?_) fun b hb hZb => ?_
      · obtain ⟨fs, t1, t2, t3⟩ := katTups_of (k := 0) (by decide) (readsAllKeep keep ra hcan) hall
        exact kat_kind t1 (by omega) (fun f hf => t3 _ f hf) rfl q'
      · refine tm_sort (G := G) (rk := rk) ⟨fun x y Q' hx hy hq => ?_⟩ (fun x hx => ?_) ?_ fun b p st' k' pm srt => ?_
        · rw [hG] at hx hy
          obtain ⟨zx, mx, rfl⟩ := hx
          obtain ⟨zy, my, rfl⟩ := hy
          rw [lt zx mx zy my] at hq
          obtain ⟨_, _, bx, rx⟩ := hZ zx mx
          obtain ⟨_, _, b_, ry⟩ := hZ zy my
          have cx : (tI zx.2.2).canLay0 = true ∧ PyData.depthAll (zx.2.2.map .int) = 0 := ⟨by simp [tI, PyData.canLay0, (can_ints zx.2.2).1], (can_ints zx.2.2).2⟩
          have cy : (tI zy.2.2).canLay0 = true := by simp [tI, PyData.canLay0, (can_ints zy.2.2).1]
          have rx := readsKeep keep rx cx.1
          have ry := readsKeep keep ry cy
          unfold tI at rx ry
          dsimp only
          generalize zx.2.1 = vx at rx
          generalize zy.2.1 = vy at ry
          cases rx with
          | @tuple ax ox ax1 nx _ _ x1 x2 x3 x4 =>
            cases ry with
            | @tuple ay oy ay1 ny _ _ y1 y2 y3 y4 =>
              refine kat_lt x1 x3 y1 y3 (katLex_reads (m := 50) (by show X.A.units + 1 + 1 + 50 + 1 < cLine; omega) hq _ _ _ _ _ _ 0 (by rw [cx.2]; omega) x4 y4 (can_ints _).1 (can_ints _).1 (ltXs_ints _ _) (fun _ _ x y hx hy => ?_) ?_)
              · rw [List.head?_map, Option.map_eq_some_iff] at hx hy
                obtain ⟨n1, _, rfl⟩ := hx
                obtain ⟨n2, _, rfl⟩ := hy
                exact ⟨n1, n2, rfl, rfl⟩
              · have z1 := rAll_len x4
                have z2 := rAll_len y4
                rw [Array.length_toList] at z1 z2
                rw [z1, z2]
        · rw [hzip] at hx
          obtain ⟨z, hz, rfl⟩ := List.mem_map.mp hx
          rw [hG]
          exact ⟨z, hz, rfl⟩
        · rw [← Array.length_toList, hzip, List.length_map, ← List.length_map (f := fun z : V × Value × List Int => z.2.1), z2]
          omega
        · have pl2 := Array.perm_iff_toList_perm.mp pm
          rw [hzip] at pl2
          obtain ⟨_, ea, _, ef⟩ := k'
          rw [ea]
          refine ⟨ef, ?_, pl2, srt⟩
          rw [← Array.length_toList, pl2.length_eq, List.length_map, ← List.length_map (f := fun z : V × Value × List Int => z.2.1), z2]
      · obtain ⟨pb, sb⟩ := hZb
        obtain ⟨Zn, pz, ez⟩ := perm_lift pb Zl rfl
        have eb : (b.map (·.2)).toList = Zn.map (·.2.1) := by
          rw [Array.toList_map, ← ez, List.map_map]
          rfl
        have hZn : ∀ z ∈ Zn, z ∈ Zl := fun z hz => pz.mem_iff.mp hz
        obtain ⟨dl, vl⟩ := untrip (K := X.K) (H := H) (S := S) (Z := Zn) fun z hz => ⟨(hZ z (hZn z hz)).1, (hZ z (hZn z hz)).2.1⟩
        have hp : (Zn.map (·.2.2)).Perm nss := by rw [← z3]; exact pz.map _
        have ho : (Zn.map (·.2.2)).Pairwise (fun a b => HT.lexLt b a = false) := by
          have pw := sb.all
          rw [← ez, List.pairwise_map] at pw
          rw [List.pairwise_map]
          refine pw.imp_of_mem fun {x y} hx hy hxy => ?_
          rw [← lt y (hZn y hy) x (hZn x hx)]
          exact decide_eq_false (by omega)
        obtain ⟨q1, q2⟩ := msort_ok nss
        have em : (nss.mergeSort fun a b => !HT.lexLt b a) = Zn.map (·.2.2) := sorted_unique (q1.trans hp.symm) q2 ho
        rw [em] at q
        have eb2 : b.map (·.2) = (Zn.map (·.2.1)).toArray := by rw [← eb, Array.toArray_toList]
        rw [eb2]
        obtain ⟨en, ob⟩ := sortedAll_at s.heap its (Zn.map (·.2.1)).toArray
        have hfr : H (s.heap.objs.size + 1) = none := I.hok.fresh (Nat.le_succ _)
        have zz : (Zn.map (·.1)).length ≤ sizeLine := by rw [List.length_map, ← List.length_map (f := fun z : V × Value × List Int => z.2.2), hp.length_eq]; exact Nat.le_of_lt (small1000 hlen)
        refine ⟨.ref (s.heap.objs.size + 1), _, I.laid (t' := s.toks) (o := .lst (Zn.map (·.1))) (fun b o e => sortedAll_old e) (Nat.le_succ _) ⟨zz, _, en, vl, ob⟩, rfl, q _ _ (Same.lay hfr) hfr (OwnO.laid hfr dl)⟩
    · cases e2
  · cases e
end L2
-- MARK: what is proved
namespace SF
open PySem L2
variable (P : Program) (w : World) {K : PySem.W.Frag} {mg : Str → Option Value} (base : Heap) {f : Addr} {fd : FuncData}
def top (i : Nat) : Stmt := PySem.Challenge.pw_sheetfold_k18_skins.main.body.getD i (.Pass ⟨0, 0, 0, 0⟩)
def d_UNITS : PyData := (.tuple [(.tuple [(.int (-1)), (.int (0)), (.int (0))]), (.tuple [(.int (0)), (.int (-1)), (.int (0))]), (.tuple [(.int (0)), (.int (0)), (.int (-1))]), (.tuple [(.int (0)), (.int (0)), (.int (1))]), (.tuple [(.int (0)), (.int (1)), (.int (0))]), (.tuple [(.int (1)), (.int (0)), (.int (0))])])
abbrev Tq9 : Stmt := top 2
abbrev N_added : List Str := ["one", "other"]
theorem A_added : ScOk N_added ["one", "other"] [] (defScope Tq9) := scmk (by kernel_rfl)
def u_added : Rho → Option Out := (sRet (evA (aC (ev2 (ev2 (vr 0) (kd (.int 0)) ixD) (ev2 (vr 1) (kd (.int 0)) ixD) add3D) (aC (ev2 (ev2 (vr 0) (kd (.int 1)) ixD) (ev2 (vr 1) (kd (.int 1)) ixD) add3D) (aC (ev2 (ev2 (vr 0) (kd (.int 2)) ixD) (ev2 (vr 1) (kd (.int 2)) ixD) add3D) aN))) tupD))
def f_added (ds : List PyData) : Option PyData := ob (u_added (rho0 N_added.length ds)) outD
theorem k_added (F : Fun K "added" "added" Tq9 f fd) (m : mg "added" = some (.ref f)) (b : Binds K fd ["one", "other"] []) : Known P w K mg base "added" 2 1 f_added := by
  refine ⟨f, fd, ["one", "other"], F.pure (k := 0) (u := u_added) (M' := []) A_added.fs rfl (fun cdv A outer s H E hr G => ?_), m, F.kp, b⟩
  exact pds_one (pds_ret (pd_tup (pda3 (pd_op d_add3 (pd_ix (pd_v A_added 0) pd_int) (pd_ix (pd_v A_added 1) pd_int)) (pd_op d_add3 (pd_ix (pd_v A_added 0) pd_int) (pd_ix (pd_v A_added 1) pd_int)) (pd_op d_add3 (pd_ix (pd_v A_added 0) pd_int) (pd_ix (pd_v A_added 1) pd_int)))))
abbrev Tq5 : Stmt := top 4
abbrev N_middle_of : List Str := ["cube"]
theorem A_middle_of : ScOk N_middle_of ["cube"] [] (defScope Tq5) := scmk (by kernel_rfl)
def u_middle_of : Rho → Option Out := (sRet (evA (aC (ev2 (ev2 (kd (.int 2)) (ev2 (vr 0) (kd (.int 0)) ixD) mulD) (kd (.int 1)) add3D) (aC (ev2 (ev2 (kd (.int 2)) (ev2 (vr 0) (kd (.int 1)) ixD) mulD) (kd (.int 1)) add3D) (aC (ev2 (ev2 (kd (.int 2)) (ev2 (vr 0) (kd (.int 2)) ixD) mulD) (kd (.int 1)) add3D) aN))) tupD))
def f_middle_of (ds : List PyData) : Option PyData := ob (u_middle_of (rho0 N_middle_of.length ds)) outD
theorem k_middle_of (F : Fun K "middle_of" "middle_of" Tq5 f fd) (m : mg "middle_of" = some (.ref f)) (b : Binds K fd ["cube"] []) : Known P w K mg base "middle_of" 1 1 f_middle_of := by
  refine ⟨f, fd, ["cube"], F.pure (k := 0) (u := u_middle_of) (M' := []) A_middle_of.fs rfl (fun cdv A outer s H E hr G => ?_), m, F.kp, b⟩
  exact pds_one (pds_ret (pd_tup (pda3 (pd_op d_add3 (pd_op d_mul pd_int (pd_ix (pd_v A_middle_of 0) pd_int)) pd_int) (pd_op d_add3 (pd_op d_mul pd_int (pd_ix (pd_v A_middle_of 0) pd_int)) pd_int) (pd_op d_add3 (pd_op d_mul pd_int (pd_ix (pd_v A_middle_of 0) pd_int)) pd_int))))
abbrev Tq8 : Stmt := top 5
abbrev N_skin_of : List Str := ["cubes", "counts", "cube", "unit", "square"]
theorem A_skin_of : ScOk N_skin_of ["cubes"] ["middle_of", "added", "UNITS", "sorted"] (defScope Tq8) := scmk (by kernel_rfl)
abbrev b_skin_of_1 : Rho → Option Out := (seqO (sSet 4 (evC 2 (aC (evC 1 (aC (vr 2) aN) f_middle_of) (aC (vr 3) aN)) f_added)) (sDput 1 (vr 4) (flatF (ev2 (ev3 (vr 1) (vr 4) (kd (.int 0)) dget2D) (kd (.int 1)) add3D))))
abbrev b_skin_of_0 : Rho → Option Out := (sFor (evI (kd d_UNITS) seqD) (gNm 3) b_skin_of_1)
def u_skin_of : Rho → Option Out := (seqO (sTake 1 (kd (.dict []))) (seqO (sFor (evI (vr 0) seqD) (gNm 2) b_skin_of_0) (sRet (evA (aC (compR 5 (evI (vr 1) keysD) (tV (ev2 (ev2 (vr 1) (vr 5) ix2D) (kd (.int 1)) eqD)) (vr 5)) aN) sortedB))))
def f_skin_of (ds : List PyData) : Option PyData := ob (u_skin_of (rho0 N_skin_of.length ds)) outF
theorem k_skin_of (F : Fun K "skin_of" "skin_of" Tq8 f fd) (m : mg "skin_of" = some (.ref f)) (b : Binds K fd ["cubes"] []) (K_added : Known P w K mg base "added" 2 1 f_added) (K_middle_of : Known P w K mg base "middle_of" 1 1 f_middle_of) (z_sorted : mg "sorted" = none) (C_UNITS : ConstK K mg "UNITS" d_UNITS) : KnownN P w K mg base "skin_of" 1 2 f_skin_of := by
  refine ⟨f, fd, ["cubes"], F.new (k := 1) (u := u_skin_of) (M' := []) A_skin_of.fs rfl (fun cdv A outer s H E hr G => ?_), m, F.kp, b⟩
  refine pds_cons (M1 := [1]) ?_ ?_
  refine pds_setF 1 ?_ ?_ ?_ ?_ ?_ ?_ ?_ pf_dict0
  · exact A_skin_of.fs.nd
  · exact (A_skin_of.loc 1 rfl)
  · rfl
  · rfl
  · exact .inl rfl
  · decide
  · decide
  refine pds_cons (M1 := [1]) ?_ (pds_one (pds_retF (pf_callB (n_sortedB hr) (A_skin_of.gl 3 rfl rfl) z_sorted boot_sortedD (pda1 (pd_comp (CompOk.of (k := 1) N_skin_of ["cubes", "counts", "cube", "unit", "", "square"] (defScope Tq8) rfl rfl rfl (by decide +kernel)) rfl (by decide +kernel) (pdi_dict (pd_v A_skin_of 1)) (fun _ _ _ _ _ _ => pdts_one (pdt_cmp (d_eq hr) (pd_ix2 hr (pd_var 1 (vis_comp (by decide +kernel)) (by decide)) (pd_var 5 (vis_comp (by decide +kernel)) (by decide))) pd_int (nomark _))) (fun _ _ _ _ _ _ => pd_var 5 (vis_comp (by decide +kernel)) (by decide)))))))
  refine pds_for PassesOwn.never rfl (pdi_seq (pd_v A_skin_of 0)) (fun _ => pdg_n A_skin_of 2) (fun _ => ?_)
  refine pds_one ?_
  refine pds_for PassesOwn.never rfl (pdi_seq (pd_const C_UNITS (A_skin_of.gl 2 rfl rfl))) (fun _ => pdg_n A_skin_of 3) (fun _ => ?_)
  refine pds_cons (M1 := [1]) ?_ (pds_one (pds_dputB hr 1 (A_skin_of.vis 1 rfl) (by decide) (by decide) (pd_v A_skin_of 4) (pd_op d_add3 (pd_get2 hr (pd_v A_skin_of 1) (pd_v A_skin_of 4) pd_int) pd_int)))
  refine pds_set 4 ?_ ?_ ?_ ?_ ?_ ?_ (pd_known K_added hr (by decide) (A_skin_of.gl 1 rfl rfl) (pda2 (pd_known K_middle_of hr (by decide) (A_skin_of.gl 0 rfl rfl) (pda1 (pd_v A_skin_of 2)) rfl) (pd_v A_skin_of 3)) rfl)
  · exact A_skin_of.fs.nd
  · exact (A_skin_of.loc 4 rfl)
  · rfl
  · rfl
  · exact .inl rfl
  · decide
abbrev Tq1 : Stmt := top 7
abbrev N__law_cell_at : List Str := ["_law_script", "_law_k"]
theorem A__law_cell_at : ScOk N__law_cell_at ["_law_script", "_law_k"] ["len"] (defScope Tq1) := scmk (by kernel_rfl)
def u__law_cell_at : Rho → Option Out := (seqO (sIf (tV (ev2 (vr 1) (evA (aC (vr 0) aN) lenD) ltD2)) (sRet (ev2 (vr 0) (vr 1) ixD)) sN) (sRet (kd (.int 0))))
def f__law_cell_at (ds : List PyData) : Option PyData := ob (u__law_cell_at (rho0 N__law_cell_at.length ds)) outD
theorem k__law_cell_at (F : Fun K "_law_cell_at" "_law_cell_at" Tq1 f fd) (m : mg "_law_cell_at" = some (.ref f)) (b : Binds K fd ["_law_script", "_law_k"] []) (z_len : mg "len" = none) : Known P w K mg base "_law_cell_at" 2 1 f__law_cell_at := by
  refine ⟨f, fd, ["_law_script", "_law_k"], F.pure (k := 0) (u := u__law_cell_at) (M' := []) A__law_cell_at.fs rfl (fun cdv A outer s H E hr G => ?_), m, F.kp, b⟩
  exact pds_cons (M1 := []) (pds_if (pdt_cmp (d_lt2 hr) (pd_v A__law_cell_at 1) (pd_callB b_len (A__law_cell_at.gl 0 rfl rfl) z_len PySem.boot_len (pda1 (pd_v A__law_cell_at 0))) (nomark _)) (pds_one (pds_ret (pd_ix (pd_v A__law_cell_at 0) (pd_v A__law_cell_at 1)))) pds_nil) (pds_one (pds_ret pd_int))
abbrev Tq2 : Stmt := top 8
abbrev N__law_whole : List Str := ["_law_found"]
theorem A__law_whole : ScOk N__law_whole ["_law_found"] ["isinstance", "int", "bool"] (defScope Tq2) := scmk (by kernel_rfl)
def u__law_whole : Rho → Option Out := (sRet (vA (ev1 (vr 0) (isiD "int")) (vN (ev1 (vr 0) (isiD "bool")))))
def f__law_whole (ds : List PyData) : Option PyData := ob (u__law_whole (rho0 N__law_whole.length ds)) outD
theorem k__law_whole (F : Fun K "_law_whole" "_law_whole" Tq2 f fd) (m : mg "_law_whole" = some (.ref f)) (b : Binds K fd ["_law_found"] []) (z_isinstance : mg "isinstance" = none) (z_int : mg "int" = none) (z_bool : mg "bool" = none) : Known P w K mg base "_law_whole" 1 1 f__law_whole := by
  refine ⟨f, fd, ["_law_found"], F.pure (k := 0) (u := u__law_whole) (M' := []) A__law_whole.fs rfl (fun cdv A outer s H E hr G => ?_), m, F.kp, b⟩
  exact pds_one (pds_ret (pd_and (pd_isi (T := "int") (kit_int _) (A__law_whole.gl 0 rfl rfl) z_isinstance (A__law_whole.gl 1 rfl rfl) z_int rfl rfl (pd_v A__law_whole 0)) (pd_one (pd_not (pd_isi (T := "bool") (kit_bool _) (A__law_whole.gl 0 rfl rfl) z_isinstance (A__law_whole.gl 2 rfl rfl) z_bool rfl rfl (pd_v A__law_whole 0))))))
abbrev Tq3 : Stmt := top 9
abbrev N__law_spots : List Str := ["_law_found", "_law_spot", "_law_number"]
theorem A__law_spots : ScOk N__law_spots ["_law_found"] ["isinstance", "list", "tuple", "len", "_law_whole"] (defScope Tq3) := scmk (by kernel_rfl)
abbrev b__law_spots_1 : Rho → Option Out := (sIf (tN (tV (evC 1 (aC (vr 2) aN) f__law_whole))) (sRet (kd (.bool false))) sN)
abbrev b__law_spots_0 : Rho → Option Out := (seqO (sIf (tO (tN (tV (ev1 (vr 1) (isiD "tuple")))) (tV (ev2 (evA (aC (vr 1) aN) lenD) (kd (.int 3)) neD))) (sRet (kd (.bool false))) sN) (sFor (evI (vr 1) seqD) (gNm 2) b__law_spots_1))
def u__law_spots : Rho → Option Out := (seqO (sIf (tN (tV (ev1 (vr 0) (isiD "list")))) (sRet (kd (.bool false))) sN) (seqO (sFor (evI (vr 0) seqD) (gNm 1) b__law_spots_0) (sRet (kd (.bool true)))))
def f__law_spots (ds : List PyData) : Option PyData := ob (u__law_spots (rho0 N__law_spots.length ds)) outD
theorem k__law_spots (F : Fun K "_law_spots" "_law_spots" Tq3 f fd) (m : mg "_law_spots" = some (.ref f)) (b : Binds K fd ["_law_found"] []) (K__law_whole : Known P w K mg base "_law_whole" 1 1 f__law_whole) (z_isinstance : mg "isinstance" = none) (z_list : mg "list" = none) (z_tuple : mg "tuple" = none) (z_len : mg "len" = none) : Known P w K mg base "_law_spots" 1 2 f__law_spots := by
  refine ⟨f, fd, ["_law_found"], F.pure (k := 1) (u := u__law_spots) (M' := []) A__law_spots.fs rfl (fun cdv A outer s H E hr G => ?_), m, F.kp, b⟩
  exact pds_cons (M1 := []) (pds_if (pdt_not (pdt_val (pd_isi (T := "list") (kit_list _) (A__law_spots.gl 0 rfl rfl) z_isinstance (A__law_spots.gl 1 rfl rfl) z_list rfl rfl (pd_v A__law_spots 0)))) (pds_one (pds_ret pd_bl)) pds_nil) (pds_cons (M1 := []) (pds_for PassesOwn.never rfl (pdi_seq (pd_v A__law_spots 0)) (fun _ => pdg_n A__law_spots 1) (fun _ => pds_cons (M1 := []) (pds_if (PDW.pdt (pdw_or (pdt_not (pdt_val (pd_isi (T := "tuple") (kit_tuple _) (A__law_spots.gl 0 rfl rfl) z_isinstance (A__law_spots.gl 2 rfl rfl) z_tuple rfl rfl (pd_v A__law_spots 1)))) (pdw_or1 (pdt_cmp (d_ne hr) (pd_callB b_len (A__law_spots.gl 3 rfl rfl) z_len PySem.boot_len (pda1 (pd_v A__law_spots 1))) pd_int (nomark _))))) (pds_one (pds_ret pd_bl)) pds_nil) (pds_one (pds_for PassesOwn.never rfl (pdi_seq (pd_v A__law_spots 1)) (fun _ => pdg_n A__law_spots 2) (fun _ => pds_one (pds_if (pdt_not (pdt_val (pd_known K__law_whole hr (by decide) (A__law_spots.gl 4 rfl rfl) (pda1 (pd_v A__law_spots 2)) rfl))) (pds_one (pds_ret pd_bl)) pds_nil)))))) (pds_one (pds_ret pd_bl)))
abbrev Tq6 : Stmt := top 10
abbrev N__law_base : List Str := ["_law_cells", "_law_base_here", "_law_cell"]
theorem A__law_base : ScOk N__law_base ["_law_cells"] [] (defScope Tq6) := scmk (by kernel_rfl)
abbrev b__law_base_0 : Rho → Option Out := (sIf (tV (ev2 (ev2 (vr 2) (kd (.int 5)) modD) (kd (.int 0)) eqD)) (sApp 1 (ev2 (ev2 (ev2 (vr 2) (kd (.int 5)) fdivD) (ev2 (ev2 (kd (.int 2)) (ev2 (kd (.int 10)) (kd (.int 19)) powD) mulD) (kd (.int 1)) add3D) modD) (ev2 (kd (.int 10)) (kd (.int 19)) powD) subD)) (sApp 1 (ev2 (ev2 (ev2 (vr 2) (kd (.int 5)) fdivD) (kd (.int 9)) modD) (kd (.int 4)) subD)))
def u__law_base : Rho → Option Out := (seqO (sTake 1 (evA aN lstD)) (seqO (sFor (evI (vr 0) seqD) (gNm 2) b__law_base_0) (sRet (vr 1))))
def f__law_base (ds : List PyData) : Option PyData := ob (u__law_base (rho0 N__law_base.length ds)) outD
theorem k__law_base (F : Fun K "_law_base" "_law_base" Tq6 f fd) (m : mg "_law_base" = some (.ref f)) (b : Binds K fd ["_law_cells"] []) : Known P w K mg base "_law_base" 1 1 f__law_base := by
  refine ⟨f, fd, ["_law_cells"], F.pure (k := 0) (u := u__law_base) (M' := []) A__law_base.fs rfl (fun cdv A outer s H E hr G => ?_), m, F.kp, b⟩
  refine pds_cons (M1 := [1]) ?_ (pds_cons (M1 := [1]) (pds_for PassesOwn.never rfl (pdi_seq (pd_v A__law_base 0)) (fun _ => pdg_n A__law_base 2) (fun _ => pds_one (pds_if (pdt_cmp (d_eq hr) (pd_op d_mod (pd_v A__law_base 2) pd_int) pd_int (nomark _)) (pds_one (pds_app 1 (A__law_base.vis 1 rfl) (by decide) (by decide) (pd_op d_sub (pd_op d_mod (pd_op d_fdiv (pd_v A__law_base 2) pd_int) (pd_op d_add3 (pd_op d_mul pd_int (pd_op d_pow pd_int pd_int)) pd_int)) (pd_op d_pow pd_int pd_int)))) (pds_one (pds_app 1 (A__law_base.vis 1 rfl) (by decide) (by decide) (pd_op d_sub (pd_op d_mod (pd_op d_fdiv (pd_v A__law_base 2) pd_int) pd_int) pd_int)))))) (pds_one (pds_ret (pd_v A__law_base 1))))
  refine pds_setF 1 ?_ ?_ ?_ ?_ ?_ ?_ ?_ (pf_lst pda_nil)
  · exact A__law_base.fs.nd
  · exact (A__law_base.loc 1 rfl)
  · rfl
  · rfl
  · exact .inl rfl
  · decide
  · decide
abbrev Tq4 : Stmt := top 11
abbrev N__law_cubes : List Str := ["_law_cells", "_law_base_here", "_law_cubes_here", "_law_cell", "_law_cube", "_law_axis"]
theorem A__law_cubes : ScOk N__law_cubes ["_law_cells", "_law_base_here"] ["list", "len", "tuple"] (defScope Tq4) := scmk (by kernel_rfl)
abbrev b__law_cubes_0 : Rho → Option Out := (seqO (sTake 4 (evA (aC (vr 1) aN) listD)) (seqO (sIf (tA (tV (ev2 (evA (aC (vr 2) aN) lenD) (kd (.int 0)) gtD)) (tV (ev2 (ev2 (vr 3) (kd (.int 4)) modD) (kd (.int 0)) gtD))) (seqO (sTake 4 (flatG (evA (aC (ev2 (vr 2) (ev2 (ev2 (vr 3) (kd (.int 4)) fdivD) (evA (aC (vr 2) aN) lenD) modD) ixD) aN) listD))) (seqO (sSet 5 (ev2 (ev2 (vr 3) (kd (.int 80)) fdivD) (kd (.int 3)) modD)) (sPut 4 (vr 5) (flatF (ev2 (ev2 (ev2 (vr 4) (vr 5) ixD) (ev2 (kd (.int 2)) (ev2 (ev2 (vr 3) (kd (.int 240)) fdivD) (kd (.int 2)) modD) mulD) add3D) (kd (.int 1)) subD))))) (sPut 4 (ev2 (ev2 (vr 3) (kd (.int 4)) fdivD) (kd (.int 3)) modD) (flatF (ev2 (ev2 (ev2 (vr 4) (ev2 (ev2 (vr 3) (kd (.int 4)) fdivD) (kd (.int 3)) modD) ixD) (ev2 (ev2 (vr 3) (kd (.int 12)) fdivD) (kd (.int 5)) modD) add3D) (kd (.int 2)) subD)))) (sIf (tV (ev2 (evA (aC (vr 4) aN) tupleD) (vr 2) ninD)) (sApp 2 (flatF (evA (aC (vr 4) aN) tupleD))) sN)))
def u__law_cubes : Rho → Option Out := (seqO (sTake 2 (evA aN lstD)) (seqO (sFor (evI (vr 0) seqD) (gNm 3) b__law_cubes_0) (sRet (vr 2))))
def f__law_cubes (ds : List PyData) : Option PyData := ob (u__law_cubes (rho0 N__law_cubes.length ds)) outD
theorem k__law_cubes (F : Fun K "_law_cubes" "_law_cubes" Tq4 f fd) (m : mg "_law_cubes" = some (.ref f)) (b : Binds K fd ["_law_cells", "_law_base_here"] []) (z_list : mg "list" = none) (z_len : mg "len" = none) (z_tuple : mg "tuple" = none) : Known P w K mg base "_law_cubes" 2 1 f__law_cubes := by
  refine ⟨f, fd, ["_law_cells", "_law_base_here"], F.pure (k := 0) (u := u__law_cubes) (M' := []) A__law_cubes.fs rfl (fun cdv A outer s H E hr G => ?_), m, F.kp, b⟩
  refine pds_cons (M1 := [2]) ?_ ?_
  refine pds_setF 2 ?_ ?_ ?_ ?_ ?_ ?_ ?_ (pf_lst pda_nil)
  · exact A__law_cubes.fs.nd
  · exact (A__law_cubes.loc 2 rfl)
  · rfl
  · rfl
  · exact .inl rfl
  · decide
  · decide
  refine pds_cons (M1 := [2]) ?_ (pds_one (pds_ret (pd_v A__law_cubes 2)))
  refine pds_for PassesOwn.never rfl (pdi_seq (pd_v A__law_cubes 0)) (fun _ => pdg_n A__law_cubes 3) (fun _ => ?_)
  refine pds_endO (M' := [4, 2]) [2] ?_ ?_ ?_
  refine pds_cons (M1 := [4, 2]) ?_ ?_
  refine pds_setF 4 ?_ ?_ ?_ ?_ ?_ ?_ ?_ (pf_callTy n_list (A__law_cubes.gl 0 rfl rfl) z_list rfl (pda1 (pd_v A__law_cubes 1)))
  · exact A__law_cubes.fs.nd
  · exact (A__law_cubes.loc 4 rfl)
  · rfl
  · rfl
  · exact .inl rfl
  · decide
  · decide
  refine pds_cons (M1 := [4, 2]) ?_ (pds_one (pds_if (pdt_cmp (d_notin hr) (pd_callTy b_tuple (A__law_cubes.gl 2 rfl rfl) z_tuple rfl (pda1 (pd_v A__law_cubes 4))) (pd_v A__law_cubes 2) rfl) (pds_one (pds_appB 2 (A__law_cubes.vis 2 rfl) (by decide) (by decide) (pd_callTy b_tuple (A__law_cubes.gl 2 rfl rfl) z_tuple rfl (pda1 (pd_v A__law_cubes 4))))) pds_nil))
  refine pds_if (PDW.pdt (pdw_and (pdt_cmp d_gt (pd_callB b_len (A__law_cubes.gl 1 rfl rfl) z_len PySem.boot_len (pda1 (pd_v A__law_cubes 2))) pd_int (nomark _)) (pdw_and1 (pdt_cmp d_gt (pd_op d_mod (pd_v A__law_cubes 3) pd_int) pd_int (nomark _))))) ?_ (pds_one (pds_putB 4 (A__law_cubes.vis 4 rfl) (by decide) (by decide) (pd_op d_mod (pd_op d_fdiv (pd_v A__law_cubes 3) pd_int) pd_int) (pd_op d_sub (pd_op d_add3 (pd_ix (pd_v A__law_cubes 4) (pd_op d_mod (pd_op d_fdiv (pd_v A__law_cubes 3) pd_int) pd_int)) (pd_op d_mod (pd_op d_fdiv (pd_v A__law_cubes 3) pd_int) pd_int)) pd_int)))
  refine pds_cons (M1 := [4, 2]) ?_ ?_
  refine pds_dropO [2] ?_ ?_ ?_
  · rfl
  · rfl
  refine pds_setFB 4 ?_ ?_ ?_ ?_ ?_ ?_ ?_ (pf_callTy n_list (A__law_cubes.gl 0 rfl rfl) z_list rfl (pda1 (pd_ix (pd_v A__law_cubes 2) (pd_op d_mod (pd_op d_fdiv (pd_v A__law_cubes 3) pd_int) (pd_callB b_len (A__law_cubes.gl 1 rfl rfl) z_len PySem.boot_len (pda1 (pd_v A__law_cubes 2)))))))
  · exact A__law_cubes.fs.nd
  · exact (A__law_cubes.loc 4 rfl)
  · rfl
  · rfl
  · exact .inl rfl
  · decide
  · decide
  refine pds_cons (M1 := [4, 2]) ?_ (pds_one (pds_putB 4 (A__law_cubes.vis 4 rfl) (by decide) (by decide) (pd_v A__law_cubes 5) (pd_op d_sub (pd_op d_add3 (pd_ix (pd_v A__law_cubes 4) (pd_v A__law_cubes 5)) (pd_op d_mul pd_int (pd_op d_mod (pd_op d_fdiv (pd_v A__law_cubes 3) pd_int) pd_int))) pd_int)))
  refine pds_set 5 ?_ ?_ ?_ ?_ ?_ ?_ (pd_op d_mod (pd_op d_fdiv (pd_v A__law_cubes 3) pd_int) pd_int)
  · exact A__law_cubes.fs.nd
  · exact (A__law_cubes.loc 5 rfl)
  · rfl
  · rfl
  · exact .inl rfl
  · decide
  · rfl
  · rfl
abbrev Tq7 : Stmt := top 12
abbrev N__law_due : List Str := ["_law_cubes_here", "_law_squares", "_law_cube", "_law_axis", "_law_by", "_law_other", "_law_square"]
theorem A__law_due : ScOk N__law_due ["_law_cubes_here"] ["list", "tuple", "range", "sorted"] (defScope Tq7) := scmk (by kernel_rfl)
abbrev b__law_due_2 : Rho → Option Out := (seqO (sTake 5 (evA (aC (vr 2) aN) listD)) (seqO (sPut 5 (vr 3) (flatF (ev2 (ev2 (vr 5) (vr 3) ixD) (vr 4) add3D))) (sIf (tV (ev2 (evA (aC (vr 5) aN) tupleD) (vr 0) ninD)) (seqO (sTake 6 (compR 7 (evI (vr 2) seqD) tT (ev2 (ev2 (kd (.int 2)) (vr 7) mulD) (kd (.int 1)) add3D))) (seqO (sPut 6 (vr 3) (flatF (ev2 (ev2 (vr 6) (vr 3) ixD) (vr 4) add3D))) (sApp 1 (flatF (evA (aC (vr 6) aN) tupleD))))) sN)))
abbrev b__law_due_1 : Rho → Option Out := (sFor (evI (evA (aC (ev1 (kd (.int 1)) negD) (aC (kd (.int 1)) aN)) tupD) seqD) (gNm 4) b__law_due_2)
abbrev b__law_due_0 : Rho → Option Out := (sFor (evR (aC (kd (.int 3)) aN) rng1D) (gNm 3) b__law_due_1)
def u__law_due : Rho → Option Out := (seqO (sTake 1 (evA aN lstD)) (seqO (sFor (evI (vr 0) seqD) (gNm 2) b__law_due_0) (sRet (evA (aC (vr 1) aN) sortedB))))
def f__law_due (ds : List PyData) : Option PyData := ob (u__law_due (rho0 N__law_due.length ds)) outD
theorem k__law_due (F : Fun K "_law_due" "_law_due" Tq7 f fd) (m : mg "_law_due" = some (.ref f)) (b : Binds K fd ["_law_cubes_here"] []) (z_list : mg "list" = none) (z_tuple : mg "tuple" = none) (z_range : mg "range" = none) (z_sorted : mg "sorted" = none) : Known P w K mg base "_law_due" 1 1 f__law_due := by
  refine ⟨f, fd, ["_law_cubes_here"], F.pure (k := 0) (u := u__law_due) (M' := []) A__law_due.fs rfl (fun cdv A outer s H E hr G => ?_), m, F.kp, b⟩
  refine pds_cons (M1 := [1]) ?_ ?_
  refine pds_setF 1 ?_ ?_ ?_ ?_ ?_ ?_ ?_ (pf_lst pda_nil)
  · exact A__law_due.fs.nd
  · exact (A__law_due.loc 1 rfl)
  · rfl
  · rfl
  · exact .inl rfl
  · decide
  · decide
  refine pds_cons (M1 := [1]) ?_ (pds_one (pds_ret (pd_of_pf (pf_callB (n_sortedB hr) (A__law_due.gl 3 rfl rfl) z_sorted boot_sortedD (pda1 (pd_v A__law_due 1))))))
  refine pds_for PassesOwn.never rfl (pdi_seq (pd_v A__law_due 0)) (fun _ => pdg_n A__law_due 2) (fun _ => ?_)
  refine pds_one ?_
  refine pds_forR PassesOwn.never rfl (pdr_range1 (A__law_due.gl 2 rfl rfl) z_range (pda1 pd_int)) (pdg_n A__law_due 3) ?_
  refine pds_one ?_
  refine pds_for PassesOwn.never rfl (pdi_seq (pd_tup (pda2 (pd_un d_neg pd_int) pd_int))) (fun _ => pdg_n A__law_due 4) (fun _ => ?_)
  refine pds_endO (M' := [5, 1]) [1] ?_ ?_ ?_
  refine pds_cons (M1 := [5, 1]) ?_ ?_
  refine pds_setF 5 ?_ ?_ ?_ ?_ ?_ ?_ ?_ (pf_callTy n_list (A__law_due.gl 0 rfl rfl) z_list rfl (pda1 (pd_v A__law_due 2)))
  · exact A__law_due.fs.nd
  · exact (A__law_due.loc 5 rfl)
  · rfl
  · rfl
  · exact .inl rfl
  · decide
  · decide
  refine pds_cons (M1 := [5, 1]) (pds_putB 5 (A__law_due.vis 5 rfl) (by decide) (by decide) (pd_v A__law_due 3) (pd_op d_add3 (pd_ix (pd_v A__law_due 5) (pd_v A__law_due 3)) (pd_v A__law_due 4))) ?_
  refine pds_one ?_
  refine pds_if (pdt_cmp (d_notin hr) (pd_callTy b_tuple (A__law_due.gl 1 rfl rfl) z_tuple rfl (pda1 (pd_v A__law_due 5))) (pd_v A__law_due 0) rfl) ?_ pds_nil
  refine pds_endO (M' := [6, 5, 1]) [5, 1] (pds_cons (M1 := [6, 5, 1]) (pds_comp 6 (CompOk.of (k := 1) N__law_due ["_law_cubes_here", "_law_squares", "_law_cube", "_law_axis", "_law_by", "_law_other", "_law_square", "_law_number"] (defScope Tq7) rfl rfl rfl (by decide +kernel)) rfl (by decide +kernel) (defScope Tq7) rfl (by decide +kernel) (by decide) (by decide) (pdi_seq (pd_v A__law_due 2)) (fun _ _ _ _ _ _ => pdts_nil) (fun _ _ _ _ _ _ => pd_op d_add3 (pd_op d_mul pd_int (pd_var 7 (vis_comp (by decide +kernel)) (by decide))) pd_int)) (pds_cons (M1 := [6, 5, 1]) (pds_putB 6 (A__law_due.vis 6 rfl) (by decide) (by decide) (pd_v A__law_due 3) (pd_op d_add3 (pd_ix (pd_v A__law_due 6) (pd_v A__law_due 3)) (pd_v A__law_due 4))) (pds_one (pds_appB 1 (A__law_due.vis 1 rfl) (by decide) (by decide) (pd_callTy b_tuple (A__law_due.gl 1 rfl rfl) z_tuple rfl (pda1 (pd_v A__law_due 6))))))) ?_ ?_
  · rfl
  · rfl
  · rfl
  · rfl
abbrev Tq0 : Stmt := top 13
abbrev N__law_with_far : List Str := ["_law_cubes_here", "_law_cell", "_law_far", "_law_axis", "_law_way"]
theorem A__law_with_far : ScOk N__law_with_far ["_law_cubes_here", "_law_cell"] ["len", "list", "tuple"] (defScope Tq0) := scmk (by kernel_rfl)
def u__law_with_far : Rho → Option Out := (seqO (sTake 2 (evA (aC (ev2 (vr 0) (ev2 (vr 1) (evA (aC (vr 0) aN) lenD) modD) ixD) aN) listD)) (seqO (sSet 3 (ev2 (ev2 (vr 1) (kd (.int 20)) fdivD) (kd (.int 3)) modD)) (seqO (sSet 4 (ev2 (kd (.int 1)) (ev2 (kd (.int 2)) (ev2 (ev2 (vr 1) (kd (.int 60)) fdivD) (kd (.int 2)) modD) mulD) subD)) (seqO (sPut 2 (vr 3) (flatF (ev2 (ev2 (vr 2) (vr 3) ixD) (ev2 (vr 4) (ev2 (ev2 (evA (aC (ev2 (kd (.int 10)) (kd (.int 10)) powD) (aC (ev2 (kd (.int 3)) (ev2 (kd (.int 10)) (kd (.int 12)) powD) mulD) (aC (ev2 (kd (.int 7)) (ev2 (kd (.int 10)) (kd (.int 18)) powD) mulD) aN))) lstD) (ev2 (ev2 (vr 1) (kd (.int 120)) fdivD) (kd (.int 3)) modD) ixD) (ev2 (ev2 (vr 1) (kd (.int 360)) fdivD) (ev2 (kd (.int 10)) (kd (.int 6)) powD) modD) add3D) mulD) add3D))) (sRet (ev2 (vr 0) (evA (aC (evA (aC (vr 2) aN) tupleD) aN) lstD) add3D))))))
def f__law_with_far (ds : List PyData) : Option PyData := ob (u__law_with_far (rho0 N__law_with_far.length ds)) outD
theorem k__law_with_far (F : Fun K "_law_with_far" "_law_with_far" Tq0 f fd) (m : mg "_law_with_far" = some (.ref f)) (b : Binds K fd ["_law_cubes_here", "_law_cell"] []) (z_list : mg "list" = none) (z_len : mg "len" = none) (z_tuple : mg "tuple" = none) : Known P w K mg base "_law_with_far" 2 1 f__law_with_far := by
  refine ⟨f, fd, ["_law_cubes_here", "_law_cell"], F.pure (k := 0) (u := u__law_with_far) (M' := []) A__law_with_far.fs rfl (fun cdv A outer s H E hr G => ?_), m, F.kp, b⟩
  refine pds_cons (M1 := [2]) ?_ ?_
  refine pds_setF 2 ?_ ?_ ?_ ?_ ?_ ?_ ?_ (pf_callTy n_list (A__law_with_far.gl 1 rfl rfl) z_list rfl (pda1 (pd_ix (pd_v A__law_with_far 0) (pd_op d_mod (pd_v A__law_with_far 1) (pd_callB b_len (A__law_with_far.gl 0 rfl rfl) z_len PySem.boot_len (pda1 (pd_v A__law_with_far 0)))))))
  · exact A__law_with_far.fs.nd
  · exact (A__law_with_far.loc 2 rfl)
  · rfl
  · rfl
  · exact .inl rfl
  · decide
  · decide
  refine pds_cons (M1 := [2]) ?_ ?_
  refine pds_set 3 ?_ ?_ ?_ ?_ ?_ ?_ (pd_op d_mod (pd_op d_fdiv (pd_v A__law_with_far 1) pd_int) pd_int)
  · exact A__law_with_far.fs.nd
  · exact (A__law_with_far.loc 3 rfl)
  · rfl
  · rfl
  · exact .inl rfl
  · decide
  refine pds_cons (M1 := [2]) ?_ (pds_cons (M1 := [2]) (pds_putB 2 (A__law_with_far.vis 2 rfl) (by decide) (by decide) (pd_v A__law_with_far 3) (pd_op d_add3 (pd_ix (pd_v A__law_with_far 2) (pd_v A__law_with_far 3)) (pd_op d_mul (pd_v A__law_with_far 4) (pd_op d_add3 (pd_ix (pd_lst (pda3 (pd_op d_pow pd_int pd_int) (pd_op d_mul pd_int (pd_op d_pow pd_int pd_int)) (pd_op d_mul pd_int (pd_op d_pow pd_int pd_int)))) (pd_op d_mod (pd_op d_fdiv (pd_v A__law_with_far 1) pd_int) pd_int)) (pd_op d_mod (pd_op d_fdiv (pd_v A__law_with_far 1) pd_int) (pd_op d_pow pd_int pd_int)))))) (pds_one (pds_ret (pd_op d_add3 (pd_v A__law_with_far 0) (pd_lst (pda1 (pd_callTy b_tuple (A__law_with_far.gl 2 rfl rfl) z_tuple rfl (pda1 (pd_v A__law_with_far 2)))))))))
  refine pds_set 4 ?_ ?_ ?_ ?_ ?_ ?_ (pd_op d_sub pd_int (pd_op d_mul pd_int (pd_op d_mod (pd_op d_fdiv (pd_v A__law_with_far 1) pd_int) pd_int)))
  · exact A__law_with_far.fs.nd
  · exact (A__law_with_far.loc 4 rfl)
  · rfl
  · rfl
  · exact .inl rfl
  · decide
abbrev Tq10 : Stmt := top 14
abbrev N_law : List Str := ["_law_script", "_law_base_here", "_law_cubes_here", "_law_first", "_law_mine", "_law_found", "_law_held", "_law_at", "_law_cube", "_law_again"]
theorem A_law : ScOk N_law ["_law_script"] ["_law_base", "_law_cubes", "_law_cell_at", "len", "_law_with_far", "list", "skin_of", "_law_spots", "_law_due"] (defScope Tq10) := scmk (by kernel_rfl)
def u_law : Rho → Option Out := (seqO (sSet 1 (evC 1 (aC (compR 10 (evI (evA (aC (kd (.int 1)) (aC (kd (.int 2)) (aC (kd (.int 3)) aN))) tupD) seqD) tT (evC 2 (aC (vr 0) (aC (vr 10) aN)) f__law_cell_at)) aN) f__law_base)) (seqO (sSet 2 (evC 2 (aC (evS (vr 0) (oS (kd (.int 4))) (oS (kd (.int 24)))) (aC (vr 1) aN)) f__law_cubes)) (seqO (sSet 3 (evC 2 (aC (vr 0) (aC (kd (.int 0)) aN)) f__law_cell_at)) (seqO (sIf (tA (tV (ev2 (ev2 (ev2 (vr 3) (kd (.int 20)) fdivD) (kd (.int 4)) modD) (kd (.int 1)) eqD)) (tV (evCh (kd (.int 0)) (evA (aC (vr 2) aN) lenD) (kd (.int 20)) ltD2 ltD2))) (sSet 2 (evC 2 (aC (vr 2) (aC (ev2 (vr 3) (kd (.int 80)) fdivD) aN)) f__law_with_far)) sN) (seqO (sTake 4 (evA (aC (vr 2) aN) listD)) (seqO (sTake 5 (flatG (evC 1 (aC (vr 4) aN) f_skin_of))) (seqO (sIf (tO (tV (ev2 (vr 4) (vr 2) neD)) (tO (tN (tV (evC 1 (aC (vr 5) aN) f__law_spots))) (tV (ev2 (vr 5) (evC 1 (aC (vr 2) aN) f__law_due) neD)))) (sRet (kd (.bool false))) sN) (seqO (sSet 6 (evA (aC (vr 5) aN) listD)) (seqO (sIf (tV (ev2 (evA (aC (vr 2) aN) lenD) (kd (.int 0)) gtD)) (seqO (sSet 7 (ev2 (vr 3) (evA (aC (vr 2) aN) lenD) modD)) (seqO (sPopAt 4 8 (vr 7)) (seqO (sTake 9 (flatG (evC 1 (aC (vr 4) aN) f_skin_of))) (seqO (sIf (tO (tN (tV (evC 1 (aC (vr 9) aN) f__law_spots))) (tV (ev2 (vr 9) (evC 1 (aC (ev2 (evS (vr 2) oN (oS (vr 7))) (evS (vr 2) (oS (ev2 (vr 7) (kd (.int 1)) add3D)) oN) add3D) aN) f__law_due) neD))) (sRet (kd (.bool false))) sN) (seqO (sApp 4 (vr 8)) (sIf (tV (ev2 (evC 1 (aC (vr 4) aN) f_skin_of) (vr 6) neD)) (sRet (kd (.bool false))) sN)))))) sN) (sRet (ev2 (vr 5) (vr 6) eqD)))))))))))
def f_law (ds : List PyData) : Option PyData := ob (u_law (rho0 N_law.length ds)) outD
theorem ok_law (F : Fun K "law" "law" Tq10 f fd) (K__law_base : Known P w K mg base "_law_base" 1 1 f__law_base) (K__law_cell_at : Known P w K mg base "_law_cell_at" 2 1 f__law_cell_at) (K__law_cubes : Known P w K mg base "_law_cubes" 2 1 f__law_cubes) (K__law_with_far : Known P w K mg base "_law_with_far" 2 1 f__law_with_far) (K_skin_of : KnownN P w K mg base "skin_of" 1 2 f_skin_of) (K__law_spots : Known P w K mg base "_law_spots" 1 2 f__law_spots) (K__law_due : Known P w K mg base "_law_due" 1 1 f__law_due) (z_len : mg "len" = none) (z_list : mg "list" = none) : FnOk P w K mg base CX0 3 f fd ["_law_script"] (spF K 1 f_law) := by
  refine F.pure (k := 2) (u := u_law) (M' := []) A_law.fs rfl (fun cdv A outer s H E hr G => ?_)
  refine pds_cons (M1 := []) ?_ ?_
  refine pds_set 1 ?_ ?_ ?_ ?_ ?_ ?_ ?_
  · exact A_law.fs.nd
  · exact (A_law.loc 1 rfl)
  · rfl
  · rfl
  · exact .inl rfl
  · decide
  exact pd_known K__law_base hr (by decide) (A_law.gl 0 rfl rfl) (pda1 (pd_comp (CompOk.of (k := 1) N_law ["_law_script", "_law_base_here", "_law_cubes_here", "_law_first", "_law_mine", "_law_found", "_law_held", "_law_at", "_law_cube", "_law_again", "_law_k"] (defScope Tq10) rfl rfl rfl (by decide +kernel)) rfl (by decide +kernel) (pdi_seq (pd_tup (pda3 pd_int pd_int pd_int))) (fun _ _ _ _ _ _ => pdts_nil) (fun _ _ _ _ _ _ => pd_known K__law_cell_at hr (by decide) (gl_comp (by decide +kernel)) (pda2 (pd_var 0 (vis_comp (by decide +kernel)) (by decide)) (pd_var 10 (vis_comp (by decide +kernel)) (by decide))) rfl))) rfl
  refine pds_cons (M1 := []) ?_ ?_
  refine pds_set 2 ?_ ?_ ?_ ?_ ?_ ?_ (pd_known K__law_cubes hr (by decide) (A_law.gl 1 rfl rfl) (pda2 (pd_slice (pd_v A_law 0) (pdo_some pd_int) (pdo_some pd_int)) (pd_v A_law 1)) rfl)
  · exact A_law.fs.nd
  · exact (A_law.loc 2 rfl)
  · rfl
  · rfl
  · exact .inl rfl
  · decide
  refine pds_cons (M1 := []) ?_ ?_
  refine pds_set 3 ?_ ?_ ?_ ?_ ?_ ?_ (pd_known K__law_cell_at hr (by decide) (A_law.gl 2 rfl rfl) (pda2 (pd_v A_law 0) pd_int) rfl)
  · exact A_law.fs.nd
  · exact (A_law.loc 3 rfl)
  · rfl
  · rfl
  · exact .inl rfl
  · decide
  refine pds_cons (M1 := []) ?_ ?_
  refine pds_if (PDW.pdt (pdw_and (pdt_cmp (d_eq hr) (pd_op d_mod (pd_op d_fdiv (pd_v A_law 3) pd_int) pd_int) pd_int (nomark _)) (pdw_and1 (pdt_chain (d_lt2 hr) (d_lt2 hr) pd_int (pd_callB b_len (A_law.gl 3 rfl rfl) z_len PySem.boot_len (pda1 (pd_v A_law 2))) pd_int)))) ?_ pds_nil
  refine pds_one ?_
  refine pds_set 2 ?_ ?_ ?_ ?_ ?_ ?_ (pd_known K__law_with_far hr (by decide) (A_law.gl 4 rfl rfl) (pda2 (pd_v A_law 2) (pd_op d_fdiv (pd_v A_law 3) pd_int)) rfl)
  · exact A_law.fs.nd
  · exact (A_law.loc 2 rfl)
  · rfl
  · rfl
  · exact .inl rfl
  · decide
  refine pds_cons (M1 := [4]) ?_ ?_
  refine pds_setF 4 ?_ ?_ ?_ ?_ ?_ ?_ ?_ (pf_callTy n_list (A_law.gl 5 rfl rfl) z_list rfl (pda1 (pd_v A_law 2)))
  · exact A_law.fs.nd
  · exact (A_law.loc 4 rfl)
  · rfl
  · rfl
  · exact .inl rfl
  · decide
  · decide
  refine pds_cons (M1 := [5, 4]) ?_ ?_
  refine pds_setFB 5 ?_ ?_ ?_ ?_ ?_ ?_ ?_ (pf_known K_skin_of hr (by decide) (A_law.gl 6 rfl rfl) (pda1 (pd_v A_law 4)) rfl)
  · exact A_law.fs.nd
  · exact (A_law.loc 5 rfl)
  · rfl
  · rfl
  · exact .inl rfl
  · decide
  · decide
  refine pds_cons (M1 := [5, 4]) (pds_if (PDW.pdt (pdw_or (pdt_cmp (d_ne hr) (pd_v A_law 4) (pd_v A_law 2) (nomark _)) (pdw_or (pdt_not (pdt_val (pd_known K__law_spots hr (by decide) (A_law.gl 7 rfl rfl) (pda1 (pd_v A_law 5)) rfl))) (pdw_or1 (pdt_cmp (d_ne hr) (pd_v A_law 5) (pd_known K__law_due hr (by decide) (A_law.gl 8 rfl rfl) (pda1 (pd_v A_law 2)) rfl) (nomark _)))))) (pds_one (pds_ret pd_bl)) pds_nil) ?_
  refine pds_cons (M1 := [4]) ?_ ?_
  refine pds_dropO [4] ?_ ?_ ?_
  · rfl
  · rfl
  refine pds_set 6 ?_ ?_ ?_ ?_ ?_ ?_ (pd_callTy b_list (A_law.gl 5 rfl rfl) z_list rfl (pda1 (pd_v A_law 5)))
  · exact A_law.fs.nd
  · exact (A_law.loc 6 rfl)
  · rfl
  · rfl
  · exact .inl rfl
  · decide
  refine pds_cons (M1 := [4]) ?_ (pds_one (pds_ret (pd_cmp (d_eq hr) (pd_v A_law 5) (pd_v A_law 6) (nomark _))))
  refine pds_if (pdt_cmp d_gt (pd_callB b_len (A_law.gl 3 rfl rfl) z_len PySem.boot_len (pda1 (pd_v A_law 2))) pd_int (nomark _)) ?_ pds_nil
  refine pds_endO (M' := [9, 4]) [4] ?_ ?_ ?_
  refine pds_cons (M1 := [4]) ?_ ?_
  refine pds_set 7 ?_ ?_ ?_ ?_ ?_ ?_ (pd_op d_mod (pd_v A_law 3) (pd_callB b_len (A_law.gl 3 rfl rfl) z_len PySem.boot_len (pda1 (pd_v A_law 2))))
  · exact A_law.fs.nd
  · exact (A_law.loc 7 rfl)
  · rfl
  · rfl
  · exact .inl rfl
  · decide
  refine pds_cons (M1 := [4]) (pds_popAt 4 8 (A_law.vis 4 rfl) (by decide) (by decide) (by decide) A_law.fs.nd (A_law.loc 8 rfl) (pd_v A_law 7)) ?_
  refine pds_cons (M1 := [9, 4]) ?_ (pds_cons (M1 := [9, 4]) (pds_if (PDW.pdt (pdw_or (pdt_not (pdt_val (pd_known K__law_spots hr (by decide) (A_law.gl 7 rfl rfl) (pda1 (pd_v A_law 9)) rfl))) (pdw_or1 (pdt_cmp (d_ne hr) (pd_v A_law 9) (pd_known K__law_due hr (by decide) (A_law.gl 8 rfl rfl) (pda1 (pd_op d_add3 (pd_slice (pd_v A_law 2) pdo_none (pdo_some (pd_v A_law 7))) (pd_slice (pd_v A_law 2) (pdo_some (pd_op d_add3 (pd_v A_law 7) pd_int)) pdo_none))) rfl) (nomark _))))) (pds_one (pds_ret pd_bl)) pds_nil) (pds_cons (M1 := [9, 4]) (pds_app 4 (A_law.vis 4 rfl) (by decide) (by decide) (pd_v A_law 8)) (pds_one (pds_if (pdt_cmp (d_ne hr) (pd_known K_skin_of.known hr (by decide) (A_law.gl 6 rfl rfl) (pda1 (pd_v A_law 4)) rfl) (pd_v A_law 6) (nomark _)) (pds_one (pds_ret pd_bl)) pds_nil))))
  refine pds_setFB 9 ?_ ?_ ?_ ?_ ?_ ?_ ?_ (pf_known K_skin_of hr (by decide) (A_law.gl 6 rfl rfl) (pda1 (pd_v A_law 4)) rfl)
  · exact A_law.fs.nd
  · exact (A_law.loc 9 rfl)
  · rfl
  · rfl
  · exact .inl rfl
  · decide
  · decide
  · rfl
  · rfl
end SF
local macro_rules
  | `(tactic| simp_arith [$ts,*] $[$loc]?) => `(tactic| simp only [L2.rho0, List.map_cons, List.map_nil, List.length_cons, List.length_nil, Nat.reduceAdd, Nat.reduceSub, Nat.zero_add, Nat.sub_self, List.replicate_succ, List.replicate_zero, List.cons_append, List.nil_append, List.append_nil, L2.seqO_b, L2.bindO_nx, L2.bindO_rt, L2.bindO_bk, L2.bindO_ct, L2.ifO_t, L2.ifO_f, L2.sIf_b, L2.tA_b, L2.tO_b, L2.vA_b, L2.vN, L2.sSet_b, L2.setO_s, L2.sRet_b, L2.retO_s, L2.sN, L2.sBk, L2.sCt, L2.tV, L2.tN, L2.tT, L2.ev2_b, L2.binO_s, L2.ev1, L2.vr_z, L2.vr_s, L2.kd, L2.evA, L2.evC_b, L2.callO_s, L2.evC0, L2.aC_b, L2.consO_s, L2.aN, L2.lenD_l, L2.lenD_t, L2.tupD, L2.lstD, L2.tupleD_l, L2.tupleD_t, L2.listD_l, L2.listD_t, L2.addD_i, L2.subD_i, L2.negD_i, L2.fdiv_pos, L2.mod_pos, L2.pow_a, L2.pow_b, L2.eqD_int, L2.neD_int, L2.ltD2_i, L2.gtD_i, L2.boolD_b, L2.ixD_l, L2.ixD_t, L2.atI0, L2.atI1, L2.atI2, L2.atI3, L2.atI4, L2.atI5, L2.outD_r, L2.outD_n, L2.ob_s, L2.gNm, List.set_cons_zero, List.set_cons_succ, List.set_nil, L2.evI, L2.evR, L2.seqD_l, L2.seqD_t, L2.rng1D_i, L2.rngL, L2.compR_b, L2.comRO_s, L2.compD_c, L2.compD_n, L2.compO_t, L2.compO_f, L2.listO_s, L2.sFor_b, L2.forI_s, L2.forD_c, L2.forD_n, L2.forO_nx, L2.forO_ct, L2.forO_bk, L2.forO_rt, if_true, if_false, Bool.false_eq_true, Bool.not_true, Bool.not_false, Nat.reduceLeDiff, and_self, and_true, true_and, Int.reduceToNat, Int.reduceAdd, Int.reduceSub, Int.reduceLE, Int.reduceLT, Int.reduceNeg, reduceIte, L2.isiD, L2.isiT_t, L2.isiT_l, L2.isiT_i, L2.isiT_b, L2.isiT_s, L2.isiT_n, String.reduceBEq, L2.natLit, Int.reduceBEq, Bool.true_or, Bool.or_true, Bool.false_or, Bool.or_false, L2.sTake_b, L2.takO_t, L2.flatF_b, L2.flaO_s, L2.flatG_b, L2.flgO_s, L2.sApp_b, L2.appO_s, L2.appD_l, L2.outF_r, L2.evS_b, L2.sliO_s, L2.oN, L2.oS_b, L2.prtO_s, Nat.reduceLT, decide_true, decide_false, L2.sPut_b, L2.putO_s, L2.setD_l, L2.sPopAt_b, L2.popO_s, L2.popA_s, L2.evCh_b, L2.chO_t, L2.chO_f, L2.add3D_i, L2.compT_n, L2.sDput_b, L2.dpO_s, L2.nxdO_s, L2.ev3_b, L2.triO_s, $ts,*] $[$loc]?)
namespace SF
open PySem L2
def cellV (ns : List Int) (k : Int) : Int := ns.getD k.toNat 0
theorem cell_eq (ns : List Int) (k : Int) (hk : 0 ≤ k) : f__law_cell_at [.list (ns.map .int), .int k] = some (.int (cellV ns k)) := by
  simp only [f__law_cell_at, u__law_cell_at]
  simp_arith []
  by_cases h : k < ((ns.map PyData.int).length : Int)
  · have h' : k.toNat < ns.length := by rw [List.length_map] at h; omega
    have e : atI (ns.map PyData.int) k = some (.int (cellV ns k)) := by
      have e1 : ((k.toNat : Nat) : Int) = k := by omega
      have := atI_nat (xs := ns.map PyData.int) (j := k.toNat) (v := .int (cellV ns k)) (by
        rw [List.getElem?_map, List.getElem?_eq_getElem h']
        unfold cellV
        rw [List.getD_eq_getElem?_getD, List.getElem?_eq_getElem h']
        rfl)
      rw [e1] at this
      exact this
    simp_arith [decide_eq_true h, e]
  · have h' : ¬ k.toNat < ns.length := by rw [List.length_map] at h; omega
    have e : cellV ns k = 0 := by
      unfold cellV
      rw [List.getD_eq_getElem?_getD, List.getElem?_eq_none (by omega)]
      rfl
    simp_arith [decide_eq_false h, e]
abbrev Sp := Int × Int × Int
def eS (s : Sp) : PyData := .tuple [.int s.1, .int s.2.1, .int s.2.2]
def l3 (s : Sp) : List Int := [s.1, s.2.1, s.2.2]
def b3 : List Int → Sp
  | [a, b, c] => (a, b, c)
  | _ => (0, 0, 0)
theorem map_eS (xs : List Sp) : xs.map eS = (xs.map l3).map tI := by rw [List.map_map]; rfl
theorem sorted_same {as bs : List Sp} (p : as.Perm bs) (h1 : (as.map l3).Pairwise (fun a b => HT.lexLt b a = false)) (h2 : (bs.map l3).Pairwise (fun a b => HT.lexLt b a = false)) : as = bs := by
  have := sorted_unique (p.map l3) h1 h2
  have e := congrArg (List.map b3) this
  rw [List.map_map, List.map_map] at e
  have k : ∀ xs : List Sp, xs.map (b3 ∘ l3) = xs := fun xs => (List.map_congr_left (fun x _ => rfl)).trans (List.map_id xs)
  rwa [k, k] at e
theorem eqv_eS (a b : Sp) : PyData.eqv (eS a) (eS b) = decide (a = b) := by
  have : PyData.eqv (eS a) (eS b) = ((a.1 == b.1) && ((a.2.1 == b.2.1) && ((a.2.2 == b.2.2) && true))) := rfl
  rw [this]
  obtain ⟨a1, a2, a3⟩ := a
  obtain ⟨b1, b2, b3⟩ := b
  by_cases h1 : a1 = b1 <;> by_cases h2 : a2 = b2 <;> by_cases h3 : a3 = b3 <;> simp [h1, h2, h3]
theorem can_eS (xs : List Sp) : PyData.canLayAll0 (xs.map eS) = true ∧ PyData.depthAll (xs.map eS) ≤ 1 := by rw [map_eS]; exact can_tups _
theorem inOk_eS (xs : List Sp) (q : Sp) : inOk (xs.map eS) (eS q) = true := by
  unfold inOk
  rw [(can_eS xs).1, Bool.true_and, Bool.and_eq_true]
  exact ⟨rfl, rfl⟩
theorem inL_eS (xs : List Sp) (q : Sp) : inL (xs.map eS) (eS q) = decide (q ∈ xs) := by
  unfold inL
  rw [List.any_map]
  induction xs with
  | nil => rfl
  | cons x xs ih =>
    rw [List.any_cons, ih]
    show (PyData.eqv (eS x) (eS q) || _) = _
    rw [eqv_eS]
    by_cases h : x = q
    · subst h; rw [decide_eq_true rfl, Bool.true_or, decide_eq_true List.mem_cons_self]
    · rw [decide_eq_false h, Bool.false_or]
      by_cases h2 : q ∈ xs
      · rw [decide_eq_true h2, decide_eq_true (List.mem_cons_of_mem _ h2)]
      · rw [decide_eq_false h2, decide_eq_false (by rw [List.mem_cons]; rintro (rfl | z); exact h rfl; exact h2 z)]
theorem ninD_eS (xs : List Sp) (q : Sp) : ninD (eS q) (.list (xs.map eS)) = some (.bool (!decide (q ∈ xs))) := by
  show (if inOk (xs.map eS) (eS q) = true then some (PyData.bool (!inL (xs.map eS) (eS q))) else none) = _
  rw [inOk_eS, inL_eS]; rfl
theorem shaped_eS (xs : List Sp) : SeqAt.shaped (.list (xs.map eS)) = true := by
  have h := can_eS xs
  have h2 : PyData.depth (.list (xs.map eS)) = PyData.depthAll (xs.map eS) + 1 := rfl
  unfold SeqAt.shaped
  rw [h2, Bool.and_eq_true]
  exact ⟨h.1, decide_eq_true (by omega)⟩
theorem eqvL_eS : ∀ xs ys : List Sp, PyData.eqv (.list (xs.map eS)) (.list (ys.map eS)) = decide (xs = ys)
  | [], [] => rfl
  | [], _ :: _ => rfl
  | _ :: _, [] => rfl
  | x :: xs, y :: ys => by
    have : PyData.eqv (.list ((x :: xs).map eS)) (.list ((y :: ys).map eS)) = (PyData.eqv (eS x) (eS y) && PyData.eqv (.list (xs.map eS)) (.list (ys.map eS))) := rfl
    rw [this, eqv_eS, eqvL_eS, Bool.eq_iff_iff]
    simp
theorem neD_eS (xs ys : List Sp) : neD (.list (xs.map eS)) (.list (ys.map eS)) = some (.bool (!decide (xs = ys))) := by
  unfold neD
  rw [if_pos ⟨shaped_eS _, shaped_eS _⟩, eqvL_eS]
theorem eqD_eS (xs ys : List Sp) : eqD (.list (xs.map eS)) (.list (ys.map eS)) = some (.bool (decide (xs = ys))) := by
  unfold eqD
  rw [if_pos ⟨shaped_eS _, shaped_eS _⟩, eqvL_eS]
theorem forD_ind {α : Type} (enc : α → PyData) {g : PyData → Rho → Option Rho} {u : Rho → Option Out} (I : List α → Rho → Prop) (all : List α) (step : ∀ a ∈ all, ∀ done ρ, done.length < all.length → I done ρ → ∃ ρ', ob (g (enc a) ρ) u = some (.nx ρ') ∧ I (done ++ [a]) ρ') :
    ∀ (as done : List α) (ρ : Rho), (∀ a ∈ as, a ∈ all) → done.length + as.length = all.length → I done ρ → ∃ ρ', forD g u (as.map enc) ρ = some (.nx ρ') ∧ I (done ++ as) ρ'
  | [], done, ρ, _, _, h => ⟨ρ, rfl, by rw [List.append_nil]; exact h⟩
  | a :: as, done, ρ, hm, hl, h => by
    rw [List.length_cons] at hl
    obtain ⟨ρ1, e1, h1⟩ := step a (hm a (.head _)) done ρ (by omega) h
    obtain ⟨ρ2, e2, h2⟩ := forD_ind enc I all step as (done ++ [a]) ρ1 (fun x hx => hm x (.tail _ hx)) (by rw [List.length_append, List.length_singleton]; omega) h1
    refine ⟨ρ2, ?_, by rw [List.append_assoc] at h2; exact h2⟩
    rw [List.map_cons, forD_c, e1, forO_nx]
    exact e2
theorem forD_all {α : Type} (enc : α → PyData) {g : PyData → Rho → Option Rho} {u : Rho → Option Out} (I : List α → Rho → Prop) (as : List α) (ρ : Rho) (h : I [] ρ) (step : ∀ a ∈ as, ∀ done ρ, done.length < as.length → I done ρ → ∃ ρ', ob (g (enc a) ρ) u = some (.nx ρ') ∧ I (done ++ [a]) ρ') :
    ∃ ρ', forD g u (as.map enc) ρ = some (.nx ρ') ∧ I as ρ' := by
  obtain ⟨ρ', e, i⟩ := forD_ind enc I as step as [] ρ (fun _ h => h) (by simp) h
  exact ⟨ρ', e, by rwa [List.nil_append] at i⟩
theorem compD_map {α : Type} (enc : α → PyData) {tt : Rho → Option Bool} {te : Rho → Option PyData} {ρ : Rho} (p : α → Bool) (f : α → PyData) : ∀ (as : List α), (∀ a ∈ as, tt (ρ ++ [some (enc a)]) = some (p a)) → (∀ a ∈ as, p a = true → te (ρ ++ [some (enc a)]) = some (f a)) → compD tt te ρ (as.map enc) = some ((as.filter p).map f)
  | [], _, _ => rfl
  | a :: as, h1, h2 => by
    have ih := compD_map enc p f as (fun x hx => h1 x (.tail _ hx)) (fun x hx => h2 x (.tail _ hx))
    rw [List.map_cons, compD_c, h1 a (.head _), List.filter_cons]
    cases e : p a with
    | true => rw [compO_t, h2 a (.head _) e, ih]; rfl
    | false => rw [compO_f, ih]; rfl
def mid (c : Sp) : Sp := (2 * c.1 + 1, 2 * c.2.1 + 1, 2 * c.2.2 + 1)
def cr (a : Nat) (q s : Sp) : Bool := match a with
  | 0 => decide (s.1 % 2 = 0 ∧ s.1 > q.1 ∧ s.2.1 = q.2.1 ∧ s.2.2 = q.2.2)
  | 1 => decide (s.2.1 % 2 = 0 ∧ s.2.1 > q.2.1 ∧ s.1 = q.1 ∧ s.2.2 = q.2.2)
  | _ => decide (s.2.2 % 2 = 0 ∧ s.2.2 > q.2.2 ∧ s.1 = q.1 ∧ s.2.1 = q.2.1)
def Sq (s : Sp) : Prop := (s.1 % 2 = 0 ∧ s.2.1 % 2 = 1 ∧ s.2.2 % 2 = 1) ∨ (s.1 % 2 = 1 ∧ s.2.1 % 2 = 0 ∧ s.2.2 % 2 = 1) ∨ (s.1 % 2 = 1 ∧ s.2.1 % 2 = 1 ∧ s.2.2 % 2 = 0)
theorem atI_map {α β : Type} {f : α → β} {xs : List α} {k : Int} {x : α} (h0 : 0 ≤ k) (h : xs[k.toNat]? = some x) : atI (xs.map f) k = some (f x) := by
  have e1 : ((k.toNat : Nat) : Int) = k := by omega
  have := atI_nat (xs := xs.map f) (j := k.toNat) (v := f x) (by rw [List.getElem?_map, h]; rfl)
  rwa [e1] at this
theorem seqIx {i : Int} {n : Nat} (h0 : 0 ≤ i) (h1 : i < (n : Int)) : seqIndex? i n = some i.toNat := by
  show (if (decide (0 ≤ (if i < 0 then i + (n : Int) else i)) && decide ((if i < 0 then i + (n : Int) else i) < (n : Int))) = true then some (if i < 0 then i + (n : Int) else i).toNat else none) = _
  have h : (if i < 0 then i + (n : Int) else i) = i := if_neg (by omega)
  rw [h, if_pos (by simp; omega)]
theorem map_erase {α β : Type} (f : α → β) : ∀ (xs : List α) (n : Nat), (xs.map f).eraseIdx n = (xs.eraseIdx n).map f
  | [], _ => rfl
  | _ :: _, 0 => rfl
  | x :: xs, n + 1 => congrArg (f x :: ·) (map_erase f xs n)
theorem seq_nx {u w : Rho → Option Out} {ρ ρ' : Rho} {r : Option Out} (h : u ρ = some (.nx ρ')) (h2 : w ρ' = r) : seqO u w ρ = r := by rw [seqO_b, h, bindO_nx]; exact h2
theorem ixe0 (s : Sp) : ixD (eS s) (.int 0) = some (.int s.1) := rfl
theorem ixe1 (s : Sp) : ixD (eS s) (.int 1) = some (.int s.2.1) := rfl
theorem ixe2 (s : Sp) : ixD (eS s) (.int 2) = some (.int s.2.2) := rfl
theorem ix0 : ixN 3 0 = some 0 := rfl
theorem ix1 : ixN 3 1 = some 1 := rfl
theorem ix2 : ixN 3 2 = some 2 := rfl
theorem flat_i (i : Int) : flat (.int i) = true := rfl
theorem flat_t3 (a b c : Int) : flat (.tuple [.int a, .int b, .int c]) = true := rfl
theorem flatO_l3 (a b c : Int) : flatO (.list [.int a, .int b, .int c]) = true := rfl
theorem flatO_eS : ∀ xs : List Sp, flatO (.list (xs.map eS)) = true
  | [] => rfl
  | _ :: xs => flatO_eS xs
def BdS (n : Nat) (c : Sp) : Prop := Bd n c.1 ∧ Bd n c.2.1 ∧ Bd n c.2.2
theorem bd2 : Bd 2 2 := Bd.of (by decide)
theorem cut_eq (ns : List Int) {a b : Nat} : ∃ ms : List Int, sliD (.list (ns.map .int)) (some (a : Int)) (some (b : Int)) = some (.list (ms.map .int)) ∧ ms.length ≤ b - a := by
  refine ⟨(ns.drop (HT.sIx (ns.map PyData.int).length 0 (some (a : Int)))).take (HT.sIx (ns.map PyData.int).length (ns.map PyData.int).length (some (b : Int)) - HT.sIx (ns.map PyData.int).length 0 (some (a : Int))), ?_, ?_⟩
  · show some (PyData.list (cutD (ns.map .int) (some (a : Int)) (some (b : Int)))) = _
    unfold cutD
    rw [← List.map_drop, ← List.map_take]
  · rw [List.length_take, List.length_drop, HT.sIx_nat, HT.sIx_nat, List.length_map]
    omega
def nearS (n : Nat) (c : Sp) : Prop := c.1.natAbs ≤ n ∧ c.2.1.natAbs ≤ n ∧ c.2.2.natAbs ≤ n
theorem near_bd {n : Nat} {c : Sp} (h : nearS n c) (hn : n < 2 ^ 200) : BdS 200 c := ⟨Bd.of (by have := h.1; omega), Bd.of (by have := h.2.1; omega), Bd.of (by have := h.2.2; omega)⟩
theorem emod3 (x : Int) : x % 3 = 0 ∨ x % 3 = 1 ∨ x % 3 = 2 := by omega
theorem emod_at {α : Type} {xs : List α} (x : Int) (h : 0 < xs.length) : ∃ y ∈ xs, xs[(x % (xs.length : Int)).toNat]? = some y := by
  have a1 := Int.emod_nonneg x (b := (xs.length : Int)) (by omega)
  have a2 := Int.emod_lt_of_pos x (b := (xs.length : Int)) (by omega)
  have hlt : (x % (xs.length : Int)).toNat < xs.length := by omega
  exact ⟨xs[(x % (xs.length : Int)).toNat], List.getElem_mem hlt, List.getElem?_eq_getElem hlt⟩
theorem whole17 (n : Int) : f__law_whole [.int n] = some (.bool true) := rfl
theorem spots17 (xs : List Sp) : f__law_spots [.list (xs.map eS)] = some (.bool true) := by
  obtain ⟨ρ', e, o1, o2, rfl⟩ := forD_all eS (g := gNm 1) (u := (seqO (sIf (tO (tN (tV (ev1 (vr 1) (isiD "tuple")))) (tV (ev2 (evA (aC (vr 1) aN) lenD) (kd (.int 3)) neD))) (sRet (kd (.bool false))) sN) (sFor (evI (vr 1) seqD) (gNm 2) (sIf (tN (tV (evC 1 (aC (vr 2) aN) f__law_whole))) (sRet (kd (.bool false))) sN))))
    (fun done ρ => ∃ o1 o2 : Option PyData, ρ = [some (.list (xs.map eS)), o1, o2]) xs [some (.list (xs.map eS)), none, none] ⟨none, none, rfl⟩ (by
      rintro a ha done ρ hdl ⟨o1, o2, rfl⟩
      refine ⟨[some (.list (xs.map eS)), some (eS a), some (.int a.2.2)], ?_, _, _, rfl⟩
      simp only [eS]
      simp_arith [whole17])
  simp only [f__law_spots, u__law_spots]
  simp_arith []
  have := congrArg (fun o => ob (bindO o (sRet (kd (.bool true)))) outD) e
  simp_arith [] at this
  exact this
def lo (A : Nat) (s : Sp) : Sp := match A with
  | 0 => (s.1 - 1, s.2.1, s.2.2)
  | 1 => (s.1, s.2.1 - 1, s.2.2)
  | _ => (s.1, s.2.1, s.2.2 - 1)
def hi (A : Nat) (s : Sp) : Sp := match A with
  | 0 => (s.1 + 1, s.2.1, s.2.2)
  | 1 => (s.1, s.2.1 + 1, s.2.2)
  | _ => (s.1, s.2.1, s.2.2 + 1)
def axA (s : Sp) : Nat := if s.1 % 2 = 0 then 0 else if s.2.1 % 2 = 0 then 1 else 2
def skB (I : Sp → Bool) (s : Sp) : Bool := I (lo (axA s) s) != I (hi (axA s) s)
theorem perm_nodup {α : Type} [DecidableEq α] : ∀ {as bs : List α}, as.Nodup → bs.Nodup → (∀ x, x ∈ as ↔ x ∈ bs) → as.Perm bs
  | [], [], _, _, _ => .refl _
  | [], b :: bs, _, _, h => absurd ((h b).mpr (.head _)) (by simp)
  | a :: as, bs, h1, h2, h => by
    have ha : a ∈ bs := (h a).mp (.head _)
    obtain ⟨n1, n2⟩ := List.nodup_cons.mp h1
    refine List.Perm.trans (List.Perm.cons a (perm_nodup n2 (h2.erase a) fun x => ?_)) (List.perm_cons_erase ha).symm
    rw [h2.mem_erase_iff]
    constructor
    · intro hx
      exact ⟨fun z => n1 (by rw [← z]; exact hx), (h x).mp (.tail _ hx)⟩
    · rintro ⟨hx, hm⟩
      rcases List.mem_cons.mp ((h x).mpr hm) with z | z
      · exact absurd z hx
      · exact z
theorem axA_of {s : Sp} (h : Sq s) : (axA s = 0 ∧ s.1 % 2 = 0 ∧ s.2.1 % 2 = 1 ∧ s.2.2 % 2 = 1) ∨ (axA s = 1 ∧ s.1 % 2 = 1 ∧ s.2.1 % 2 = 0 ∧ s.2.2 % 2 = 1) ∨ (axA s = 2 ∧ s.1 % 2 = 1 ∧ s.2.1 % 2 = 1 ∧ s.2.2 % 2 = 0) := by
  unfold axA
  rcases h with ⟨a, b, c⟩ | ⟨a, b, c⟩ | ⟨a, b, c⟩
  · exact .inl ⟨if_pos a, a, b, c⟩
  · exact .inr (.inl ⟨by rw [if_neg (by omega), if_pos b], a, b, c⟩)
  · exact .inr (.inr ⟨by rw [if_neg (by omega), if_neg (by omega)], a, b, c⟩)
theorem ax0 {s : Sp} (h : s.1 % 2 = 0) : axA s = 0 := if_pos h
theorem ax1 {s : Sp} (h : s.1 % 2 = 1) (g : s.2.1 % 2 = 0) : axA s = 1 := by unfold axA; rw [if_neg (by omega), if_pos g]
theorem ax2 {s : Sp} (h : s.1 % 2 = 1) (g : s.2.1 % 2 = 1) : axA s = 2 := by unfold axA; rw [if_neg (by omega), if_neg (by omega)]
theorem ne01 {a : Int} (h : a % 2 = 0) (g : a % 2 = 1) {P : Prop} : P := by rw [h] at g; cases g
def ad (a b : Sp) : Sp := (a.1 + b.1, a.2.1 + b.2.1, a.2.2 + b.2.2)
theorem sp_eq {a b : Sp} (h1 : a.1 = b.1) (h2 : a.2.1 = b.2.1) (h3 : a.2.2 = b.2.2) : a = b := Prod.ext h1 (Prod.ext h2 h3)
def kS (s : Sp) : KX := .inr [.inl s.1, .inl s.2.1, .inl s.2.2]
theorem kS_eS (s : Sp) : kxD (kS s) = eS s := rfl
theorem kx_eS (s : Sp) : kxOf (eS s) = some (kS s) := rfl
def eD (kvs : List (Sp × Nat)) : List (PyData × PyData) := kvs.map fun p => (eS p.1, .int (p.2 : Nat))
def cnt (kvs : List (Sp × Nat)) (s : Sp) : Nat := ((kvs.find? fun p => decide (p.1 = s)).map (·.2)).getD 0
def bump (kvs : List (Sp × Nat)) (s : Sp) : List (Sp × Nat) := if s ∈ kvs.map (·.1) then kvs.map fun p => if p.1 = s then (p.1, cnt kvs s + 1) else p else kvs ++ [(s, 1)]
def tally (xs : List Sp) : List (Sp × Nat) := xs.foldl bump []
def once (xs : List Sp) : List Sp := xs.foldl (fun ks s => if s ∈ ks then ks else ks ++ [s]) []
theorem kOk_eD (kvs : List (Sp × Nat)) (s : Sp) : kOk (eD kvs) (kS s) = true := by
  unfold kOk eD
  rw [List.all_map]
  exact List.all_eq_true.mpr fun p _ => rfl
theorem find_eD (s : Sp) : ∀ kvs : List (Sp × Nat), findD (eD kvs) (kS s) = (kvs.find? fun p => decide (p.1 = s)).map fun p => PyData.int (p.2 : Nat)
  | [] => rfl
  | p :: kvs => by
    have ih := find_eD s kvs
    unfold findD eD at *
    rw [List.map_cons, List.find?_cons, List.find?_cons, kS_eS, eqv_eS]
    rw [kS_eS] at ih
    by_cases h : p.1 = s
    · rw [decide_eq_true h]; rfl
    · rw [decide_eq_false h]; exact ih
theorem some_eD (s : Sp) (kvs : List (Sp × Nat)) : (findD (eD kvs) (kS s)).isSome = decide (s ∈ kvs.map (·.1)) := by
  rw [find_eD]
  by_cases h : s ∈ kvs.map (·.1)
  · obtain ⟨p, hp, rfl⟩ := List.mem_map.mp h
    rw [decide_eq_true h]
    cases e : kvs.find? (fun x => decide (x.1 = p.1)) with
    | some x => rfl
    | none => exact absurd (List.find?_eq_none.mp e p hp) (by simp)
  · rw [decide_eq_false h, List.find?_eq_none.mpr fun p hp => by simpa using fun z => h (List.mem_map.mpr ⟨p, hp, z⟩)]; rfl
theorem get_eD (kvs : List (Sp × Nat)) (s : Sp) : dget2D (.dict (eD kvs)) (eS s) (.int 0) = some (.int (cnt kvs s : Nat)) := by
  show ob (kxOf (eS s)) (fun ks => if kOk (eD kvs) ks = true then some ((findD (eD kvs) ks).getD (.int 0)) else none) = _
  rw [kx_eS, ob_s, if_pos (kOk_eD _ _), find_eD]
  unfold cnt
  cases kvs.find? (fun p => decide (p.1 = s)) <;> rfl
theorem put_eD {kvs : List (Sp × Nat)} {s : Sp} (hl : kvs.length < 900) : dputD (.dict (eD kvs)) (eS s) (.int ((cnt kvs s : Nat) + 1)) = some (.dict (eD (bump kvs s))) := by
  show ob (kxOf (eS s)) (fun ks => if kOk (eD kvs) ks = true ∧ (eD kvs).length < 1000 then some (PyData.dict (putD (eD kvs) ks _)) else none) = _
  rw [kx_eS, ob_s, if_pos ⟨kOk_eD _ _, by unfold eD; rw [List.length_map]; omega⟩]
  unfold putD bump
  rw [some_eD]
  by_cases h : s ∈ kvs.map (·.1)
  · rw [decide_eq_true h, if_pos rfl, if_pos h]
    unfold eD
    rw [List.map_map, List.map_map]
    refine congrArg (fun z => some (PyData.dict z)) (List.map_congr_left fun p _ => ?_)
    show (if PyData.eqv (eS p.1) (kxD (kS s)) = true then (eS p.1, PyData.int ((cnt kvs s : Nat) + 1)) else (eS p.1, .int (p.2 : Nat))) = (fun p : Sp × Nat => (eS p.1, PyData.int (p.2 : Nat))) (if p.1 = s then (p.1, cnt kvs s + 1) else p)
    rw [kS_eS, eqv_eS]
    by_cases e : p.1 = s
    · rw [if_pos (decide_eq_true e), if_pos e]; rfl
    · rw [if_neg (by simpa using e), if_neg e]
  · rw [decide_eq_false h, if_neg (by decide), if_neg h]
    have hc : cnt kvs s = 0 := by
      unfold cnt
      rw [List.find?_eq_none.mpr fun p hp => by simpa using fun z => h (List.mem_map.mpr ⟨p, hp, z⟩)]
      rfl
    unfold eD
    rw [List.map_append, hc, kS_eS]
    rfl
theorem ix_eD {kvs : List (Sp × Nat)} {s : Sp} (h : s ∈ kvs.map (·.1)) : ix2D (.dict (eD kvs)) (eS s) = some (.int (cnt kvs s : Nat)) := by
  show ob (kxOf (eS s)) (fun ks => if kOk (eD kvs) ks = true then findD (eD kvs) ks else none) = _
  have hs := some_eD s kvs
  rw [decide_eq_true h, find_eD] at hs
  rw [kx_eS, ob_s, if_pos (kOk_eD _ _), find_eD]
  unfold cnt
  cases e : kvs.find? (fun p => decide (p.1 = s)) with
  | none => rw [e] at hs; cases hs
  | some p => rfl
theorem keys_eD (kvs : List (Sp × Nat)) : keysD (.dict (eD kvs)) = some (kvs.map fun p => eS p.1) := by
  show (if excK (eD kvs) = true then none else some ((eD kvs).map (·.1))) = _
  rw [if_neg (show ¬ excK (eD kvs) = true by cases kvs <;> exact Bool.false_ne_true)]
  unfold eD
  rw [List.map_map]
  rfl
theorem bump_keys (kvs : List (Sp × Nat)) (s : Sp) : (bump kvs s).map (·.1) = if s ∈ kvs.map (·.1) then kvs.map (·.1) else kvs.map (·.1) ++ [s] := by
  unfold bump
  by_cases h : s ∈ kvs.map (·.1)
  · rw [if_pos h, if_pos h, List.map_map]
    refine List.map_congr_left fun p _ => ?_
    show (if p.1 = s then (p.1, cnt kvs s + 1) else p).1 = p.1
    split <;> rfl
  · rw [if_neg h, if_neg h, List.map_append]; rfl
theorem bump_cnt (kvs : List (Sp × Nat)) (s t : Sp) : cnt (bump kvs s) t = cnt kvs t + if s = t then 1 else 0 := by
  unfold bump
  by_cases h : s ∈ kvs.map (·.1)
  · rw [if_pos h]
    generalize hc : cnt kvs s = n
    by_cases e : s = t
    · subst e
      rw [if_pos rfl, hc]
      obtain ⟨p, hp, hps⟩ := List.mem_map.mp h
      clear hc h
      unfold cnt
      induction kvs with
      | nil => cases hp
      | cons q kvs ih =>
        rw [List.map_cons, List.find?_cons]
        by_cases hq : q.1 = s
        · rw [if_pos hq]; simp [hq]
        · rw [if_neg hq, decide_eq_false hq]
          rcases List.mem_cons.mp hp with rfl | z
          · exact absurd hps hq
          · exact ih z
    · rw [if_neg e, Nat.add_zero]
      clear hc h
      unfold cnt
      induction kvs with
      | nil => rfl
      | cons q kvs ih =>
        rw [List.map_cons, List.find?_cons, List.find?_cons]
        by_cases hq : q.1 = s
        · rw [if_pos hq]
          have : ¬ q.1 = t := fun z => e (hq.symm.trans z)
          rw [decide_eq_false this]
          exact ih
        · rw [if_neg hq]
          by_cases ht : q.1 = t
          · rw [decide_eq_true ht]; rfl
          · rw [decide_eq_false ht]; exact ih
  · rw [if_neg h]
    unfold cnt
    rw [List.find?_append]
    by_cases e : s = t
    · subst e
      rw [List.find?_eq_none.mpr fun p hp => by simpa using fun z => h (List.mem_map.mpr ⟨p, hp, z⟩)]
      simp
    · rw [if_neg e]
      have : ([(s, 1)] : List (Sp × Nat)).find? (fun p => decide (p.1 = t)) = none := by simp [e]
      rw [this, Option.or_none, Nat.add_zero]
theorem tally_ind (xs : List Sp) : ∀ kvs : List (Sp × Nat), ((xs.foldl bump kvs).map (·.1) = xs.foldl (fun ks s => if s ∈ ks then ks else ks ++ [s]) (kvs.map (·.1))) ∧ ∀ t, cnt (xs.foldl bump kvs) t = cnt kvs t + xs.count t := by
  induction xs with
  | nil => exact fun kvs => ⟨rfl, fun t => rfl⟩
  | cons x xs ih =>
    intro kvs
    obtain ⟨h1, h2⟩ := ih (bump kvs x)
    refine ⟨?_, fun t => ?_⟩
    · rw [List.foldl_cons, List.foldl_cons, h1, bump_keys]
    · rw [List.foldl_cons, h2, bump_cnt, List.count_cons]
      by_cases e : x = t
      · rw [if_pos e, if_pos (by simp [e])]; omega
      · rw [if_neg e, if_neg (by simp [e])]; omega
theorem tally_keys (xs : List Sp) : (tally xs).map (·.1) = once xs := (tally_ind xs []).1
theorem tally_cnt (xs : List Sp) (t : Sp) : cnt (tally xs) t = xs.count t := by
  have := (tally_ind xs []).2 t
  have h0 : cnt [] t = 0 := rfl
  rw [h0, Nat.zero_add] at this
  exact this
theorem once_ind (xs : List Sp) : ∀ ks : List Sp, ks.Nodup → (xs.foldl (fun ks s => if s ∈ ks then ks else ks ++ [s]) ks).Nodup ∧ ∀ t, t ∈ xs.foldl (fun ks s => if s ∈ ks then ks else ks ++ [s]) ks ↔ t ∈ ks ∨ t ∈ xs := by
  induction xs with
  | nil => exact fun ks h => ⟨h, fun t => by simp⟩
  | cons x xs ih =>
    intro ks h
    rw [List.foldl_cons]
    by_cases hx : x ∈ ks
    · rw [if_pos hx]
      obtain ⟨h1, h2⟩ := ih ks h
      refine ⟨h1, fun t => (h2 t).trans ?_⟩
      rw [List.mem_cons]
      constructor
      · rintro (z | z)
        · exact .inl z
        · exact .inr (.inr z)
      · rintro (z | rfl | z)
        · exact .inl z
        · exact .inl hx
        · exact .inr z
    · rw [if_neg hx]
      obtain ⟨h1, h2⟩ := ih (ks ++ [x]) (by
        rw [List.nodup_append]
        exact ⟨h, by simp, fun a ha b hb z => by subst z; exact hx (by have := List.mem_singleton.mp hb; subst this; exact ha)⟩)
      refine ⟨h1, fun t => (h2 t).trans ?_⟩
      rw [List.mem_append, List.mem_singleton, List.mem_cons]
      exact or_assoc
theorem once_nodup (xs : List Sp) : (once xs).Nodup := (once_ind xs [] List.nodup_nil).1
theorem mem_once {xs : List Sp} {t : Sp} : t ∈ once xs ↔ t ∈ xs := by
  have := (once_ind xs [] List.nodup_nil).2 t
  unfold once
  rw [this]
  simp
theorem sorted_eSB {xs : List Sp} (h : xs.length ≤ 1000) : ∃ ys : List Sp, sortedB [.list (xs.map eS)] = some (.list (ys.map eS)) ∧ ys.Perm xs ∧ (ys.map l3).Pairwise (fun a b => HT.lexLt b a = false) := by
  obtain ⟨mss, e, p, o⟩ := sortedB_tups (nss := xs.map l3) (by rw [List.length_map]; exact h) (by
    intro ns hn
    obtain ⟨x, _, rfl⟩ := List.mem_map.mp hn
    exact fun z => by cases z)
  have hm : (mss.map b3).map l3 = mss := by
    rw [List.map_map]
    refine (List.map_congr_left fun m hm => ?_).trans (List.map_id mss)
    obtain ⟨x, _, rfl⟩ := List.mem_map.mp (p.mem_iff.mp hm)
    rfl
  refine ⟨mss.map b3, by rw [map_eS, e, map_eS, hm], ?_, by rw [hm]; exact o⟩
  have := p.map b3
  rw [List.map_map] at this
  have e2 : xs.map (b3 ∘ l3) = xs := (List.map_congr_left (fun x _ => rfl)).trans (List.map_id xs)
  rwa [e2] at this
theorem bump_len (kvs : List (Sp × Nat)) (s : Sp) : (bump kvs s).length ≤ kvs.length + 1 := by
  unfold bump
  split
  · rw [List.length_map]; omega
  · rw [List.length_append, List.length_singleton]; omega
theorem mid24 {c : Sp} (h : BdS 200 c) : f_middle_of [eS c] = some (eS (mid c)) := by
  simp only [f_middle_of, u_middle_of, eS, mid]
  simp_arith [mulD_ok (bd2.ok h.1), mulD_ok (bd2.ok h.2.1), mulD_ok (bd2.ok h.2.2)]
theorem added24 (a b : Sp) : f_added [eS a, eS b] = some (eS (ad a b)) := by
  simp only [f_added, u_added]
  simp_arith [ixe0, ixe1, ixe2]
  rfl
def units : List Sp := [(-1, 0, 0), (0, -1, 0), (0, 0, -1), (0, 0, 1), (0, 1, 0), (1, 0, 0)]
theorem units_eq : seqD d_UNITS = some (units.map eS) := by kernel_rfl
def usq (c : Sp) : List Sp := units.map (ad (mid c))
theorem skin18 {cs : List Sp} (hb : ∀ c ∈ cs, BdS 200 c) (hl : cs.length ≤ 20) : ∃ sk : List Sp, f_skin_of [.list (cs.map eS)] = some (.list (sk.map eS)) ∧ (sk.map l3).Pairwise (fun a b => HT.lexLt b a = false) ∧ sk.Nodup ∧ sk.length ≤ 120 ∧ ∀ s, s ∈ sk ↔ (cs.flatMap usq).count s = 1 := by
  obtain ⟨ρ', e, o2, o3, o4, rfl, hlen⟩ := forD_all eS (g := gNm 2) (u := b_skin_of_0)
    (fun done ρ => ∃ o2 o3 o4 : Option PyData, ρ = [some (.list (cs.map eS)), some (.dict (eD (tally (done.flatMap usq)))), o2, o3, o4] ∧ (tally (done.flatMap usq)).length ≤ 6 * done.length) cs [some (.list (cs.map eS)), some (.dict []), none, none, none] ⟨none, none, none, rfl, Nat.zero_le _⟩ (by
      rintro c hc done ρ hdl ⟨o2, o3, o4, rfl, hlen⟩
      have hm := mid24 (hb c hc)
      generalize hk : tally (done.flatMap usq) = kvs at *
      obtain ⟨ρ1, e1, o3', o4', rfl, hlen1⟩ := forD_all eS (g := gNm 3) (u := b_skin_of_1)
        (fun don ρ => ∃ o3 o4 : Option PyData, ρ = [some (.list (cs.map eS)), some (.dict (eD ((don.map (ad (mid c))).foldl bump kvs))), some (eS c), o3, o4] ∧ ((don.map (ad (mid c))).foldl bump kvs).length ≤ kvs.length + don.length) units [some (.list (cs.map eS)), some (.dict (eD kvs)), some (eS c), o3, o4] ⟨o3, o4, rfl, Nat.le_refl _⟩ (by
          rintro u hu don ρ hd ⟨o3, o4, rfl, hl2⟩
          have hu6 : units.length = 6 := rfl
          have ha := added24 (mid c) u
          have hg := get_eD ((don.map (ad (mid c))).foldl bump kvs) (ad (mid c) u)
          have hp := put_eD (kvs := (don.map (ad (mid c))).foldl bump kvs) (s := ad (mid c) u) (by omega)
          have hbl := bump_len ((don.map (ad (mid c))).foldl bump kvs) (ad (mid c) u)
          refine ⟨_, ?_, some (eS u), some (eS (ad (mid c) u)), rfl, ?_⟩
          · simp_arith [hm, ha, hg, flat_i, hp]
            rw [List.map_append, List.foldl_append]
            rfl
          · rw [List.map_append, List.foldl_append, List.length_append, List.length_singleton]
            show (bump ((don.map (ad (mid c))).foldl bump kvs) (ad (mid c) u)).length ≤ _
            omega)
      have ht : tally ((done ++ [c]).flatMap usq) = (units.map (ad (mid c))).foldl bump kvs := by
        rw [List.flatMap_append, ← hk]
        unfold tally
        rw [List.foldl_append]
        simp [usq]
      have hu6 : units.length = 6 := rfl
      refine ⟨_, ?_, some (eS c), o3', o4', rfl, ?_⟩
      · rw [ht]
        simp_arith [units_eq, e1]
      · rw [ht, List.length_append, List.length_singleton]
        omega)
  generalize hk : tally (cs.flatMap usq) = kvs at *
  have hcnt : ∀ t, cnt kvs t = (cs.flatMap usq).count t := fun t => by rw [← hk, tally_cnt]
  have hkeys : kvs.map (·.1) = once (cs.flatMap usq) := by rw [← hk, tally_keys]
  have hc : compD (tV (ev2 (ev2 (vr 1) (vr 5) ix2D) (kd (.int 1)) eqD)) (vr 5) [some (.list (cs.map eS)), some (.dict (eD kvs)), o2, o3, o4] (kvs.map fun p => eS p.1) = some ((kvs.filter fun p => decide (cnt kvs p.1 = 1)).map fun p => eS p.1) := by
    refine compD_map (fun p : Sp × Nat => eS p.1) (fun p => decide (cnt kvs p.1 = 1)) (fun p => eS p.1) kvs (fun p hp => ?_) fun p hp _ => ?_
    · have hi := ix_eD (s := p.1) (List.mem_map.mpr ⟨p, hp, rfl⟩)
      simp_arith [hi]
      refine congrArg some ?_
      rw [Bool.eq_iff_iff]
      simp
      omega
    · simp_arith []
  have hlk : kvs.length ≤ 120 := by omega
  have hfl := List.length_filter_le (fun p : Sp × Nat => decide (cnt kvs p.1 = 1)) kvs
  obtain ⟨sk, es, p, r⟩ := sorted_eSB (xs := (kvs.filter fun p => decide (cnt kvs p.1 = 1)).map (·.1)) (by rw [List.length_map]; omega)
  have hz : (kvs.map fun p => eS p.1).length ≤ 1000 := by rw [List.length_map]; omega
  have es : sortedB [.list ((kvs.filter fun p => decide (cnt kvs p.1 = 1)).map fun p => eS p.1)] = some (.list (sk.map eS)) := by
    rw [← es, List.map_map]
    rfl
  have hnk : (kvs.map (·.1)).Nodup := by rw [hkeys]; exact once_nodup _
  refine ⟨sk, ?_, r, p.nodup_iff.mpr (List.Nodup.sublist (List.filter_sublist.map _) hnk), by rw [p.length_eq, List.length_map]; omega, fun s => ?_⟩
  · simp only [f_skin_of, u_skin_of]
    simp_arith [e, keys_eD, hz, hc, es]
  · rw [p.mem_iff]
    constructor
    · intro h
      obtain ⟨q, hq, rfl⟩ := List.mem_map.mp h
      have := of_decide_eq_true (List.mem_filter.mp hq).2
      rwa [hcnt] at this
    · intro h
      have hm : s ∈ kvs.map (·.1) := by
        rw [hkeys, mem_once]
        exact List.count_pos_iff.mp (by omega)
      obtain ⟨q, hq, rfl⟩ := List.mem_map.mp hm
      exact List.mem_map.mpr ⟨q, List.mem_filter.mpr ⟨hq, decide_eq_true (by rw [hcnt]; exact h)⟩, rfl⟩
theorem mid_inj {a b : Sp} (h : mid a = mid b) : a = b := by
  obtain ⟨x, y, z⟩ := a
  obtain ⟨u, v, w⟩ := b
  unfold mid at h
  obtain ⟨h1, h2⟩ := Prod.mk.inj h
  obtain ⟨h2, h3⟩ := Prod.mk.inj h2
  dsimp only at h1 h2 h3
  have e1 : x = u := by omega
  have e2 : y = v := by omega
  have e3 : z = w := by omega
  rw [e1, e2, e3]
def inM (cs : List Sp) (m : Sp) : Bool := decide (m ∈ cs.map mid)
theorem mid_odd (c : Sp) : (mid c).1 % 2 = 1 ∧ (mid c).2.1 % 2 = 1 ∧ (mid c).2.2 % 2 = 1 := ⟨by show (2 * c.1 + 1) % 2 = 1; omega, by show (2 * c.2.1 + 1) % 2 = 1; omega, by show (2 * c.2.2 + 1) % 2 = 1; omega⟩
theorem mem_usq {m s : Sp} : s ∈ units.map (ad m) ↔ (s.1 = m.1 + -1 ∧ s.2.1 = m.2.1 + 0 ∧ s.2.2 = m.2.2 + 0) ∨ (s.1 = m.1 + 0 ∧ s.2.1 = m.2.1 + -1 ∧ s.2.2 = m.2.2 + 0) ∨ (s.1 = m.1 + 0 ∧ s.2.1 = m.2.1 + 0 ∧ s.2.2 = m.2.2 + -1) ∨ (s.1 = m.1 + 0 ∧ s.2.1 = m.2.1 + 0 ∧ s.2.2 = m.2.2 + 1) ∨ (s.1 = m.1 + 0 ∧ s.2.1 = m.2.1 + 1 ∧ s.2.2 = m.2.2 + 0) ∨ (s.1 = m.1 + 1 ∧ s.2.1 = m.2.1 + 0 ∧ s.2.2 = m.2.2 + 0) := by
  obtain ⟨x, y, z⟩ := m
  obtain ⟨a, b, d⟩ := s
  simp only [units, List.map_cons, List.map_nil, List.mem_cons, List.not_mem_nil, or_false, ad, Prod.mk.injEq]
theorem zem {a b : Int} (h : a = b + -1) (o : b % 2 = 1) : a % 2 = 0 := by omega
theorem zep {a b : Int} (h : a = b + 1) (o : b % 2 = 1) : a % 2 = 0 := by omega
theorem ze0 {a b : Int} (h : a = b + 0) (o : b % 2 = 1) : a % 2 = 1 := by omega
theorem z0 {a b : Int} (h : a = b + 0) : b = a := by omega
theorem zm {a b : Int} (h : a = b + -1) : b = a + 1 := by omega
theorem zp {a b : Int} (h : a = b + 1) : b = a - 1 := by omega
theorem w0 {a b : Int} (h : b = a) : a = b + 0 := by omega
theorem wm {a b : Int} (h : b = a + 1) : a = b + -1 := by omega
theorem wp {a b : Int} (h : b = a - 1) : a = b + 1 := by omega
theorem usq_sq {c s : Sp} (h : s ∈ usq c) : Sq s := by
  obtain ⟨o1, o2, o3⟩ := mid_odd c
  rcases mem_usq.mp h with ⟨p, q, r⟩ | ⟨p, q, r⟩ | ⟨p, q, r⟩ | ⟨p, q, r⟩ | ⟨p, q, r⟩ | ⟨p, q, r⟩
  · exact .inl ⟨zem p o1, ze0 q o2, ze0 r o3⟩
  · exact .inr (.inl ⟨ze0 p o1, zem q o2, ze0 r o3⟩)
  · exact .inr (.inr ⟨ze0 p o1, ze0 q o2, zem r o3⟩)
  · exact .inr (.inr ⟨ze0 p o1, ze0 q o2, zep r o3⟩)
  · exact .inr (.inl ⟨ze0 p o1, zep q o2, ze0 r o3⟩)
  · exact .inl ⟨zep p o1, ze0 q o2, ze0 r o3⟩
theorem usq_iff {m s : Sp} (hm : m.1 % 2 = 1 ∧ m.2.1 % 2 = 1 ∧ m.2.2 % 2 = 1) (hs : Sq s) : s ∈ units.map (ad m) ↔ m = lo (axA s) s ∨ m = hi (axA s) s := by
  obtain ⟨o1, o2, o3⟩ := hm
  rcases axA_of hs with ⟨e, h1, h2, h3⟩ | ⟨e, h1, h2, h3⟩ | ⟨e, h1, h2, h3⟩ <;> rw [e]
  · constructor
    · intro h
      rcases mem_usq.mp h with ⟨p, q, r⟩ | ⟨p, q, r⟩ | ⟨p, q, r⟩ | ⟨p, q, r⟩ | ⟨p, q, r⟩ | ⟨p, q, r⟩
      · exact .inr (sp_eq (zm p) (z0 q) (z0 r))
      · exact ne01 h1 (ze0 p o1)
      · exact ne01 h1 (ze0 p o1)
      · exact ne01 h1 (ze0 p o1)
      · exact ne01 h1 (ze0 p o1)
      · exact .inl (sp_eq (zp p) (z0 q) (z0 r))
    · rintro (h | h)
      · exact mem_usq.mpr (.inr (.inr (.inr (.inr (.inr ⟨wp (congrArg (·.1) h), w0 (congrArg (·.2.1) h), w0 (congrArg (·.2.2) h)⟩)))))
      · exact mem_usq.mpr (.inl ⟨wm (congrArg (·.1) h), w0 (congrArg (·.2.1) h), w0 (congrArg (·.2.2) h)⟩)
  · constructor
    · intro h
      rcases mem_usq.mp h with ⟨p, q, r⟩ | ⟨p, q, r⟩ | ⟨p, q, r⟩ | ⟨p, q, r⟩ | ⟨p, q, r⟩ | ⟨p, q, r⟩
      · exact ne01 h2 (ze0 q o2)
      · exact .inr (sp_eq (z0 p) (zm q) (z0 r))
      · exact ne01 h2 (ze0 q o2)
      · exact ne01 h2 (ze0 q o2)
      · exact .inl (sp_eq (z0 p) (zp q) (z0 r))
      · exact ne01 h2 (ze0 q o2)
    · rintro (h | h)
      · exact mem_usq.mpr (.inr (.inr (.inr (.inr (.inl ⟨w0 (congrArg (·.1) h), wp (congrArg (·.2.1) h), w0 (congrArg (·.2.2) h)⟩)))))
      · exact mem_usq.mpr (.inr (.inl ⟨w0 (congrArg (·.1) h), wm (congrArg (·.2.1) h), w0 (congrArg (·.2.2) h)⟩))
  · constructor
    · intro h
      rcases mem_usq.mp h with ⟨p, q, r⟩ | ⟨p, q, r⟩ | ⟨p, q, r⟩ | ⟨p, q, r⟩ | ⟨p, q, r⟩ | ⟨p, q, r⟩
      · exact ne01 h3 (ze0 r o3)
      · exact ne01 h3 (ze0 r o3)
      · exact .inr (sp_eq (z0 p) (z0 q) (zm r))
      · exact .inl (sp_eq (z0 p) (z0 q) (zp r))
      · exact ne01 h3 (ze0 r o3)
      · exact ne01 h3 (ze0 r o3)
    · rintro (h | h)
      · exact mem_usq.mpr (.inr (.inr (.inr (.inl ⟨w0 (congrArg (·.1) h), w0 (congrArg (·.2.1) h), wp (congrArg (·.2.2) h)⟩))))
      · exact mem_usq.mpr (.inr (.inr (.inl ⟨w0 (congrArg (·.1) h), w0 (congrArg (·.2.1) h), wm (congrArg (·.2.2) h)⟩)))
theorem nodup_map {α β : Type} {f : α → β} (hf : ∀ a b, f a = f b → a = b) : ∀ {l : List α}, l.Nodup → (l.map f).Nodup
  | [], _ => List.nodup_nil
  | a :: l, h => by
    obtain ⟨h1, h2⟩ := List.nodup_cons.mp h
    refine List.map_cons ▸ List.nodup_cons.mpr ⟨fun z => ?_, nodup_map hf h2⟩
    obtain ⟨x, hx, e⟩ := List.mem_map.mp z
    rw [hf x a e] at hx
    exact h1 hx
theorem ad_inj {m a b : Sp} (h : ad m a = ad m b) : a = b := by
  have h1 : m.1 + a.1 = m.1 + b.1 := congrArg (·.1) h
  have h2 : m.2.1 + a.2.1 = m.2.1 + b.2.1 := congrArg (·.2.1) h
  have h3 : m.2.2 + a.2.2 = m.2.2 + b.2.2 := congrArg (·.2.2) h
  exact sp_eq (by omega) (by omega) (by omega)
theorem lo_ne_hi (A : Nat) (s : Sp) : lo A s ≠ hi A s := fun h => by
  unfold lo hi at h
  split at h
  · have := congrArg (·.1) h; dsimp only at this; omega
  · have := congrArg (·.2.1) h; dsimp only at this; omega
  · have := congrArg (·.2.2) h; dsimp only at this; omega
theorem count_one {s : Sp} : ∀ {l : List Sp}, l.Nodup → s ∈ l → l.count s = 1
  | [], _, h => by cases h
  | a :: l, hn, h => by
    obtain ⟨h1, h2⟩ := List.nodup_cons.mp hn
    rw [List.count_cons]
    by_cases e : a = s
    · subst e
      rw [List.count_eq_zero.mpr h1, beq_self_eq_true]
      rfl
    · rw [count_one h2 ((List.mem_cons.mp h).resolve_left (fun z => e z.symm)), beq_eq_false_iff_ne.mpr e]
      rfl
theorem usq_cnt {c s : Sp} (hs : Sq s) : (usq c).count s = (if mid c = lo (axA s) s then 1 else 0) + (if mid c = hi (axA s) s then 1 else 0) := by
  have hiff := usq_iff (mid_odd c) hs
  have hnd : (usq c).Nodup := nodup_map (fun _ _ => ad_inj) (by decide)
  by_cases h1 : mid c = lo (axA s) s
  · rw [if_pos h1, if_neg (fun z => lo_ne_hi _ _ (h1.symm.trans z))]
    exact count_one hnd (hiff.mpr (.inl h1))
  · rw [if_neg h1]
    by_cases h2 : mid c = hi (axA s) s
    · rw [if_pos h2]
      exact count_one hnd (hiff.mpr (.inr h2))
    · rw [if_neg h2]
      exact List.count_eq_zero.mpr fun z => (hiff.mp z).elim h1 h2
theorem all_cnt {s : Sp} (hs : Sq s) : ∀ {cs : List Sp}, cs.Nodup → (cs.flatMap usq).count s = (if lo (axA s) s ∈ cs.map mid then 1 else 0) + (if hi (axA s) s ∈ cs.map mid then 1 else 0)
  | [], _ => rfl
  | c :: cs, hn => by
    obtain ⟨n1, n2⟩ := List.nodup_cons.mp hn
    have ih := all_cnt hs n2
    have nm : mid c ∉ cs.map mid := fun z => by
      obtain ⟨c', h1, h2⟩ := List.mem_map.mp z
      exact n1 (by rw [← mid_inj h2]; exact h1)
    rw [List.flatMap_cons, List.count_append, usq_cnt hs, ih, List.map_cons]
    have one : ∀ m : Sp, (if m ∈ mid c :: cs.map mid then 1 else 0) = (if mid c = m then 1 else 0) + (if m ∈ cs.map mid then 1 else 0) := fun m => by
      by_cases h : mid c = m
      · subst h
        rw [if_pos (.head _), if_pos rfl, if_neg nm]
      · rw [if_neg h, Nat.zero_add]
        by_cases h2 : m ∈ cs.map mid
        · rw [if_pos h2, if_pos (.tail _ h2)]
        · rw [if_neg h2, if_neg (fun z => by rcases List.mem_cons.mp z with y | y; exact h y.symm; exact h2 y)]
    rw [one, one]
    omega
theorem skin_iff {cs : List Sp} (hn : cs.Nodup) (s : Sp) : (cs.flatMap usq).count s = 1 ↔ Sq s ∧ skB (inM cs) s = true := by
  constructor
  · intro h
    have hm : s ∈ cs.flatMap usq := List.count_pos_iff.mp (by omega)
    obtain ⟨c, _, hc⟩ := List.mem_flatMap.mp hm
    have hs := usq_sq hc
    refine ⟨hs, ?_⟩
    rw [all_cnt hs hn] at h
    unfold skB inM
    by_cases h1 : lo (axA s) s ∈ cs.map mid <;> by_cases h2 : hi (axA s) s ∈ cs.map mid
    · rw [if_pos h1, if_pos h2] at h; cases h
    · rw [decide_eq_true h1, decide_eq_false h2]; rfl
    · rw [decide_eq_false h1, decide_eq_true h2]; rfl
    · rw [if_neg h1, if_neg h2] at h; cases h
  · rintro ⟨hs, h⟩
    rw [all_cnt hs hn]
    unfold skB inM at h
    by_cases h1 : lo (axA s) s ∈ cs.map mid <;> by_cases h2 : hi (axA s) s ∈ cs.map mid
    · rw [decide_eq_true h1, decide_eq_true h2] at h; cases h
    · rw [if_pos h1, if_neg h2]
    · rw [if_neg h1, if_pos h2]
    · rw [decide_eq_false h1, decide_eq_false h2] at h; cases h
def oth (a : Nat) (b : Int) (c : Sp) : Sp := match a with
  | 0 => (c.1 + b, c.2.1, c.2.2)
  | 1 => (c.1, c.2.1 + b, c.2.2)
  | _ => (c.1, c.2.1, c.2.2 + b)
theorem step18 {cs L : List Sp} {c : Sp} (hc : BdS 200 c) {a : Nat} (ha : a = 0 ∨ a = 1 ∨ a = 2) (b : Int) (hl : L.length < 900) (o5 o6 : Option PyData) :
    ∃ o5' o6', b__law_due_2 [some (.list (cs.map eS)), some (.list (L.map eS)), some (eS c), some (.int (a : Nat)), some (.int b), o5, o6] = some (.nx [some (.list (cs.map eS)), some (.list ((L ++ if oth a b c ∈ cs then [] else [oth a b (mid c)]).map eS)), some (eS c), some (.int (a : Nat)), some (.int b), o5', o6']) := by
  have hz : (L.map eS).length < 1000 := by rw [List.length_map]; omega
  have nn := ninD_eS cs (oth a b c)
  have m1 := mulD_ok (bd2.ok hc.1)
  have m2 := mulD_ok (bd2.ok hc.2.1)
  have m3 := mulD_ok (bd2.ok hc.2.2)
  have n1 : (((1 : Nat) : Int)) = 1 := rfl
  have n2 : (((2 : Nat) : Int)) = 2 := rfl
  by_cases h : oth a b c ∈ cs
  · rw [if_pos h, List.append_nil]
    rw [decide_eq_true h] at nn
    rcases ha with rfl | rfl | rfl <;> simp only [oth, eS] at nn ⊢
    · exact ⟨_, _, by simp_arith [ix0, ix1, ix2, flat_i, nn, Int.natCast_zero]; rfl⟩
    · exact ⟨_, _, by simp_arith [ix0, ix1, ix2, flat_i, nn, n1]; rfl⟩
    · exact ⟨_, _, by simp_arith [ix0, ix1, ix2, flat_i, nn, n2]; rfl⟩
  · rw [if_neg h]
    rw [decide_eq_false h] at nn
    rcases ha with rfl | rfl | rfl <;> simp only [oth, eS, mid, List.map_append, List.map_cons, List.map_nil] at nn ⊢
    · exact ⟨_, _, by simp_arith [ix0, ix1, ix2, flat_i, flat_t3, nn, m1, m2, m3, hz, Int.natCast_zero]; rfl⟩
    · exact ⟨_, _, by simp_arith [ix0, ix1, ix2, flat_i, flat_t3, nn, m1, m2, m3, hz, n1]; rfl⟩
    · exact ⟨_, _, by simp_arith [ix0, ix1, ix2, flat_i, flat_t3, nn, m1, m2, m3, hz, n2]; rfl⟩
def lsb (cs : List Sp) (c : Sp) (a : Nat) (b : Int) : List Sp := if oth a b c ∈ cs then [] else [oth a b (mid c)]
def lsa (cs : List Sp) (c : Sp) (a : Nat) : List Sp := [-1, 1].flatMap (lsb cs c a)
def lsq (cs : List Sp) (c : Sp) : List Sp := [0, 1, 2].flatMap (lsa cs c)
theorem lsb_len (cs : List Sp) (c : Sp) (a : Nat) (b : Int) : (lsb cs c a b).length ≤ 1 := by
  unfold lsb
  split
  · exact Nat.zero_le _
  · exact Nat.le_refl _
theorem due18 {cs : List Sp} (hb : ∀ c ∈ cs, BdS 200 c) (hl : cs.length ≤ 20) : ∃ sk : List Sp, f__law_due [.list (cs.map eS)] = some (.list (sk.map eS)) ∧ (sk.map l3).Pairwise (fun a b => HT.lexLt b a = false) ∧ sk.Perm (cs.flatMap (lsq cs)) := by
  obtain ⟨ρ', e, o2, o3, o4, o5, o6, rfl, hlen⟩ := forD_all eS (g := gNm 2) (u := b__law_due_0)
    (fun done ρ => ∃ o2 o3 o4 o5 o6 : Option PyData, ρ = [some (.list (cs.map eS)), some (.list ((done.flatMap (lsq cs)).map eS)), o2, o3, o4, o5, o6] ∧ (done.flatMap (lsq cs)).length ≤ 6 * done.length) cs [some (.list (cs.map eS)), some (.list []), none, none, none, none, none] ⟨none, none, none, none, none, rfl, Nat.zero_le _⟩ (by
      rintro c hc done ρ hdl ⟨o2, o3, o4, o5, o6, rfl, hlen⟩
      generalize hL : done.flatMap (lsq cs) = L at *
      obtain ⟨ρ1, e1, o3', o4', o5', o6', rfl, hlen1⟩ := forD_all (fun a : Nat => PyData.int (a : Nat)) (g := gNm 3) (u := b__law_due_1)
        (fun don ρ => ∃ o3 o4 o5 o6 : Option PyData, ρ = [some (.list (cs.map eS)), some (.list ((L ++ don.flatMap (lsa cs c)).map eS)), some (eS c), o3, o4, o5, o6] ∧ (L ++ don.flatMap (lsa cs c)).length ≤ L.length + 2 * don.length) [0, 1, 2] [some (.list (cs.map eS)), some (.list (L.map eS)), some (eS c), o3, o4, o5, o6] ⟨o3, o4, o5, o6, by simp, by simp⟩ (by
          rintro a ham don ρ hd ⟨o3, o4, o5, o6, rfl, hl2⟩
          have ha : a = 0 ∨ a = 1 ∨ a = 2 := by simpa using ham
          have h3 : ([0, 1, 2] : List Nat).length = 3 := rfl
          generalize hL2 : L ++ don.flatMap (lsa cs c) = Lh at *
          obtain ⟨ρ2, e2, o4', o5', o6', rfl, hlen2⟩ := forD_all PyData.int (g := gNm 4) (u := b__law_due_2)
            (fun dn ρ => ∃ o4 o5 o6 : Option PyData, ρ = [some (.list (cs.map eS)), some (.list ((Lh ++ dn.flatMap (lsb cs c a)).map eS)), some (eS c), some (.int (a : Nat)), o4, o5, o6] ∧ (Lh ++ dn.flatMap (lsb cs c a)).length ≤ Lh.length + dn.length) [-1, 1] [some (.list (cs.map eS)), some (.list (Lh.map eS)), some (eS c), some (.int (a : Nat)), o4, o5, o6] ⟨o4, o5, o6, by simp, by simp⟩ (by
              rintro b hbm dn ρ hd2 ⟨o4, o5, o6, rfl, hl3⟩
              have h2 : ([-1, 1] : List Int).length = 2 := rfl
              have hll := lsb_len cs c a b
              obtain ⟨o5', o6', es⟩ := step18 (cs := cs) (L := Lh ++ dn.flatMap (lsb cs c a)) (hb c hc) ha b (by omega) o5 o6
              have hn : Lh ++ (dn ++ [b]).flatMap (lsb cs c a) = (Lh ++ dn.flatMap (lsb cs c a)) ++ lsb cs c a b := by
                rw [List.flatMap_append, List.append_assoc]
                simp
              refine ⟨_, es, some (.int b), o5', o6', by rw [hn]; rfl, ?_⟩
              rw [hn, List.length_append, List.length_append (as := dn), List.length_singleton]
              omega)
          have hn : L ++ (don ++ [a]).flatMap (lsa cs c) = Lh ++ [-1, 1].flatMap (lsb cs c a) := by
            rw [List.flatMap_append, ← List.append_assoc, hL2]
            simp [lsa]
          have h2 : ([-1, 1] : List Int).length = 2 := rfl
          have e2 : forD (gNm 4) b__law_due_2 [.int (-1), .int 1] [some (.list (cs.map eS)), some (.list (Lh.map eS)), some (eS c), some (.int (a : Nat)), o4, o5, o6] = some (.nx [some (.list (cs.map eS)), some (.list ((Lh ++ [-1, 1].flatMap (lsb cs c a)).map eS)), some (eS c), some (.int (a : Nat)), o4', o5', o6']) := e2
          refine ⟨_, ?_, some (.int (a : Nat)), o4', o5', o6', rfl, ?_⟩
          · rw [hn]
            simp_arith [e2]
          · rw [hn, List.length_append (as := don), List.length_singleton]
            omega)
      have hn : (done ++ [c]).flatMap (lsq cs) = L ++ [0, 1, 2].flatMap (lsa cs c) := by
        rw [List.flatMap_append, hL]
        simp [lsq]
      have h3 : ([0, 1, 2] : List Nat).length = 3 := rfl
      have e1 : forD (gNm 3) b__law_due_1 [.int 0, .int 1, .int 2] [some (.list (cs.map eS)), some (.list (L.map eS)), some (eS c), o3, o4, o5, o6] = some (.nx [some (.list (cs.map eS)), some (.list ((L ++ [0, 1, 2].flatMap (lsa cs c)).map eS)), some (eS c), o3', o4', o5', o6']) := e1
      have hr : ∀ ρ : Rho, (evR (aC (kd (.int 3)) aN) rng1D) ρ = some [.int 0, .int 1, .int 2] := fun _ => rfl
      refine ⟨_, ?_, some (eS c), o3', o4', o5', o6', rfl, ?_⟩
      · rw [hn]
        show sFor (evR (aC (kd (.int 3)) aN) rng1D) (gNm 3) b__law_due_1 [some (.list (cs.map eS)), some (.list (L.map eS)), some (eS c), o3, o4, o5, o6] = _
        rw [sFor_b, hr, forI_s]
        exact e1
      · rw [hn, List.length_append (as := done), List.length_singleton]
        omega)
  obtain ⟨sk, es, p, r⟩ := sorted_eSB (xs := cs.flatMap (lsq cs)) (by omega)
  refine ⟨sk, ?_, r, p⟩
  simp only [f__law_due, u__law_due]
  simp_arith [e, es]
theorem mem_lsq {cs : List Sp} {c s : Sp} : s ∈ lsq cs c ↔ ∃ a b, (a = 0 ∨ a = 1 ∨ a = 2) ∧ (b = -1 ∨ b = 1) ∧ oth a b c ∉ cs ∧ s = oth a b (mid c) := by
  have hb : ∀ a b, s ∈ lsb cs c a b ↔ oth a b c ∉ cs ∧ s = oth a b (mid c) := fun a b => by
    unfold lsb
    by_cases h : oth a b c ∈ cs
    · rw [if_pos h]
      exact ⟨(fun z => by cases z), fun z => absurd h z.1⟩
    · rw [if_neg h, List.mem_singleton]
      exact ⟨fun z => ⟨h, z⟩, fun z => z.2⟩
  unfold lsq lsa
  simp only [List.mem_flatMap, hb]
  constructor
  · rintro ⟨a, ha, b, hb', h1, h2⟩
    exact ⟨a, b, by simpa using ha, by simpa using hb', h1, h2⟩
  · rintro ⟨a, b, ha, hb', h1, h2⟩
    exact ⟨a, by simpa using ha, b, by simpa using hb', h1, h2⟩
theorem md1 (x : Int) : (2 * x + 1) % 2 = 1 := by omega
theorem md2 {x b : Int} (h : b = -1 ∨ b = 1) : (2 * x + 1 + b) % 2 = 0 := by omega
theorem md3 {x b : Int} (h : b = -1) : 2 * x + 1 + b + 1 = 2 * x + 1 ∧ 2 * x + 1 + b - 1 = 2 * (x + b) + 1 := by omega
theorem md5 {x b : Int} (h : b = 1) : 2 * x + 1 + b - 1 = 2 * x + 1 ∧ 2 * x + 1 + b + 1 = 2 * (x + b) + 1 := by omega
theorem oth_mid (a : Nat) (b : Int) (c : Sp) (ha : a = 0 ∨ a = 1 ∨ a = 2) (hb : b = -1 ∨ b = 1) : Sq (oth a b (mid c)) ∧ axA (oth a b (mid c)) = a ∧ (b = -1 → hi a (oth a b (mid c)) = mid c ∧ lo a (oth a b (mid c)) = mid (oth a b c)) ∧ (b = 1 → lo a (oth a b (mid c)) = mid c ∧ hi a (oth a b (mid c)) = mid (oth a b c)) := by
  obtain ⟨x, y, z⟩ := c
  rcases ha with rfl | rfl | rfl
  · exact ⟨.inl ⟨md2 hb, md1 y, md1 z⟩, ax0 (s := oth 0 b (mid (x, y, z))) (md2 hb), fun h => ⟨sp_eq (md3 h).1 rfl rfl, sp_eq (md3 h).2 rfl rfl⟩, fun h => ⟨sp_eq (md5 h).1 rfl rfl, sp_eq (md5 h).2 rfl rfl⟩⟩
  · exact ⟨.inr (.inl ⟨md1 x, md2 hb, md1 z⟩), ax1 (s := oth 1 b (mid (x, y, z))) (md1 x) (md2 hb), fun h => ⟨sp_eq rfl (md3 h).1 rfl, sp_eq rfl (md3 h).2 rfl⟩, fun h => ⟨sp_eq rfl (md5 h).1 rfl, sp_eq rfl (md5 h).2 rfl⟩⟩
  · exact ⟨.inr (.inr ⟨md1 x, md1 y, md2 hb⟩), ax2 (s := oth 2 b (mid (x, y, z))) (md1 x) (md1 y), fun h => ⟨sp_eq rfl rfl (md3 h).1, sp_eq rfl rfl (md3 h).2⟩, fun h => ⟨sp_eq rfl rfl (md5 h).1, sp_eq rfl rfl (md5 h).2⟩⟩
theorem mem_lskin {cs : List Sp} {s : Sp} : s ∈ cs.flatMap (lsq cs) ↔ Sq s ∧ skB (inM cs) s = true := by
  have inm : ∀ c, mid c ∈ cs.map mid ↔ c ∈ cs := fun c => by
    constructor
    · intro h
      obtain ⟨c', h1, h2⟩ := List.mem_map.mp h
      rw [← mid_inj h2]; exact h1
    · exact fun h => List.mem_map.mpr ⟨c, h, rfl⟩
  rw [List.mem_flatMap]
  constructor
  · rintro ⟨c, hc, h⟩
    obtain ⟨a, b, ha, hb, h1, rfl⟩ := mem_lsq.mp h
    obtain ⟨g1, g2, g3, g4⟩ := oth_mid a b c ha hb
    refine ⟨g1, ?_⟩
    unfold skB inM
    rw [g2]
    rcases hb with hb | hb
    · rw [(g3 hb).1, (g3 hb).2, decide_eq_true ((inm c).mpr hc), decide_eq_false (fun z => h1 ((inm _).mp z))]; rfl
    · rw [(g4 hb).1, (g4 hb).2, decide_eq_true ((inm c).mpr hc), decide_eq_false (fun z => h1 ((inm _).mp z))]; rfl
  · rintro ⟨hs, h⟩
    unfold skB inM at h
    have hA : axA s = 0 ∨ axA s = 1 ∨ axA s = 2 := by rcases axA_of hs with z | z | z <;> simp [z.1]
    have back : ∀ (b : Int) (c : Sp), (b = -1 ∧ hi (axA s) s = mid c) ∨ (b = 1 ∧ lo (axA s) s = mid c) → s = oth (axA s) b (mid c) := fun b c hh => by
      obtain ⟨x, y, z⟩ := s
      rcases hA with e | e | e <;> rw [e] at hh ⊢ <;> rcases hh with ⟨rfl, g⟩ | ⟨rfl, g⟩ <;> rw [← g] <;> simp only [oth, lo, hi] <;> (congr 1 <;> first | omega | (congr 1 <;> omega))
    by_cases h1 : lo (axA s) s ∈ cs.map mid <;> by_cases h2 : hi (axA s) s ∈ cs.map mid
    · rw [decide_eq_true h1, decide_eq_true h2] at h; cases h
    · obtain ⟨c, hc, ec⟩ := List.mem_map.mp h1
      have es := back 1 c (.inr ⟨rfl, ec.symm⟩)
      refine ⟨c, hc, mem_lsq.mpr ⟨axA s, 1, hA, .inr rfl, fun z => h2 ?_, es⟩⟩
      have := ((oth_mid (axA s) 1 c hA (.inr rfl)).2.2.2 rfl).2
      rw [← es] at this
      rw [this]
      exact (inm _).mpr z
    · obtain ⟨c, hc, ec⟩ := List.mem_map.mp h2
      have es := back (-1) c (.inl ⟨rfl, ec.symm⟩)
      refine ⟨c, hc, mem_lsq.mpr ⟨axA s, -1, hA, .inl rfl, fun z => h1 ?_, es⟩⟩
      have := ((oth_mid (axA s) (-1) c hA (.inl rfl)).2.2.1 rfl).2
      rw [← es] at this
      rw [this]
      exact (inm _).mpr z
    · rw [decide_eq_false h1, decide_eq_false h2] at h; cases h
theorem lsq_nodup (cs : List Sp) (c : Sp) : (lsq cs c).Nodup := by
  have sub : ∀ a b, (lsb cs c a b).Sublist [oth a b (mid c)] := fun a b => by
    unfold lsb
    split
    · exact List.nil_sublist _
    · exact List.Sublist.refl _
  have e : lsq cs c = (lsb cs c 0 (-1) ++ lsb cs c 0 1) ++ ((lsb cs c 1 (-1) ++ lsb cs c 1 1) ++ (lsb cs c 2 (-1) ++ lsb cs c 2 1)) := by simp [lsq, lsa]
  rw [e]
  refine List.Nodup.sublist (((sub 0 (-1)).append (sub 0 1)).append (((sub 1 (-1)).append (sub 1 1)).append ((sub 2 (-1)).append (sub 2 1)))) ?_
  obtain ⟨x, y, z⟩ := c
  simp [oth, mid]
  omega
theorem lskin_nodup {cs : List Sp} (hn : cs.Nodup) : (cs.flatMap (lsq cs)).Nodup := by
  refine List.pairwise_flatMap.mpr ⟨fun c _ => lsq_nodup cs c, ?_⟩
  refine List.Pairwise.imp_of_mem (R := fun a b => a ≠ b) ?_ hn
  rintro c1 c2 m1 m2 hne x hx y hy rfl
  obtain ⟨a1, b1, ha1, hb1, n1, e1⟩ := mem_lsq.mp hx
  obtain ⟨a2, b2, ha2, hb2, n2, e2⟩ := mem_lsq.mp hy
  have g1 := oth_mid a1 b1 c1 ha1 hb1
  have g2 := oth_mid a2 b2 c2 ha2 hb2
  rw [← e1] at g1
  rw [← e2] at g2
  have ea : a1 = a2 := g1.2.1.symm.trans g2.2.1
  subst ea
  rcases hb1 with h1 | h1 <;> rcases hb2 with h2 | h2
  · exact hne (mid_inj ((g1.2.2.1 h1).1.symm.trans (g2.2.2.1 h2).1))
  · have := mid_inj ((g1.2.2.1 h1).2.symm.trans (g2.2.2.2 h2).1)
    exact n1 (by rw [this]; exact m2)
  · have := mid_inj ((g1.2.2.2 h1).2.symm.trans (g2.2.2.1 h2).1)
    exact n1 (by rw [this]; exact m2)
  · exact hne (mid_inj ((g1.2.2.2 h1).1.symm.trans (g2.2.2.2 h2).1))
theorem skins18 {cs : List Sp} (hb : ∀ c ∈ cs, BdS 200 c) (hl : cs.length ≤ 20) (hn : cs.Nodup) : ∃ sk : List Sp, f_skin_of [.list (cs.map eS)] = some (.list (sk.map eS)) ∧ f__law_due [.list (cs.map eS)] = some (.list (sk.map eS)) ∧ (sk.map l3).Pairwise (fun a b => HT.lexLt b a = false) ∧ sk.Nodup ∧ ∀ s, s ∈ sk ↔ Sq s ∧ skB (inM cs) s = true := by
  obtain ⟨sk, e1, r1, n1, l1, m1⟩ := skin18 hb hl
  obtain ⟨sk', e2, r2, p2⟩ := due18 hb hl
  have hm : ∀ s, s ∈ sk ↔ Sq s ∧ skB (inM cs) s = true := fun s => (m1 s).trans (skin_iff hn s)
  have same : sk' = sk := sorted_same (p2.trans (perm_nodup (lskin_nodup hn) n1 fun s => mem_lskin.trans (hm s).symm)) r2 r1
  rw [same] at e2
  exact ⟨sk, e1, e2, r1, n1, hm⟩
theorem skin_perm {cs ds sk tk : List Sp} (p : cs.Perm ds) (h1 : (sk.map l3).Pairwise (fun a b => HT.lexLt b a = false)) (n1 : sk.Nodup) (m1 : ∀ s, s ∈ sk ↔ Sq s ∧ skB (inM cs) s = true) (h2 : (tk.map l3).Pairwise (fun a b => HT.lexLt b a = false)) (n2 : tk.Nodup) (m2 : ∀ s, s ∈ tk ↔ Sq s ∧ skB (inM ds) s = true) : sk = tk := by
  have e : inM cs = inM ds := funext fun m => decide_eq_decide.mpr (p.map mid).mem_iff
  exact sorted_same (perm_nodup n1 n2 fun s => by rw [m1, m2, e]) h1 h2
def bsV (c : Int) : Int := if (c % 5 == 0) = true then c / 5 % (2 * 10 ^ 19 + 1) - 10 ^ 19 else c / 5 % 9 - 4
theorem bsV_bd (c : Int) : (bsV c).natAbs ≤ 10 ^ 19 := by
  unfold bsV
  split
  · have a1 := Int.emod_nonneg (c / 5) (b := 2 * 10 ^ 19 + 1) (by decide)
    have a2 := Int.emod_lt_of_pos (c / 5) (b := 2 * 10 ^ 19 + 1) (by decide)
    generalize c / 5 % (2 * 10 ^ 19 + 1) = z at a1 a2 ⊢
    omega
  · omega
theorem base_eq (a b c : Int) : f__law_base [.list [.int a, .int b, .int c]] = some (.list [.int (bsV a), .int (bsV b), .int (bsV c)]) := by
  have p19 : powD (.int 10) (.int 19) = some (.int (10 ^ 19)) := rfl
  have m19 : mulD (.int 2) (.int (10 ^ 19)) = some (.int (2 * 10 ^ 19)) := rfl
  have md : ∀ x : Int, modD (.int x) (.int (2 * 10 ^ 19 + 1)) = some (.int (x % (2 * 10 ^ 19 + 1))) := fun x => rfl
  simp only [f__law_base, u__law_base, bsV]
  cases ha : a % 5 == 0 <;> cases hb : b % 5 == 0 <;> cases hc : c % 5 == 0 <;> simp_arith [ha, hb, hc, p19, m19, md]
def clS (b : Sp) (n : Nat) (c : Sp) : Prop := (c.1 - b.1).natAbs ≤ n ∧ (c.2.1 - b.2.1).natAbs ≤ n ∧ (c.2.2 - b.2.2).natAbs ≤ n
theorem cubes_eq (ms : List Int) (hms : ms.length ≤ 20) (b : Sp) : ∃ cs : List Sp, f__law_cubes [.list (ms.map .int), .list [.int b.1, .int b.2.1, .int b.2.2]] = some (.list (cs.map eS)) ∧ cs.Nodup ∧ cs.length ≤ ms.length ∧ ∀ c ∈ cs, clS b 40 c := by
  obtain ⟨ρ', e, cs, o3, o4, o5, rfl, h1, h2, h3⟩ := forD_all PyData.int (g := gNm 3) (u := b__law_cubes_0)
    (fun done ρ => ∃ (cs : List Sp) (o3 o4 o5 : Option PyData), ρ = [some (.list (ms.map .int)), some (.list [.int b.1, .int b.2.1, .int b.2.2]), some (.list (cs.map eS)), o3, o4, o5] ∧ cs.Nodup ∧ cs.length ≤ done.length ∧ ∀ c ∈ cs, clS b (2 * done.length) c) ms [some (.list (ms.map .int)), some (.list [.int b.1, .int b.2.1, .int b.2.2]), some (.list []), none, none, none] ⟨[], none, none, none, rfl, List.nodup_nil, Nat.le_refl _, fun _ h => by cases h⟩ (by
      rintro x hx done ρ hdl ⟨cs, o3, o4, o5, rfl, h1, h2, h3⟩
      have fin : ∀ (c : Sp) (o3 o5 : Option PyData), clS b (2 * done.length + 2) c → ∃ ρ', (sIf (tV (ev2 (evA (aC (vr 4) aN) tupleD) (vr 2) ninD)) (sApp 2 (flatF (evA (aC (vr 4) aN) tupleD))) sN) [some (.list (ms.map .int)), some (.list [.int b.1, .int b.2.1, .int b.2.2]), some (.list (cs.map eS)), o3, some (.list [.int c.1, .int c.2.1, .int c.2.2]), o5] = some (.nx ρ') ∧
          ∃ (cs : List Sp) (o3 o4 o5 : Option PyData), ρ' = [some (.list (ms.map .int)), some (.list [.int b.1, .int b.2.1, .int b.2.2]), some (.list (cs.map eS)), o3, o4, o5] ∧ cs.Nodup ∧ cs.length ≤ (done ++ [x]).length ∧ ∀ c ∈ cs, clS b (2 * (done ++ [x]).length) c := by
        intro c o3 o5 hc
        have hn : ninD (.tuple [.int c.1, .int c.2.1, .int c.2.2]) (.list (cs.map eS)) = some (.bool (!decide (c ∈ cs))) := ninD_eS cs c
        have hlen : (done ++ [x]).length = done.length + 1 := by simp
        by_cases hm : c ∈ cs
        · refine ⟨[some (.list (ms.map .int)), some (.list [.int b.1, .int b.2.1, .int b.2.2]), some (.list (cs.map eS)), o3, some (.list [.int c.1, .int c.2.1, .int c.2.2]), o5], ?_, cs, o3, _, o5, rfl, h1, by omega, fun d hd => ?_⟩
          · simp_arith [hn, decide_eq_true hm]
          · rw [hlen]; obtain ⟨a1, a2, a3⟩ := h3 d hd; exact ⟨by omega, by omega, by omega⟩
        · refine ⟨[some (.list (ms.map .int)), some (.list [.int b.1, .int b.2.1, .int b.2.2]), some (.list ((cs ++ [c]).map eS)), o3, some (.list [.int c.1, .int c.2.1, .int c.2.2]), o5], ?_, cs ++ [c], o3, _, o5, rfl, ?_, by rw [List.length_append, List.length_singleton]; omega, fun d hd => ?_⟩
          · have hz : (cs.map eS).length < 1000 := by rw [List.length_map]; omega
            simp_arith [hn, decide_eq_false hm, flat_t3, hz]
            simp only [List.map_append, List.map_cons, List.map_nil, eS]
          · rw [List.nodup_append]
            exact ⟨h1, by simp, fun a ha y hy z => by subst z; have := List.mem_singleton.mp hy; subst this; exact hm ha⟩
          · rw [hlen]
            rcases List.mem_append.mp hd with q | q
            · obtain ⟨a1, a2, a3⟩ := h3 d q; exact ⟨by omega, by omega, by omega⟩
            · have := List.mem_singleton.mp q
              subst this
              obtain ⟨a1, a2, a3⟩ := hc; exact ⟨by omega, by omega, by omega⟩
      have hb' : clS b (2 * done.length) b := ⟨by omega, by omega, by omega⟩
      by_cases hc0 : 0 < cs.length ∧ 0 < x % 4
      · obtain ⟨c, hc, ec⟩ := emod_at (x / 4) hc0.1
        have e1 : decide ((0 : Int) < (((cs.map eS).length : Nat) : Int)) = true := decide_eq_true (by rw [List.length_map]; omega)
        have e2 : decide ((0 : Int) < x % 4) = true := decide_eq_true hc0.2
        have e3 : modD (.int (x / 4)) (.int (((cs.map eS).length : Nat) : Int)) = some (.int (x / 4 % (cs.length : Int))) := by rw [List.length_map]; exact mod_pos _ (by omega)
        have e4 : atI (cs.map eS) (x / 4 % (cs.length : Int)) = some (.tuple [.int c.1, .int c.2.1, .int c.2.2]) := atI_map (Int.emod_nonneg _ (by omega)) ec
        have e5 : mulD (.int 2) (.int (x / 240 % 2)) = some (.int (2 * (x / 240 % 2))) := mulD_ok (bd2.ok (Bd.of (n := 2) (by omega)))
        have hc' := h3 c hc
        rcases emod3 (x / 80) with h | h | h
        · obtain ⟨ρ', k1, k2⟩ := fin (c.1 + 2 * (x / 240 % 2) - 1, c.2.1, c.2.2) (some (.int x)) (some (.int 0)) (by obtain ⟨a1, a2, a3⟩ := hc'; exact ⟨by dsimp only; omega, by dsimp only; omega, by dsimp only; omega⟩)
          refine ⟨ρ', ?_, k2⟩
          simp_arith [e1, e2, e3, e4, flatO_l3, h, e5, flat_i, ix0, ix1, ix2]
          simp_arith [] at k1
          exact k1
        · obtain ⟨ρ', k1, k2⟩ := fin (c.1, c.2.1 + 2 * (x / 240 % 2) - 1, c.2.2) (some (.int x)) (some (.int 1)) (by obtain ⟨a1, a2, a3⟩ := hc'; exact ⟨by dsimp only; omega, by dsimp only; omega, by dsimp only; omega⟩)
          refine ⟨ρ', ?_, k2⟩
          simp_arith [e1, e2, e3, e4, flatO_l3, h, e5, flat_i, ix0, ix1, ix2]
          simp_arith [] at k1
          exact k1
        · obtain ⟨ρ', k1, k2⟩ := fin (c.1, c.2.1, c.2.2 + 2 * (x / 240 % 2) - 1) (some (.int x)) (some (.int 2)) (by obtain ⟨a1, a2, a3⟩ := hc'; exact ⟨by dsimp only; omega, by dsimp only; omega, by dsimp only; omega⟩)
          refine ⟨ρ', ?_, k2⟩
          simp_arith [e1, e2, e3, e4, flatO_l3, h, e5, flat_i, ix0, ix1, ix2]
          simp_arith [] at k1
          exact k1
      · have e0 : (decide ((0 : Int) < (((cs.map eS).length : Nat) : Int)) = true ∧ decide ((0 : Int) < x % 4) = false) ∨ decide ((0 : Int) < (((cs.map eS).length : Nat) : Int)) = false := by
          rw [List.length_map]
          by_cases h : 0 < cs.length
          · exact .inl ⟨decide_eq_true (by omega), decide_eq_false fun z => hc0 ⟨h, z⟩⟩
          · exact .inr (decide_eq_false (by omega))
        rcases emod3 (x / 4) with h | h | h
        · obtain ⟨ρ', k1, k2⟩ := fin (b.1 + x / 12 % 5 - 2, b.2.1, b.2.2) (some (.int x)) o5 (by obtain ⟨a1, a2, a3⟩ := hb'; exact ⟨by dsimp only; omega, by dsimp only; omega, by dsimp only; omega⟩)
          refine ⟨ρ', ?_, k2⟩
          rcases e0 with ⟨e1, e2⟩ | e1
          · simp_arith [e1, e2, h, flat_i, ix0, ix1, ix2]
            simp_arith [] at k1
            exact k1
          · simp_arith [e1, h, flat_i, ix0, ix1, ix2]
            simp_arith [] at k1
            exact k1
        · obtain ⟨ρ', k1, k2⟩ := fin (b.1, b.2.1 + x / 12 % 5 - 2, b.2.2) (some (.int x)) o5 (by obtain ⟨a1, a2, a3⟩ := hb'; exact ⟨by dsimp only; omega, by dsimp only; omega, by dsimp only; omega⟩)
          refine ⟨ρ', ?_, k2⟩
          rcases e0 with ⟨e1, e2⟩ | e1
          · simp_arith [e1, e2, h, flat_i, ix0, ix1, ix2]
            simp_arith [] at k1
            exact k1
          · simp_arith [e1, h, flat_i, ix0, ix1, ix2]
            simp_arith [] at k1
            exact k1
        · obtain ⟨ρ', k1, k2⟩ := fin (b.1, b.2.1, b.2.2 + x / 12 % 5 - 2) (some (.int x)) o5 (by obtain ⟨a1, a2, a3⟩ := hb'; exact ⟨by dsimp only; omega, by dsimp only; omega, by dsimp only; omega⟩)
          refine ⟨ρ', ?_, k2⟩
          rcases e0 with ⟨e1, e2⟩ | e1
          · simp_arith [e1, e2, h, flat_i, ix0, ix1, ix2]
            simp_arith [] at k1
            exact k1
          · simp_arith [e1, h, flat_i, ix0, ix1, ix2]
            simp_arith [] at k1
            exact k1)
  refine ⟨cs, ?_, h1, h2, fun c hc => ?_⟩
  · simp only [f__law_cubes, u__law_cubes]
    simp_arith []
    exact (congrArg (fun o => ob (bindO o _) outD) e).trans rfl
  · obtain ⟨a1, a2, a3⟩ := h3 c hc; exact ⟨by omega, by omega, by omega⟩
theorem far_add {cs : List Sp} {b : Sp} (hb : nearS (10 ^ 19) b) (hc : ∀ c ∈ cs, clS b 40 c) (h0 : 0 < cs.length) (h9 : cs.length ≤ 20) (hn : cs.Nodup) (x : Int) : ∃ f : Sp, f__law_with_far [.list (cs.map eS), .int x] = some (.list ((cs ++ [f]).map eS)) ∧ (cs ++ [f]).Nodup ∧ nearS (2 * 10 ^ 19) f := by
  obtain ⟨c, hm, ec⟩ := emod_at x h0
  have e3 : modD (.int x) (.int (((cs.map eS).length : Nat) : Int)) = some (.int (x % (cs.length : Int))) := by rw [List.length_map]; exact mod_pos _ (by omega)
  have e4 : atI (cs.map eS) (x % (cs.length : Int)) = some (.tuple [.int c.1, .int c.2.1, .int c.2.2]) := atI_map (Int.emod_nonneg _ (by omega)) ec
  have hcl := hc c hm
  have p10 : powD (.int 10) (.int 10) = some (.int (10 ^ 10)) := rfl
  have p12 : powD (.int 10) (.int 12) = some (.int (10 ^ 12)) := rfl
  have p18 : powD (.int 10) (.int 18) = some (.int (10 ^ 18)) := rfl
  have p6 : powD (.int 10) (.int 6) = some (.int (10 ^ 6)) := rfl
  have m3 : mulD (.int 3) (.int (10 ^ 12)) = some (.int (3 * 10 ^ 12)) := rfl
  have m7 : mulD (.int 7) (.int (10 ^ 18)) = some (.int (7 * 10 ^ 18)) := rfl
  have md : ∀ x : Int, modD (.int x) (.int (10 ^ 6)) = some (.int (x % 10 ^ 6)) := fun x => rfl
  have hz : ∀ d : PyData, (cs.map eS).length + [d].length ≤ 1000 := fun d => by rw [List.length_map, List.length_singleton]; omega
  obtain ⟨z, hz1, hz2, hz3⟩ : ∃ z : Int, z = x / 360 % 10 ^ 6 ∧ 0 ≤ z ∧ z < 10 ^ 6 := ⟨_, rfl, Int.emod_nonneg _ (by decide), Int.emod_lt_of_pos _ (by decide)⟩
  obtain ⟨big, hbig, hg⟩ : ∃ big : Int, atI [PyData.int (10 ^ 10), .int (3 * 10 ^ 12), .int (7 * 10 ^ 18)] (x / 120 % 3) = some (.int big) ∧ (big = 10 ^ 10 ∨ big = 3 * 10 ^ 12 ∨ big = 7 * 10 ^ 18) := by
    rcases emod3 (x / 120) with h | h | h <;> rw [h]
    · exact ⟨_, atI0 _ _, .inl rfl⟩
    · exact ⟨_, atI1 _ _ _, .inr (.inl rfl)⟩
    · exact ⟨_, atI2 _ _ _ _, .inr (.inr rfl)⟩
  have m2 : mulD (.int 2) (.int (x / 60 % 2)) = some (.int (2 * (x / 60 % 2))) := mulD_ok (bd2.ok (Bd.of (n := 2) (by omega)))
  have mw : mulD (.int (1 - 2 * (x / 60 % 2))) (.int (big + z)) = some (.int ((1 - 2 * (x / 60 % 2)) * (big + z))) := mulD_ok (Bd.ok (n := 4) (m := 100) (Bd.of (by omega)) (Bd.of (by omega)))
  obtain ⟨d, hd, hd2⟩ : ∃ d : Int, (1 - 2 * (x / 60 % 2)) * (big + z) = d ∧ (d = big + z ∨ d = -(big + z)) := by
    have : x / 60 % 2 = 0 ∨ x / 60 % 2 = 1 := by omega
    rcases this with h | h <;> rw [h]
    · exact ⟨_, rfl, .inl (by omega)⟩
    · exact ⟨_, rfl, .inr (by omega)⟩
  rw [hd] at mw
  have hdd : 10 ^ 10 ≤ d.natAbs ∧ d.natAbs ≤ 8 * 10 ^ 18 := by rcases hg with rfl | rfl | rfl <;> rcases hd2 with rfl | rfl <;> omega
  have key : ∀ f : Sp, ((f.1 = c.1 + d ∧ f.2.1 = c.2.1 ∧ f.2.2 = c.2.2) ∨ (f.1 = c.1 ∧ f.2.1 = c.2.1 + d ∧ f.2.2 = c.2.2) ∨ (f.1 = c.1 ∧ f.2.1 = c.2.1 ∧ f.2.2 = c.2.2 + d)) → (cs ++ [f]).Nodup ∧ nearS (2 * 10 ^ 19) f := by
    intro f hf
    obtain ⟨b1, b2, b3⟩ := hb
    obtain ⟨c1, c2, c3⟩ := hcl
    obtain ⟨d1, d2⟩ := hdd
    clear mw hd2 hg hbig m2 e4 e3 hz1 hz2 hz3 hd ec h9 h0
    refine ⟨?_, ?_⟩
    · rw [List.nodup_append]
      refine ⟨hn, by simp, fun a ha y hy e => ?_⟩
      have := List.mem_singleton.mp hy
      subst this
      subst e
      obtain ⟨a1, a2, a3⟩ := hc a ha
      clear hc hn
      rcases hf with ⟨f1, f2, f3⟩ | ⟨f1, f2, f3⟩ | ⟨f1, f2, f3⟩ <;> omega
    · unfold nearS
      clear hc hn
      rcases hf with ⟨f1, f2, f3⟩ | ⟨f1, f2, f3⟩ | ⟨f1, f2, f3⟩ <;> refine ⟨?_, ?_, ?_⟩ <;> omega
  rcases emod3 (x / 20) with h | h | h
  · obtain ⟨k1, k2⟩ := key (c.1 + d, c.2.1, c.2.2) (.inl ⟨rfl, rfl, rfl⟩)
    refine ⟨_, ?_, k1, k2⟩
    simp only [f__law_with_far, u__law_with_far]
    simp_arith [e3, e4, h, m2, p10, p12, p18, p6, m3, m7, md, ← hz1, hbig, mw, flat_i, ix0, ix1, ix2, add3D_l _ _ (hz _)]
    simp only [List.map_append, List.map_cons, List.map_nil, eS]
  · obtain ⟨k1, k2⟩ := key (c.1, c.2.1 + d, c.2.2) (.inr (.inl ⟨rfl, rfl, rfl⟩))
    refine ⟨_, ?_, k1, k2⟩
    simp only [f__law_with_far, u__law_with_far]
    simp_arith [e3, e4, h, m2, p10, p12, p18, p6, m3, m7, md, ← hz1, hbig, mw, flat_i, ix0, ix1, ix2, add3D_l _ _ (hz _)]
    simp only [List.map_append, List.map_cons, List.map_nil, eS]
  · obtain ⟨k1, k2⟩ := key (c.1, c.2.1, c.2.2 + d) (.inr (.inr ⟨rfl, rfl, rfl⟩))
    refine ⟨_, ?_, k1, k2⟩
    simp only [f__law_with_far, u__law_with_far]
    simp_arith [e3, e4, h, m2, p10, p12, p18, p6, m3, m7, md, ← hz1, hbig, mw, flat_i, ix0, ix1, ix2, add3D_l _ _ (hz _)]
    simp only [List.map_append, List.map_cons, List.map_nil, eS]
theorem cut_to (xs : List PyData) {i : Nat} (h : i ≤ xs.length) : sliD (.list xs) none (some (i : Int)) = some (.list (xs.take i)) := by
  show some (PyData.list (cutD xs none (some (i : Int)))) = _
  unfold cutD
  rw [HT.sIx_nat, Nat.min_eq_left h]
  rfl
theorem cut_from (xs : List PyData) {i : Nat} (h : i ≤ xs.length) : sliD (.list xs) (some (i : Int)) none = some (.list (xs.drop i)) := by
  show some (PyData.list (cutD xs (some (i : Int)) none)) = _
  unfold cutD
  rw [HT.sIx_nat, Nat.min_eq_left h]
  refine congrArg (fun z => some (PyData.list z)) (List.take_of_length_le ?_)
  rw [List.length_drop]
  exact Nat.le_refl _
theorem law_holds (ns : List Int) (_ : ns.length ≤ 63) (_ : ∀ k ∈ ns, Builtin.Int.intBits k ≤ 2 ^ 20) : f_law [.list (ns.map .int)] = some (.bool true) := by
  have c0 := cell_eq ns 0 (by decide)
  have c1 := cell_eq ns 1 (by decide)
  have c2 := cell_eq ns 2 (by decide)
  have c3 := cell_eq ns 3 (by decide)
  have be := base_eq (cellV ns 1) (cellV ns 2) (cellV ns 3)
  obtain ⟨b, hbd⟩ : ∃ b : Sp, b = (bsV (cellV ns 1), bsV (cellV ns 2), bsV (cellV ns 3)) := ⟨_, rfl⟩
  have hb : nearS (10 ^ 19) b := by rw [hbd]; exact ⟨bsV_bd _, bsV_bd _, bsV_bd _⟩
  have be' : f__law_base [.list [.int (cellV ns 1), .int (cellV ns 2), .int (cellV ns 3)]] = some (.list [.int b.1, .int b.2.1, .int b.2.2]) := by rw [be, hbd]
  obtain ⟨ms, em, hm⟩ := cut_eq ns (a := 4) (b := 24)
  have em : sliD (.list (ns.map .int)) (some 4) (some 24) = some (.list (ms.map .int)) := em
  obtain ⟨cs, ec, cn, cl, cb⟩ := cubes_eq ms (by omega) b
  generalize cellV ns 0 = first at c0
  obtain ⟨cs', ef, fn, fl, fb⟩ : ∃ cs' : List Sp, ((sIf (tA (tV (ev2 (ev2 (ev2 (vr 3) (kd (.int 20)) fdivD) (kd (.int 4)) modD) (kd (.int 1)) eqD)) (tV (evCh (kd (.int 0)) (evA (aC (vr 2) aN) lenD) (kd (.int 20)) ltD2 ltD2))) (sSet 2 (evC 2 (aC (vr 2) (aC (ev2 (vr 3) (kd (.int 80)) fdivD) aN)) f__law_with_far)) sN) [some (.list (ns.map .int)), some (.list [.int b.1, .int b.2.1, .int b.2.2]), some (.list (cs.map eS)), some (.int first), none, none, none, none, none, none] = some (.nx [some (.list (ns.map .int)), some (.list [.int b.1, .int b.2.1, .int b.2.2]), some (.list (cs'.map eS)), some (.int first), none, none, none, none, none, none])) ∧ cs'.Nodup ∧ cs'.length ≤ 20 ∧ ∀ c ∈ cs', nearS (2 * 10 ^ 19) c := by
    have nb : ∀ c ∈ cs, nearS (2 * 10 ^ 19) c := fun c hc => by
      obtain ⟨a1, a2, a3⟩ := cb c hc
      obtain ⟨b1, b2, b3⟩ := hb
      exact ⟨by omega, by omega, by omega⟩
    cases h1 : first / 20 % 4 == 1 with
    | false => exact ⟨cs, by simp_arith [h1], cn, by omega, nb⟩
    | true =>
      cases h2 : decide ((0 : Int) < (((cs.map eS).length : Nat) : Int)) with
      | false => exact ⟨cs, by simp_arith [h1, h2], cn, by omega, nb⟩
      | true =>
        cases h3 : decide ((((cs.map eS).length : Nat) : Int) < 20) with
        | false => exact ⟨cs, by simp_arith [h1, h2, h3], cn, by omega, nb⟩
        | true =>
          have h2' := of_decide_eq_true h2
          have h3' := of_decide_eq_true h3
          rw [List.length_map] at h2' h3'
          obtain ⟨f, e, n, nf⟩ := far_add hb cb (by omega) (by omega) cn (first / 80)
          refine ⟨cs ++ [f], by simp_arith [h1, h2, h3, e], n, by rw [List.length_append, List.length_singleton]; omega, fun c hc => ?_⟩
          rcases List.mem_append.mp hc with q | q
          · exact nb c q
          · rw [List.mem_singleton.mp q]; exact nf
  have fbd : ∀ c ∈ cs', BdS 200 c := fun c hc => near_bd (fb c hc) (by decide)
  obtain ⟨sk, e1, e2, r1, n1, m1⟩ := skins18 fbd fl fn
  have hli : ∀ xs : List Sp, listD [.list (xs.map eS)] = some (.list (xs.map eS)) := fun _ => rfl
  have nn : ∀ xs : List Sp, neD (.list (xs.map eS)) (.list (xs.map eS)) = some (.bool false) := fun xs => by rw [neD_eS, decide_eq_true rfl]; rfl
  have ee : eqD (.list (sk.map eS)) (.list (sk.map eS)) = some (.bool true) := by rw [eqD_eS, decide_eq_true rfl]
  have sp := fun xs => spots17 xs
  have tail : ∃ o4 o7 o8 o9 : Option PyData, (sIf (tV (ev2 (evA (aC (vr 2) aN) lenD) (kd (.int 0)) gtD)) (seqO (sSet 7 (ev2 (vr 3) (evA (aC (vr 2) aN) lenD) modD)) (seqO (sPopAt 4 8 (vr 7)) (seqO (sTake 9 (flatG (evC 1 (aC (vr 4) aN) f_skin_of))) (seqO (sIf (tO (tN (tV (evC 1 (aC (vr 9) aN) f__law_spots))) (tV (ev2 (vr 9) (evC 1 (aC (ev2 (evS (vr 2) oN (oS (vr 7))) (evS (vr 2) (oS (ev2 (vr 7) (kd (.int 1)) add3D)) oN) add3D) aN) f__law_due) neD))) (sRet (kd (.bool false))) sN) (seqO (sApp 4 (vr 8)) (sIf (tV (ev2 (evC 1 (aC (vr 4) aN) f_skin_of) (vr 6) neD)) (sRet (kd (.bool false))) sN)))))) sN) [some (.list (ns.map .int)), some (.list [.int b.1, .int b.2.1, .int b.2.2]), some (.list (cs'.map eS)), some (.int first), some (.list (cs'.map eS)), some (.list (sk.map eS)), some (.list (sk.map eS)), none, none, none] = some (.nx [some (.list (ns.map .int)), some (.list [.int b.1, .int b.2.1, .int b.2.2]), some (.list (cs'.map eS)), some (.int first), o4, some (.list (sk.map eS)), some (.list (sk.map eS)), o7, o8, o9]) := by
    cases h2 : decide ((0 : Int) < (((cs'.map eS).length : Nat) : Int)) with
    | false => exact ⟨_, _, _, _, by simp_arith [h2]; rfl⟩
    | true =>
      have h2' := of_decide_eq_true h2
      rw [List.length_map] at h2'
      have a1 := Int.emod_nonneg first (b := (cs'.length : Int)) (by omega)
      have a2 := Int.emod_lt_of_pos first (b := (cs'.length : Int)) (by omega)
      have e3 : modD (.int first) (.int (((cs'.map eS).length : Nat) : Int)) = some (.int (first % (cs'.length : Int))) := by rw [List.length_map]; exact mod_pos _ (by omega)
      obtain ⟨i, hi⟩ : ∃ i : Nat, first % (cs'.length : Int) = (i : Int) := ⟨(first % (cs'.length : Int)).toNat, by omega⟩
      rw [hi] at a1 a2 e3
      have hk : i < cs'.length := by omega
      have e4 : popAtD (.list (cs'.map eS)) (.int (i : Int)) = some (eS cs'[i], .list ((cs'.eraseIdx i).map eS)) := by
        show (ob (if -1000 ≤ (i : Int) ∧ (i : Int) ≤ 1000 then seqIndex? (i : Int) (cs'.map eS).length else none) fun n => ob ((cs'.map eS)[n]?) fun d => some (d, PyData.list ((cs'.map eS).eraseIdx n))) = _
        rw [if_pos (by omega), seqIx a1 (by rw [List.length_map]; exact a2), ob_s, Int.toNat_natCast, List.getElem?_map, List.getElem?_eq_getElem hk, map_erase]
        rfl
      have pe : (cs'.eraseIdx i ++ [cs'[i]]).Perm cs' := by
        rw [List.eraseIdx_eq_take_drop_succ, List.append_assoc]
        conv => rhs; rw [← List.take_append_drop i cs', List.drop_eq_getElem_cons hk]
        exact (List.perm_append_comm (l₁ := cs'.drop (i + 1)) (l₂ := [cs'[i]])).append_left _
      have le : (cs'.eraseIdx i).length ≤ 20 := by
        have := pe.length_eq
        rw [List.length_append, List.length_singleton] at this
        omega
      have ne : (cs'.eraseIdx i).Nodup := List.Nodup.sublist (List.eraseIdx_sublist _ _) fn
      obtain ⟨sk2, f1, f2, s1, _, _⟩ := skins18 (cs := cs'.eraseIdx i) (fun c hc => fbd c (List.mem_of_mem_eraseIdx hc)) le ne
      obtain ⟨sk3, g1, _, t1, u1, v1⟩ := skins18 (cs := cs'.eraseIdx i ++ [cs'[i]]) (fun c hc => fbd c (pe.mem_iff.mp hc)) (by rw [pe.length_eq]; exact fl) (pe.nodup_iff.mpr fn)
      have e5 : sk3 = sk := skin_perm pe t1 u1 v1 r1 n1 m1
      rw [e5] at g1
      have k1 := cut_to (cs'.map eS) (i := i) (by rw [List.length_map]; omega)
      have k2 := cut_from (cs'.map eS) (i := i + 1) (by rw [List.length_map]; omega)
      have k2 : sliD (.list (cs'.map eS)) (some ((i : Int) + 1)) none = some (.list ((cs'.map eS).drop (i + 1))) := k2
      have k3 : add3D (.list ((cs'.map eS).take i)) (.list ((cs'.map eS).drop (i + 1))) = some (.list ((cs'.eraseIdx i).map eS)) := by
        rw [add3D_l _ _ (by rw [List.length_take, List.length_drop, List.length_map]; omega), ← List.eraseIdx_eq_take_drop_succ, map_erase]
      have hz : ((cs'.eraseIdx i).map eS).length < 1000 := by rw [List.length_map]; omega
      have e6 : ((cs'.eraseIdx i).map eS) ++ [eS cs'[i]] = (cs'.eraseIdx i ++ [cs'[i]]).map eS := by rw [List.map_append]; rfl
      have fz := flatO_eS sk2
      exact ⟨_, _, _, _, by simp_arith [h2, e3, e4, f1, fz, sp, k1, k2, k3, f2, nn, hz, e6, g1]; rfl⟩
  obtain ⟨o4, o7, o8, o9, et⟩ := tail
  have fz := flatO_eS sk
  have e : u_law (rho0 N_law.length [.list (ns.map .int)]) = some (.rt (.bool true)) := by
    unfold u_law
    refine seq_nx (ρ' := [some (.list (ns.map .int)), some (.list [.int b.1, .int b.2.1, .int b.2.2]), none, none, none, none, none, none, none, none]) (by simp_arith [c1, c2, c3, be']) ?_
    refine seq_nx (ρ' := [some (.list (ns.map .int)), some (.list [.int b.1, .int b.2.1, .int b.2.2]), some (.list (cs.map eS)), none, none, none, none, none, none, none]) (by simp_arith [em, ec]) ?_
    refine seq_nx (ρ' := [some (.list (ns.map .int)), some (.list [.int b.1, .int b.2.1, .int b.2.2]), some (.list (cs.map eS)), some (.int first), none, none, none, none, none, none]) (by simp_arith [c0]) ?_
    refine seq_nx ef ?_
    refine seq_nx (ρ' := [some (.list (ns.map .int)), some (.list [.int b.1, .int b.2.1, .int b.2.2]), some (.list (cs'.map eS)), some (.int first), some (.list (cs'.map eS)), none, none, none, none, none]) (by simp_arith [hli]) ?_
    refine seq_nx (ρ' := [some (.list (ns.map .int)), some (.list [.int b.1, .int b.2.1, .int b.2.2]), some (.list (cs'.map eS)), some (.int first), some (.list (cs'.map eS)), some (.list (sk.map eS)), none, none, none, none]) (by simp_arith [e1, fz]) ?_
    refine seq_nx (ρ' := [some (.list (ns.map .int)), some (.list [.int b.1, .int b.2.1, .int b.2.2]), some (.list (cs'.map eS)), some (.int first), some (.list (cs'.map eS)), some (.list (sk.map eS)), none, none, none, none]) (by simp_arith [nn, sp, e2]) ?_
    refine seq_nx (ρ' := [some (.list (ns.map .int)), some (.list [.int b.1, .int b.2.1, .int b.2.2]), some (.list (cs'.map eS)), some (.int first), some (.list (cs'.map eS)), some (.list (sk.map eS)), some (.list (sk.map eS)), none, none, none]) (by simp_arith [hli]) ?_
    refine seq_nx et ?_
    simp_arith [ee]
  unfold f_law
  rw [e]
  rfl
theorem all_mk {l : PySem.W.OpenLaw} {w : World} {K : PySem.W.Frag} {h : Heap} {fa f10 : Addr} (X : K.In h) (G : h.Ns mainGlobals mg) (hfa : mg "law" = some (.ref fa))
    {od10 an10 : Option Addr} {sl10 : Array (Option Value)} {oc10 kV10 dc10 pm10 cd10 ct10 : Value}
    (h0 : FnK K "added" Tq9)
    (h1 : FnK K "middle_of" Tq5)
    (h2 : FnK K "skin_of" Tq8)
    (h3 : FnK K "_law_cell_at" Tq1)
    (h4 : FnK K "_law_whole" Tq2)
    (h5 : FnK K "_law_spots" Tq3)
    (h6 : FnK K "_law_base" Tq6)
    (h7 : FnK K "_law_cubes" Tq4)
    (h8 : FnK K "_law_due" Tq7)
    (h9 : FnK K "_law_with_far" Tq0)
    (a10 : PySem.W.nsIn K mainGlobals "law" = some (some (.ref f10))) (l10 : K.lookup f10 = some ⟨oc10, od10, .func (PySem.W.fnOf "law" "law" (defArgs Tq10) (defBody Tq10) (defScope Tq10) .none kV10 dc10 pm10 an10 cd10 ct10), sl10⟩) (c10 : PySem.W.codeIn K cd10 "law" = true) (k10 : PySem.W.keepIn K (.ref f10) = true)
    (z0 : PySem.W.nsIn K mainGlobals "sorted" = some none)
    (z1 : PySem.W.nsIn K mainGlobals "len" = some none)
    (z2 : PySem.W.nsIn K mainGlobals "isinstance" = some none)
    (z3 : PySem.W.nsIn K mainGlobals "int" = some none)
    (z4 : PySem.W.nsIn K mainGlobals "bool" = some none)
    (z5 : PySem.W.nsIn K mainGlobals "list" = some none)
    (z6 : PySem.W.nsIn K mainGlobals "tuple" = some none)
    (z7 : PySem.W.nsIn K mainGlobals "range" = some none)
    {kc0_a0 : Addr}
    {kc0_d0 : Option Addr}
    {kc0_n0 : Nat}
    {kc0_s0 : Array (Option Value)}
    {kc0_a4 : Addr}
    {kc0_d4 : Option Addr}
    {kc0_n4 : Nat}
    {kc0_s4 : Array (Option Value)}
    {kc0_t8 : Tok}
    {kc0_t9 : Tok}
    {kc0_t10 : Tok}
    {kc0_a11 : Addr}
    {kc0_d11 : Option Addr}
    {kc0_n11 : Nat}
    {kc0_s11 : Array (Option Value)}
    {kc0_t15 : Tok}
    {kc0_t16 : Tok}
    {kc0_t17 : Tok}
    {kc0_a18 : Addr}
    {kc0_d18 : Option Addr}
    {kc0_n18 : Nat}
    {kc0_s18 : Array (Option Value)}
    {kc0_t22 : Tok}
    {kc0_t23 : Tok}
    {kc0_t24 : Tok}
    {kc0_a25 : Addr}
    {kc0_d25 : Option Addr}
    {kc0_n25 : Nat}
    {kc0_s25 : Array (Option Value)}
    {kc0_t29 : Tok}
    {kc0_t30 : Tok}
    {kc0_t31 : Tok}
    {kc0_a32 : Addr}
    {kc0_d32 : Option Addr}
    {kc0_n32 : Nat}
    {kc0_s32 : Array (Option Value)}
    {kc0_t36 : Tok}
    {kc0_t37 : Tok}
    {kc0_t38 : Tok}
    {kc0_a39 : Addr}
    {kc0_d39 : Option Addr}
    {kc0_n39 : Nat}
    {kc0_s39 : Array (Option Value)}
    {kc0_t43 : Tok}
    {kc0_t44 : Tok}
    {kc0_t45 : Tok}
    (kc0 : PySem.W.nsIn K mainGlobals "UNITS" = some (some (.ref kc0_a0)))
    (kc0_h0 : K.lookup kc0_a0 = some ⟨.type "tuple", kc0_d0, .seq #[(.ref kc0_a4), (.ref kc0_a11), (.ref kc0_a18), (.ref kc0_a25), (.ref kc0_a32), (.ref kc0_a39)] kc0_n0, kc0_s0⟩)
    (kc0_h4 : K.lookup kc0_a4 = some ⟨.type "tuple", kc0_d4, .seq #[(.int (-1) kc0_t8), (.int (0) kc0_t9), (.int (0) kc0_t10)] kc0_n4, kc0_s4⟩)
    (kc0_h11 : K.lookup kc0_a11 = some ⟨.type "tuple", kc0_d11, .seq #[(.int (0) kc0_t15), (.int (-1) kc0_t16), (.int (0) kc0_t17)] kc0_n11, kc0_s11⟩)
    (kc0_h18 : K.lookup kc0_a18 = some ⟨.type "tuple", kc0_d18, .seq #[(.int (0) kc0_t22), (.int (0) kc0_t23), (.int (-1) kc0_t24)] kc0_n18, kc0_s18⟩)
    (kc0_h25 : K.lookup kc0_a25 = some ⟨.type "tuple", kc0_d25, .seq #[(.int (0) kc0_t29), (.int (0) kc0_t30), (.int (1) kc0_t31)] kc0_n25, kc0_s25⟩)
    (kc0_h32 : K.lookup kc0_a32 = some ⟨.type "tuple", kc0_d32, .seq #[(.int (0) kc0_t36), (.int (1) kc0_t37), (.int (0) kc0_t38)] kc0_n32, kc0_s32⟩)
    (kc0_h39 : K.lookup kc0_a39 = some ⟨.type "tuple", kc0_d39, .seq #[(.int (1) kc0_t43), (.int (0) kc0_t44), (.int (0) kc0_t45)] kc0_n39, kc0_s39⟩)
    : ∃ fd : FuncData, (∀ (s : Shared) (v : Value), BindsTo s fd ⟨[v], []⟩ [("_law_script", v)]) ∧ ∀ base : Heap, K.In base → base.Ns mainGlobals mg → FnOk l.prog w K mg base CX0 3 fa fd ["_law_script"] (spLawT K 63) := by
  have g {n : Str} {v : Value} (e : PySem.W.nsIn K mainGlobals n = some (some v)) : mg n = some v := PySem.W.mg_of X G e
  have e := hfa.symm.trans (g a10)
  cases e
  obtain ⟨f0, d0, a0, F0⟩ := h0
  have b0 := F0.binds (ps := ["one", "other"]) fun _ _ _ _ _ _ us hl => match us, hl with | [_, _], _ => rfl
  obtain ⟨f1, d1, a1, F1⟩ := h1
  have b1 := F1.binds (ps := ["cube"]) fun _ _ _ _ _ _ us hl => match us, hl with | [_], _ => rfl
  obtain ⟨f2, d2, a2, F2⟩ := h2
  have b2 := F2.binds (ps := ["cubes"]) fun _ _ _ _ _ _ us hl => match us, hl with | [_], _ => rfl
  obtain ⟨f3, d3, a3, F3⟩ := h3
  have b3 := F3.binds (ps := ["_law_script", "_law_k"]) fun _ _ _ _ _ _ us hl => match us, hl with | [_, _], _ => rfl
  obtain ⟨f4, d4, a4, F4⟩ := h4
  have b4 := F4.binds (ps := ["_law_found"]) fun _ _ _ _ _ _ us hl => match us, hl with | [_], _ => rfl
  obtain ⟨f5, d5, a5, F5⟩ := h5
  have b5 := F5.binds (ps := ["_law_found"]) fun _ _ _ _ _ _ us hl => match us, hl with | [_], _ => rfl
  obtain ⟨f6, d6, a6, F6⟩ := h6
  have b6 := F6.binds (ps := ["_law_cells"]) fun _ _ _ _ _ _ us hl => match us, hl with | [_], _ => rfl
  obtain ⟨f7, d7, a7, F7⟩ := h7
  have b7 := F7.binds (ps := ["_law_cells", "_law_base_here"]) fun _ _ _ _ _ _ us hl => match us, hl with | [_, _], _ => rfl
  obtain ⟨f8, d8, a8, F8⟩ := h8
  have b8 := F8.binds (ps := ["_law_cubes_here"]) fun _ _ _ _ _ _ us hl => match us, hl with | [_], _ => rfl
  obtain ⟨f9, d9, a9, F9⟩ := h9
  have b9 := F9.binds (ps := ["_law_cubes_here", "_law_cell"]) fun _ _ _ _ _ _ us hl => match us, hl with | [_, _], _ => rfl
  have F10 := fun_mk (st := Tq10) l10 c10 k10
  have z_sorted := PySem.W.mg_none_of X G z0
  have z_len := PySem.W.mg_none_of X G z1
  have z_isinstance := PySem.W.mg_none_of X G z2
  have z_int := PySem.W.mg_none_of X G z3
  have z_bool := PySem.W.mg_none_of X G z4
  have z_list := PySem.W.mg_none_of X G z5
  have z_tuple := PySem.W.mg_none_of X G z6
  have z_range := PySem.W.mg_none_of X G z7
  have C_UNITS : ConstK K mg "UNITS" d_UNITS := ⟨(.ref kc0_a0), (.ref kc0_a0), PySem.W.mg_of X G kc0, rfl, fun H S => (.tuple (xs := [(.ref kc0_a4), (.ref kc0_a11), (.ref kc0_a18), (.ref kc0_a25), (.ref kc0_a32), (.ref kc0_a39)]) (.inr ⟨_, _, _, kc0_h0, rfl, rfl, (show 6 ≤ sizeLine by decide), (.cons rfl (.cons rfl (.cons rfl (.cons rfl (.cons rfl (.cons rfl .nil))))))⟩) (.cons (.tuple (xs := [(.int (-1)), (.int (0)), (.int (0))]) (.inr ⟨_, _, _, kc0_h4, rfl, rfl, (show 3 ≤ sizeLine by decide), (.cons ⟨_, rfl⟩ (.cons ⟨_, rfl⟩ (.cons ⟨_, rfl⟩ .nil)))⟩) (.cons (.int (-1)) (.cons (.int (0)) (.cons (.int (0)) .nil)))) (.cons (.tuple (xs := [(.int (0)), (.int (-1)), (.int (0))]) (.inr ⟨_, _, _, kc0_h11, rfl, rfl, (show 3 ≤ sizeLine by decide), (.cons ⟨_, rfl⟩ (.cons ⟨_, rfl⟩ (.cons ⟨_, rfl⟩ .nil)))⟩) (.cons (.int (0)) (.cons (.int (-1)) (.cons (.int (0)) .nil)))) (.cons (.tuple (xs := [(.int (0)), (.int (0)), (.int (-1))]) (.inr ⟨_, _, _, kc0_h18, rfl, rfl, (show 3 ≤ sizeLine by decide), (.cons ⟨_, rfl⟩ (.cons ⟨_, rfl⟩ (.cons ⟨_, rfl⟩ .nil)))⟩) (.cons (.int (0)) (.cons (.int (0)) (.cons (.int (-1)) .nil)))) (.cons (.tuple (xs := [(.int (0)), (.int (0)), (.int (1))]) (.inr ⟨_, _, _, kc0_h25, rfl, rfl, (show 3 ≤ sizeLine by decide), (.cons ⟨_, rfl⟩ (.cons ⟨_, rfl⟩ (.cons ⟨_, rfl⟩ .nil)))⟩) (.cons (.int (0)) (.cons (.int (0)) (.cons (.int (1)) .nil)))) (.cons (.tuple (xs := [(.int (0)), (.int (1)), (.int (0))]) (.inr ⟨_, _, _, kc0_h32, rfl, rfl, (show 3 ≤ sizeLine by decide), (.cons ⟨_, rfl⟩ (.cons ⟨_, rfl⟩ (.cons ⟨_, rfl⟩ .nil)))⟩) (.cons (.int (0)) (.cons (.int (1)) (.cons (.int (0)) .nil)))) (.cons (.tuple (xs := [(.int (1)), (.int (0)), (.int (0))]) (.inr ⟨_, _, _, kc0_h39, rfl, rfl, (show 3 ≤ sizeLine by decide), (.cons ⟨_, rfl⟩ (.cons ⟨_, rfl⟩ (.cons ⟨_, rfl⟩ .nil)))⟩) (.cons (.int (1)) (.cons (.int (0)) (.cons (.int (0)) .nil)))) .nil)))))))⟩
  refine ⟨PySem.W.fnOf "law" "law" (defArgs Tq10) (defBody Tq10) (defScope Tq10) .none kV10 dc10 pm10 an10 cd10 ct10, fun s v => .of_eq rfl, fun base _ _ => ?_⟩
  have b10 := F10.binds (ps := ["_law_script"]) fun _ _ _ _ _ _ us hl => match us, hl with | [_], _ => rfl
  have K_added := k_added l.prog w base F0 (g a0) b0
  have K_middle_of := k_middle_of l.prog w base F1 (g a1) b1
  have K_skin_of := k_skin_of l.prog w base F2 (g a2) b2 K_added K_middle_of z_sorted C_UNITS
  have K__law_cell_at := k__law_cell_at l.prog w base F3 (g a3) b3 z_len
  have K__law_whole := k__law_whole l.prog w base F4 (g a4) b4 z_isinstance z_int z_bool
  have K__law_spots := k__law_spots l.prog w base F5 (g a5) b5 K__law_whole z_isinstance z_list z_tuple z_len
  have K__law_base := k__law_base l.prog w base F6 (g a6) b6
  have K__law_cubes := k__law_cubes l.prog w base F7 (g a7) b7 z_list z_len z_tuple
  have K__law_due := k__law_due l.prog w base F8 (g a8) b8 z_list z_tuple z_range z_sorted
  have K__law_with_far := k__law_with_far l.prog w base F9 (g a9) b9 z_list z_len z_tuple
  exact law_true (ok_law l.prog w base F10 K__law_base K__law_cell_at K__law_cubes K__law_with_far K_skin_of K__law_spots K__law_due z_len z_list) law_holds
end SF
open PySem PySem.W PyProof.Rows
set_option maxRecDepth 100000 in
set_option maxHeartbeats 0 in
theorem PySem.Challenge.cw_sheetfold_k18_skins_holds : PySem.Challenge.rw_sheetfold_k18_skins.Holds := by
  w_on; o_law
  refine PySem.W.holds_open (q := HD.vw) (YP := (PySem.W.kHook HD.KH HD.kA HD.kE).says) HD.left (PySem.W.Hook.of _) (PySem.W.Hook.keeps _) (fun s e => PySem.W.xl_of s (Bool.and_eq_true_iff.mp e).1) PySem.W.XL.keeps (by rfl) (by rfl) (by rfl) (fun s e => PySem.W.recFacts_of (Bool.and_eq_true_iff.mp e).2) (by rfl) (by first | assumption | decide +kernel) (by decide +kernel) ⟨rfl, rfl, rfl, rfl, rfl, by decide +kernel⟩ ?hw ?hc
  case hw => w_witness2
  k_fill
  refine L2.walk_pure (l := PySem.Challenge.rw_sheetfold_k18_skins) (n := 63) (k := 3) (x := "_law_script") rfl (by decide) rfl ⟨rfl, by decide, by decide, rfl⟩ (fun w h Y => PySem.W.kIn_of Y) ?F
  case F =>
    intro w mg fa h KX G hmg
    refine' SF.all_mk KX G hmg ?_ ?_ ?_ ?_ ?_ ?_ ?_ ?_ ?_ ?_ ?_ ?_ ?_ ?_ ?_ ?_ ?_ ?_ ?_ ?_ ?_ ?_ ?_ ?_ ?_ ?_ ?_ ?_ ?_ ?_
    all_goals try first | k_is | exact L2.FnK.of (by k_is) (by k_is) (by k_is) (by k_is) | kernel_rfl
