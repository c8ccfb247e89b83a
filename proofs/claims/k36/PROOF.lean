import PyProof.Rows.All
import KE.IntBitsLaws
import KE.KIsAll
import KE.KSortTup
import Lean
import PyProof.EqAt
import PyProof.EqKinds
import PyProof.TupleCall
import PySem.Challenge.RW_sheetfold_k36_ends_in_order
set_option Elab.async false
set_option linter.all false
set_option maxRecDepth 100000
namespace HD
open PySem PySem.W PySem.Calls PyProof.Rows
noncomputable def vw : Program := view PySem.Challenge.pw_sheetfold_k36_ends_in_order [1, 3, 4, 5, 6, 7]
def tp (i : Nat) : Stmt := PySem.Challenge.pw_sheetfold_k36_ends_in_order.main.body.getD i (.Pass ⟨0, 0, 0, 0⟩)
def dA : Stmt → Arguments
  | .FunctionDef _ a _ _ _ _ _ _ _ _ => a
  | _ => default
def dB : Stmt → List Stmt
  | .FunctionDef _ _ b _ _ _ _ _ _ _ => b
  | _ => []
def dS : Stmt → Scope
  | .FunctionDef _ _ _ _ _ _ s _ _ _ => s
  | _ => default
abbrev de (P : Params) (x : String) (t : Nat) (v : Value) : DictEntry := DictEntry.mk (PyData.keyHash P (Str.ofString x)) (Value.str (Str.ofString x) t) v
abbrev S (x : String) (t : Nat) : Value := Value.str (Str.ofString x) t
abbrev I (n : Int) (t : Nat) : Value := Value.int n t
abbrev R (a : Addr) : Value := Value.ref a
abbrev Y (x : String) : Value := Value.type x
abbrev N : Value := Value.none
abbrev tu (a : Array Value) : Obj := Obj.mk (Value.type "tuple") Option.none (Data.seq a) #[]
abbrev cc (x : String) (t1 t2 t3 : Nat) (l n : Int) (a1 : Addr) (k : Int) (a2 : Addr) (u v : Value) (a3 : Addr) (t4 : Int) (t5 : Nat) : Obj := Obj.mk (Value.type "code") Option.none (Data.fields #[S x t1, S x t2, S "/claim/cut.py" t3, I l 0, I n 0, I 0 0, I 0 0, I 3 0, R a1, Value.bool Bool.true, I k 0, R a2, N, u, v, R a3, I t4 0, I l 0, S "/claim/cut.py" t5]) #[]
abbrev xc (x : String) (e a d b : Addr) (t u : Nat) : Obj := Obj.mk (Y "type") Option.none (Data.cls (ClassData.mk (Str.ofString x) [R e] [R a, R e, Y "ValueError", Y "Exception", Y "BaseException", Y "object"] d (Str.ofString x) Bool.true [] [] Bool.false Option.none Bool.false)) #[Option.some (R b), Option.none, Option.some (S x t), Option.some (S x u), Option.some (Value.builtin "ValueError.__new__"), Option.some (Value.bool Bool.true)]
abbrev xd (P : Params) (t1 t2 t3 : Nat) (l : Int) (t4 t5 : Nat) (a : Addr) (t6 : Nat) : Obj := Obj.mk (Y "dict") Option.none (Data.dict #[de P "__module__" t1 (S "sheetfold.errors" t2), de P "__firstlineno__" t3 (I l t4), de P "__static_attributes__" t5 (R a), de P "__doc__" t6 N] 2) #[]
abbrev fu (x : String) (i : Nat) (m : String) (t : Nat) (c : Addr) : Obj := Obj.mk (Value.type "function") Option.none (Data.func (FuncData.mk (Str.ofString x) (Str.ofString x) (dA (tp i)) (FuncBody.stmts (dB (tp i))) (dS (tp i)) 3 [] N N N (S m t) Option.none (R c) N 0)) #[]
set_option maxHeartbeats 0 in
noncomputable def KH : Params → Frag := fun P =>
(nat_lit 2, Obj.mk N Option.none (Data.dict #[]) #[]) ::
(nat_lit 3, Obj.mk (Y "dict") Option.none (Data.dict #[de P "__name__" 165 (S "law_sheetfold_k36_ends_in_order" 196), de P "__doc__" 166 N, de P "__package__" 167 N, de P "__loader__" 168 (Value.builtin "__main__.__loader__#opaque"), de P "__spec__" 169 N, de P "__annotations__" 170 (R 6), de P "__builtins__" 171 (R 4), de P "__file__" 173 (S "/claim/cut.py" 172), de P "__cached__" 174 N, de P "ends_of" 195 (R 21), de P "_law_cell" 205 (R 28), de P "_law_end" 211 (R 33), de P "_law_drawn" 217 (R 38), de P "_law_walked" 227 (R 45), de P "law" 238 (R 52)] 15) #[]) ::
(nat_lit 6, Obj.mk (Y "dict") Option.none (Data.dict #[]) #[]) ::
(nat_lit 15, tu #[]) ::
(nat_lit 17, tu #[S "paper" 192]) ::
(nat_lit 18, tu #[]) ::
(nat_lit 20, cc "ends_of" 189 190 191 2 1 15 181 16 (R 17) (R 18) 19 193 194) ::
(nat_lit 21, fu "ends_of" 1 "sheetfold.papers" 187 20) ::
(nat_lit 22, tu #[]) ::
(nat_lit 24, tu #[S "_law_script" 201, S "_law_k" 202]) ::
(nat_lit 25, tu #[]) ::
(nat_lit 27, cc "_law_cell" 198 199 200 7 2 22 181 23 (R 24) (R 25) 26 203 204) ::
(nat_lit 28, fu "_law_cell" 3 "law_sheetfold_k36_ends_in_order" 196 27) ::
(nat_lit 29, tu #[]) ::
(nat_lit 32, cc "_law_end" 206 207 208 11 1 29 181 30 N N 31 209 210) ::
(nat_lit 33, fu "_law_end" 4 "law_sheetfold_k36_ends_in_order" 196 32) ::
(nat_lit 34, tu #[]) ::
(nat_lit 37, cc "_law_drawn" 212 213 214 20 3 34 181 35 N N 36 215 216) ::
(nat_lit 38, fu "_law_drawn" 5 "law_sheetfold_k36_ends_in_order" 196 37) ::
(nat_lit 39, tu #[]) ::
(nat_lit 41, tu #[S "_law_paper" 221, S "_law_made" 222, S "_law_pile" 223, S "_law_one" 224]) ::
(nat_lit 42, tu #[]) ::
(nat_lit 44, cc "_law_walked" 218 219 220 27 1 39 181 40 (R 41) (R 42) 43 225 226) ::
(nat_lit 45, fu "_law_walked" 6 "law_sheetfold_k36_ends_in_order" 196 44) ::
(nat_lit 46, tu #[]) ::
(nat_lit 48, tu #[S "_law_script" 231, S "_law_paper" 232, S "_law_aside" 233, S "_law_found" 234, S "_law_end_here" 235]) ::
(nat_lit 49, tu #[]) ::
(nat_lit 51, cc "law" 228 229 230 37 1 46 181 47 (R 48) (R 49) 50 236 237) ::
(nat_lit 52, fu "law" 7 "law_sheetfold_k36_ends_in_order" 196 51) :: []
def kA : List Addr := [2, 3, 6, 15, 17, 18, 20, 21, 22, 24, 25, 27, 28, 29, 32, 33, 34, 37, 38, 39, 41, 42, 44, 45, 46, 48, 49, 51, 52]
theorem kE (P : Params) : kA = (KH P).map (·.1) := by kernel_rfl
noncomputable abbrev hk : Hook := kHook KH kA kE
noncomputable def tfQ (tr : (String → Option Builtin) → Program → World → Nat → Option Value → Nat → Shared → Thread → Option Shared) (tb : String → Option Builtin) (p : Program) (w : World) (N : Nat) (s : Shared) : Option Shared :=
  match s.heap.isNs mainGlobals && s.gens.size == 0 with
  | true => (tr tb p w s.heap.objs.size (s.heap.nsMap mainGlobals "__annotations__") N s (topStub p)).bind fun u =>
      match staticsOk (importedModules p.main.body) s.heap u.heap && namesBound p u.heap && gensDone u && laidKept s.heap u.heap with
      | true => some u
      | false => none
  | false => none
theorem tf_q (p : Program) (w : World) (N : Nat) : topFrom treeTable p w N = tfQ Fast.tw14082659384304107361 Fast.tw14364793385576792824 p w N := by
  rw [← Fast.te14082659384304107361, ← Fast.te14364793385576792824]
  rfl
noncomputable def opQ (p : Program) (w : World) (N : Nat) : Option Shared :=
  (Fast.tw10274390034422433532 Fast.tw14364793385576792824 (opening p) w N (Fast.tw1435165496053646825 (opening p)).1 (Fast.tw1435165496053646825 (opening p)).2).bind (Fast.tw14289696077712309145 p)
theorem op_q (p : Program) (w : World) (N : Nat) : fencedOpening treeTable p w N = opQ p w N := by
  unfold opQ
  rw [← Fast.te10274390034422433532, ← Fast.te14364793385576792824, ← Fast.te1435165496053646825, ← Fast.te14289696077712309145]
  rfl
noncomputable def endsQ (p : Program) (w : World) (N : Nat) : Option Shared := (opQ p w N).bind (tfQ Fast.tw14082659384304107361 Fast.tw14364793385576792824 p w N)
theorem ends_q (p : Program) (w : World) (N : Nat) : openEnds treeTable p w N = endsQ p w N := by
  unfold openEnds endsQ
  rw [op_q, tf_q]
set_option maxHeartbeats 0 in
theorem left : LeftO PySem.Challenge.pw_sheetfold_k36_ends_in_order vw [] (fun s => xlAt vw [] s && recOk (RowW.records (OpenRow.toRowW (OpenLaw.row PySem.Challenge.rw_sheetfold_k36_ends_in_order))) s) (Hook.obs hk) (Hook.val hk) 880 := by
  intro w
  rw [ends_q, Fast.te4187177175401517315]
  kernel_rfl
end HD
/-! THE HAND LAYER, for ints, bools, texts, own classes, LISTS and tuples (index, slices, in, append, pop ..), calls, loops. Paste it whole ahead of your own text; what your proof does not reach may be deleted. -/
namespace L2
open PySem PySem.Spec PyProof.Rows

/-- a key: an int or a str -/
abbrev Key := Sum Int Str
def keyIs : Key → Value → Bool
  | .inl k, v => Value.isInt k v
  | .inr x, v => Value.isStrOf x v
def keyH (w : World) : Key → Int
  | .inl k => hashInt k
  | .inr x => hashStr w x
theorem keyIs_shape : ∀ {k : Key} {v : Value}, keyIs k v = true → (∃ i t, k = Sum.inl i ∧ v = Value.int i t) ∨ (∃ x t, k = Sum.inr x ∧ v = Value.str x t)
  | .inl i, v, h => by
    obtain ⟨t, e⟩ := Value.isInt_shape (k := i) (v := v) h
    exact .inl ⟨i, t, rfl, e⟩
  | .inr x, v, h => by
    obtain ⟨t, e⟩ := Value.isStrOf_shape (x := x) (v := v) h
    exact .inr ⟨x, t, rfl, e⟩
theorem key_ll (a b : Int) : decide ((Sum.inl a : Key) = Sum.inl b) = (a == b) := by
  by_cases e : a = b
  · subst e; simp
  · have h : ¬ (Sum.inl a : Key) = Sum.inl b := fun q => e (Sum.inl.inj q)
    rw [decide_eq_false h]
    exact (beq_eq_false_iff_ne.mpr e).symm
theorem key_rr (a b : Str) : decide ((Sum.inr a : Key) = Sum.inr b) = decide (a = b) := by
  by_cases e : a = b
  · subst e; simp
  · have h : ¬ (Sum.inr a : Key) = Sum.inr b := fun q => e (Sum.inr.inj q)
    rw [decide_eq_false h, decide_eq_false e]
theorem key_lr (a : Int) (b : Str) : decide ((Sum.inl a : Key) = Sum.inr b) = false := decide_eq_false (fun q => nomatch q)
theorem key_rl (a : Str) (b : Int) : decide ((Sum.inr a : Key) = Sum.inl b) = false := decide_eq_false (fun q => nomatch q)

def mixKind (prog : Program) (w : World) : PySem.KeyKind prog w Key where
  is := keyIs
  hash := keyH w
  inj := fun v a b ha hb => by
    rcases keyIs_shape ha with ⟨i, t, rfl, rfl⟩ | ⟨x, t, rfl, rfl⟩
    · rcases keyIs_shape hb with ⟨j, u, rfl, e⟩ | ⟨y, u, rfl, e⟩
      · injection e with e1 _; rw [e1]
      · exact nomatch e
    · rcases keyIs_shape hb with ⟨j, u, rfl, e⟩ | ⟨y, u, rfl, e⟩
      · exact nomatch e
      · injection e with e1 _; rw [e1]
  byValue := fun k v h => by
    rcases keyIs_shape h with ⟨i, t, rfl, rfl⟩ | ⟨x, t, rfl, rfl⟩ <;> rfl
  pyHash := fun hv h => by
    rcases keyIs_shape hv with ⟨i, t, rfl, rfl⟩ | ⟨x, t, rfl, rfl⟩
    · exact wpAny_pyHash_int h
    · exact wpAny_pyHash_str h
  eqBool := fun hu hv h => by
    rcases keyIs_shape hu with ⟨i, t, rfl, rfl⟩ | ⟨x, t, rfl, rfl⟩
    · rcases keyIs_shape hv with ⟨j, u, rfl, rfl⟩ | ⟨y, u, rfl, rfl⟩
      · rw [key_ll] at h; exact wpAny_eqBool_int h
      · rw [key_lr] at h; exact SeqAt.EqAt.int_str i t y u _ _ _ _ h
    · rcases keyIs_shape hv with ⟨j, u, rfl, rfl⟩ | ⟨y, u, rfl, rfl⟩
      · rw [key_rl] at h; exact SeqAt.EqAt.str_int x t j u _ _ _ _ h
      · rw [key_rr] at h; exact wpAny_eqBool_str h
  «strs» := fun k x t v h => by
    rcases keyIs_shape h with ⟨i, u, rfl, e⟩ | ⟨y, u, rfl, e⟩
    · exact nomatch e
    · injection e with e1 _
      subst e1
      cases v <;> rfl

end L2

namespace L2
open PySem PySem.Spec PyProof.Rows

/-- a value, without the heap -/
inductive V where
  | non | bl (b : Bool) | int (i : Int) | str (x : Str) | byt (b : Array UInt8) | flt (b : UInt64) | ref (a : Addr) | ty (n : String)
  deriving DecidableEq

def RelV : V → Value → Prop
  | .non, u => u = Value.none
  | .bl b, u => u = Value.bool b
  | .int i, u => ∃ t, u = Value.int i t
  | .str x, u => ∃ t, u = Value.str x t
  | .byt b, u => ∃ t, u = Value.bytes b t
  | .flt b, u => ∃ t, u = Value.float b t
  | .ref a, u => u = Value.ref a
  | .ty n, u => u = Value.type n

abbrev Vals : List V → List Value → Prop := Paired RelV
theorem Vals.length {xs : List V} {us : List Value} (r : Vals xs us) : xs.length = us.length := Paired.length r
theorem Vals.get : ∀ {xs : List V} {us : List Value} {i : Nat} {x : V}, Vals xs us → xs[i]? = some x → ∃ u, us[i]? = some u ∧ RelV x u
  | _, _, _, _, .nil, e => by simp at e
  | _, _, 0, _, .cons r _, e => by simp at e; subst e; exact ⟨_, rfl, r⟩
  | _, _, i + 1, x, .cons _ t, e => by
    obtain ⟨u, h1, h2⟩ := Vals.get (i := i) (x := x) t (by simpa using e)
    exact ⟨u, by simpa using h1, h2⟩
theorem Vals.set {x : V} {u : Value} (r : RelV x u) : ∀ {xs : List V} {us : List Value} (i : Nat), Vals xs us → Vals (xs.set i x) (us.set i u)
  | _, _, _, .nil => .nil
  | _, _, 0, .cons _ t => .cons r t
  | _, _, i + 1, .cons q t => .cons q (Vals.set r i t)
theorem Vals.append {xs ys : List V} {us ws : List Value} (h : Vals xs us) (s : Vals ys ws) : Vals (xs ++ ys) (us ++ ws) := by
  induction h with
  | nil => exact s
  | cons r _ ih => exact .cons r ih
theorem Vals.take : ∀ {xs : List V} {us : List Value} (n : Nat), Vals xs us → Vals (xs.take n) (us.take n)
  | _, _, 0, _ => .nil
  | _, _, _ + 1, .nil => .nil
  | _, _, n + 1, .cons r t => .cons r (Vals.take n t)
theorem Vals.drop : ∀ {xs : List V} {us : List Value} (n : Nat), Vals xs us → Vals (xs.drop n) (us.drop n)
  | _, _, 0, r => r
  | _, _, _ + 1, .nil => .nil
  | _, _, n + 1, .cons _ t => Vals.drop n t
def RelO : Option V → Option Value → Prop
  | some v, some u => RelV v u
  | none, none => True
  | _, _ => False
def KV {κ : Type} : List (κ × V) → List (κ × Value) → Prop := Paired fun (p : κ × V) (q : κ × Value) => p.1 = q.1 ∧ RelV p.2 q.2

/-- a key of a dict (00_mix): an int or a text -/
def kV : Key → V
  | .inl i => .int i
  | .inr x => .str x

/-- what stands at a tracked address -/
inductive HO where
  /-- a list -/
  | lst (xs : List V)
  /-- a tuple (never changes) -/
  | tup (xs : List V)
  /-- a dict whose keys are ints and texts; one whose keys are tuples of ints and texts (the empty one is both) -/
  | dK (kvs : List (Key × V)) | dT (kvs : List (List Key × V))
  /-- a set of ints: its members, its size -/
  | set (S : Int → Bool) (n : Nat)
  /-- an instance of the class at C, its dict at dx, its attributes -/
  | ins (C dx : Addr) (fs : List (Str × V))
  /-- the dict of the instance at x -/
  | own (x : Addr)
  /-- the dict of an exception -/
  | xd (fs : List (Str × V))
  /-- a bound method, f of x -/
  | met (f x : Addr)
  /-- a range object lo, lo + 1, .. below hi -/
  | rng (lo hi : Int)
  /-- a thing that is known to the object (the script; a dict while a loop walks it): read, never written while it is so -/
  | frz (o : Obj) (u : HO)
  /-- a code object's table -/
  | tbl (ps : Array Value)
  /-- any other thing, by what is true of its one object (a def of one's own: SetO a S n := HO.ext fun h => ..) -/
  | ext (φ : Heap → Prop)

abbrev Hp := Addr → Option HO
def upd (H : Hp) (a : Addr) (o : HO) : Hp := fun b => if b = a then some o else H b
theorem upd_same {H : Hp} {a : Addr} {o : HO} : upd H a o a = some o := by unfold upd; rw [if_pos rfl]
theorem upd_ne {H : Hp} {a b : Addr} {o : HO} (h : b ≠ a) : upd H a o b = H b := by unfold upd; rw [if_neg h]
theorem ne_of_none {H : Hp} {a b : Addr} {o : HO} (h : H a = some o) (h' : H b = none) : a ≠ b := by
  intro e; subst e; rw [h] at h'; cases h'

section
variable (P : Program) (w : World)
def ObjOk (H : Hp) (h : Heap) (a : Addr) : HO → Prop
  | .lst xs => xs.length ≤ sizeLine ∧ ∃ (its : List Value) (n : Nat), Vals xs its ∧ h.get? a = some { cls := .type "list", data := .seq its.toArray n }
  | .tup xs => xs.length ≤ sizeLine ∧ ∃ its : List Value, Vals xs its ∧ IsTup h a its.toArray
  | .dK kvs => kvs.length ≤ sizeLine ∧ (a == sysModules) = false ∧ ∃ vs, KV kvs vs ∧ h.DictOf (mixKind P w) a vs
  | .dT kvs => kvs.length ≤ sizeLine ∧ (a == sysModules) = false ∧ ∃ xs : List (List Key × Addr × Value),
      Paired (fun (p : List Key × V) (q : List Key × Addr × Value) => p.1 = q.1 ∧ H q.2.1 = some (.tup (p.1.map kV)) ∧ RelV p.2 q.2.2) kvs xs ∧
      ∃ o es ep, h.get? a = some o ∧ o.ExactDict ∧ o.data = .dict es ep ∧ es.toList = xs.map (entryOfKey (tupleKind (mixKind P w))) ∧ (xs.map (·.1)).Nodup
  | .set S n => h.SetOf (intKind P w) a S n
  | .ins C dx fs => H dx = some (.own a) ∧ fs.length ≤ 1000 ∧ dx ≠ a ∧ h.get? a = some (PySem.W.instObj C dx) ∧
      ∃ mA, h.Ns1 dx mA ∧ (∀ f, RelO (fs.lookup f) (mA f)) ∧ PySem.Within mA (fs.map (·.1))
  | .own _ => ∃ o, h.get? a = some o
  | .xd fs => ∃ mA, h.Ns1 a mA ∧ ∀ f, RelO (fs.lookup f) (mA f)
  | .rng lo hi => ∃ t u v, h.get? a = some { cls := .type "range", data := .fields #[.int lo t, .int hi u, .int 1 v] }
  | .frz o u => h.get? a = some o ∧ ObjOk H h a u
  | .tbl ps => h.get? a = some { cls := .none, data := .fields ps }
  | .met f x => h.get? a = some (PySem.W.methodObj (.ref f) (.ref x))
  | .ext φ => φ h ∧ (∃ o, h.get? a = some o) ∧ ∀ h1 h2 : Heap, φ h1 → (∀ o, h1.get? a = some o → h2.get? a = some o) → φ h2
/-- the abstract heap is held -/
def HOk (H : Hp) (h : Heap) : Prop := ∀ a o, H a = some o → ObjOk P w H h a o
end

section
variable {P : Program} {w : World} {H H' : Hp} {h h' : Heap} {a : Addr} {o : HO}
theorem ObjOk.lt (x : ObjOk P w H h a o) : a < h.objs.size := by
  cases o with
  | lst xs => obtain ⟨_, _, _, _, e⟩ := x; exact Heap.lt_size e
  | tup xs => obtain ⟨_, _, _, p⟩ := x; exact p.lt
  | dK kvs => obtain ⟨_, _, _, _, o, _, _, e, _⟩ := x; exact Heap.lt_size e
  | dT kvs => obtain ⟨_, _, _, _, o, _, _, e, _⟩ := x; exact Heap.lt_size e
  | set S n => obtain ⟨o, _, _, _, e, _⟩ := x; exact Heap.lt_size e
  | ins C dx fs => obtain ⟨_, _, _, e, _⟩ := x; exact Heap.lt_size e
  | own y => obtain ⟨_, e⟩ := x; exact Heap.lt_size e
  | xd fs => obtain ⟨_, ⟨_, _, _, e, _⟩, _⟩ := x; exact Heap.lt_size e
  | rng lo hi => obtain ⟨_, _, _, e⟩ := x; exact Heap.lt_size e
  | frz ob u => obtain ⟨e, _⟩ := x; exact Heap.lt_size e
  | tbl ps => exact Heap.lt_size (show h.get? a = some _ from x)
  | met f y => exact Heap.lt_size (show h.get? a = some _ from x)
  | ext φ => obtain ⟨_, ⟨_, e⟩, _⟩ := x; exact Heap.lt_size e
theorem Paired.mapP {α β : Type} {F G : α → β → Prop} : ∀ {l₁ : List α} {l₂ : List β}, Paired F l₁ l₂ → (∀ a b, F a b → G a b) → Paired G l₁ l₂
  | _, _, .nil, _ => .nil
  | _, _, .cons r t, f => .cons (f _ _ r) (Paired.mapP t f)
/-- what an object's description leans on: its own object, its own dict, the tuples -/
theorem ObjOk.stay (x : ObjOk P w H h a o) (k : ∀ b u, (b = a ∨ H b = some (.own a)) → h.get? b = some u → h'.get? b = some u)
    (ho : ∀ b, H b = some (.own a) → H' b = some (.own a)) (ht : ∀ b xs, H b = some (.tup xs) → H' b = some (.tup xs)) : ObjOk P w H' h' a o := by
  induction o with
  | lst xs => obtain ⟨z, its, n, r, e⟩ := x; exact ⟨z, its, n, r, k _ _ (.inl rfl) e⟩
  | tup xs => obtain ⟨z, its, r, ob, e, c⟩ := x; exact ⟨z, its, r, ob, k _ _ (.inl rfl) e, c⟩
  | dK kvs => obtain ⟨z, y, vs, r, ob, es, ep, e, c⟩ := x; exact ⟨z, y, vs, r, ob, es, ep, k _ _ (.inl rfl) e, c⟩
  | dT kvs =>
    obtain ⟨z, y, xs, r, ob, es, ep, e, c⟩ := x
    exact ⟨z, y, xs, Paired.mapP r fun p q z => ⟨z.1, ht _ _ z.2.1, z.2.2⟩, ob, es, ep, k _ _ (.inl rfl) e, c⟩
  | set S n => obtain ⟨ob, es, ep, t, e, c⟩ := x; exact ⟨ob, es, ep, t, k _ _ (.inl rfl) e, c⟩
  | ins C dx fs =>
    obtain ⟨d, z, ne, e, mA, ⟨od, es, ep, e2, c⟩, r⟩ := x
    exact ⟨ho _ d, z, ne, k _ _ (.inl rfl) e, mA, ⟨od, es, ep, k _ _ (.inr d) e2, c⟩, r⟩
  | own y => obtain ⟨ob, e⟩ := x; exact ⟨ob, k _ _ (.inl rfl) e⟩
  | xd fs => obtain ⟨mA, ⟨od, es, ep, e, c⟩, r⟩ := x; exact ⟨mA, ⟨od, es, ep, k _ _ (.inl rfl) e, c⟩, r⟩
  | rng lo hi => obtain ⟨t, u, v, e⟩ := x; exact ⟨t, u, v, k _ _ (.inl rfl) e⟩
  | frz ob u ih => obtain ⟨e, q⟩ := x; exact ⟨k _ _ (.inl rfl) e, ih q⟩
  | tbl ps =>
    have e : h.get? a = some { cls := .none, data := .fields ps } := x
    show h'.get? a = some { cls := .none, data := .fields ps }
    exact k a _ (.inl rfl) e
  | met f y =>
    have e : h.get? a = some (PySem.W.methodObj (.ref f) (.ref y)) := x
    show h'.get? a = some (PySem.W.methodObj (.ref f) (.ref y))
    exact k a _ (.inl rfl) e
  | ext φ => obtain ⟨p, ⟨o, e⟩, st⟩ := x; exact ⟨st _ _ p fun o q => k _ _ (.inl rfl) q, ⟨o, k _ _ (.inl rfl) e⟩, st⟩
theorem HOk.lt (x : HOk P w H h) (e : H a = some o) : a < h.objs.size := (x a o e).lt
theorem HOk.fresh (x : HOk P w H h) (e : h.objs.size ≤ a) : H a = none := by
  cases q : H a with
  | none => rfl
  | some u => exact absurd (Nat.lt_of_lt_of_le (x.lt q) e) (Nat.lt_irrefl _)
/-- every object of the heap is kept -/
theorem HOk.kept (x : HOk P w H h) (k : ∀ b u, h.get? b = some u → h'.get? b = some u) : HOk P w H h' := fun a o e =>
  (x a o e).stay (fun b u _ q => k b u q) (fun _ q => q) fun _ _ q => q
/-- a new object is laid and tracked -/
theorem HOk.laid (x : HOk P w H h) (k : ∀ b u, h.get? b = some u → h'.get? b = some u) (hp : h.objs.size ≤ a) (new : ObjOk P w (upd H a o) h' a o) : HOk P w (upd H a o) h' := fun b u e => by
  have hn := x.fresh hp
  by_cases hb : b = a
  · subst hb; rw [upd_same] at e; cases e; exact new
  · rw [upd_ne hb] at e
    exact (x b u e).stay (fun c v _ q => k c v q) (fun c q => by rw [upd_ne (ne_of_none q hn)]; exact q) fun c xs q => by rw [upd_ne (ne_of_none q hn)]; exact q
end

/-- what may be read as u: it is u, or a known u -/
def Rd (H : Hp) (a : Addr) (u : HO) : Prop := H a = some u ∨ ∃ o, H a = some (.frz o u)
theorem Rd.of {H : Hp} {a : Addr} {u : HO} (h : H a = some u) : Rd H a u := .inl h
theorem Rd.ok {P : Program} {w : World} {H : Hp} {h : Heap} {a : Addr} {u : HO} (r : Rd H a u) (x : HOk P w H h) : ObjOk P w H h a u := by
  rcases r with r | ⟨o, r⟩
  · exact x a u r
  · obtain ⟨_, q⟩ := x a _ r
    exact q
/-- what may be written -/
def Mut : Option HO → Prop
  | some (.lst _) => True
  | some (.dK _) => True
  | some (.dT _) => True
  | some (.set _ _) => True
  | some (.ins _ _ _) => True
  | some (.ext _) => True
  | _ => False
section
variable {P : Program} {w : World} {H : Hp} {h h' : Heap} {x e : Addr} {o' : HO}
/-- the object at e is changed: x itself, or the dict of the instance x -/
theorem HOk.write (ok : HOk P w H h) (mu : Mut (H x)) (he : e = x ∨ H e = some (.own x)) (k : ∀ b u, b ≠ e → h.get? b = some u → h'.get? b = some u) (heo : ∃ u, h'.get? e = some u)
    (new : ObjOk P w (upd H x o') h' x o') : HOk P w (upd H x o') h' := fun b u q => by
  have nown : ∀ c y, H c = some (.own y) → c ≠ x := fun c y r z => by subst z; rw [r] at mu; exact mu
  have ntup : ∀ c xs, H c = some (.tup xs) → c ≠ x := fun c xs r z => by subst z; rw [r] at mu; exact mu
  by_cases hb : b = x
  · subst hb; rw [upd_same] at q; cases q; exact new
  · rw [upd_ne hb] at q
    by_cases hbe : b = e
    · have q' : H b = some (.own x) := by
        rcases he with z | z
        · exact absurd (hbe.trans z) hb
        · rw [hbe]; exact z
      rw [q] at q'; cases q'
      obtain ⟨v, hv⟩ := heo
      exact ⟨v, by rw [hbe]; exact hv⟩
    · refine (ok b u q).stay (fun c v hc r => k c v ?_ r) (fun c r => by rw [upd_ne (nown c b r)]; exact r) fun c xs r => by rw [upd_ne (ntup c xs r)]; exact r
      rcases hc with rfl | hc
      · exact hbe
      · rintro rfl
        rcases he with z | z
        · exact nown c b hc z
        · rw [hc] at z; cases z; exact hb rfl
end

/-! ### kept unless tracked; of the frames at fs (the callers') the slots may change (an exception that passes writes there); of the records at ex (iterators) nothing is said -/
structure Un (fs ex : List Addr) (H H' : Hp) (h h' : Heap) : Prop where
  keep : ∀ b o, h.get? b = some o → H b = none → b ∉ fs → b ∉ ex → h'.get? b = some o
  slot : ∀ b o, h.get? b = some o → H b = none → b ∈ fs → b ∉ ex → ∃ sl, h'.get? b = some { o with slots := sl }
  free : ∀ b o, h.get? b = some o → H b = none → b ∉ ex → H' b = none
  there : ∀ b o, h.get? b = some o → b ∉ ex → ∃ o', h'.get? b = some o'
  tups : ∀ b xs, H b = some (.tup xs) → H' b = some (.tup xs)
  frzs : ∀ b o u, H b = some (.frz o u) → H' b = some (.frz o u)
  tbls : ∀ b ps, H b = some (.tbl ps) → ∃ more, H' b = some (.tbl (ps ++ more))
section
variable {fs fs' ex ex' : List Addr} {H H1 H2 : Hp} {h h1 h2 h' : Heap} {a x e : Addr} {o : HO}
theorem Un.any (u : Un fs ex H H1 h h1) {b : Addr} {ob : Obj} (q : h.get? b = some ob) (n : H b = none) (hx : b ∉ ex) : ∃ sl, h1.get? b = some { ob with slots := sl } := by
  by_cases hb : b ∈ fs
  · exact u.slot b ob q n hb hx
  · exact ⟨ob.slots, u.keep b ob q n hb hx⟩
theorem Un.trans (a : Un fs ex H H1 h h1) (b : Un fs ex H1 H2 h1 h2) : Un fs ex H H2 h h2 where
  keep := fun c ob q n hc hx => b.keep c ob (a.keep c ob q n hc hx) (a.free c ob q n hx) hc hx
  slot := fun c ob q n hc hx => by
    obtain ⟨sl, e1⟩ := a.slot c ob q n hc hx
    obtain ⟨sl', e2⟩ := b.slot c _ e1 (a.free c ob q n hx) hc hx
    exact ⟨sl', e2⟩
  free := fun c ob q n hx => by
    obtain ⟨o', e1⟩ := a.there c ob q hx
    exact b.free c o' e1 (a.free c ob q n hx) hx
  there := fun c ob q hx => by
    obtain ⟨o', e1⟩ := a.there c ob q hx
    exact b.there c o' e1 hx
  tups := fun c xs q => b.tups c xs (a.tups c xs q)
  frzs := fun c ob xs q => b.frzs c ob xs (a.frzs c ob xs q)
  tbls := fun c ps q => by
    obtain ⟨m1, e1⟩ := a.tbls c ps q
    obtain ⟨m2, e2⟩ := b.tbls c _ e1
    exact ⟨m1 ++ m2, by rw [e2, Array.append_assoc]⟩
theorem Un.kept (k : ∀ b u, h.get? b = some u → h'.get? b = some u) : Un fs ex H H h h' :=
  ⟨fun b ob q _ _ _ => k b ob q, fun b ob q _ _ _ => ⟨ob.slots, k b ob q⟩, fun _ _ _ n _ => n, fun b ob q _ => ⟨ob, k b ob q⟩, fun _ _ q => q, fun _ _ _ q => q, fun _ ps q => ⟨#[], by rw [q]; simp⟩⟩
theorem Un.refl : Un fs ex H H h h := Un.kept fun _ _ q => q
theorem Un.laid (k : ∀ b u, h.get? b = some u → h'.get? b = some u) (hp : h.objs.size ≤ a) (hn : H a = none) : Un fs ex H (upd H a o) h h' where
  keep := fun b u q _ _ _ => k b u q
  slot := fun b u q _ _ _ => ⟨u.slots, k b u q⟩
  free := fun b u q n _ => by rw [upd_ne (Nat.ne_of_lt (Nat.lt_of_lt_of_le (Heap.lt_size q) hp))]; exact n
  there := fun b u q _ => ⟨u, k b u q⟩
  tups := fun b xs q => by rw [upd_ne (ne_of_none q hn)]; exact q
  frzs := fun b u xs q => by rw [upd_ne (ne_of_none q hn)]; exact q
  tbls := fun b ps q => ⟨#[], by rw [upd_ne (ne_of_none q hn), q]; simp⟩
theorem Un.write (mu : Mut (H x)) (he : e = x ∨ H e = some (.own x)) (k : ∀ b u, b ≠ e → h.get? b = some u → h'.get? b = some u) (heo : ∃ u, h'.get? e = some u) : Un fs ex H (upd H x o) h h' := by
  have hx : ∀ b, H b = none → b ≠ x := fun b n z => by subst z; rw [n] at mu; exact mu
  have hb : ∀ b, H b = none → b ≠ e := fun b n z => by
    subst z
    rcases he with r | r
    · exact hx b n r
    · rw [n] at r; cases r
  have hm : ∀ b u, H b = some u → ¬ Mut (some u) → b ≠ x := fun b u q nm z => by subst z; rw [q] at mu; exact nm mu
  refine ⟨fun b u q n _ _ => k b u (hb b n) q, fun b u q n _ _ => ⟨u.slots, k b u (hb b n) q⟩, fun b u q n _ => by rw [upd_ne (hx b n)]; exact n, fun b u q _ => ?_,
    fun b xs q => by rw [upd_ne (hm b _ q fun z => z)]; exact q, fun b u xs q => by rw [upd_ne (hm b _ q fun z => z)]; exact q, fun b ps q => ⟨#[], by rw [upd_ne (hm b _ q fun z => z), q]; simp⟩⟩
  by_cases hbe : b = e
  · subst hbe; exact heo
  · exact ⟨u, k b u hbe q⟩
theorem Un.mono (u : Un fs ex H H1 h h1) (hs : ∀ b ∈ fs, b ∈ fs') (hx : ∀ b ∈ ex, b ∈ ex') : Un fs' ex' H H1 h h1 :=
  ⟨fun b ob q n hb he => u.keep b ob q n (fun z => hb (hs b z)) fun z => he (hx b z), fun _ _ q n _ he => u.any q n fun z => he (hx _ z), fun b ob q n he => u.free b ob q n fun z => he (hx b z), fun b ob q he => u.there b ob q fun z => he (hx b z), u.tups, u.frzs, u.tbls⟩
end

/-! ### the heap without what is tracked -/
def trk (h : Heap) (H : Hp) : List Addr := (List.range h.objs.size).filter fun a => (H a).isSome
def hidT (h : Heap) (H : Hp) : Heap := PySem.W.hideAll h (trk h H)
theorem hidT_size (h : Heap) (H : Hp) : (hidT h H).objs.size = h.objs.size := PySem.W.hideAll_size _ _
theorem hidT_get {h : Heap} {H : Hp} {b : Addr} {o : Obj} (e : h.get? b = some o) (n : H b = none) : (hidT h H).get? b = some o :=
  PySem.W.hideAll_get _ e fun hm => by
    have q : (H b).isSome = true := (List.mem_filter.mp hm).2
    rw [n] at q; simp at q
theorem of_hidT {h : Heap} {H : Hp} {b : Addr} {o : Obj} (e : (hidT h H).get? b = some o) : h.get? b = some o ∧ H b = none := by
  have e' : h.get? b = some o := PySem.W.of_hideAll (trk h H) e
  refine ⟨e', ?_⟩
  cases q : H b with
  | none => rfl
  | some x =>
    have hm : b ∈ trk h H := List.mem_filter.mpr ⟨List.mem_range.mpr (Heap.lt_size e'), by simp [q]⟩
    have z : (hidT h H).get? b = none := PySem.W.hideAll_none (trk h H) hm
    rw [z] at e; cases e

/-! ### OpenK's ledger, filled with every new object but one -/
def allNews (g h : Heap) (L : Addr) : List (Addr × Obj) := (List.range h.objs.size).filterMap fun a => if a = L ∨ (g.get? a).isSome = true then none else (h.get? a).map fun o => (a, o)
def rest (g h : Heap) (L d : Addr) : List (Addr × Obj) := (allNews g h L).filter fun p => decide (p.1 ≠ d)
end L2

namespace L2
open PySem PySem.Spec PyProof.Rows

/-- the module's facts, over the base: the heap at the law's entry without what is tracked there -/
structure Mod (K : PySem.W.Frag) (mg : Str → Option Value) (base : Heap) : Prop where
  kin : K.In base
  glob : base.Ns mainGlobals mg
  blt : ∃ mb, base.Ns builtinsNs mb ∧ ∀ x : Str, x ≠ "__name__" → mb x = bootBuiltins x
  nolimit : base.NoLimit

/-- the context: a def's body (or a comprehension's block) running. base: fixed through the whole law; s₀, H₀: the entry; outer: the frames whose slots others may change (a def's callers); stack: all frames that run;
   ex: iterators that were made ahead of the entry and are walked here (a comprehension's); fn: the names whose cells were made at the entry (a def: all; a comprehension's block: its own); calm: not within an except suite; pn: pins that every state bears; xe: what is wanted of an exception that leaves the code -/
structure Cx where
  prog : Program
  w : World
  K : PySem.W.Frag
  mg : Str → Option Value
  base : Heap
  A : Around
  N : List Str
  s₀ : Shared
  H₀ : Hp
  env : Env
  outer : List Env
  stack : List Env
  ex : List Addr
  fn : Str → Bool
  calm : Bool
  pn : List (Addr × Obj)
  xe : Value → Shared → Prop
/-- the callers' frames -/
def frs (l : List Env) : List Addr := l.filterMap (·.frame)
abbrev Cx.fs (X : Cx) : List Addr := frs X.outer

def Vis (sc : Scope) (x : Str) : Prop := sc.names.lookup x = some .local ∨ sc.names.lookup x = some .cell ∨ sc.names.lookup x = some .free
def Loc (sc : Scope) (x : Str) : Prop := sc.names.lookup x = some .local ∨ sc.names.lookup x = some .cell
def Look (env : Env) (h : Heap) (m : Str → Option Value) (x : Str) (u : Value) : Prop :=
  (env.kindOf x = some .local ∧ m x = some u) ∨ ((env.kindOf x = some .cell ∨ env.kindOf x = some .free) ∧ ∃ c, env.cells.lookup x = some c ∧ h.IsCell c (some u))

structure Cx.Ok (X : Cx) : Prop where
  mod : Mod X.K X.mg X.base
  kind : X.env.scope.kind = .function
  glob : X.env.globals = mainGlobals
  blt : X.env.builtins = builtinsNs
  above : X.s₀.heap.objs.size ≤ X.env.locals
  inj : ∀ x y c, X.env.cells.lookup x = some c → X.env.cells.lookup y = some c → x = y
  has : ∀ x, (X.env.kindOf x = some .cell ∨ X.env.kindOf x = some .free) → ∃ c, X.env.cells.lookup x = some c
  cab : ∀ x c, X.fn x = true → X.env.cells.lookup x = some c → X.s₀.heap.objs.size ≤ c
  hd : X.calm = true → X.A.handled = none
  frames : X.A.frames = some X.stack
  stk : X.stack = X.outer ∨ (X.stack = X.env :: X.outer ∧ X.env.frame = some X.env.locals)
  exf : ∀ b ∈ X.ex, b ≠ X.env.locals ∧ ∀ x c, X.env.cells.lookup x = some c → c ≠ b
  bs : ∀ b o, X.base.get? b = some o → X.s₀.heap.get? b = some o ∧ X.H₀ b = none
  bsz : X.base.objs.size ≤ X.s₀.heap.objs.size
  noex : ∀ b o, X.base.get? b = some o → b ∉ X.ex
  exfs : ∀ b ∈ X.ex, b ∉ X.fs
  funs : X.s₀.heap.FunFrames X.base X.outer
  frf : ∀ b ∈ X.fs, X.H₀ b = none

structure Inv (X : Cx) (pins : List (Addr × Obj)) (σ : List (Option V)) (H : Hp) (s : Shared) : Prop where
  ok : X.Ok
  os : s.os = X.s₀.os
  bare : AllBare s.gens
  base : Un X.fs X.ex X.H₀ H X.s₀.heap s.heap
  loc : ∃ m, s.heap.Ns X.env.locals m ∧ ∀ (i : Nat) (x : Str) (v : V), X.N[i]? = some x → σ[i]? = some (some v) → Vis X.env.scope x → ∃ u, RelV v u ∧ Look X.env s.heap m x u
  cell : ∀ x c, X.env.cells.lookup x = some c → ∃ v, s.heap.IsCell c v
  free : H X.env.locals = none
  freeC : ∀ x c, X.env.cells.lookup x = some c → H c = none
  pin : ∀ p ∈ X.pn ++ pins, s.heap.get? p.1 = some p.2 ∧ H p.1 = none ∧ p.1 ≠ X.env.locals ∧ p.1 ∉ X.fs ∧ ∀ v, p.2.data ≠ .cell v
  hok : HOk X.prog X.w H s.heap
  len : σ.length = X.N.length

section
variable {X : Cx} {pins : List (Addr × Obj)} {σ : List (Option V)} {H H' : Hp} {s : Shared} {h' : Heap}

theorem Cx.Ok.nofr (ok : X.Ok) {b : Addr} {o : Obj} (e : X.base.get? b = some o) : b ∉ X.fs := fun hb => by
  have := (ok.funs.mem hb).1
  rw [e] at this; cases this
theorem Inv.bs (I : Inv X pins σ H s) : ∀ b o, X.base.get? b = some o → s.heap.get? b = some o ∧ H b = none := fun b o e =>
  ⟨I.base.keep b o (I.ok.bs b o e).1 (I.ok.bs b o e).2 (I.ok.nofr e) (I.ok.noex b o e), I.base.free b o (I.ok.bs b o e).1 (I.ok.bs b o e).2 (I.ok.noex b o e)⟩
theorem Inv.bk (I : Inv X pins σ H s) : ∀ b o, X.base.get? b = some o → s.heap.get? b = some o := fun b o e => (I.bs b o e).1
theorem Inv.mod (I : Inv X pins σ H s) : Mod X.K X.mg X.base := I.ok.mod
theorem Inv.kIn (I : Inv X pins σ H s) : X.K.In s.heap := I.ok.mod.kin.keeps I.bk
theorem Inv.nolimit (I : Inv X pins σ H s) : s.heap.NoLimit := I.ok.mod.nolimit.keeps I.bk
/-- the frame over the base: for OpenK's rules (K.In X.base is I.mod.kin) -/
theorem Inv.fr (I : Inv X pins σ H s) : ∃ m, Fr X.base X.env.locals s.heap m :=
  let ⟨m, hn, _⟩ := I.loc
  ⟨m, hn, I.bk, Nat.le_trans I.ok.bsz I.ok.above⟩
theorem Inv.lt (I : Inv X pins σ H s) : X.env.locals < s.heap.objs.size := let ⟨_, hn, _⟩ := I.loc; hn.lt
theorem Inv.sz (I : Inv X pins σ H s) : X.s₀.heap.objs.size ≤ s.heap.objs.size := Nat.le_trans I.ok.above (Nat.le_of_lt I.lt)
theorem Inv.nofs (I : Inv X pins σ H s) {a : Addr} (h : s.heap.objs.size ≤ a) : a ∉ X.fs := fun hb => by
  obtain ⟨_, o, ho, _⟩ := I.ok.funs.mem hb
  exact absurd (Nat.lt_of_lt_of_le (Heap.lt_size ho) (Nat.le_trans I.sz h)) (Nat.lt_irrefl _)
theorem Inv.cne (I : Inv X pins σ H s) : ∀ x c, X.env.cells.lookup x = some c → c ≠ X.env.locals := fun x c e z => by
  obtain ⟨v, o, ho, hd⟩ := I.cell x c e
  obtain ⟨m, ⟨o', es, ep, ho', hd', _⟩, _⟩ := I.loc
  rw [z, ho'] at ho; cases ho; rw [hd'] at hd; cases hd
theorem Inv.funs (I : Inv X pins σ H s) : s.heap.FunFrames X.base X.outer := by
  have all : ∀ (l : List Env), (∀ b ∈ frs l, b ∈ X.fs) → X.s₀.heap.FunFrames X.base l → s.heap.FunFrames X.base l := by
    intro l
    induction l with
    | nil => intro _ _; trivial
    | cons env r ih =>
      intro hs hl
      obtain ⟨hk, ⟨L, o, hf, hn, ho, hd⟩, hr⟩ := hl
      have hL : L ∈ X.fs := hs L (by unfold frs; rw [List.filterMap_cons, hf]; exact List.mem_cons_self)
      obtain ⟨sl, e⟩ := I.base.slot L o ho (I.ok.frf L hL) hL fun z => I.ok.exfs L z hL
      exact ⟨hk, ⟨L, _, hf, hn, e, hd⟩, ih (fun b hb => hs b (by unfold frs; rw [List.filterMap_cons, hf]; exact List.mem_cons_of_mem _ hb)) hr⟩
  exact all X.outer (fun _ hb => hb) I.ok.funs

/-- the frames that run, for a call -/
theorem Inv.stack (I : Inv X pins σ H s) : s.heap.FunFrames X.base X.stack := by
  rcases I.ok.stk with e | ⟨e, hf⟩
  · rw [e]; exact I.funs
  · rw [e]
    obtain ⟨m, hn, _⟩ := I.loc
    refine .cons (by rw [I.ok.kind]; decide) hf hn ?_ I.funs
    exact Heap.get?_none_of_le (Nat.le_trans I.ok.bsz I.ok.above)
theorem Inv.stkSub (I : Inv X pins σ H s) : ∀ b ∈ frs X.stack, b ∈ X.env.locals :: X.fs := fun b hb => by
  rcases I.ok.stk with e | ⟨e, hf⟩
  · rw [e] at hb; exact List.mem_cons_of_mem _ hb
  · rw [e] at hb
    unfold frs at hb
    rw [List.filterMap_cons, hf] at hb
    exact hb
theorem Inv.stkFree (I : Inv X pins σ H s) : ∀ b ∈ frs X.stack, H b = none := fun b hb => by
  rcases List.mem_cons.mp (I.stkSub b hb) with e | hb
  · rw [e]; exact I.free
  · obtain ⟨_, o, ho, _⟩ := I.ok.funs.mem hb
    exact I.base.free b o ho (I.ok.frf b hb) fun z => I.ok.exfs b z hb

/-- THE STEP: the untracked objects but the frame and the records at ch are kept (the callers' frames up to slots), the frame's map is kept, the new abstract heap is held -/
theorem Inv.step {g' : Array GenState} {t' : Nat} {d' : Drawn} {ch : List Addr} (I : Inv X pins σ H s)
    (hch : ∀ b ∈ ch, (b ∈ X.ex ∨ X.s₀.heap.objs.size ≤ b) ∧ b ≠ X.env.locals ∧ (∀ x c, X.env.cells.lookup x = some c → c ≠ b) ∧ ∀ p ∈ X.pn ++ pins, p.1 ≠ b)
    (keep : ∀ b o, b ≠ X.env.locals → b ∉ X.fs → b ∉ ch → s.heap.get? b = some o → H b = none → h'.get? b = some o)
    (slot : ∀ b o, b ≠ X.env.locals → b ∈ X.fs → b ∉ ch → s.heap.get? b = some o → H b = none → ∃ sl, h'.get? b = some { o with slots := sl }) (free : ∀ b o, b ∉ ch → s.heap.get? b = some o → H b = none → H' b = none)
    (there : ∀ b o, b ∉ ch → s.heap.get? b = some o → ∃ o', h'.get? b = some o')
    (tups : ∀ b xs, H b = some (.tup xs) → H' b = some (.tup xs)) (frzs : ∀ b o u, H b = some (.frz o u) → H' b = some (.frz o u)) (tbls : ∀ b ps, H b = some (.tbl ps) → ∃ more, H' b = some (.tbl (ps ++ more)))
    (ns : ∀ m, s.heap.Ns X.env.locals m → h'.Ns X.env.locals m) (hok : HOk X.prog X.w H' h') (hg : AllBare g') :
    Inv X pins σ H' { s with heap := h', gens := g', drawn := d', toks := t' } := by
  have neL : ∀ b o, X.s₀.heap.get? b = some o → b ≠ X.env.locals := fun b o e => Nat.ne_of_lt (Nat.lt_of_lt_of_le (Heap.lt_size e) I.ok.above)
  have neC : ∀ b o, X.s₀.heap.get? b = some o → b ∉ X.ex → b ∉ ch := fun b o e hx hb => by
    rcases (hch b hb).1 with z | z
    · exact hx z
    · exact absurd (Nat.lt_of_lt_of_le (Heap.lt_size e) z) (Nat.lt_irrefl _)
  have cellK : ∀ x c, X.env.cells.lookup x = some c → ∀ v, s.heap.IsCell c v → h'.IsCell c v := fun x c e v ⟨o, ho, hd⟩ => by
    have nch : c ∉ ch := fun z => (hch c z).2.2.1 x c e rfl
    by_cases hc : c ∈ X.fs
    · obtain ⟨sl, q⟩ := slot c o (I.cne x c e) hc nch ho (I.freeC x c e)
      exact ⟨_, q, hd⟩
    · exact ⟨o, keep c o (I.cne x c e) hc nch ho (I.freeC x c e), hd⟩
  refine ⟨I.ok, I.os, hg, ⟨fun b o e n hb hx => ?_, fun b o e n hb hx => ?_, fun b o e n hx => ?_, fun b o e hx => ?_, fun b xs e => tups b xs (I.base.tups b xs e), fun b o xs e => frzs b o xs (I.base.frzs b o xs e), fun b ps e => ?_⟩, ?_, fun x c e => ?_, ?_, fun x c e => ?_, fun p hp => ?_, hok, I.len⟩
  · exact keep b o (neL b o e) hb (neC b o e hx) (I.base.keep b o e n hb hx) (I.base.free b o e n hx)
  · obtain ⟨sl, e1⟩ := I.base.slot b o e n hb hx
    obtain ⟨sl', e2⟩ := slot b _ (neL b o e) hb (neC b o e hx) e1 (I.base.free b o e n hx)
    exact ⟨sl', e2⟩
  · obtain ⟨o', e1⟩ := I.base.there b o e hx
    exact free b o' (neC b o e hx) e1 (I.base.free b o e n hx)
  · obtain ⟨o', e1⟩ := I.base.there b o e hx
    exact there b o' (neC b o e hx) e1
  · obtain ⟨m1, e1⟩ := I.base.tbls b ps e
    obtain ⟨m2, e2⟩ := tbls b _ e1
    exact ⟨m1 ++ m2, by rw [e2, Array.append_assoc]⟩
  · obtain ⟨m, hn, hl⟩ := I.loc
    refine ⟨m, ns m hn, fun i x v e1 e2 e3 => ?_⟩
    obtain ⟨u, r, l⟩ := hl i x v e1 e2 e3
    refine ⟨u, r, ?_⟩
    rcases l with l | ⟨k, c, e, z⟩
    · exact .inl l
    · exact .inr ⟨k, c, e, cellK x c e _ z⟩
  · obtain ⟨v, z⟩ := I.cell x c e
    exact ⟨v, cellK x c e v z⟩
  · obtain ⟨m, ⟨o, _, _, ho, _⟩, _⟩ := I.loc
    exact free _ o (fun z => (hch _ z).2.1 rfl) ho I.free
  · obtain ⟨v, o, ho, hd⟩ := I.cell x c e
    exact free c o (fun z => (hch c z).2.2.1 x c e rfl) ho (I.freeC x c e)
  · obtain ⟨e, n, ne, nf, d⟩ := I.pin p hp
    have nch : p.1 ∉ ch := fun z => (hch p.1 z).2.2.2 p hp rfl
    exact ⟨keep p.1 p.2 ne nf nch e n, free p.1 p.2 nch e n, ne, nf, d⟩
/-- .. where the frame's own object is kept too -/
theorem Inv.un {t' : Nat} (I : Inv X pins σ H s) (u : Un X.fs [] H H' s.heap h') (hok : HOk X.prog X.w H' h') : Inv X pins σ H' { s with heap := h', toks := t' } := by
  obtain ⟨m, ⟨o, es, ep, ho, r⟩, _⟩ := id I.loc
  obtain ⟨sl, hL⟩ := u.any ho I.free (by simp)
  exact I.step (g' := s.gens) (d' := s.drawn) (ch := []) (fun _ z => nomatch z) (fun b o _ hb _ e n => u.keep b o e n hb (by simp)) (fun b o _ hb _ e n => u.slot b o e n hb (by simp)) (fun b o _ e n => u.free b o e n (by simp)) (fun b o _ e => u.there b o e (by simp)) u.tups u.frzs u.tbls (fun m' hm => by
    obtain ⟨o', es', ep', ho', r'⟩ := hm
    rw [ho] at ho'; cases ho'
    exact ⟨_, es', ep', hL, r'⟩) hok I.bare
/-- behind a call (or a comprehension's block): the slots of this frame may have changed too, the records at ch may have turned -/
theorem Inv.call {g' : Array GenState} {t' : Nat} {d' : Drawn} {ch : List Addr} (I : Inv X pins σ H s) (u : Un (frs X.stack) ch H H' s.heap h') (hok : HOk X.prog X.w H' h') (hg : AllBare g')
    (hch : ∀ b ∈ ch, (b ∈ X.ex ∨ X.s₀.heap.objs.size ≤ b) ∧ b ≠ X.env.locals ∧ (∀ x c, X.env.cells.lookup x = some c → c ≠ b) ∧ ∀ p ∈ X.pn ++ pins, p.1 ≠ b) :
    Inv X pins σ H' { s with heap := h', gens := g', drawn := d', toks := t' } := by
  obtain ⟨m, ⟨o, es, ep, ho, r⟩, _⟩ := id I.loc
  obtain ⟨sl, hL⟩ := u.any ho I.free fun z => (hch _ z).2.1 rfl
  exact I.step (ch := ch) hch (fun b o hL hb hc e n => u.keep b o e n (fun z => (List.mem_cons.mp (I.stkSub b z)).elim hL hb) hc) (fun b o _ _ hc e n => u.any e n hc) (fun b o hc e n => u.free b o e n hc) (fun b o hc e => u.there b o e hc) u.tups u.frzs u.tbls (fun m' hm => by
    obtain ⟨o', es', ep', ho', r'⟩ := hm
    rw [ho] at ho'; cases ho'
    exact ⟨_, es', ep', hL, r'⟩) hok hg
/-- an untracked record of ours (an iterator) has turned -/
theorem Inv.turned {t' : Nat} {it : Addr} (I : Inv X pins σ H s) (k : ∀ b o, b ≠ it → s.heap.get? b = some o → h'.get? b = some o) (hn : H it = none) (hL : it ≠ X.env.locals)
    (h1 : it ∈ X.ex ∨ X.s₀.heap.objs.size ≤ it) (h2 : ∀ x c, X.env.cells.lookup x = some c → c ≠ it) (h3 : ∀ p ∈ X.pn ++ pins, p.1 ≠ it) : Inv X pins σ H { s with heap := h', toks := t' } := by
  have nit : ∀ b u, H b = some u → b ≠ it := fun b u e z => by rw [z, hn] at e; cases e
  refine I.step (g' := s.gens) (d' := s.drawn) (ch := [it]) (fun b hb => ?_) (fun b o _ _ hc e _ => k b o (fun z => hc (by simp [z])) e) (fun b o _ _ hc e _ => ⟨o.slots, k b o (fun z => hc (by simp [z])) e⟩) (fun _ _ _ _ n => n)
    (fun b o hc e => ⟨o, k b o (fun z => hc (by simp [z])) e⟩) (fun _ _ e => e) (fun _ _ _ e => e) (fun b ps e => ⟨#[], by rw [e]; simp⟩) (fun m hm => ?_) (fun b u e => ?_) I.bare
  · have e : b = it := by simpa using hb
    subst e
    exact ⟨h1, hL, h2, h3⟩
  · obtain ⟨o, es, ep, ho, r⟩ := hm
    exact ⟨o, es, ep, k _ o (Ne.symm hL) ho, r⟩
  · refine (I.hok b u e).stay (fun c v hc q => k c v ?_ q) (fun _ q => q) fun _ _ q => q
    rcases hc with z | z
    · rw [z]; exact nit b u e
    · exact nit c _ z
theorem Inv.tok (I : Inv X pins σ H s) (t : Nat) : Inv X pins σ H { s with toks := t } := I.un (h' := s.heap) (t' := t) Un.refl I.hok
/-- all objects kept -/
theorem Inv.kept {t' : Nat} (I : Inv X pins σ H s) (k : ∀ b u, s.heap.get? b = some u → h'.get? b = some u) : Inv X pins σ H { s with heap := h', toks := t' } := I.un (Un.kept k) (I.hok.kept k)
/-- a new object laid and tracked -/
theorem Inv.laid {a : Addr} {o : HO} {t' : Nat} (I : Inv X pins σ H s) (k : ∀ b u, s.heap.get? b = some u → h'.get? b = some u) (hp : s.heap.objs.size ≤ a) (new : ObjOk X.prog X.w (upd H a o) h' a o) :
    Inv X pins σ (upd H a o) { s with heap := h', toks := t' } := I.un (Un.laid k hp (I.hok.fresh hp)) (I.hok.laid k hp new)
/-- an object written -/
theorem Inv.write {x e : Addr} {o : HO} {t' : Nat} (I : Inv X pins σ H s) (mu : Mut (H x)) (he : e = x ∨ H e = some (.own x)) (k : ∀ b u, b ≠ e → s.heap.get? b = some u → h'.get? b = some u) (heo : ∃ u, h'.get? e = some u)
    (new : ObjOk X.prog X.w (upd H x o) h' x o) : Inv X pins σ (upd H x o) { s with heap := h', toks := t' } := I.un (Un.write mu he k heo) (I.hok.write mu he k heo new)
/-- forgetting slots, pins -/
theorem Inv.weak {σ' : List (Option V)} (I : Inv X pins σ H s) (hl : σ'.length = σ.length) (w : ∀ (i : Nat) v, σ'[i]? = some (some v) → σ[i]? = some (some v)) : Inv X pins σ' H s :=
  ⟨I.ok, I.os, I.bare, I.base, let ⟨m, hn, hl'⟩ := I.loc; ⟨m, hn, fun i x v e1 e2 e3 => hl' i x v e1 (w i v e2) e3⟩, I.cell, I.free, I.freeC, I.pin, I.hok, hl.trans I.len⟩
theorem Inv.pins_of {pins' : List (Addr × Obj)} (I : Inv X pins σ H s) (h : ∀ p ∈ pins', s.heap.get? p.1 = some p.2 ∧ H p.1 = none ∧ p.1 ≠ X.env.locals ∧ p.1 ∉ X.fs ∧ ∀ v, p.2.data ≠ .cell v) : Inv X pins' σ H s :=
  ⟨I.ok, I.os, I.bare, I.base, I.loc, I.cell, I.free, I.freeC, fun p hp => (List.mem_append.mp hp).elim (fun z => I.pin p (List.mem_append_left _ z)) (h p), I.hok, I.len⟩

theorem nodup_ix {N : List Str} (hN : N.Nodup) {i j : Nat} {x : Str} (a : N[i]? = some x) (b : N[j]? = some x) : i = j := by
  obtain ⟨h1, e1⟩ := List.getElem?_eq_some_iff.mp a
  obtain ⟨h2, e2⟩ := List.getElem?_eq_some_iff.mp b
  exact (List.getElem_inj hN).mp (e1.trans e2.symm)

/-- a name is stored; what changed -/
theorem store_ok2 {M : Model} {A : Around} {E : Value → Shared → Prop} {i : Nat} {x : Str} {v : V} {u : Value} {Q : Unit → Shared → Prop} (I : Inv X pins σ H s) (hN : X.N.Nodup) (hi : X.N[i]? = some x) (hx : Loc X.env.scope x) (r : RelV v u)
    (h : ∀ s', Inv X pins (σ.set i (some v)) H s' → (∃ a, Heap.SameBut a s.heap s'.heap ∧ (a = X.env.locals ∨ X.env.cells.lookup x = some a)) → Q () s') (hf : X.fn x = true ∨ X.env.scope.names.lookup x = some .local := by first | exact .inl rfl | exact .inr rfl | assumption) : wpAny M A (storeName X.env x u) Q E s := by
  obtain ⟨m, hn, hl⟩ := id I.loc
  have hcls : (X.env.scope.kind == .class || (X.env.scope.kind == .module && X.env.locals != X.env.globals)) = false := by rw [I.ok.kind]; rfl
  have hiσ : i < σ.length := by rw [I.len]; exact (List.getElem?_eq_some_iff.mp hi).1
  have cne := I.cne
  have tracked : ∀ {a : Addr} {h' : Heap}, (∃ o, s.heap.get? a = some o ∧ H a = none) → Heap.SameBut a s.heap h' → HOk X.prog X.w H h' := fun {a h'} ha hs b ob e => by
    obtain ⟨_, _, hfree⟩ := ha
    refine (I.hok b ob e).stay (fun c w' hc q => (hs.2 c ?_).trans q) (fun _ q => q) fun _ _ q => q
    rintro rfl
    rcases hc with rfl | hc
    · rw [hfree] at e; cases e
    · rw [hfree] at hc; cases hc
  rcases hx with hk | hk
  · refine wpAny_storeName_local hk hn (fun h' hn' hs => ?_) hcls
    obtain ⟨oL, _, _, hoL, _⟩ := id hn
    refine h _ ⟨I.ok, I.os, I.bare, ⟨fun b o e n hb hx => ?_, fun b o e n hb hx => ?_, I.base.free, fun b o e hx => ?_, I.base.tups, I.base.frzs, I.base.tbls⟩, ⟨_, hn', fun j y v' e1 e2 e3 => ?_⟩, fun y c e => ?_, I.free, I.freeC, fun p hp => ?_, tracked ⟨oL, hoL, I.free⟩ hs, by simpa using I.len⟩ ⟨_, hs, .inl rfl⟩
    · exact (hs.2 b (Nat.ne_of_lt (Nat.lt_of_lt_of_le (Heap.lt_size e) I.ok.above))).trans (I.base.keep b o e n hb hx)
    · obtain ⟨sl, e1⟩ := I.base.slot b o e n hb hx
      exact ⟨sl, (hs.2 b (Nat.ne_of_lt (Nat.lt_of_lt_of_le (Heap.lt_size e) I.ok.above))).trans e1⟩
    · obtain ⟨o', e1⟩ := I.base.there b o e hx
      exact ⟨o', (hs.2 b (Nat.ne_of_lt (Nat.lt_of_lt_of_le (Heap.lt_size e) I.ok.above))).trans e1⟩
    · by_cases hj : j = i
      · subst hj
        rw [hi] at e1; cases e1
        rw [List.getElem?_set_self hiσ] at e2
        cases e2
        exact ⟨u, r, .inl ⟨hk, by simp⟩⟩
      · rw [List.getElem?_set_ne (Ne.symm hj)] at e2
        obtain ⟨u', r', q⟩ := hl j y v' e1 e2 e3
        refine ⟨u', r', ?_⟩
        rcases q with ⟨k, e⟩ | ⟨k, c, e, z⟩
        · refine .inl ⟨k, ?_⟩
          have : y ≠ x := fun e => hj (nodup_ix hN e1 (e ▸ hi))
          simp [this, e]
        · exact .inr ⟨k, c, e, z.sameBut hs (cne y c e)⟩
    · obtain ⟨w', z⟩ := I.cell y c e
      exact ⟨w', z.sameBut hs (cne y c e)⟩
    · obtain ⟨e, n, ne, nf, d⟩ := I.pin p hp
      exact ⟨(hs.2 p.1 ne).trans e, n, ne, nf, d⟩
  · have hfn : X.fn x = true := by
      rcases hf with z | z
      · exact z
      · rw [z] at hk; cases hk
    obtain ⟨c, hc⟩ := I.ok.has x (.inl hk)
    obtain ⟨w', z⟩ := I.cell x c hc
    refine wpAny_storeName_cell I.ok.kind hk hc z (fun h' hc' hs => ?_)
    obtain ⟨oc, hoc, hocd⟩ := id z
    refine h { s with heap := h' } ⟨I.ok, I.os, I.bare, ⟨fun b o e n hb hx => ?_, fun b o e n hb hx => ?_, I.base.free, fun b o e hx => ?_, I.base.tups, I.base.frzs, I.base.tbls⟩, ⟨m, hn.sameBut hs (Ne.symm (cne x c hc)), fun j y v' e1 e2 e3 => ?_⟩, fun y c' e => ?_, I.free, I.freeC, fun p hp => ?_, tracked ⟨oc, hoc, I.freeC x c hc⟩ hs, by simpa using I.len⟩ ⟨c, hs, .inr hc⟩
    · exact (hs.2 b (Nat.ne_of_lt (Nat.lt_of_lt_of_le (Heap.lt_size e) (I.ok.cab x c hfn hc)))).trans (I.base.keep b o e n hb hx)
    · obtain ⟨sl, e1⟩ := I.base.slot b o e n hb hx
      exact ⟨sl, (hs.2 b (Nat.ne_of_lt (Nat.lt_of_lt_of_le (Heap.lt_size e) (I.ok.cab x c hfn hc)))).trans e1⟩
    · obtain ⟨o', e1⟩ := I.base.there b o e hx
      exact ⟨o', (hs.2 b (Nat.ne_of_lt (Nat.lt_of_lt_of_le (Heap.lt_size e) (I.ok.cab x c hfn hc)))).trans e1⟩
    · by_cases hj : j = i
      · subst hj
        rw [hi] at e1; cases e1
        rw [List.getElem?_set_self hiσ] at e2
        cases e2
        exact ⟨u, r, .inr ⟨.inl hk, c, hc, hc'⟩⟩
      · rw [List.getElem?_set_ne (Ne.symm hj)] at e2
        obtain ⟨u', r', q⟩ := hl j y v' e1 e2 e3
        refine ⟨u', r', ?_⟩
        rcases q with q | ⟨k, c', e, z'⟩
        · exact .inl q
        · refine .inr ⟨k, c', e, z'.sameBut hs ?_⟩
          rintro rfl
          exact hj (nodup_ix hN e1 (I.ok.inj _ _ _ e hc ▸ hi))
    · by_cases hcc : c' = c
      · subst hcc; exact ⟨_, hc'⟩
      · obtain ⟨w2, z2⟩ := I.cell y c' e
        exact ⟨w2, z2.sameBut hs hcc⟩
    · obtain ⟨e, n, ne, nf, d⟩ := I.pin p hp
      refine ⟨(hs.2 p.1 ?_).trans e, n, ne, nf, d⟩
      intro q
      rw [q, hoc] at e
      have q' : oc = p.2 := Option.some.inj e
      exact d w' (by rw [← q']; exact hocd)
theorem store_ok {M : Model} {A : Around} {E : Value → Shared → Prop} {i : Nat} {x : Str} {v : V} {u : Value} {Q : Unit → Shared → Prop} (I : Inv X pins σ H s) (hN : X.N.Nodup) (hi : X.N[i]? = some x) (hx : Loc X.env.scope x) (r : RelV v u)
    (h : ∀ s', Inv X pins (σ.set i (some v)) H s' → Q () s') (hf : X.fn x = true ∨ X.env.scope.names.lookup x = some .local := by first | exact .inl rfl | exact .inr rfl | assumption) : wpAny M A (storeName X.env x u) Q E s :=
  store_ok2 I hN hi hx r (fun s' I' _ => h s' I') hf
/-- behind a call or a block, the state as it is -/
theorem Inv.call' {s' : Shared} {ch : List Addr} (I : Inv X pins σ H s) (ho : s'.os = s.os) (u : Un (frs X.stack) ch H H' s.heap s'.heap) (hok : HOk X.prog X.w H' s'.heap) (hg : AllBare s'.gens)
    (hch : ∀ b ∈ ch, (b ∈ X.ex ∨ X.s₀.heap.objs.size ≤ b) ∧ b ≠ X.env.locals ∧ (∀ x c, X.env.cells.lookup x = some c → c ≠ b) ∧ ∀ p ∈ X.pn ++ pins, p.1 ≠ b) : Inv X pins σ H' s' := by
  obtain ⟨h', g', d', t', o'⟩ := s'
  have e : o' = s.os := ho
  subst e
  exact I.call (g' := g') (t' := t') (d' := d') u hok hg hch
end

/-! ### the judgements -/
/-- an exception: its class, its own dict's address (where it has one), the abstract heap behind it -/
abbrev XK := Value → Option Addr → Hp → Prop
abbrev St := List (Option V)
abbrev VK := V → Hp → Prop
/-- an expression's reading; a test's; an argument list's -/
abbrev TE := St → Hp → VK → Prop
abbrev TT := St → Hp → (Bool → Hp → Prop) → Prop
abbrev TA := St → Hp → (List V → Hp → Prop) → Prop
/-- what is wanted behind a statement -/
structure Ends where
  nx : St → Hp → Prop
  rt : VK
  bk : St → Hp → Prop := fun _ _ => False
  ct : St → Hp → Prop := fun _ _ => False
abbrev TS := Ends → St → Hp → Prop

def EP (X : Cx) (pins : List (Addr × Obj)) (σ : St) (Q : VK) (u : Value) (s' : Shared) : Prop := ∃ v H', Inv X pins σ H' s' ∧ RelV v u ∧ Q v H'
def TP (X : Cx) (pins : List (Addr × Obj)) (σ : St) (Q : Bool → Hp → Prop) (b : Bool) (s' : Shared) : Prop := ∃ H', Inv X pins σ H' s' ∧ Q b H'
def AP (X : Cx) (pins : List (Addr × Obj)) (σ : St) (Q : List V → Hp → Prop) (us : List Value) (s' : Shared) : Prop := ∃ vs H', Inv X pins σ H' s' ∧ Vals vs us ∧ Q vs H'
def SP (X : Cx) (pins : List (Addr × Obj)) (D : Ends) (f : Flow) (s' : Shared) : Prop :=
  match f with
  | .next => ∃ σ' H', Inv X pins σ' H' s' ∧ D.nx σ' H'
  | .brk => ∃ σ' H', Inv X pins σ' H' s' ∧ D.bk σ' H'
  | .cont => ∃ σ' H', Inv X pins σ' H' s' ∧ D.ct σ' H'
  | .ret u => ∃ v σ' H', Inv X pins σ' H' s' ∧ RelV v u ∧ D.rt v H'

def PE (X : Cx) (e : Expr) (t : TE) : Prop :=
  ∀ (pins : List (Addr × Obj)) (s : Shared) (σ : St) (H : Hp) (Q : VK), Inv X pins σ H s → t σ H Q → wpAny (model X.prog X.w) X.A (eval e X.env) (EP X pins σ Q) X.xe s
def PT (X : Cx) (e : Expr) (t : TT) : Prop :=
  ∀ (pins : List (Addr × Obj)) (s : Shared) (σ : St) (H : Hp) (Q : Bool → Hp → Prop), Inv X pins σ H s → t σ H Q → wpAny (model X.prog X.w) X.A (isTrue e X.env (eval e X.env)) (TP X pins σ Q) X.xe s
/-- a test whatever its 'whole' is (and, or) -/
def PW (X : Cx) (e : Expr) (t : TT) : Prop :=
  ∀ (whole : Sem Value) (pins : List (Addr × Obj)) (s : Shared) (σ : St) (H : Hp) (Q : Bool → Hp → Prop), Inv X pins σ H s → t σ H Q → wpAny (model X.prog X.w) X.A (isTrue e X.env whole) (TP X pins σ Q) X.xe s
theorem PW.pt {X : Cx} {e : Expr} {t : TT} (h : PW X e t) : PT X e t := h _
/-- an argument list (no star), from the left -/
def PA (X : Cx) (es : List Expr) (t : TA) : Prop :=
  ∀ (pos : Pos) (pins : List (Addr × Obj)) (s : Shared) (σ : St) (H : Hp) (Q : List V → Hp → Prop), Inv X pins σ H s → t σ H Q → wpAny (model X.prog X.w) X.A (spliced (backTo pos (starEach es X.env))) (AP X pins σ Q) X.xe s
def PS (X : Cx) (st : Stmt) (t : TS) : Prop :=
  ∀ (pins : List (Addr × Obj)) (s : Shared) (σ : St) (H : Hp) (D : Ends), Inv X pins σ H s → t D σ H → wpAny (model X.prog X.w) X.A (exec st X.env) (SP X pins D) X.xe s
def PSs (X : Cx) (st : List Stmt) (t : TS) : Prop :=
  ∀ (pins : List (Addr × Obj)) (s : Shared) (σ : St) (H : Hp) (D : Ends), Inv X pins σ H s → t D σ H → wpAny (model X.prog X.w) X.A (execs st X.env) (SP X pins D) X.xe s
/-- weaken the end -/
theorem thn {α : Type} {t : Sem α} {Q Q' : α → Shared → Prop} {M : Model} {A : Around} {E : Value → Shared → Prop} {s : Shared} (h : wpAny M A t Q E s) (hQ : ∀ a s, Q a s → Q' a s) : wpAny M A t Q' E s := wpAny_mono h hQ fun _ _ x => x
end L2

namespace L2
open PySem PySem.Spec PyProof.Rows
section
variable {X : Cx}

/-! ### names and constants -/
def tVar (i : Nat) : TE := fun σ H Q => ∃ v, σ[i]? = some (some v) ∧ Q v H
def tC (v : V) : TE := fun _ H Q => Q v H
theorem pe_var {i : Nat} {x : Str} {pos : Pos} (hN : X.N[i]? = some x) (hv : Vis X.env.scope x) (hd : (x == ("__debug__" : Str)) = false := by decide) (hcd : (x == ("__classdict__" : Str)) = false := by decide) : PE X (.Name x pos) (tVar i) := by
  intro pins s σ H Q I h
  obtain ⟨v, e, h⟩ := h
  obtain ⟨m, hn, hl⟩ := I.loc
  obtain ⟨u, r, l⟩ := hl i x v hN e hv
  have fin : EP X pins σ Q u s := ⟨v, H, I, r, h⟩
  rcases l with ⟨hk, hm⟩ | ⟨hk, c, hc, hcell⟩
  · exact wpAny_Name (wpAny_loadName_local I.ok.kind hk hn hm fin) hd
  · rcases hk with hk | hk
    · exact wpAny_Name (wpAny_loadName_cell I.ok.kind hk hc hcell fin) hd
    · exact wpAny_Name (wpAny_loadName_free I.ok.kind hk hc hcell fin hcd) hd
theorem pe_int {i j pos} : PE X (.Constant (.int i) j pos) (tC (.int i)) := fun _ _ _ H _ I h => wpAny_Constant_int ⟨.int i, H, I.tok _, ⟨_, rfl⟩, h⟩
theorem pe_str {x j pos} : PE X (.Constant (.str x) j pos) (tC (.str x)) := fun _ _ _ H _ I h => Calls.Constant_str ⟨.str x, H, I.tok _, ⟨_, rfl⟩, h⟩

/-- a global name of the def -/
def Gl (X : Cx) (x : Str) : Prop := X.env.kindOf x = some .globalImplicit
theorem ld_glob {E : Value → Shared → Prop} {pins : List (Addr × Obj)} {s : Shared} {σ : St} {H : Hp} {x : Str} {u : Value} {pos : Pos} {Q : Value → Shared → Prop} (I : Inv X pins σ H s) (hg : Gl X x) (hm : X.mg x = some u) (h : Q u s)
    (hd : (x == ("__debug__" : Str)) = false := by decide) : wpAny (model X.prog X.w) X.A (eval (.Name x pos) X.env) Q E s :=
  Calls.Name_function_global I.ok.kind hg (Calls.loadGlobal_global (by rw [I.ok.glob]; exact I.mod.glob.keeps I.bk) hm h) hd
theorem ld_blt {E : Value → Shared → Prop} {pins : List (Addr × Obj)} {s : Shared} {σ : St} {H : Hp} {x : Str} {u : Value} {pos : Pos} {Q : Value → Shared → Prop} (I : Inv X pins σ H s) (hg : Gl X x) (hm : X.mg x = none) (hv : bootBuiltins x = some u) (h : Q u s)
    (hn : x ≠ "__name__" := by decide) (hd : (x == ("__debug__" : Str)) = false := by decide) : wpAny (model X.prog X.w) X.A (eval (.Name x pos) X.env) Q E s := by
  obtain ⟨mb, h1, h2⟩ := I.mod.blt
  exact Calls.Name_function_global I.ok.kind hg (Calls.loadGlobal_builtin (by rw [I.ok.glob]; exact I.mod.glob.keeps I.bk) hm (by rw [I.ok.blt]; exact h1.keeps I.bk) ((h2 x hn).trans hv) h) hd
theorem pe_bltn {x : Str} {v : V} {u : Value} {pos : Pos} (hg : Gl X x) (hm : X.mg x = none) (hv : bootBuiltins x = some u) (r : RelV v u) (hn : x ≠ "__name__" := by decide) (hd : (x == ("__debug__" : Str)) = false := by decide) : PE X (.Name x pos) (tC v) :=
  fun _ _ _ H _ I h => ld_blt I hg hm hv ⟨v, H, I, r, h⟩ hn hd

/-! ### arithmetic -/
variable {a b : Expr} {ta tb : TE} {pos : Pos}
/-! ### comparisons -/
/-- a comparison as a value, as a test -/
def tB (t : TE) : TT := fun σ H Q => t σ H fun x H1 => ∃ c, x = .bl c ∧ Q c H1
/-- an expression whose value is a bool, as a test -/
theorem pt_val {e : Expr} {t : TE} (h : PE X e t) (he : ∀ whole, isTrue e X.env whole = (do let v ← whole; standAt e.pos; holding [v] (truthy v)) := by intro _; rfl) : PT X e (tB t) := by
  intro pins s σ H Q I hw
  refine isTrue_plain (thn (h pins s σ H _ I hw) fun v s1 ⟨x, H1, I1, r1, q1⟩ => ?_) (he _)
  obtain ⟨d, rfl, q⟩ := q1
  cases r1
  exact wpAny_truthy_bool ⟨H1, I1, q⟩

/-! ### and, or, not -/
variable {tA tB' : TT} {rest : List Expr}
def tOr (t u : TT) : TT := fun σ H Q => t σ H fun c H1 => if c = true then Q true H1 else u σ H1 Q
def tNot (t : TT) : TT := fun σ H Q => t σ H fun c H1 => Q (!c) H1
theorem pw_or1 (ha : PT X a tA) : PW X (.BoolOp .Or [a] pos) tA := by
  intro wh pins s σ H Q I h
  refine isTrue_or (thn (ha pins s σ H Q I h) fun c s1 e => ?_)
  cases c with
  | false => exact isTrue_or_nil e
  | true => exact e
theorem pw_or (ha : PT X a tA) (hb : PW X (.BoolOp .Or (b :: rest) pos) tB') : PW X (.BoolOp .Or (a :: b :: rest) pos) (tOr tA tB') := by
  intro wh pins s σ H Q I h
  refine isTrue_or (thn (ha pins s σ H _ I h) fun c s1 ⟨H1, I1, q1⟩ => ?_)
  cases c with
  | true => exact ⟨H1, I1, q1⟩
  | false => exact hb wh pins s1 σ H1 Q I1 q1
theorem pt_not (ha : PT X a tA) : PT X (.UnaryOp .Not a pos) (tNot tA) := by
  intro pins s σ H Q I h
  exact isTrue_not (ha pins s σ H (fun c H1 => Q (!c) H1) I h)
/-- .. as values (bools) -/
def tAndV (ta tb : TE) : TE := fun σ H Q => ta σ H fun x H1 => ∃ c, x = .bl c ∧ if c = true then tb σ H1 Q else Q (.bl false) H1
theorem pe_one {op} {t : TE} (h : PE X a t) : PE X (.BoolOp op [a] pos) t := fun pins s σ H Q I hw => BoolOp_one (h pins s σ H Q I hw)
theorem pe_and (ha : PE X a ta) (hb : PE X (.BoolOp .And (b :: rest) pos) tb) : PE X (.BoolOp .And (a :: b :: rest) pos) (tAndV ta tb) := by
  intro pins s σ H Q I h
  refine BoolOp_and (thn (ha pins s σ H _ I h) fun v s1 ⟨x, H1, I1, r1, q1⟩ => ?_)
  obtain ⟨c, rfl, q1⟩ := q1
  cases r1
  refine wpAny_truthy_bool ?_
  cases c with
  | true => exact hb pins s1 σ H1 Q I1 q1
  | false => exact ⟨.bl false, H1, I1, rfl, q1⟩
/-- a if t else b -/
def tIf (t : TT) (ta tb : TE) : TE := fun σ H Q => t σ H fun c H1 => if c = true then ta σ H1 Q else tb σ H1 Q
theorem pe_ifExp {c : Expr} (hc : PT X c tA) (ha : PE X a ta) (hb : PE X b tb) : PE X (.IfExp c a b pos) (tIf tA ta tb) := by
  intro pins s σ H Q I h
  refine wpAny_IfExp (thn (hc pins s σ H _ I h) fun d s1 ⟨H1, I1, q1⟩ => ?_)
  cases d with
  | true => exact ha pins s1 σ H1 Q I1 q1
  | false => exact hb pins s1 σ H1 Q I1 q1
end
end L2

namespace L2
open PySem PySem.Spec PyProof.Rows

/-! ### a list, a tuple that is read: tracked, frozen, or an object of the module -/
def SqL (K : PySem.W.Frag) (H : Hp) (a : Addr) (xs : List V) : Prop :=
  Rd H a (.lst xs) ∨
    ∃ (o : Obj) (its : Array Value) (n : Nat), K.lookup a = some o ∧ o.cls = .type "list" ∧ o.dict = none ∧ o.data = .seq its n ∧ its.size ≤ sizeLine ∧ Vals xs its.toList
def SqT (K : PySem.W.Frag) (H : Hp) (a : Addr) (xs : List V) : Prop :=
  Rd H a (.tup xs) ∨
    ∃ (o : Obj) (its : Array Value) (n : Nat), K.lookup a = some o ∧ o.cls = .type "tuple" ∧ o.data = .seq its n ∧ its.size ≤ sizeLine ∧ Vals xs its.toList
def absV : Value → Option V
  | .none => some .non
  | .bool b => some (.bl b)
  | .int i _ => some (.int i)
  | .str x _ => some (.str x)
  | .bytes b _ => some (.byt b)
  | .float b _ => some (.flt b)
  | .ref a => some (.ref a)
  | .type n => some (.ty n)
  | _ => none
theorem RelV.abs {x : V} {u : Value} (r : RelV x u) : absV u = some x := by
  cases x with
  | non => cases r; rfl
  | bl _ => cases r; rfl
  | int _ => obtain ⟨t, rfl⟩ := r; rfl
  | str _ => obtain ⟨t, rfl⟩ := r; rfl
  | byt _ => obtain ⟨t, rfl⟩ := r; rfl
  | flt _ => obtain ⟨t, rfl⟩ := r; rfl
  | ref _ => cases r; rfl
  | ty _ => cases r; rfl
theorem RelV.inj {x y : V} {u : Value} (r : RelV x u) (q : RelV y u) : x = y := Option.some.inj (r.abs.symm.trans q.abs)
theorem Vals.inj {xs ys : List V} {us : List Value} (h : Vals xs us) (g : Vals ys us) : xs = ys := by
  induction h generalizing ys with
  | nil => cases g; rfl
  | cons r _ ih =>
    cases g with
    | cons r' t' => rw [r.inj r', ih t']
section
variable {X : Cx} {pins : List (Addr × Obj)} {σ : St} {H : Hp} {s : Shared} {a : Addr} {xs ys : List V}
theorem SqL.of {K : PySem.W.Frag} (h : H a = some (.lst xs)) : SqL K H a xs := .inl (.inl h)
theorem SqT.of {K : PySem.W.Frag} (h : H a = some (.tup xs)) : SqT K H a xs := .inl (.inl h)
theorem Inv.list (I : Inv X pins σ H s) (h : SqL X.K H a xs) : ∃ its : List Value, Vals xs its ∧ PlainL s.heap a its.toArray ∧ xs.length ≤ sizeLine := by
  rcases h with h | ⟨o, its, n, hk, hc, hd, hs, hz, r⟩
  · obtain ⟨z, its, n, r, e⟩ := h.ok I.hok
    exact ⟨its, r, ⟨_, n, e, rfl, rfl, rfl⟩, z⟩
  · refine ⟨its.toList, r, ⟨o, n, I.kIn a o hk, hc, hd, by simpa using hs⟩, ?_⟩
    have e := r.length
    simp only [Array.length_toList] at e
    omega
theorem Inv.tuple (I : Inv X pins σ H s) (h : SqT X.K H a xs) : ∃ its : List Value, Vals xs its ∧ IsTup s.heap a its.toArray ∧ xs.length ≤ sizeLine := by
  rcases h with h | ⟨o, its, n, hk, hc, hs, hz, r⟩
  · obtain ⟨z, its, r, p⟩ := h.ok I.hok
    exact ⟨its, r, p, z⟩
  · refine ⟨its.toList, r, ⟨o, I.kIn a o hk, hc, n, by simpa using hs⟩, ?_⟩
    have e := r.length
    simp only [Array.length_toList] at e
    omega
theorem Inv.list_inj (I : Inv X pins σ H s) (h : SqL X.K H a xs) (h' : SqL X.K H a ys) : xs = ys := by
  obtain ⟨its, r, ⟨o, n, e, _, _, d⟩, _⟩ := I.list h
  obtain ⟨its', r', ⟨o', n', e', _, _, d'⟩, _⟩ := I.list h'
  rw [e] at e'; cases e'
  rw [d] at d'
  injection d' with d1 _
  have : its = its' := by simpa using congrArg Array.toList d1
  subst this
  exact r.inj r'
theorem Inv.tuple_inj (I : Inv X pins σ H s) (h : SqT X.K H a xs) (h' : SqT X.K H a ys) : xs = ys := by
  obtain ⟨its, r, ⟨o, e, _, n, d⟩, _⟩ := I.tuple h
  obtain ⟨its', r', ⟨o', e', _, n', d'⟩, _⟩ := I.tuple h'
  rw [e] at e'; cases e'
  rw [d] at d'
  injection d' with d1 _
  have : its = its' := by simpa using congrArg Array.toList d1
  subst this
  exact r.inj r'
end

/-! ### another wish about exceptions -/
abbrev Cx.wish (X : Cx) (E : Value → Shared → Prop) : Cx := { X with xe := E }
/-- no exception leaves -/
abbrev Cx.nox (X : Cx) : Cx := X.wish fun _ _ => False
theorem Cx.Ok.wish {X : Cx} (ok : X.Ok) (E : Value → Shared → Prop) : (X.wish E).Ok :=
  ⟨ok.mod, ok.kind, ok.glob, ok.blt, ok.above, ok.inj, ok.has, ok.cab, ok.hd, ok.frames, ok.stk, ok.exf, ok.bs, ok.bsz, ok.noex, ok.exfs, ok.funs, ok.frf⟩
theorem Cx.Ok.unwish {X : Cx} {E : Value → Shared → Prop} (ok : (X.wish E).Ok) : X.Ok :=
  ⟨ok.mod, ok.kind, ok.glob, ok.blt, ok.above, ok.inj, ok.has, ok.cab, ok.hd, ok.frames, ok.stk, ok.exf, ok.bs, ok.bsz, ok.noex, ok.exfs, ok.funs, ok.frf⟩
section
variable {X : Cx} {pins : List (Addr × Obj)} {σ : St} {H : Hp} {s : Shared} {E : Value → Shared → Prop}
theorem Inv.wish (I : Inv X pins σ H s) (E : Value → Shared → Prop) : Inv (X.wish E) pins σ H s := ⟨I.ok.wish E, I.os, I.bare, I.base, I.loc, I.cell, I.free, I.freeC, I.pin, I.hok, I.len⟩
theorem Inv.unwish (I : Inv (X.wish E) pins σ H s) : Inv X pins σ H s := ⟨I.ok.unwish, I.os, I.bare, I.base, I.loc, I.cell, I.free, I.freeC, I.pin, I.hok, I.len⟩
theorem SP.unwish {D : Ends} {f : Flow} {s' : Shared} (h : SP (X.wish E) pins D f s') : SP X pins D f s' := by
  cases f with
  | next => obtain ⟨σ', H', I, q⟩ := h; exact ⟨σ', H', I.unwish, q⟩
  | brk => obtain ⟨σ', H', I, q⟩ := h; exact ⟨σ', H', I.unwish, q⟩
  | cont => obtain ⟨σ', H', I, q⟩ := h; exact ⟨σ', H', I.unwish, q⟩
  | ret u => obtain ⟨v, σ', H', I, r, q⟩ := h; exact ⟨v, σ', H', I.unwish, r, q⟩
theorem PE.nox {e : Expr} {t : TE} (h : PE X.nox e t) : PE X e t := fun pins s σ H Q I hw =>
  wpAny_mono (h pins s σ H Q (I.wish _) hw) (fun _ _ ⟨v, H', I', r, q⟩ => ⟨v, H', I'.unwish, r, q⟩) fun _ _ z => False.elim z
theorem PT.nox {e : Expr} {t : TT} (h : PT X.nox e t) : PT X e t := fun pins s σ H Q I hw =>
  wpAny_mono (h pins s σ H Q (I.wish _) hw) (fun _ _ ⟨H', I', q⟩ => ⟨H', I'.unwish, q⟩) fun _ _ z => False.elim z
theorem PSs.nox {st : List Stmt} {t : TS} (h : PSs X.nox st t) : PSs X st t := fun pins s σ H D I hw =>
  wpAny_mono (h pins s σ H D (I.wish _) hw) (fun _ _ q => q.unwish) fun _ _ z => False.elim z
end

/-! ### blocks and small statements -/
section
variable {X : Cx} {st : Stmt} {rest : List Stmt} {t u : TS} {e : Expr} {te : TE} {pos : Pos}
def tNext : TS := fun D σ H => D.nx σ H
def tSeq (t u : TS) : TS := fun D σ H => t { D with nx := u D } σ H
theorem pss_nil : PSs X [] tNext := fun _ _ σ H _ I h => wpAny_execs_nil ⟨σ, H, I, h⟩
theorem pss_cons (h1 : PS X st t) (h2 : PSs X rest u) : PSs X (st :: rest) (tSeq t u) := by
  intro pins s σ H D I h
  refine wpAny_execs_cons (thn (h1 pins s σ H { D with nx := u D } I h) fun f s1 q => ?_)
  cases f with
  | next =>
    obtain ⟨σ', H', I', q⟩ := q
    exact h2 pins s1 σ' H' D I' q
  | ret v => exact q
  | brk => exact q
  | cont => exact q
theorem pss_one (h1 : PS X st t) : PSs X [st] t := by
  intro pins s σ H D I h
  refine wpAny_execs_cons (thn (h1 pins s σ H D I h) fun f s1 q => ?_)
  cases f with
  | next => exact wpAny_execs_nil q
  | ret v => exact q
  | brk => exact q
  | cont => exact q
/-- in a def's body nothing is shown -/
theorem Inv.quiet {pins : List (Addr × Obj)} {σ : St} {H : Hp} {s : Shared} (I : Inv X pins σ H s) : interactive X.env = false := by simp [interactive, I.ok.kind]
/-- an expression whose value is dropped -/
def tDrop (te : TE) : TS := fun D σ H => te σ H fun _ H1 => D.nx σ H1
theorem ps_expr (he : PE X e te) (hs : swapsWith e none pos.line X.env = pure false := by rfl) : PS X (.Expr e pos) (tDrop te) := by
  intro pins s σ H D I h
  exact wpAny_Expr_any (thn (he pins s σ H _ I h) fun v s1 ⟨x, H1, I1, r1, q1⟩ => ⟨σ, H1, I1, q1⟩) I.quiet hs
def tRet (te : TE) : TS := fun D σ H => te σ H D.rt
theorem ps_ret (he : PE X e te) : PS X (.Return (some e) pos) (tRet te) := by
  intro pins s σ H D I h
  exact wpAny_Return_some (thn (he pins s σ H _ I h) fun v s1 ⟨x, H1, I1, r1, q1⟩ => ⟨x, σ, H1, I1, r1, q1⟩)
def tIfS (c : TT) (t u : TS) : TS := fun D σ H => c σ H fun b H1 => if b = true then t D σ H1 else u D σ H1
theorem ps_if {c : Expr} {a b : List Stmt} {tc : TT} (hc : PT X c tc) (ha : PSs X a t) (hb : PSs X b u) : PS X (.If c a b pos) (tIfS tc t u) := by
  intro pins s σ H D I h
  refine wpAny_If (thn (hc pins s σ H _ I h) fun d s1 ⟨H1, I1, q1⟩ => ?_)
  cases d with
  | true => exact ha pins s1 σ H1 D I1 q1
  | false => exact hb pins s1 σ H1 D I1 q1
/-- code that the proof never comes to -/
def tNever : TS := fun _ _ _ => False
end

/-! ### targets -/
abbrev TG := V → St → Hp → (St → Hp → Prop) → Prop
abbrev TGs := List V → St → Hp → (St → Hp → Prop) → Prop
def PG (X : Cx) (target : Expr) (t : TG) : Prop :=
  ∀ (pins : List (Addr × Obj)) (s : Shared) (σ : St) (H : Hp) (v : V) (u : Value) (Q : St → Hp → Prop), Inv X pins σ H s → RelV v u → t v σ H Q →
    wpAny (model X.prog X.w) X.A (assign target X.env u) (fun _ s' => ∃ σ' H', Inv X pins σ' H' s' ∧ Q σ' H') X.xe s
/-- several targets, one after another -/
def PGs (X : Cx) (ts : List Expr) (t : TGs) : Prop :=
  ∀ (pins : List (Addr × Obj)) (s : Shared) (σ : St) (H : Hp) (vs : List V) (us : List Value) (Q : St → Hp → Prop), Inv X pins σ H s → Vals vs us → t vs σ H Q →
    wpAny (model X.prog X.w) X.A (assignInOrder ((assignEach ts X.env).map (·.2)) us) (fun _ s' => ∃ σ' H', Inv X pins σ' H' s' ∧ Q σ' H') X.xe s
section
variable {X : Cx} {pos : Pos}
def gName (i : Nat) : TG := fun v σ H Q => Q (σ.set i (some v)) H
theorem pg_name {i : Nat} {x : Str} (hN : X.N.Nodup) (hi : X.N[i]? = some x) (hx : Loc X.env.scope x) (hf : X.fn x = true ∨ X.env.scope.names.lookup x = some .local := by first | exact .inl rfl | exact .inr rfl | assumption) : PG X (.Name x pos) (gName i) := by
  intro pins s σ H v u Q I r h
  exact wpAny_assign_Name (store_ok I hN hi hx r (fun s' I' => ⟨_, H, I', h⟩) hf)
/-- target = value -/
def tAsg (te : TE) (g : TG) : TS := fun D σ H => te σ H fun x H1 => g x σ H1 D.nx
/-- name = value -/
theorem ps_set {i : Nat} {x : Str} {e : Expr} {te : TE} {pos' : Pos} (hN : X.N.Nodup) (hi : X.N[i]? = some x) (hx : Loc X.env.scope x) (he : PE X e te) (hs : swapsWith e (some (.Name x pos')) pos.line X.env = pure false := by rfl) (hf : X.fn x = true ∨ X.env.scope.names.lookup x = some .local := by first | exact .inl rfl | exact .inr rfl | assumption) :
    PS X (.Assign [.Name x pos'] e pos) (tAsg te (gName i)) := by
  intro pins s σ H D I h
  refine wpAny_Assign_Name (thn (he pins s σ H _ I h) fun v s1 ⟨y, H1, I1, r1, q1⟩ => ?_) hs
  exact store_ok I1 hN hi hx r1 (fun s2 I2 => ⟨_, H1, I2, q1⟩) hf
end

/-! ### while -/
section
variable {X : Cx} {pos : Pos}
/-- the invariant W with its measure -/
def tWhile (c : TT) (tb : TS) : TS := fun D σ H => ∃ W : Nat → St → Hp → Prop, (∃ m, W m σ H) ∧ ∀ m σ H, W m σ H →
  c σ H fun b H1 => if b = true then ∃ N : St → Hp → Prop, (∀ σ' H', N σ' H' → ∃ m', m' < m ∧ W m' σ' H') ∧ tb { D with nx := N, ct := N, bk := D.nx } σ H1 else D.nx σ H1
theorem ps_while {c : Expr} {body : List Stmt} {tc : TT} {tb : TS} (hp : PassesOwn (model X.prog X.w) X.A X.env X.xe) (hc : PT X c tc) (hb : PSs X body tb) : PS X (.While c body [] pos) (tWhile tc tb) := by
  intro pins s σ H D I h
  obtain ⟨W, ⟨m0, w0⟩, turn⟩ := h
  refine wpAny_While (codeAny_whileLoop (fun n s' => ∃ σ' H', Inv X pins σ' H' s' ∧ W n σ' H') ?_ m0 ⟨σ, H, I, w0⟩)
  rintro n s1 ⟨σ1, H1, I1, w1⟩
  refine wpAny_passesOwn hp (thn (hc pins s1 σ1 H1 _ I1 (turn n σ1 H1 w1)) fun b s2 ⟨H2, I2, q2⟩ => ?_)
  cases b with
  | true =>
    obtain ⟨N, hN, q2⟩ := q2
    rw [if_pos rfl]
    refine wpAny_passesOwn hp (thn (hb pins s2 σ1 H2 _ I2 q2) fun f s3 q3 => ?_)
    cases f with
    | next =>
      obtain ⟨σ3, H3, I3, n3⟩ := q3
      obtain ⟨m', hm, w3⟩ := hN σ3 H3 n3
      exact ⟨m', hm, σ3, H3, I3, w3⟩
    | cont =>
      obtain ⟨σ3, H3, I3, n3⟩ := q3
      obtain ⟨m', hm, w3⟩ := hN σ3 H3 n3
      exact ⟨m', hm, σ3, H3, I3, w3⟩
    | brk => exact q3
    | ret v => exact q3
  | false =>
    rw [if_neg Bool.false_ne_true]
    exact wpAny_execs_nil ⟨σ1, H2, I2, q2⟩
end

/-! ### what a loop or a comprehension walks -/
/-- at turn i: it yields x (the heap may grow), or it stops -/
structure It where
  go : Nat → Hp → Prop
  yld : Nat → Hp → V → Hp → Prop
  stop : Nat → Hp → Prop
/-- the iterator's own objects may turn: they are not the frame's, not pinned, younger than the entry (or a comprehension's own) -/
def FpOk (X : Cx) (pins : List (Addr × Obj)) (H : Hp) (b : Addr) : Prop :=
  H b = none ∧ b ≠ X.env.locals ∧ b ∉ X.fs ∧ (b ∈ X.ex ∨ X.s₀.heap.objs.size ≤ b) ∧ (∀ x c, X.env.cells.lookup x = some c → c ≠ b) ∧ ∀ p ∈ X.pn ++ pins, p.1 ≠ b
theorem Inv.fpOk {X : Cx} {pins : List (Addr × Obj)} {σ : St} {H H' : Hp} {s : Shared} {b : Addr} (I : Inv X pins σ H s) (hb : s.heap.objs.size ≤ b) (hn : H' b = none) : FpOk X pins H' b := by
  refine ⟨hn, Nat.ne_of_gt (Nat.lt_of_lt_of_le I.lt hb), I.nofs hb, .inr (Nat.le_trans I.sz hb), fun x c e z => ?_, fun p hp z => ?_⟩
  · obtain ⟨v, q⟩ := I.cell x c e
    exact absurd (Nat.lt_of_lt_of_le q.lt (by rw [z]; exact hb)) (Nat.lt_irrefl _)
  · exact absurd (Nat.lt_of_lt_of_le (Heap.lt_size (I.pin p hp).1) (by rw [z]; exact hb)) (Nat.lt_irrefl _)
structure Turn (P : Program) (w : World) (K : PySem.W.Frag) (tg : Expr) (J : It) (fp : List Addr) (it : Addr) (tn : Nat → Heap → Prop) : Prop where
  mem : it ∈ fp
  obj : ∀ i h, tn i h → ∀ b ∈ fp, ∃ o, h.get? b = some o ∧ ∀ v, o.data ≠ .cell v
  keep : ∀ i h h', tn i h → (∀ b ∈ fp, ∀ o, h.get? b = some o → h'.get? b = some o) → tn i h'
  item : ∀ (X : Cx), X.prog = P → X.w = w → X.K = K → X.calm = true → ∀ (i : Nat) (pins : List (Addr × Obj)) (s : Shared) (σ : St) (H : Hp) (E : Value → Shared → Prop), Inv X pins σ H s → (∀ b ∈ fp, FpOk X pins H b) → tn i s.heap → J.go i H →
    wpAny (model P w) X.A (pyNext (.ref it)) (fun r s1 => ∃ u, r = some u ∧
      wpAny (model P w) X.A (letOwnedTupleGo tg (.ref it) u) (fun _ s2 => ∃ x H', Inv X pins σ H' s2 ∧ RelV x u ∧ J.yld i H x H' ∧ tn (i + 1) s2.heap ∧ ∀ b ∈ fp, H' b = none) E s1) E s
  done : ∀ (X : Cx), X.prog = P → X.w = w → X.K = K → X.calm = true → ∀ (i : Nat) (pins : List (Addr × Obj)) (s : Shared) (σ : St) (H : Hp) (E : Value → Shared → Prop), Inv X pins σ H s → (∀ b ∈ fp, FpOk X pins H b) → tn i s.heap → J.stop i H →
    wpAny (model P w) X.A (pyNext (.ref it)) (fun r s1 => r = none ∧ Inv X pins σ H s1) E s
  self : ∀ (A : Around) (i : Nat) (s : Shared) (Q : Value → Shared → Prop) (E : Value → Shared → Prop), tn i s.heap → Q (.ref it) s → wpAny (model P w) A (pyIter (.ref it)) Q E s
abbrev TI := St → Hp → (It → Hp → Prop) → Prop
/-- an iterator has come -/
def PIE (X : Cx) (pins : List (Addr × Obj)) (σ : St) (tg : Expr) (R : It → Hp → Prop) (itv : Value) (s2 : Shared) : Prop :=
  ∃ (it : Addr) (fp : List Addr) (tn : Nat → Heap → Prop) (J : It) (H' : Hp), itv = .ref it ∧ Inv X pins σ H' s2 ∧ Turn X.prog X.w X.K tg J fp it tn ∧ tn 0 s2.heap ∧ (∀ b ∈ fp, FpOk X pins H' b) ∧ R J H'
def PI (X : Cx) (tg iter : Expr) (wi : TI) : Prop :=
  ∀ (pins : List (Addr × Obj)) (s : Shared) (σ : St) (H : Hp) (R : It → Hp → Prop), Inv X pins σ H s → wi σ H R →
    wpAny (model X.prog X.w) X.A (eval iter X.env) (fun v s1 => wpAny (model X.prog X.w) X.A (pyIter v) (PIE X pins σ tg R) X.xe s1) X.xe s

/-- the step ahead of the store is nothing for an iterator that keeps no tuple -/
theorem go_of {M : Model} {A : Around} {E : Value → Shared → Prop} {s : Shared} {tg : Expr} {it : Addr} {u : Value} {o : Obj} {n : String} {vs : Array Value} {Q : Unit → Shared → Prop} (ho : s.heap.get? it = some o) (hc : o.cls = .type n) (hd : o.data = .fields vs)
    (hn : ["enumerate", "zip", "dict_itemiterator", "dict_reverseitemiterator", "odict_iterator", "itertools.zip_longest", "itertools.pairwise"].contains n = false) (hQ : Q () s) : wpAny M A (letOwnedTupleGo tg (.ref it) u) Q E s := by
  unfold letOwnedTupleGo
  cases tg <;> first
    | exact wpAny_pure hQ
    | (cases u <;> first
        | exact wpAny_pure hQ
        | (refine wpAny_bind (wpAny_load ho ?_)
           rw [hc, hd]
           show wpAny M A (if (["enumerate", "zip", "dict_itemiterator", "dict_reverseitemiterator", "odict_iterator", "itertools.zip_longest", "itertools.pairwise"].contains n && vs[0]? == some (rawInt _)) = true then _ else _) Q E s
           rw [if_neg (by intro h; rw [hn, Bool.false_and] at h; cases h)]
           exact wpAny_pure hQ))

/-- the list at a, as it stands at each turn (a loop may append to it) -/
def Itl (K : PySem.W.Frag) (a : Addr) : It :=
  ⟨fun i H => ∃ xs x, SqL K H a xs ∧ xs[i]? = some x, fun i H x H' => H' = H ∧ ∀ xs, SqL K H a xs → xs[i]? = some x, fun i H => ∃ xs, SqL K H a xs ∧ xs.length ≤ i⟩
def Itt (K : PySem.W.Frag) (a : Addr) : It :=
  ⟨fun i H => ∃ xs x, SqT K H a xs ∧ xs[i]? = some x, fun i H x H' => H' = H ∧ ∀ xs, SqT K H a xs → xs[i]? = some x, fun i H => ∃ xs, SqT K H a xs ∧ xs.length ≤ i⟩
/-- lo, lo + 1, .. (n of them) -/
def Itr (lo : Int) (n : Nat) : It := ⟨fun i _ => i < n, fun i H x H' => H' = H ∧ x = .int (lo + i), fun i _ => n ≤ i⟩
theorem turn_list {P : Program} {w : World} {K : PySem.W.Frag} {tg : Expr} (a it : Addr) : Turn P w K tg (Itl K a) [it] it (fun i h => h.IsListIter it a i) where
  mem := by simp
  obj := fun i h st b hb => by
    have e : b = it := by simpa using hb
    subst e
    obtain ⟨o, e, c, d⟩ := st
    exact ⟨o, e, fun v z => by rw [d] at z; cases z⟩
  keep := fun i h h' st k => st.at fun o e => k it (by simp) o e
  item := by
    intro X hP hw hK hc i pins s σ H E I hf st hg
    subst hP hw hK
    obtain ⟨xs, x, hq, hx⟩ := hg
    obtain ⟨its, rv, p, hz⟩ := I.list hq
    obtain ⟨u, hu, ru⟩ := rv.get hx
    obtain ⟨f0, f1, f2, f3, f4, f5⟩ := hf it (by simp)
    refine wpAny_pyNext_list_item st p.isList (x := u) (by simpa using hu) fun h' st' sb => ?_
    have I1 : Inv X pins σ H { s with heap := h' } := I.turned (t' := s.toks) (fun b o hb e => (sb.2 b hb).trans e) f0 f1 f3 f4 f5
    obtain ⟨o, e, c, d⟩ := id st'
    exact ⟨u, rfl, go_of (s := { s with heap := h' }) e c d (by decide) ⟨x, H, I1, ru, ⟨rfl, fun ys hy => by rw [I.list_inj hy hq]; exact hx⟩, st', fun b hb => (hf b hb).1⟩⟩
  done := by
    intro X hP hw hK hc i pins s σ H E I hf st hg
    subst hP hw hK
    obtain ⟨xs, hq, hx⟩ := hg
    obtain ⟨its, rv, p, hz⟩ := I.list hq
    obtain ⟨f0, f1, f2, f3, f4, f5⟩ := hf it (by simp)
    have hl := rv.length
    exact wpAny_pyNext_list_end (I.ok.hd hc) st p.isList (by simp; omega) fun h' eb => ⟨rfl, I.turned (t' := s.toks) (fun b o hb e => eb b o hb e) f0 f1 f3 f4 f5⟩
  self := fun _ _ _ _ _ st h => wpAny_pyIter_listiter st h
theorem turn_tuple {P : Program} {w : World} {K : PySem.W.Frag} {tg : Expr} (a it : Addr) : Turn P w K tg (Itt K a) [it] it (fun i h => h.IsTupleIter it a i) where
  mem := by simp
  obj := fun i h st b hb => by
    have e : b = it := by simpa using hb
    subst e
    obtain ⟨o, e, c, d⟩ := st
    exact ⟨o, e, fun v z => by rw [d] at z; cases z⟩
  keep := fun i h h' st k => st.at fun o e => k it (by simp) o e
  item := by
    intro X hP hw hK hc i pins s σ H E I hf st hg
    subst hP hw hK
    obtain ⟨xs, x, hq, hx⟩ := hg
    obtain ⟨its, rv, p, hz⟩ := I.tuple hq
    obtain ⟨u, hu, ru⟩ := rv.get hx
    obtain ⟨f0, f1, f2, f3, f4, f5⟩ := hf it (by simp)
    refine wpAny_pyNext_tuple_item st (show s.heap.IsTuple a its.toArray from p) (x := u) (by simpa using hu) fun h' st' sb => ?_
    have I1 : Inv X pins σ H { s with heap := h' } := I.turned (t' := s.toks) (fun b o hb e => (sb.2 b hb).trans e) f0 f1 f3 f4 f5
    obtain ⟨o, e, c, d⟩ := id st'
    exact ⟨u, rfl, go_of (s := { s with heap := h' }) e c d (by decide) ⟨x, H, I1, ru, ⟨rfl, fun ys hy => by rw [I.tuple_inj hy hq]; exact hx⟩, st', fun b hb => (hf b hb).1⟩⟩
  done := by
    intro X hP hw hK hc i pins s σ H E I hf st hg
    subst hP hw hK
    obtain ⟨xs, hq, hx⟩ := hg
    obtain ⟨its, rv, p, hz⟩ := I.tuple hq
    obtain ⟨f0, f1, f2, f3, f4, f5⟩ := hf it (by simp)
    have hl := rv.length
    exact wpAny_pyNext_tuple_end (I.ok.hd hc) st (show s.heap.IsTuple a its.toArray from p) (by simp; omega) fun h' eb => ⟨rfl, I.turned (t' := s.toks) (fun b o hb e => eb b o hb e) f0 f1 f3 f4 f5⟩
  self := fun _ _ _ _ _ st h => wpAny_pyIter_tupleiter st h
theorem turn_range {P : Program} {w : World} {K : PySem.W.Frag} {tg : Expr} (it : Addr) (lo : Int) (n : Nat) : Turn P w K tg (Itr lo n) [it] it (fun i h => IsRangeIter h it (lo + (i : Nat) * 1) ((n : Int) - (i : Nat)) 1) where
  mem := by simp
  obj := fun i h st b hb => by
    have e : b = it := by simpa using hb
    subst e
    exact ⟨_, st, fun v z => by
      have z' : Data.fields _ = Data.cell v := z
      cases z'⟩
  keep := fun i h h' st k => k it (by simp) _ st
  item := by
    intro X hP hw hK hc i pins s σ H E I hf st hg
    subst hP hw hK
    obtain ⟨f0, f1, f2, f3, f4, f5⟩ := hf it (by simp)
    have W := Walks.range (prog := X.prog) (w := X.w) (I.ok.hd hc) it lo 1 n
    refine W.item i s _ _ hg st fun v h' tk hv st' kk => ?_
    obtain ⟨t, rfl⟩ := hv
    have I1 : Inv X pins σ H { s with heap := h', toks := tk } := I.turned (fun b o hb e => kk b o (by simpa using hb) e) f0 f1 f3 f4 f5
    refine ⟨_, rfl, go_of (s := { s with heap := h', toks := tk }) (n := "range_iterator") st' rfl rfl (by decide) ⟨.int (lo + i), H, I1, ⟨t, ?_⟩, ⟨rfl, rfl⟩, st', fun b hb => (hf b hb).1⟩⟩
    rw [Int.mul_one]
  done := by
    intro X hP hw hK hc i pins s σ H E I hf st hg
    subst hP hw hK
    obtain ⟨f0, f1, f2, f3, f4, f5⟩ := hf it (by simp)
    exact wpAny_pyNext_range_end (I.ok.hd hc) st (by have : n ≤ i := hg; omega) fun h' eb => ⟨rfl, I.turned (t' := s.toks) (fun b o hb e => eb b o hb e) f0 f1 f3 f4 f5⟩
  self := fun _ _ _ _ _ st h => wpAny_pyIter_rangeiter st h
end L2

namespace L2
open PySem PySem.Spec PyProof.Rows
section
variable {X : Cx} {tg : Expr}
/-- a range object just made, walked -/
theorem range_it {pins : List (Addr × Obj)} {σ : St} {H : Hp} {s : Shared} {R : It → Hp → Prop} {E : Value → Shared → Prop} {lo hi : Int} {t u v : Tok} {tk : Nat} (I : Inv X pins σ H s) (h1 : -(2 ^ 62) ≤ lo) (h2 : lo < 2 ^ 62) (h3 : -(2 ^ 62) ≤ hi) (h4 : hi < 2 ^ 62)
    (q : R (Itr lo (hi - lo).toNat) H) : wpAny (model X.prog X.w) X.A (pyIter (.ref s.heap.objs.size)) (PIE X pins σ tg R) E { s with heap := s.heap.push { cls := .type "range", data := .fields #[.int lo t, .int hi u, .int 1 v] }, toks := tk } := by
  refine wpAny_pyIter_range (IsRange.new ..) (small_one h1 h2 h3 h4) ?_
  have I1 : Inv X pins σ H { s with heap := s.heap.push { cls := .type "range", data := .fields #[.int lo t, .int hi u, .int 1 v] }, toks := tk } := I.kept fun b o e => Heap.get?_push_of_some _ e
  refine ⟨(s.heap.push { cls := .type "range", data := .fields #[.int lo t, .int hi u, .int 1 v] }).objs.size, [(s.heap.push { cls := .type "range", data := .fields #[.int lo t, .int hi u, .int 1 v] }).objs.size], _, _, H, rfl,
    I1.kept (t' := tk) fun b o e => Heap.get?_push_of_some _ e, turn_range _ lo (hi - lo).toNat, ?_, fun b hb => ?_, q⟩
  · have e1 : lo + ((0 : Nat) : Int) * 1 = lo := by simp
    have e2 : (((hi - lo).toNat : Nat) : Int) - ((0 : Nat) : Int) = Builtin.Range.rangeSize lo hi 1 := by rw [rangeSize_one]; split <;> omega
    show IsRangeIter _ _ (lo + ((0 : Nat) : Int) * 1) ((((hi - lo).toNat : Nat) : Int) - ((0 : Nat) : Int)) 1
    rw [e1, e2]
    exact Heap.get?_push_size _ rfl
  · have e : b = (s.heap.push { cls := .type "range", data := .fields #[.int lo t, .int hi u, .int 1 v] }).objs.size := by simpa using hb
    subst e
    exact I1.fpOk (Nat.le_refl _) (I1.hok.fresh (Nat.le_refl _))
def iRng1 (ta : TA) : TI := fun σ H R => ta σ H fun vs H1 => ∃ j : Int, vs = [.int j] ∧ -(2 ^ 62) ≤ j ∧ j < 2 ^ 62 ∧ R (Itr 0 j.toNat) H1
theorem pi_range1 {a : Expr} {ta : TA} {p pos : Pos} (hg : Gl X "range") (hm : X.mg "range" = none) (ha : PA X [a] ta) (hs : starEach [a] X.env = [(false, eval a X.env)] := by rfl) : PI X tg (.Call (.Name "range" p) [a] [] pos) (iRng1 ta) := by
  intro pins s σ H R I h
  refine Call_ (ld_blt I hg hm boot_range (PyProof.Rows.callWith_type1 (thn (ha pos pins s σ H _ I h) fun us s1 ⟨vs, H1, I1, r1, q1⟩ => ?_) hs rfl))
  obtain ⟨j, e, q1, q2, q⟩ := q1
  subst e
  cases r1 with
  | cons r rr =>
    cases rr
    obtain ⟨t, rfl⟩ := r
    exact call_range_1 (range_it I1 (by omega) (by omega) q1 q2 (by simpa using q))
/-! ### for -/
/-- W: the invariant by the turn and a measure; N: what the body is to reach -/
def tFor (wi : TI) (g : TG) (tb : TS) : TS := fun D σ H => wi σ H fun J H1 => ∃ W : Nat → Nat → St → Hp → Prop, (∃ m, W 0 m σ H1) ∧ ∀ i m σ H, W i m σ H →
  (J.stop i H ∧ D.nx σ H) ∨ (J.go i H ∧ ∃ N : St → Hp → Prop, (∀ σ' H', N σ' H' → ∃ m', m' < m ∧ W (i + 1) m' σ' H') ∧ ∀ x H', J.yld i H x H' → g x σ H' fun σ2 H2 => tb { D with nx := N, ct := N, bk := D.nx } σ2 H2)
/-- the records at fp as they stand -/
def pinsAt (fp : List Addr) (h : Heap) : List (Addr × Obj) := fp.filterMap fun b => (h.get? b).map fun o => (b, o)
theorem mem_pinsAt {fp : List Addr} {h : Heap} {b : Addr} {o : Obj} (hb : b ∈ fp) (e : h.get? b = some o) : (b, o) ∈ pinsAt fp h := List.mem_filterMap.mpr ⟨b, hb, by rw [e]; rfl⟩
theorem of_pinsAt {fp : List Addr} {h : Heap} {p : Addr × Obj} (hp : p ∈ pinsAt fp h) : p.1 ∈ fp ∧ h.get? p.1 = some p.2 := by
  obtain ⟨b, hb, e⟩ := List.mem_filterMap.mp hp
  cases q : h.get? b with
  | none => rw [q] at e; cases e
  | some o =>
    rw [q] at e
    have e' : (b, o) = p := Option.some.inj e
    subst e'
    exact ⟨hb, q⟩
theorem Inv.pinned {pins : List (Addr × Obj)} {σ : St} {H : Hp} {s : Shared} {fp : List Addr} (I : Inv X pins σ H s) (hf : ∀ b ∈ fp, FpOk X pins H b) (ho : ∀ b ∈ fp, ∃ o, s.heap.get? b = some o ∧ ∀ v, o.data ≠ .cell v) : Inv X (pins ++ pinsAt fp s.heap) σ H s :=
  I.pins_of fun p hp => (List.mem_append.mp hp).elim (fun z => I.pin p (List.mem_append_right _ z)) fun z => by
    obtain ⟨hb, e⟩ := of_pinsAt z
    obtain ⟨f0, f1, f2, _⟩ := hf p.1 hb
    obtain ⟨o, e', d⟩ := ho p.1 hb
    rw [e] at e'; cases e'
    exact ⟨e, f0, f1, f2, d⟩
theorem Inv.unpinned {pins pl : List (Addr × Obj)} {σ : St} {H : Hp} {s : Shared} (I : Inv X (pins ++ pl) σ H s) : Inv X pins σ H s := I.pins_of fun p hp => I.pin p (List.mem_append_right _ (List.mem_append_left _ hp))
theorem ps_for {iter : Expr} {body : List Stmt} {wi : TI} {g : TG} {tb : TS} {pos : Pos} (hp : PassesOwn (model X.prog X.w) X.A X.env X.xe) (hc : X.calm = true) (hi : PI X tg iter wi) (hg : PG X tg g) (hb : PSs X body tb)
    (hs : ∀ x, foldedSetIterable iter X.env x = pure x := by intro _; rfl) : PS X (.For tg iter body [] pos) (tFor wi g tb) := by
  intro pins s σ H D I h
  refine wpAny_For (thn (hi pins s σ H _ I h) fun v s1 h1 => thn h1 fun itv s2 h2 => ?_) hs
  obtain ⟨it, fp, tn, J, H2, e, I2, T, st2, f2, W, ⟨m0, w0⟩, turn⟩ := h2
  subst e
  -- what stays true of the iterator's objects through the loop
  have stat : ∀ {H' : Hp}, (∀ b ∈ fp, H' b = none) → ∀ b ∈ fp, FpOk X pins H' b := fun hn b hb => ⟨hn b hb, (f2 b hb).2⟩
  refine codeAny_forLoop_any (fun n s' => ∃ i σ' H', Inv X pins σ' H' s' ∧ tn i s'.heap ∧ (∀ b ∈ fp, H' b = none) ∧ W i n σ' H') ?_ m0 ⟨0, σ, H2, I2, st2, fun b hb => (f2 b hb).1, w0⟩
  rintro n s3 ⟨i, σ3, H3, I3, st3, fr3, w3⟩
  rcases turn i n σ3 H3 w3 with ⟨stop, qn⟩ | ⟨go, N, hN, step⟩
  · refine wpAny_passesOwn hp (thn (T.done X rfl rfl rfl hc i pins s3 σ3 H3 X.xe I3 (stat fr3) st3 stop) fun r s4 ⟨hr, I4⟩ => ?_)
    subst hr
    exact wpAny_execs_nil ⟨σ3, H3, I4, qn⟩
  · refine wpAny_passesOwn hp (thn (T.item X rfl rfl rfl hc i pins s3 σ3 H3 X.xe I3 (stat fr3) st3 go) fun r s4 ⟨u, hr, h4⟩ => ?_)
    subst hr
    refine wpAny_passesOwn hp (thn h4 fun _ s5 ⟨x, H5, I5, r5, y5, st5, fr5⟩ => ?_)
    have I5' := I5.pinned (stat fr5) (T.obj _ _ st5)
    refine wpAny_passesOwn hp (thn (hg _ s5 σ3 H5 x u _ I5' r5 (step x H5 y5)) fun _ s6 ⟨σ6, H6, I6, q6⟩ => ?_)
    refine wpAny_passesOwn hp (thn (hb _ s6 σ6 H6 _ I6 q6) fun f s7 q7 => ?_)
    have again : ∀ {σ7 : St} {H7 : Hp}, Inv X (pins ++ pinsAt fp s5.heap) σ7 H7 s7 → N σ7 H7 → ∃ m, m < n ∧ ∃ i σ' H', Inv X pins σ' H' s7 ∧ tn i s7.heap ∧ (∀ b ∈ fp, H' b = none) ∧ W i m σ' H' := fun {σ7 H7} I7 n7 => by
      obtain ⟨m', hm, w7⟩ := hN σ7 H7 n7
      refine ⟨m', hm, i + 1, σ7, H7, I7.unpinned, T.keep _ _ _ st5 fun b hb o e => (I7.pin (b, o) (List.mem_append_right _ (List.mem_append_right _ (mem_pinsAt hb e)))).1, fun b hb => ?_, w7⟩
      obtain ⟨o, e, d⟩ := T.obj _ _ st5 b hb
      exact (I7.pin (b, o) (List.mem_append_right _ (List.mem_append_right _ (mem_pinsAt hb e)))).2.1
    cases f with
    | next => obtain ⟨σ7, H7, I7, n7⟩ := q7; exact again I7 n7
    | cont => obtain ⟨σ7, H7, I7, n7⟩ := q7; exact again I7 n7
    | brk => obtain ⟨σ7, H7, I7, q7⟩ := q7; exact ⟨σ7, H7, I7.unpinned, q7⟩
    | ret v => obtain ⟨x7, σ7, H7, I7, r7, q7⟩ := q7; exact ⟨x7, σ7, H7, I7.unpinned, r7, q7⟩
end

/-! ### the forms one uses -/
end L2

namespace L2
open PySem PySem.Spec PyProof.Rows

abbrev R2 := V → V → Hp → VK → Prop
/-- a two-place operation on values: f is binaryOp op, inplaceOp op or compareOp op -/
def OpR (X : Cx) (f : Value → Value → Sem Value) (r : R2) : Prop :=
  ∀ (pins : List (Addr × Obj)) (s : Shared) (σ : St) (H : Hp) (x y : V) (v u : Value) (Q : VK), Inv X pins σ H s → RelV x v → RelV y u → r x y H Q →
    wpAny (model X.prog X.w) X.A (f v u) (EP X pins σ Q) X.xe s
/-- a call of a value that is known (a builtin, a type) with values -/
def CallR (X : Cx) (f : Value) (r : List V → Hp → VK → Prop) : Prop :=
  ∀ (pins : List (Addr × Obj)) (s : Shared) (σ : St) (H : Hp) (xs : List V) (us : List Value) (Q : VK), Inv X pins σ H s → Vals xs us → r xs H Q →
    wpAny (model X.prog X.w) X.A (call f us) (EP X pins σ Q) X.xe s
def tOp (r : R2) (ta tb : TE) : TE := fun σ H Q => ta σ H fun x H1 => tb σ H1 fun y H2 => r x y H2 Q
/-- ints in, under C, and a value out -/
def rI (C : Int → Int → Prop) (g : Int → Int → V) : R2 := fun x y H Q => ∃ i j, x = .int i ∧ y = .int j ∧ C i j ∧ Q (g i j) H
def rI0 (g : Int → Int → V) : R2 := fun x y H Q => ∃ i j, x = .int i ∧ y = .int j ∧ Q (g i j) H
section
variable {X : Cx} {a b c : Expr} {ta tb tc : TE} {pos : Pos}

theorem binT (ha : PE X a ta) (hb : PE X b tb) {pins : List (Addr × Obj)} {s : Shared} {σ : St} {H : Hp} {R : V → V → Hp → Prop} (I : Inv X pins σ H s)
    (h : ta σ H fun x H1 => tb σ H1 fun y H2 => R x y H2) {Q : Value → Shared → Prop} {f : Value → Value → Sem Value}
    (hf : ∀ v u s2 x y H2, Inv X pins σ H2 s2 → RelV x v → RelV y u → R x y H2 → wpAny (model X.prog X.w) X.A (f v u) Q X.xe s2) :
    wpAny (model X.prog X.w) X.A (eval a X.env) (fun v s₁ => wpAny (model X.prog X.w) X.A (eval b X.env) (fun u s₂ => wpAny (model X.prog X.w) X.A (f v u) Q X.xe s₂) X.xe s₁) X.xe s := by
  refine thn (ha pins s σ H _ I h) fun v s1 ⟨x, H1, I1, r1, q1⟩ => ?_
  refine thn (hb pins s1 σ H1 _ I1 q1) fun u s2 ⟨y, H2, I2, r2, q2⟩ => ?_
  exact hf v u s2 x y H2 I2 r1 r2 q2

theorem pe_op {op : Operator} {r : R2} (ho : OpR X (binaryOp op) r) (ha : PE X a ta) (hb : PE X b tb) : PE X (.BinOp a op b pos) (tOp r ta tb) := by
  intro pins s σ H Q I h
  exact wpAny_BinOp (binT ha hb I h fun v u s2 x y H2 I2 rx ry q => ho pins s2 σ H2 x y v u Q I2 rx ry q)
/-! ### ints -/
theorem opI {f : Value → Value → Sem Value} {C : Int → Int → Prop} {g : Int → Int → Int}
    (rule : ∀ (i j : Int) (t u : Tok) (s : Shared) (Q : Value → Shared → Prop) (E : Value → Shared → Prop), C i j → Q (.int (g i j) s.toks) { s with toks := s.toks + 1 } → wpAny (model X.prog X.w) X.A (f (.int i t) (.int j u)) Q E s) :
    OpR X f (rI C fun i j => .int (g i j)) := by
  intro pins s σ H x y v u Q I rx ry h
  obtain ⟨i, j, rfl, rfl, hc, q⟩ := h
  obtain ⟨t, rfl⟩ := rx
  obtain ⟨t', rfl⟩ := ry
  exact rule i j t t' s _ _ hc ⟨.int (g i j), H, I.tok _, ⟨_, rfl⟩, q⟩
theorem opI0 {f : Value → Value → Sem Value} {g : Int → Int → Int}
    (rule : ∀ (i j : Int) (t u : Tok) (s : Shared) (Q : Value → Shared → Prop) (E : Value → Shared → Prop), Q (.int (g i j) s.toks) { s with toks := s.toks + 1 } → wpAny (model X.prog X.w) X.A (f (.int i t) (.int j u)) Q E s) :
    OpR X f (rI0 fun i j => .int (g i j)) := by
  intro pins s σ H x y v u Q I rx ry h
  obtain ⟨i, j, rfl, rfl, q⟩ := h
  obtain ⟨t, rfl⟩ := rx
  obtain ⟨t', rfl⟩ := ry
  exact rule i j t t' s _ _ ⟨.int (g i j), H, I.tok _, ⟨_, rfl⟩, q⟩
theorem opB0 {f : Value → Value → Sem Value} {g : Int → Int → Bool}
    (rule : ∀ (i j : Int) (t u : Tok) (s : Shared) (Q : Value → Shared → Prop) (E : Value → Shared → Prop), Q (.bool (g i j)) s → wpAny (model X.prog X.w) X.A (f (.int i t) (.int j u)) Q E s) :
    OpR X f (rI0 fun i j => .bl (g i j)) := by
  intro pins s σ H x y v u Q I rx ry h
  obtain ⟨i, j, rfl, rfl, q⟩ := h
  obtain ⟨t, rfl⟩ := rx
  obtain ⟨t', rfl⟩ := ry
  exact rule i j t t' s _ _ ⟨.bl (g i j), H, I, rfl, q⟩

def CDiv (i j : Int) : Prop := 0 < j ∧ j < 1073741824
def CPow (i j : Int) : Prop := 0 ≤ j ∧ j ≤ 1000000 ∧ i.natAbs < 2 ^ 64
def CMul (i j : Int) : Prop := (-(2 ^ 64) < i ∧ i < 2 ^ 64) ∨ (-(2 ^ 64) < j ∧ j < 2 ^ 64)
theorem CMul.ok {i j : Int} (h : CMul i j) : IntMulOk i j := by
  rcases h with ⟨h1, h2⟩ | ⟨h1, h2⟩
  · exact .of_left (intBits_le_64 h1 h2)
  · exact .of_right (intBits_le_64 h1 h2)
theorem op_add : OpR X (binaryOp .Add) (rI0 fun i j => .int (i + j)) := opI0 fun _ _ _ _ _ _ _ q => add_int q
theorem op_sub : OpR X (binaryOp .Sub) (rI0 fun i j => .int (i - j)) := opI0 fun _ _ _ _ _ _ _ q => sub_int q
/-- // by a positive divisor -/
theorem op_fdiv : OpR X (binaryOp .FloorDiv) (rI CDiv fun i j => .int (i / j)) := opI fun i j _ _ _ _ _ hc q => by
  have h1 : (0 : Int) < j := hc.1
  have h2 : j < 1073741824 := hc.2
  exact floordiv_int (by omega) (by rw [Int.fdiv_eq_ediv_of_nonneg i (by omega)]; exact q) (.inl (PyProof.noPylong_small (by omega)))
/-- % by a positive divisor of any size -/
theorem op_mod : OpR X (binaryOp .Mod) (rI (fun _ j => 0 < j) fun i j => .int (i % j)) := opI fun i j _ _ _ _ _ hc q => by
  have h1 : (0 : Int) < j := hc
  exact mod_int' (by omega) (by rw [Int.fmod_eq_emod_of_nonneg i (by omega)]; exact q)
/-! ### bools among ints: n += (a < b) -/
end

/-! ### comparisons -/
section
variable {X : Cx} {a b c : Expr} {ta tb tc : TE} {pos : Pos}
theorem fin_bl {pins : List (Addr × Obj)} {σ : St} {H : Hp} {s : Shared} {Q : VK} {k k' : Bool} (I : Inv X pins σ H s) (q : Q (.bl k) H) (e : k = k') : EP X pins σ Q (.bool k') s := by
  subst e
  exact ⟨.bl k, H, I, rfl, q⟩
theorem op_gt : OpR X (compareOp .Gt) (rI0 fun i j => .bl (decide (j < i))) := opB0 fun _ _ _ _ _ _ _ q => gt_int q
/-- two rules for one operation: by cases -/
theorem OpR.or {f : Value → Value → Sem Value} {r r' : R2} (h : OpR X f r) (h' : OpR X f r') : OpR X f (fun x y H Q => r x y H Q ∨ r' x y H Q) := by
  intro pins s σ H x y v u Q I rx ry q
  rcases q with q | q
  · exact h pins s σ H x y v u Q I rx ry q
  · exact h' pins s σ H x y v u Q I rx ry q

theorem nomark (b : Expr) {op : CmpOp} (h : op ≠ .In := by decide) (h2 : op ≠ .NotIn := by decide) : behindInMarks op b = false := by
  have e1 : (op == CmpOp.In) = false := by cases op <;> first | rfl | exact absurd rfl h
  have e2 : (op == CmpOp.NotIn) = false := by cases op <;> first | rfl | exact absurd rfl h2
  cases b <;> simp [behindInMarks, e1, e2]
/-- a comparison as a value; hm: nomark b, or (for in, not in) by with_unfolding_all rfl -/
theorem pe_cmpR {op : CmpOp} {r : R2} (ho : OpR X (compareOp op) r) (ha : PE X a ta) (hb : PE X b tb) (hm : behindInMarks op b = false) : PE X (.Compare a [op] [b] pos) (tOp r ta tb) := by
  intro pins s σ H Q I h
  exact wpAny_Compare1 (binT ha hb I h fun v u s2 x y H2 I2 rx ry q => ho pins s2 σ H2 x y v u Q I2 rx ry q) hm
/-- a reading of a value as a test -/
def tTest (t : TE) : TT := fun σ H Q => t σ H fun x H' => ∃ k, x = .bl k ∧ Q k H'
theorem pt_cmpR {op : CmpOp} {r : R2} (ho : OpR X (compareOp op) r) (ha : PE X a ta) (hb : PE X b tb) (hm : behindInMarks op b = false) : PT X (.Compare a [op] [b] pos) (tTest (tOp r ta tb)) := by
  intro pins s σ H Q I h
  refine wpAny_isTrue_Compare1 (thn (ha pins s σ H _ I h) fun v s1 ⟨x, H1, I1, r1, q1⟩ => thn (hb pins s1 σ H1 _ I1 q1) fun u s2 ⟨y, H2, I2, r2, q2⟩ =>
    thn (ho pins s2 σ H2 x y v u _ I2 r1 r2 q2) fun c s3 ⟨z, H3, I3, r3, k, e, q3⟩ => ?_) hm
  subst e
  cases r3
  exact wpAny_truthy_bool ⟨H3, I3, q3⟩
/-! ### truth -/
theorem line63 : (sizeLine : Nat) < 2 ^ 63 := by rw [sizeLine_eq]; decide
/-! ### strs and bytes -/
/-! ### scalar builtins, by CallR -/
theorem vals1 {x : V} {us : List Value} (r : Vals [x] us) : ∃ u, us = [u] ∧ RelV x u := by
  cases r with
  | cons r1 r2 => cases r2; exact ⟨_, rfl, r1⟩
end
end L2

namespace L2
open PySem PySem.Spec PyProof.Rows

/-! ### an instance, its attributes a map -/
structure ObjM (h : Heap) (x dx C : Addr) (mA : Str → Option Value) : Prop where
  obj : h.get? x = some (PySem.W.instObj C dx)
  ns : h.Ns1 dx mA
  ne : dx ≠ x

theorem lookIn_ns {h : Heap} {dx : Addr} {mA : Str → Option Value} (n : h.Ns1 dx mA) : ∃ od, h.get? dx = some od ∧ ∀ name, PySem.W.lookIn name od = some (mA name) := by
  obtain ⟨o, es, ep, ho, hd, hk, _, hm⟩ := n
  refine ⟨o, ho, fun name => ?_⟩
  have e := hm name
  unfold nsFind findBy at e
  rw [← Array.find?_toList] at e
  unfold PySem.W.lookIn
  rw [hd]
  dsimp only
  split
  · rename_i y q
    rw [q] at e
    exact congrArg some e
  · rename_i q
    rw [q] at e
    have a : es.toList.any (·.refKey) = false := by
      rw [List.any_eq_false]
      intro y hy
      obtain ⟨z, t, hkey⟩ := hk y (Array.mem_toList_iff.mp hy)
      simp [DictEntry.refKey, hkey]
    have a' : ¬ es.toList.any (·.refKey) = true := by rw [a]; exact Bool.false_ne_true
    rw [if_neg a']
    exact congrArg some e

theorem ObjM.look {h : Heap} {x dx C : Addr} {mA : Str → Option Value} (I : ObjM h x dx C mA) : ∃ od, PySem.W.InstAt h x (PySem.W.instObj C dx) C (some od) ∧ ∀ name, PySem.W.lookIn name od = some (mA name) :=
  let ⟨od, ho, hl⟩ := lookIn_ns I.ns
  ⟨od, ⟨I.obj, rfl, rfl, ho⟩, hl⟩

section
variable {prog : Program} {w : World} {A : Around} {E : Value → Shared → Prop} {s : Shared} {K : PySem.W.Frag} {x dx C f : Addr} {mA : Str → Option Value} {name : Str} {v : Value}

end

/-! ### the attributes as a list of pairs -/
section
variable {P : Program} {w : World} {H H' : Hp} {h h' : Heap} {a C dx : Addr} {fs fs' : List (Str × V)}
theorem ins_get (hok : HOk P w H h) (e : H a = some (.ins C dx fs)) : ∃ mA, ObjM h a dx C mA ∧ (∀ f, RelO (fs.lookup f) (mA f)) ∧ PySem.Within mA (fs.map (·.1)) ∧ fs.length ≤ 1000 ∧ H dx = some (.own a) := by
  obtain ⟨d, z, ne, ob, mA, n, r, q⟩ := (show ObjOk P w H h a (.ins C dx fs) from hok a _ e)
  exact ⟨mA, ⟨ob, n, ne⟩, r, q, z, d⟩
end

/-! ### what of the text a class must have -/
structure Cls (K : PySem.W.Frag) (C : Addr) : Prop where
  pg : PySem.W.plainGet K C Str.empty = true
  hd : PySem.W.hasDictIn K C = true
  po : PySem.W.plainOver K C = true
  sa : PySem.W.findIn K (.ref C) "__setattr__" = some (some (.builtin "object.__setattr__"))
theorem Cls.get {K : PySem.W.Frag} {C : Addr} (c : Cls K C) (f : Str) : PySem.W.plainGet K C f = true := c.pg
/-- a method: a plain def of the class or of one above it -/
structure Meth (K : PySem.W.Frag) (C : Addr) (m : Str) (f : Addr) : Prop where
  at_ : PySem.W.findIn K (.ref C) m = some (some (.ref f))
  fn : PySem.W.isFn K (.ref f) = true
  kp : PySem.W.keepIn K (.ref f) = true

section
variable {X : Cx} {pins : List (Addr × Obj)} {σ : St} {H : Hp} {s : Shared} {a C dx : Addr} {fs : List (Str × V)} {f : Str} {v : V} {A : Around} {E : Value → Shared → Prop}

/-- a new instance, tracked, without attributes -/
theorem Inv.made (I : Inv X pins σ H s) : Inv X pins σ (upd (upd H s.heap.objs.size (.own (s.heap.objs.size + 1))) (s.heap.objs.size + 1) (.ins C s.heap.objs.size []))
    { s with heap := (s.heap.push PySem.W.emptyDict).push (PySem.W.instObj C s.heap.objs.size) } := by
  have e1 : (s.heap.push PySem.W.emptyDict).get? s.heap.objs.size = some PySem.W.emptyDict := Heap.get?_push_size s.heap rfl
  have e2 : ((s.heap.push PySem.W.emptyDict).push (PySem.W.instObj C s.heap.objs.size)).get? (s.heap.objs.size + 1) = some (PySem.W.instObj C s.heap.objs.size) := by
    have := Heap.get?_push_size (s.heap.push PySem.W.emptyDict) (o := PySem.W.instObj C s.heap.objs.size) rfl
    rwa [Heap.size_push] at this
  have e3 : (s.heap.push PySem.W.emptyDict).Ns s.heap.objs.size (fun _ => none) := ⟨PySem.W.emptyDict, #[], _, e1, rfl, (fun e he => absurd he (by simp)), fun _ => rfl⟩
  have I1 := I.laid (a := s.heap.objs.size) (o := .own (s.heap.objs.size + 1)) (h' := s.heap.push PySem.W.emptyDict) (t' := s.toks) (fun b u q => Heap.get?_push_of_some _ q) (Nat.le_refl _) ⟨_, e1⟩
  refine I1.laid (a := s.heap.objs.size + 1) (o := .ins C s.heap.objs.size []) (t' := s.toks) (fun b u q => Heap.get?_push_of_some _ q) (Nat.le_of_eq (Heap.size_push _ _)) ?_
  have ne : s.heap.objs.size ≠ s.heap.objs.size + 1 := Nat.ne_of_lt (Nat.lt_succ_self _)
  refine ⟨by rw [upd_ne ne, upd_same], Nat.zero_le _, ne, e2, fun _ => none, (Heap.Ns1.of_empty e3).at fun o q => Heap.get?_push_of_some _ q, fun _ => True.intro, fun y hy => absurd rfl hy⟩

end

/-! ### readings and rules -/
section
variable {X : Cx} {o e value : Expr} {f : Str} {pos pos' tpos : Pos} {ta tv : TE}
end

/-! ### isinstance -/
section
variable {X : Cx} {pins : List (Addr × Obj)} {σ : St} {H : Hp} {s : Shared} {A : Around} {E : Value → Shared → Prop} {Q : Value → Shared → Prop} {c : Value} {b : Bool}
/-- the type of a value, as the fragment's deciders take it; for an instance its class -/
inductive TyOf (K : PySem.W.Frag) (H : Hp) : V → Value → Prop where
  | non : TyOf K H .non (.type "NoneType")
  | bl (x : Bool) : TyOf K H (.bl x) (.type "bool")
  | int (i : Int) : TyOf K H (.int i) (.type "int")
  | str (x : Str) : TyOf K H (.str x) (.type "str")
  | flt (x : UInt64) : TyOf K H (.flt x) (.type "float")
  | lst {a : Addr} {xs : List V} (e : H a = some (.lst xs)) : TyOf K H (.ref a) (.type "list")
  | frz {a : Addr} {o : Obj} {xs : List V} (e : H a = some (.frz o (.lst xs))) : TyOf K H (.ref a) (.type "list")
  | tup {a : Addr} {xs : List V} (e : H a = some (.tup xs)) : TyOf K H (.ref a) (.type "tuple")
  | dK {a : Addr} {kvs : List (Key × V)} (e : H a = some (.dK kvs)) : TyOf K H (.ref a) (.type "dict")
  | dT {a : Addr} {kvs : List (List Key × V)} (e : H a = some (.dT kvs)) : TyOf K H (.ref a) (.type "dict")
  | ins {a C dx : Addr} {fs : List (Str × V)} (e : H a = some (.ins C dx fs)) (cl : Cls K C) (ha : PySem.W.findIn K (.ref C) "__class__" = some (some (.builtin "object.__class__")))
      (hn : PySem.W.specialIn K (.builtin "object.__class__") "__get__" = some (some (.builtin "getset_descriptor.__get__"))) (htk : PySem.W.takesIn K (.builtin "object.__class__") = some true)
      (hm : PySem.W.mroIn K C (.type "object") = some true) : TyOf K H (.ref a) (.ref C)
/-- isinstance(x, c) for one class c, a built-in or an own one: kitOne's answer -/
theorem isinst_ok {x : V} {u t : Value} (I : Inv X pins σ H s) (rx : RelV x u) (ty : TyOf X.K H x t) (e : PySem.W.kitOne X.K t c = some b) (h : ∀ tk, Q (.bool b) { s with toks := tk }) :
    wpAny (model X.prog X.w) A (call (.builtin "isinstance") [u, c]) Q E s := by
  cases ty with
  | non => cases (show u = Value.none from rx); exact PySem.W.kia_one PySem.W.kitx_none I.kIn True.intro e (fun z => nomatch z) h
  | bl y => cases (show u = Value.bool y from rx); exact PySem.W.kia_one PySem.W.kitx_bool I.kIn True.intro e (fun z => nomatch z) h
  | int i => obtain ⟨t, q⟩ := (show ∃ t, u = Value.int i t from rx); cases q; exact PySem.W.kia_one PySem.W.kitx_int I.kIn True.intro e (fun z => nomatch z) h
  | str y => obtain ⟨t, q⟩ := (show ∃ t, u = Value.str y t from rx); cases q; exact PySem.W.kia_one PySem.W.kitx_str I.kIn True.intro e (fun z => nomatch z) h
  | flt y => obtain ⟨t, q⟩ := (show ∃ t, u = Value.float y t from rx); cases q; exact PySem.W.kia_one PySem.W.kitx_float I.kIn True.intro e (fun z => nomatch z) h
  | @lst a xs ea =>
    cases (show u = Value.ref a from rx)
    obtain ⟨_, _, n, _, h1⟩ := (show ObjOk X.prog X.w H s.heap a (.lst xs) from I.hok a _ ea)
    exact PySem.W.kia_one PySem.W.kitx_list I.kIn ⟨_, h1, rfl⟩ e (fun z => nomatch z) h
  | @frz a ob xs ea =>
    cases (show u = Value.ref a from rx)
    obtain ⟨_, _, _, n, _, h1⟩ := (show ObjOk X.prog X.w H s.heap a (.frz ob (.lst xs)) from I.hok a _ ea)
    exact PySem.W.kia_one PySem.W.kitx_list I.kIn ⟨_, h1, rfl⟩ e (fun z => nomatch z) h
  | @tup a xs ea =>
    cases (show u = Value.ref a from rx)
    obtain ⟨_, _, _, p⟩ := (show ObjOk X.prog X.w H s.heap a (.tup xs) from I.hok a _ ea)
    obtain ⟨o, h1, h2, _⟩ := p
    exact PySem.W.kia_one PySem.W.kitx_tuple I.kIn ⟨o, h1, h2⟩ e (fun z => nomatch z) h
  | @dK a kvs ea =>
    cases (show u = Value.ref a from rx)
    obtain ⟨_, _, vs, _, p⟩ := (show ObjOk X.prog X.w H s.heap a (.dK kvs) from I.hok a _ ea)
    obtain ⟨o, es, ep, h1, h2, _⟩ := p
    exact PySem.W.kia_one PySem.W.kitx_dict I.kIn ⟨o, h1, h2.1⟩ e (fun z => nomatch z) h
  | @dT a kvs ea =>
    cases (show u = Value.ref a from rx)
    obtain ⟨_, _, xs, _, o, es, ep, h1, h2, _⟩ := (show ObjOk X.prog X.w H s.heap a (.dT kvs) from I.hok a _ ea)
    exact PySem.W.kia_one PySem.W.kitx_dict I.kIn ⟨o, h1, h2.1⟩ e (fun z => nomatch z) h
  | @ins a C dx fs ea cl ha hn htk hm =>
    cases (show u = Value.ref a from rx)
    obtain ⟨mA, O, _⟩ := ins_get I.hok ea
    obtain ⟨od, J, _⟩ := O.look
    exact PySem.W.kia_one (PySem.W.kitx_own (cl.get _) cl.hd ha hn htk hm) I.kIn J e (fun z => nomatch z) h
end
end L2

namespace L2
open PySem PySem.Spec PyProof.Rows

/-! ### room -/
structure Room (k : Nat) (A : Around) : Prop where
  hd : A.handled = none
  dp : A.depth + 3 * k + 5 < recursionLimit
  un : A.units + 16 * k + 200 < cLine
  gd : A.guards = some []
theorem Room.mono {j k : Nat} {A : Around} (r : Room k A) (h : j ≤ k) : Room j A := ⟨r.hd, by have := r.dp; omega, by have := r.un; omega, r.gd⟩
theorem Room.deeper {k : Nat} {A : Around} (r : Room (k + 1) A) (env : Env) : Room k (A.deeper env) :=
  ⟨r.hd, by have := r.dp; show A.depth + 1 + 3 * k + 5 < _; omega, by have := r.un; show A.units + 3 + 16 * k + 200 < _; omega, r.gd⟩
theorem Room.in1 {k : Nat} {A : Around} (r : Room (k + 1) A) : Room k A.in1 :=
  ⟨r.hd, by have := r.dp; show A.depth + 3 * k + 5 < _; omega, by have := r.un; show A.units + 1 + 16 * k + 200 < _; omega, r.gd⟩
theorem Room.depth {k : Nat} {A : Around} (r : Room k A) : A.depth < recursionLimit := by have := r.dp; omega
theorem Room.units {k : Nat} {A : Around} (r : Room k A) : A.units + 64 < cLine := by have := r.un; omega
/-! ### argument lists and displays -/
def tNil : TA := fun _ H Q => Q [] H
def tCons (ta : TE) (tr : TA) : TA := fun σ H Q => ta σ H fun x H1 => tr σ H1 fun xs H2 => Q (x :: xs) H2
section
variable {X : Cx} {e : Expr} {es : List Expr} {te : TE} {t : TA} {pos : Pos}
theorem pa_nil : PA X [] tNil := fun _ _ _ _ H Q I h => Calls.spliced_nil ⟨[], H, I, .nil, h⟩
theorem pa_cons (ha : PE X e te) (hr : PA X es t) (hs : starEach (e :: es) X.env = (false, eval e X.env) :: starEach es X.env := by rfl) : PA X (e :: es) (tCons te t) := by
  intro pos pins s σ H Q I h
  rw [hs]
  show wpAny _ _ (spliced ((false, eval e X.env) :: backTo pos (starEach es X.env))) _ _ s
  refine Calls.spliced_cons (thn (ha pins s σ H _ I h) fun u s1 ⟨x, H1, I1, r1, q1⟩ => ?_)
  exact thn (hr pos pins s1 σ H1 _ I1 q1) fun us s2 ⟨xs, H2, I2, r2, q2⟩ => ⟨x :: xs, H2, I2, .cons r1 r2, q2⟩

/-- a tuple, a list of written items -/
def tTup (t : TA) : TE := fun σ H Q => t σ H fun xs H1 => xs.length ≤ sizeLine ∧ ∀ p, H1 p = none → Q (.ref p) (upd H1 p (.tup xs))
def tLst (t : TA) : TE := fun σ H Q => t σ H fun xs H1 => xs.length ≤ sizeLine ∧ ∀ p, H1 p = none → Q (.ref p) (upd H1 p (.lst xs))
theorem pe_tup {x1} (h : PA X es t) : PE X (.Tuple es x1 pos) (tTup t) := by
  intro pins s σ H Q I hq
  refine wpAny_Tuple_spliced (thn (h pos pins s σ H _ I hq) fun us s1 ⟨xs, H1, I1, r, z, q⟩ => ⟨by rw [← r.length]; exact z, ?_⟩)
  have hf : H1 s1.heap.objs.size = none := I1.hok.fresh (Nat.le_refl _)
  refine ⟨.ref s1.heap.objs.size, upd H1 s1.heap.objs.size (.tup xs), I1.laid (t' := s1.toks) (fun b u e => Heap.get?_push_of_some _ e) (Nat.le_refl _) ?_, rfl, q _ hf⟩
  exact ⟨z, us, r, ⟨_, Heap.get?_push_size _ rfl, rfl, _, rfl⟩⟩
theorem pe_lst (h : PA X es t) : PE X (.List es pos) (tLst t) := by
  intro pins s σ H Q I hq
  refine wpAny_List_spliced (thn (h pos pins s σ H _ I hq) fun us s1 ⟨xs, H1, I1, r, z, q⟩ => ⟨by rw [← r.length]; exact z, ?_⟩)
  have hf : H1 s1.heap.objs.size = none := I1.hok.fresh (Nat.le_refl _)
  refine ⟨.ref s1.heap.objs.size, upd H1 s1.heap.objs.size (.lst xs), I1.laid (t' := s1.toks) (fun b u e => Heap.get?_push_of_some _ e) (Nat.le_refl _) ?_, rfl, q _ hf⟩
  exact ⟨z, us, 0, r, Heap.get?_push_size _ rfl⟩
end

/-! ### what a def promises -/
/-- a def's promise: the bound arguments in the parameters' order, the heap, the wanted end, the wanted exception -/
abbrev Sp := List V → Hp → VK → XK → Prop
/-- how an exception lies behind a call (file 08 gives it): the callers' frames, abstract heap and state ahead of the call, the wish, the exception, the state -/
abbrev CXT := List Env → Hp → Shared → XK → Value → Shared → Prop

/-- the state at a call -/
structure Env0 (P : Program) (w : World) (K : PySem.W.Frag) (mg : Str → Option Value) (base : Heap) (A : Around) (outer : List Env) (s : Shared) (H : Hp) : Prop where
  frames : A.frames = some outer
  mod : Mod K mg base
  bs : ∀ b o, base.get? b = some o → s.heap.get? b = some o ∧ H b = none
  bsz : base.objs.size ≤ s.heap.objs.size
  funs : s.heap.FunFrames base outer
  frf : ∀ b ∈ frs outer, H b = none
  hok : HOk P w H s.heap
  bare : AllBare s.gens
/-- a call's end -/
def CE (outer : List Env) (P : Program) (w : World) (H : Hp) (s : Shared) (Q : VK) (u : Value) (s' : Shared) : Prop :=
  ∃ v H', s'.os = s.os ∧ AllBare s'.gens ∧ Un (frs outer) [] H H' s.heap s'.heap ∧ HOk P w H' s'.heap ∧ RelV v u ∧ Q v H'
def CR (CX : CXT) (outer : List Env) (P : Program) (w : World) (H : Hp) (s : Shared) (Q : VK) (E : XK) (r : Result) (s' : Shared) : Prop :=
  match r with
  | .ok (.ret u) => CE outer P w H s Q u s'
  | .ok _ => False
  | .error e => CX outer H s E e s'
structure FnOk (P : Program) (w : World) (K : PySem.W.Frag) (mg : Str → Option Value) (base : Heap) (CX : CXT) (k : Nat) (f : Addr) (fd : FuncData) (ps : List Str) (sp : Sp) : Prop where
  len : ∀ vs H Q E, sp vs H Q E → vs.length = ps.length
  run : ∀ (A : Around) (outer : List Env) (s : Shared) (H : Hp) (args : Args) (us : List Value) (vs : List V) (Q : VK) (E : XK), Room k A → Env0 P w K mg base A outer s H → BindsTo s fd args (ps.zip us) → Vals vs us → sp vs H Q E →
    codeAny (model P w) A (.call (.ref f) args) (CR CX outer P w H s Q E) s
theorem FnOk.mono {P : Program} {w : World} {K : PySem.W.Frag} {mg : Str → Option Value} {base : Heap} {CX : CXT} {j k : Nat} {f : Addr} {fd : FuncData} {ps : List Str} {sp : Sp} (F : FnOk P w K mg base CX j f fd ps sp) (h : j ≤ k) :
    FnOk P w K mg base CX k f fd ps sp := ⟨F.len, fun A outer s H args us vs Q E hr => F.run A outer s H args us vs Q E (hr.mono h)⟩
/-- a weaker promise -/
theorem FnOk.imp {P : Program} {w : World} {K : PySem.W.Frag} {mg : Str → Option Value} {base : Heap} {CX : CXT} {k : Nat} {f : Addr} {fd : FuncData} {ps : List Str} {sp sp' : Sp} (F : FnOk P w K mg base CX k f fd ps sp)
    (h : ∀ vs H Q E, sp' vs H Q E → sp vs H Q E) : FnOk P w K mg base CX k f fd ps sp' :=
  ⟨fun vs H Q E q => F.len vs H Q E (h _ _ _ _ q), fun A outer s H args us vs Q E hr he hb hv hs => F.run A outer s H args us vs Q E hr he hb hv (h _ _ _ _ hs)⟩

theorem Env0.in1 {P : Program} {w : World} {K : PySem.W.Frag} {mg : Str → Option Value} {base : Heap} {A : Around} {outer : List Env} {s : Shared} {H : Hp} (e : Env0 P w K mg base A outer s H) :
    Env0 P w K mg base A.in1 outer s H := ⟨e.frames, e.mod, e.bs, e.bsz, e.funs, e.frf, e.hok, e.bare⟩

section
variable {X : Cx} {pins : List (Addr × Obj)} {σ : St} {H : Hp} {s s' : Shared}
/-- from a body: what a callee wants -/
theorem Inv.env0 (I : Inv X pins σ H s) : Env0 X.prog X.w X.K X.mg X.base X.A X.stack s H :=
  ⟨I.ok.frames, I.ok.mod, I.bs, Nat.le_trans I.ok.bsz I.sz, I.stack, I.stkFree, I.hok, I.bare⟩
/-- behind a call -/
theorem Inv.after {Q : VK} {u : Value} (I : Inv X pins σ H s) (h : CE X.stack X.prog X.w H s Q u s') : EP X pins σ Q u s' := by
  obtain ⟨v, H', os, bare, un, hok, r, q⟩ := h
  obtain ⟨hh, g, d, t, os'⟩ := s'
  obtain rfl : os' = s.os := os
  exact ⟨v, H', I.call (h' := hh) (g' := g) (d' := d) (t' := t) (ch := []) un hok bare (fun b z => absurd z (by simp)), r, q⟩
end

/-! ### calls -/
/-- f(..): the written arguments, then the defaults dvs; E: what is wanted of an exception -/
def tCall (sp : Sp) (dvs : List V) (E : XK) (t : TA) : TE := fun σ H Q => t σ H fun vs H1 => sp (vs ++ dvs) H1 Q E
/-- how the parameters are bound: us the positional arguments, kw the keywords' values by name, ds the defaults that fill up -/
def Binds (K : PySem.W.Frag) (fd : FuncData) (ps : List Str) (ds : List Value) : Prop :=
  ∀ (s : Shared) (us : List Value), K.In s.heap → (us ++ ds).length = ps.length → BindsTo s fd ⟨us, []⟩ (ps.zip (us ++ ds))
/-- every parameter is given -/
theorem Binds.all {K : PySem.W.Frag} {fd : FuncData} {ps : List Str} (h : ∀ us : List Value, us.length = ps.length → bindArgs fd ⟨us, []⟩ = pure (ps.zip us)) : Binds K fd ps [] := fun s us _ hl => by
  rw [List.append_nil] at hl ⊢
  exact .of_eq (h us hl)

/-- an exception of a callee reaches what this body wants of exceptions -/
def Passes (CX : CXT) (X : Cx) (E : XK) : Prop := ∀ (pins : List (Addr × Obj)) (σ : St) (H : Hp) (s : Shared) (e : Value) (s' : Shared), Inv X pins σ H s → CX X.stack H s E e s' → X.xe e s'

section
variable {X : Cx} {CX : CXT} {k : Nat} {f C : Addr} {fd : FuncData} {ps : List Str} {sp : Sp} {dvs : List V} {ds : List Value} {E : XK} {x m : Str} {p pos apos : Pos} {e o : Expr} {es : List Expr} {ta : TE} {t : TA}

/-- the callee runs -/
theorem run_fn {pins : List (Addr × Obj)} {σ : St} {H : Hp} {s : Shared} {Q : VK} {us : List Value} {vs : List V} (F : FnOk X.prog X.w X.K X.mg X.base CX k f fd ps sp) (hr : Room k X.A) (hb : Binds X.K fd ps ds) (hd : Vals dvs ds) (hx : Passes CX X E)
    (I : Inv X pins σ H s) (r : Vals vs us) (h : sp (vs ++ dvs) H Q E) : wpAny (model X.prog X.w) X.A (call (.ref f) us) (EP X pins σ Q) X.xe s := by
  have r2 : Vals (vs ++ dvs) (us ++ ds) := r.append hd
  have hl : (us ++ ds).length = ps.length := by rw [← r2.length]; exact F.len _ _ _ _ h
  refine wpAny_call (codeAny_mono (F.run X.A X.stack s H ⟨us, []⟩ (us ++ ds) (vs ++ dvs) Q E hr I.env0 (hb s us I.kIn hl) r2 h) fun r s' hq => ?_)
  cases r with
  | error e => exact hx pins σ H s e s' I hq
  | ok fl =>
    cases fl with
    | ret u => exact I.after hq
    | next => exact False.elim hq
    | brk => exact False.elim hq
    | cont => exact False.elim hq

theorem pe_call (F : FnOk X.prog X.w X.K X.mg X.base CX k f fd ps sp) (hr : Room k X.A) (hg : Gl X x) (hm : X.mg x = some (.ref f)) (hk : PySem.W.keepIn X.K (.ref f) = true) (hb : Binds X.K fd ps ds) (hd : Vals dvs ds) (hx : Passes CX X E)
    (ha : PA X (e :: es) t) (hdb : (x == ("__debug__" : Str)) = false := by decide) (he : starEach (e :: es) X.env = (false, eval e X.env) :: starEach es X.env := by rfl) (hpl : (backTo pos (starEach es X.env)).any (·.1) = false := by rfl) :
    PE X (.Call (.Name x p) (e :: es) [] pos) (tCall sp dvs E t) := by
  intro pins s σ H Q I h
  refine wpAny_Call_Name_kw (ld_glob I hg hm ?_ hdb)
  refine PySem.W.callWith_K (h₀ := X.base) I.ok.mod.kin hk (thn (ha pos pins s σ H _ I h) fun us s1 ⟨vs, H1, I1, r, q⟩ => ⟨I1.kIn, ?_⟩) he hpl
  exact run_fn F hr hb hd hx I1 r q
end

/-! ### keywords -/
section
variable {X : Cx} {CX : CXT} {k : Nat} {f C : Addr} {fd : FuncData} {ps ks : List Str} {sp : Sp} {E : XK} {x m : Str} {p pos apos kpos : Pos} {e o : Expr} {es : List Expr} {kws : List Keyword} {te ta : TE} {t tk : TA} {nm : Option Str}
variable {g : List Value → List Value → List Value} {gV : List V → List V → List V}
end

/-! ### a def's body keeps its promise -/
/-- names: the parameters first -/
structure FnScope (N P : List Str) (sc : Scope) : Prop where
  kind : sc.kind = .function
  co : sc.isCoroutine = false
  gen : sc.isGenerator = false
  nd : N.Nodup
  pre : N.take P.length = P
  par : ∀ x ∈ P, sc.names.lookup x = some .local ∨ sc.names.lookup x = some .cell
  nofree : ∀ y ∈ sc.names, y.2 ≠ .free

theorem bindL_out {kindOf : Str → Option NameKind} {x : Str} : ∀ {binds : List (Str × Value)} {m : Str → Option Value}, (∀ v, (x, v) ∉ binds) → bindL kindOf binds m x = m x
  | [], _, _ => rfl
  | (n, v) :: r, m, h => by
    unfold bindL
    rw [bindL_out fun w hw => h w (List.mem_cons_of_mem _ hw)]
    split
    · have : x ≠ n := by rintro rfl; exact h v List.mem_cons_self
      simp [this]
    · rfl
theorem bindC_out {kindOf : Str → Option NameKind} {x : Str} : ∀ {binds : List (Str × Value)} {m : Str → Option Value}, (∀ v, (x, v) ∉ binds) → bindC kindOf binds m x = m x
  | [], _, _ => rfl
  | (n, v) :: r, m, h => by
    unfold bindC
    rw [bindC_out fun w hw => h w (List.mem_cons_of_mem _ hw)]
    split
    · rfl
    · have : x ≠ n := by rintro rfl; exact h v List.mem_cons_self
      simp [this]
theorem bindL_get {kindOf : Str → Option NameKind} {x : Str} {v : Value} : ∀ {P : List Str} {vs : List Value} {i : Nat} {m : Str → Option Value}, P.Nodup → P[i]? = some x → vs[i]? = some v → kindOf x = some .local →
    bindL kindOf (P.zip vs) m x = some v
  | [], _, _, _, _, h, _, _ => by simp at h
  | _ :: _, [], _, _, _, _, h, _ => by simp at h
  | p :: P, w :: vs, 0, m, nd, h1, h2, hk => by
    simp at h1 h2; subst h1; subst h2
    show bindL kindOf ((p, w) :: P.zip vs) m p = _
    unfold bindL
    rw [bindL_out fun v hv => (List.nodup_cons.mp nd).1 (List.of_mem_zip hv).1, if_pos hk]
    simp
  | p :: P, w :: vs, i + 1, m, nd, h1, h2, hk => by
    show bindL kindOf ((p, w) :: P.zip vs) m x = _
    unfold bindL
    exact bindL_get (i := i) (List.nodup_cons.mp nd).2 (by simpa using h1) (by simpa using h2) hk
theorem bindC_get {kindOf : Str → Option NameKind} {x : Str} {v : Value} : ∀ {P : List Str} {vs : List Value} {i : Nat} {m : Str → Option Value}, P.Nodup → P[i]? = some x → vs[i]? = some v → kindOf x ≠ some .local →
    bindC kindOf (P.zip vs) m x = some v
  | [], _, _, _, _, h, _, _ => by simp at h
  | _ :: _, [], _, _, _, _, h, _ => by simp at h
  | p :: P, w :: vs, 0, m, nd, h1, h2, hk => by
    simp at h1 h2; subst h1; subst h2
    show bindC kindOf ((p, w) :: P.zip vs) m p = _
    unfold bindC
    rw [bindC_out fun v hv => (List.nodup_cons.mp nd).1 (List.of_mem_zip hv).1, if_neg hk]
    simp
  | p :: P, w :: vs, i + 1, m, nd, h1, h2, hk => by
    show bindC kindOf ((p, w) :: P.zip vs) m x = _
    unfold bindC
    exact bindC_get (i := i) (List.nodup_cons.mp nd).2 (by simpa using h1) (by simpa using h2) hk

/-- the names' values at the entry -/
def start (N : List Str) (vs : List V) : St := vs.map some ++ List.replicate (N.length - vs.length) none

/-- the context of a def's body, at its entry; an exception leaves the frame, then lies as CX says -/
def cxOf (CX : CXT) (P : Program) (w : World) (K : PySem.W.Frag) (mg : Str → Option Value) (base : Heap) (N : List Str) (qual : Str) (scope : Scope) (f : Addr) (cd : Value) (A : Around) (outer : List Env) (s : Shared) (H : Hp) (E : XK) : Cx where
  prog := P
  w := w
  K := K
  mg := mg
  base := base
  A := A.deeper (envOfC qual scope s.heap.objs.size f cd)
  N := N
  s₀ := s
  H₀ := H
  env := envOfC qual scope s.heap.objs.size f cd
  outer := outer
  stack := envOfC qual scope s.heap.objs.size f cd :: outer
  ex := []
  calm := true
  fn := fun _ => true
  pn := []
  xe := fun e s' => wpAny (model P w) (A.deeper (envOfC qual scope s.heap.objs.size f cd)) (leaving (envOfC qual scope s.heap.objs.size f cd) e) (fun _ s'' => CX outer H s E e s'') (fun e' s'' => CX outer H s E e' s'') s'

theorem cell_has {sc : Scope} {n : Nat} {x : Str} (h : sc.names.lookup x = some .cell) : ∃ c, (cellsFrom n sc.names []).lookup x = some c := by
  have q := PySem.W.cellsFrom_some sc.names n [] (.inl h)
  exact Option.isSome_iff_exists.mp q

theorem inv_start {CX : CXT} {P : Program} {w : World} {K : PySem.W.Frag} {mg : Str → Option Value} {base : Heap} {N ps : List Str} {qual : Str} {scope : Scope} {f : Addr} {cd : Value} {A : Around} {outer : List Env} {s s1 : Shared} {H : Hp} {E : XK} {us : List Value} {vs : List V}
    (S : FnScope N ps scope) (hd : A.handled = none) (e0 : Env0 P w K mg base A outer s H) (hl : vs.length = ps.length) (r : Vals vs us)
    (x : InCallC s s.heap.objs.size (bindL (envOfC qual scope s.heap.objs.size f cd).kindOf (ps.zip us) fun _ => none) (cellsFrom (s.heap.objs.size + 1) scope.names []) (bindC (envOfC qual scope s.heap.objs.size f cd).kindOf (ps.zip us) fun _ => none) s1) :
    Inv (cxOf CX P w K mg base N qual scope f cd A outer s H E) [] (start N vs) H s1 := by
  have hpl : ps.length ≤ N.length := by have := congrArg List.length S.pre; rw [List.length_take] at this; omega
  obtain ⟨h1, tk, rfl, hk⟩ := x.done
  have noA : ∀ b : Addr, b ∉ (cxOf CX P w K mg base N qual scope f cd A outer s H E).ex := fun b z => absurd (show b ∈ ([] : List Addr) from z) (by simp)
  refine ⟨⟨e0.mod, S.kind, rfl, rfl, Nat.le_refl _, fun y z c h1 h2 => ?_, fun y hy => ?_, fun y c _ h => ?_, fun _ => hd, Around.frames_deeper e0.frames, .inr ⟨rfl, rfl⟩, fun b z => absurd z (noA b), e0.bs, e0.bsz, fun b _ _ => noA b, fun b z => absurd z (noA b), e0.funs, e0.frf⟩,
    rfl, e0.bare, Un.kept hk, ⟨_, x.toInCall.ns, fun i y v h1 h2 h3 => ?_⟩, fun y c h => ⟨_, x.cell y c h⟩, e0.hok.fresh (Nat.le_refl _), fun y c h => ?_, fun p hp => absurd (show p ∈ ([] : List (Addr × Obj)) from hp) (by simp), e0.hok.kept hk, ?_⟩
  · exact name_of_addr x.apart (PySem.mem_of_lookup h1) (PySem.mem_of_lookup h2)
  · have hy : scope.names.lookup y = some .cell ∨ scope.names.lookup y = some .free := hy
    rcases hy with hy | hy
    · exact cell_has hy
    · exact absurd rfl (S.nofree _ (PySem.mem_of_lookup hy))
  · exact Nat.le_of_lt (x.above y c (PySem.mem_of_lookup h))
  · have hi : i < vs.length := by
      unfold start at h2
      by_cases hi : i < vs.length
      · exact hi
      · rw [List.getElem?_append_right (by simpa using hi)] at h2
        rw [List.getElem?_replicate] at h2
        split at h2 <;> cases h2
    have ha : vs[i]? = some v := by
      unfold start at h2
      rw [List.getElem?_append_left (by simpa using hi), List.getElem?_map] at h2
      cases e : vs[i]? with
      | none => rw [e] at h2; cases h2
      | some a => rw [e] at h2; cases h2; rfl
    obtain ⟨u, hu, rv⟩ := r.get ha
    have hp : ps[i]? = some y := by
      rw [← S.pre, List.getElem?_take_of_lt (by omega)]; exact h1
    have ndP : ps.Nodup := by rw [← S.pre]; exact S.nd.sublist (List.take_sublist _ _)
    refine ⟨u, rv, ?_⟩
    rcases S.par y (List.mem_of_getElem? hp) with k | k
    · exact .inl ⟨k, bindL_get ndP hp hu k⟩
    · obtain ⟨c, e⟩ := cell_has (n := s.heap.objs.size + 1) k
      refine .inr ⟨.inl k, c, e, ?_⟩
      have q := x.cell y c e
      rw [bindC_get ndP hp hu (by show scope.names.lookup y ≠ _; rw [k]; decide)] at q
      exact q
  · exact e0.hok.fresh (Nat.le_of_lt (x.above y c (PySem.mem_of_lookup h)))
  · unfold start
    show _ = N.length
    rw [List.length_append, List.length_map, List.length_replicate]
    omega

/-- THE RULE: a def (or a method) of the text, by its body. The body's reading t is chosen for each entry; it is run at the parameters' values -/
theorem fn_of {CX : CXT} {P : Program} {w : World} {K : PySem.W.Frag} {mg : Str → Option Value} {base : Heap} {k : Nat} {f : Addr} {name qual : Str} {params : Arguments} {body : List Stmt} {scope : Scope} {dV kV doc pm cdv ct oc : Value} {an od : Option Addr}
    {osl : Array (Option Value)} {N ps : List Str} {sp : Sp} (lk : K.lookup f = some ⟨oc, od, .func (PySem.W.fnOf name qual params body scope dV kV doc pm an cdv ct), osl⟩) (hcd : PySem.W.codeIn K cdv qual = true) (S : FnScope N ps scope)
    (len : ∀ vs H Q E, sp vs H Q E → vs.length = ps.length)
    (hbody : ∀ (A : Around) (outer : List Env) (s : Shared) (H : Hp) (vs : List V) (Q : VK) (E : XK), Room k (A.deeper (envOfC qual scope s.heap.objs.size f cdv)) → sp vs H Q E →
      ∃ t, PSs (cxOf CX P w K mg base N qual scope f cdv A outer s H E) body t ∧ t { nx := fun _ H' => Q .non H', rt := Q } (start N vs) H) :
    FnOk P w K mg base CX (k + 1) f (PySem.W.fnOf name qual params body scope dV kV doc pm an cdv ct) ps sp := by
  refine ⟨len, fun A outer s H args us vs Q E hr e0 hb r hsp => ?_⟩
  have hl := len _ _ _ _ hsp
  have KX : K.In s.heap := e0.mod.kin.keeps fun b o e => (e0.bs b o e).1
  have lim : s.heap.NoLimit := e0.mod.nolimit.keeps fun b o e => (e0.bs b o e).1
  have hkind : ∀ y ∈ ps.zip us, scope.names.lookup y.1 = some .local ∨ (scope.names.lookup y.1 = some .cell ∧ ((cellsFrom (s.heap.objs.size + 1) scope.names []).lookup y.1).isSome = true) := fun ⟨n, v⟩ hy => by
    rcases S.par n (List.of_mem_zip hy).1 with q | q
    · exact .inl q
    · exact .inr ⟨q, PySem.W.cellsFrom_some _ _ _ (.inl q)⟩
  refine codeAny_call_function hr.depth (KX _ _ lk) rfl S.co S.gen rfl (PySem.W.codeRec_of KX hcd) (hb _ _ _ _ ?_)
  refine wpAny_newFunctionEnv_cells S.kind hkind fun env he s1 x => ?_
  subst he
  refine ⟨lim.keeps x.toInCall.keep, codeAny_func ?_⟩
  obtain ⟨t, ht, hq⟩ := hbody A outer s H vs Q E (hr.deeper _) hsp
  have I : Inv (cxOf CX P w K mg base N qual scope f cdv A outer s H E) [] (start N vs) H s1 := inv_start S hr.hd e0 hl r x
  refine wpAny_mono (ht [] s1 (start N vs) H _ I hq) (fun fl s' hs => ?_) fun e s' hs => hs
  have fin : ∀ {σ' : St} {H' : Hp} {v : V} {u : Value}, Inv (cxOf CX P w K mg base N qual scope f cdv A outer s H E) [] σ' H' s' → RelV v u → Q v H' → CE outer P w H s Q u s' :=
    fun {σ' H' v u} J rv q => ⟨v, H', J.os, J.bare, J.base, J.hok, rv, q⟩
  cases fl with
  | ret u =>
    obtain ⟨v, σ', H', J, rv, q⟩ := hs
    exact fin J rv q
  | next =>
    obtain ⟨σ', H', J, q⟩ := hs
    exact fin (v := V.non) (u := Value.none) J rfl q
  | brk =>
    obtain ⟨_, _, _, q⟩ := hs
    exact False.elim q
  | cont =>
    obtain ⟨_, _, _, q⟩ := hs
    exact False.elim q
end L2

namespace L2
open PySem PySem.Spec PyProof.Rows
section
variable {X : Cx} {x : Str} {p pos : Pos} {e : Expr} {es : List Expr} {t : TA} {id T : String} {r : List V → Hp → VK → Prop}

def tCB (r : List V → Hp → VK → Prop) (t : TA) : TE := fun σ H Q => t σ H fun vs H1 => r vs H1 Q
/-- f(e, ..), f a built-in function -/
theorem pe_callB (hc : CallR X (.builtin id) r) (hg : Gl X x) (hm : X.mg x = none) (hv : bootBuiltins x = some (.builtin id)) (ha : PA X (e :: es) t) (hn : x ≠ "__name__" := by decide) (hdb : (x == ("__debug__" : Str)) = false := by decide)
    (he : starEach (e :: es) X.env = (false, eval e X.env) :: starEach es X.env := by rfl) (hpl : (backTo pos (starEach es X.env)).any (·.1) = false := by rfl) : PE X (.Call (.Name x p) (e :: es) [] pos) (tCB r t) := by
  intro pins s σ H Q I h
  refine wpAny_Call_Name_kw (ld_blt I hg hm hv ?_ hn hdb)
  exact PyProof.Rows.callWith_builtin1 (thn (ha pos pins s σ H _ I h) fun us s1 ⟨vs, H1, I1, r1, q1⟩ => hc pins s1 σ H1 vs us Q I1 r1 q1) he hpl
/-- T(e, ..), T a built-in type -/
theorem pe_callTy (hc : CallR X (.type T) r) (hg : Gl X x) (hm : X.mg x = none) (hv : bootBuiltins x = some (.type T)) (ha : PA X (e :: es) t) (hn : x ≠ "__name__" := by decide) (hdb : (x == ("__debug__" : Str)) = false := by decide)
    (he : starEach (e :: es) X.env = (false, eval e X.env) :: starEach es X.env := by rfl) (hpl : (backTo pos (starEach es X.env)).any (·.1) = false := by rfl) : PE X (.Call (.Name x p) (e :: es) [] pos) (tCB r t) := by
  intro pins s σ H Q I h
  refine wpAny_Call_Name_kw (ld_blt I hg hm hv ?_ hn hdb)
  exact PyProof.Rows.callWith_type1 (thn (ha pos pins s σ H _ I h) fun us s1 ⟨vs, H1, I1, r1, q1⟩ => hc pins s1 σ H1 vs us Q I1 r1 q1) he hpl
end
end L2

namespace HT
open PySem PyProof.Rows

/-- t < u of tuples of ints -/
def lexLt : List Int → List Int → Bool
  | [], [] => false
  | [], _ :: _ => true
  | _ :: _, [] => false
  | x :: xs, y :: ys => if x = y then lexLt xs ys else decide (x < y)
theorem lexLt_cons (x y : Int) (xs ys : List Int) : lexLt (x :: xs) (y :: ys) = if x = y then lexLt xs ys else decide (x < y) := rfl
theorem rcLt_int (A : Around) (s : Shared) (a : Int) (t : Tok) (c : Int) (u : Tok) (prog : Program) (w : World) (E : Value → Shared → Prop) (Q : Value → Shared → Prop) (h : Q (.bool (decide (a < c))) s) :
    wpAny (model prog w) A (richCompare .Lt (.int a t) (.int c u)) Q E s :=
  (PyProof.Rows.lt_int h : wpAny (model prog w) A (compareOp .Lt (.int a t) (.int c u)) Q E s)

section
open PySem.SeqAt
open PySem.AutoSeq1 (wpAny_loadPart')
open PySem.MeetsSeq PySem.MeetsSeq2 PySem.MeetsSeq3

end

section
variable {prog : Program} {w : World} {A : Around} {E : Value → Shared → Prop} {s : Shared}

/-- t + u, t not empty -/
theorem cat_tup {t b : Addr} {vs ws : List Value} {Q : Value → Shared → Prop} (ht : IsTup s.heap t vs.toArray) (hb : IsTup s.heap b ws.toArray) (hv : vs ≠ [])
    (h1 : ws = [] → Q (.ref t) s) (h2 : ws ≠ [] → Q (.ref s.heap.objs.size) { s with heap := s.heap.push { cls := .type "tuple", data := .seq (vs ++ ws).toArray } })
    (hsz : vs.length + ws.length ≤ sizeLine) : wpAny (model prog w) A (binaryOp .Add (.ref t) (.ref b)) Q E s := by
  obtain ⟨⟨cls, dd, data, sl⟩, ho, hc, n, hd⟩ := id ht
  obtain ⟨⟨cls2, dd2, data2, sl2⟩, ho2, hc2, n2, hd2⟩ := id hb
  simp only at hc hd hc2 hd2
  subst hc hd hc2 hd2
  have e : vs.toArray ++ ws.toArray = (vs ++ ws).toArray := by simp
  by_cases hw : ws = []
  · exact concat_meets ⟨_, ho, rfl⟩ ⟨_, ho2, rfl⟩ noFill_tuple_add seq_tuple_add PySem.F.slot_tuple_add PySem.F.entry_tuple_add (PySem.F.args_tuple_add_2 _ _)
      (tuple_addW1 t b vs.toArray ws.toArray n n2 dd dd2 sl sl2 (by simpa using hv) (by simp [hw])) ⟨ho, ho2, h1 hw⟩
  · refine concat_meets ⟨_, ho, rfl⟩ ⟨_, ho2, rfl⟩ noFill_tuple_add seq_tuple_add PySem.F.slot_tuple_add PySem.F.entry_tuple_add (PySem.F.args_tuple_add_2 _ _)
      (tuple_addW2 t b vs.toArray ws.toArray n n2 dd dd2 sl sl2 (by simpa using hv) (by simpa using hw) (by rw [List.size_toArray, List.size_toArray]; exact hsz)) ⟨ho, ho2, ?_⟩
    rw [e]
    exact h2 hw

/-! ### t[a:b], not the whole -/
/-- a slice's bound as a place among n (d where it is left out) -/
def sIx (n d : Nat) : Option Int → Nat
  | none => d
  | some v => if v < 0 then (v + (n : Int)).toNat else min v.toNat n
theorem sIx_nat (n d k : Nat) : sIx n d (some (k : Int)) = min k n := by
  show (if (k : Int) < 0 then ((k : Int) + (n : Int)).toNat else min (k : Int).toNat n) = min k n
  rw [if_neg (by omega), Int.toNat_natCast]
end
end HT

namespace L2
open PySem PySem.Spec PyProof.Rows

/-! ### the parts of a slice -/
abbrev TO := St → Hp → (Option Int → Hp → Prop) → Prop
section
variable {X : Cx} {e : Expr} {te : TE} {lo hi : Option Expr} {tl th : TO} {pos p2 : Pos}

/-- what a slice of a value is, by values: the slice object stands at sl -/
def SlR (X : Cx) (r : V → Option Int → Option Int → Hp → VK → Prop) : Prop :=
  ∀ (pins : List (Addr × Obj)) (s : Shared) (σ : St) (H : Hp) (x : V) (v vl vu : Value) (lo hi : Option Int) (sl : Addr) (Q : VK), Inv X pins σ H s → RelV x v → s.heap.IsSliceOf sl vl vu .none → IsPart vl lo → IsPart vu hi → r x lo hi H Q →
    ∃ T id, typeLookup (.type T) "__getitem__" = pure (some (.builtin id)) ∧ s.TypeIs v T ∧ wpAny (model X.prog X.w) X.A (getItem v (.ref sl)) (EP X pins σ Q) X.xe s
theorem SlR.or {r r' : V → Option Int → Option Int → Hp → VK → Prop} (h : SlR X r) (h' : SlR X r') : SlR X (fun x lo hi H Q => r x lo hi H Q ∨ r' x lo hi H Q) := by
  intro pins s σ H x v vl vu lo hi sl Q I rx hs pl pu q
  rcases q with q | q
  · exact h pins s σ H x v vl vu lo hi sl Q I rx hs pl pu q
  · exact h' pins s σ H x v vl vu lo hi sl Q I rx hs pl pu q
/-! ### t < u, t + u -/
/-- t + u, t not empty: u empty gives t itself -/
def rCatT (K : PySem.W.Frag) : R2 := fun x y H Q => ∃ a b xs ys, x = .ref a ∧ y = .ref b ∧ SqT K H a xs ∧ SqT K H b ys ∧ xs ≠ [] ∧ xs.length + ys.length ≤ sizeLine ∧
  (ys = [] → Q (.ref a) H) ∧ (ys ≠ [] → ∀ p, H p = none → Q (.ref p) (upd H p (.tup (xs ++ ys))))
theorem Vals.nil_iff {xs : List V} {us : List Value} (r : Vals xs us) : us = [] ↔ xs = [] := by
  cases r with
  | nil => simp
  | cons _ _ => simp
theorem op_catT : OpR X (binaryOp .Add) (rCatT X.K) := by
  intro pins s σ H x y v u Q I rx ry h
  obtain ⟨a, b, xs, ys, rfl, rfl, ha, hb, hx, hz, q1, q2⟩ := h
  cases rx
  cases ry
  obtain ⟨its, r1, p1, _⟩ := I.tuple ha
  obtain ⟨its2, r2, p2, _⟩ := I.tuple hb
  refine HT.cat_tup p1 p2 (fun z => hx (r1.nil_iff.mp z)) (fun z => ⟨.ref a, H, I, rfl, q1 (r2.nil_iff.mp z)⟩) (fun z => ?_) (by rw [← r1.length, ← r2.length]; exact hz)
  refine ⟨.ref s.heap.objs.size, _, I.laid (t' := s.toks) (o := .tup (xs ++ ys)) (fun b ob q => Heap.get?_push_of_some _ q) (Nat.le_refl _) ?_, rfl, q2 (fun w => z (r2.nil_iff.mpr w)) _ (I.hok.fresh (Nat.le_refl _))⟩
  exact ⟨by rw [List.length_append]; exact hz, _, r1.append r2, IsTup.new _ _⟩
end
end L2

namespace L2
open PySem PySem.Spec PyProof.Rows

/-! ### places -/
/-- the place that an index of any sign means -/
def ixN (n : Nat) (i : Int) : Option Nat := if 0 ≤ i then (if i < n then some i.toNat else none) else if -(n : Int) ≤ i then some (i + n).toNat else none
def atI {α : Type} (xs : List α) (i : Int) : Option α := (ixN xs.length i).bind fun j => xs[j]?
theorem ixN_seq {n : Nat} {i : Int} {j : Nat} (h : ixN n i = some j) : seqIndex? i n = some j ∧ j < n ∧ -(n : Int) ≤ i ∧ i < n := by
  unfold ixN at h
  by_cases h0 : 0 ≤ i
  · rw [if_pos h0] at h
    by_cases h1 : i < n
    · rw [if_pos h1] at h
      have e : i.toNat = j := Option.some.inj h
      exact ⟨by rw [seqIndex_of h0 h1, e], by omega, by omega, h1⟩
    · rw [if_neg h1] at h; cases h
  · rw [if_neg h0] at h
    by_cases h1 : -(n : Int) ≤ i
    · rw [if_pos h1] at h
      have e : (i + n).toNat = j := Option.some.inj h
      exact ⟨by rw [seqIndex_neg (by omega) h1, e], by omega, h1, by omega⟩
    · rw [if_neg h1] at h; cases h
theorem atI_get {α : Type} {xs : List α} {i : Int} {v : α} (h : atI xs i = some v) : ∃ j, seqIndex? i xs.length = some j ∧ xs[j]? = some v ∧ j < xs.length ∧ -(xs.length : Int) ≤ i ∧ i < xs.length := by
  unfold atI at h
  cases e : ixN xs.length i with
  | none => rw [e] at h; cases h
  | some j =>
    rw [e] at h
    obtain ⟨h1, h2, h3, h4⟩ := ixN_seq e
    exact ⟨j, h1, h, h2, h3, h4⟩
theorem atI_nat {α : Type} {xs : List α} {j : Nat} {v : α} (h : xs[j]? = some v) : atI xs (j : Int) = some v := by
  have hj : j < xs.length := (List.getElem?_eq_some_iff.mp h).1
  have e : ixN xs.length (j : Int) = some j := by
    unfold ixN
    rw [if_pos (by omega), if_pos (by omega)]; simp
  unfold atI; rw [e]; exact h
theorem atI_last {α : Type} (xs : List α) (v : α) : atI (xs ++ [v]) (-1) = some v := by
  have hl : (xs ++ [v]).length = xs.length + 1 := by simp
  have e : ixN (xs ++ [v]).length (-1) = some xs.length := by
    unfold ixN
    rw [hl, if_neg (by decide), if_pos (by omega)]
    congr 1
    omega
  unfold atI
  rw [e]
  show (xs ++ [v])[xs.length]? = some v
  simp

/-! ### what may be subscripted -/
/-- what stands as an index of a plain subscript -/
def PlainIx (b : Expr) : Prop := ∀ o i, subscripted b false o i = operate [o, i] (getItem o i)
/-- a subscript by values -/
def IxR (X : Cx) (r : R2) : Prop :=
  ∀ (value slice : Expr) (pins : List (Addr × Obj)) (s : Shared) (σ : St) (H : Hp) (x y : V) (v u : Value) (Q : VK), Inv X pins σ H s → RelV x v → RelV y u → r x y H Q →
    subscripted slice false v u = operate [v, u] (getItem v u) → wpAny (model X.prog X.w) X.A (subscriptTail value slice v u) (EP X pins σ Q) X.xe s
/-- a call of a builtin's method by values: the receiver, the arguments -/
def MtR (X : Cx) (id : String) (r : V → List V → Hp → VK → Prop) : Prop :=
  ∀ (pins : List (Addr × Obj)) (s : Shared) (σ : St) (H : Hp) (x : V) (xs : List V) (v : Value) (us : List Value) (Q : VK), Inv X pins σ H s → RelV x v → Vals xs us → r x xs H Q →
    wpAny (model X.prog X.w) X.A (call (.builtin id) (v :: us)) (EP X pins σ Q) X.xe s
section
variable {X : Cx} {a b : Expr} {ta tb : TE} {pos : Pos}
theorem IxR.or {r r' : R2} (h : IxR X r) (h' : IxR X r') : IxR X (fun x y H Q => r x y H Q ∨ r' x y H Q) := by
  intro value slice pins s σ H x y v u Q I rx ry q hs
  rcases q with q | q
  · exact h value slice pins s σ H x y v u Q I rx ry q hs
  · exact h' value slice pins s σ H x y v u Q I rx ry q hs
theorem MtR.or {id : String} {r r' : V → List V → Hp → VK → Prop} (h : MtR X id r) (h' : MtR X id r') : MtR X id (fun x xs H Q => r x xs H Q ∨ r' x xs H Q) := by
  intro pins s σ H x xs v us Q I rx rs q
  rcases q with q | q
  · exact h pins s σ H x xs v us Q I rx rs q
  · exact h' pins s σ H x xs v us Q I rx rs q
/-- a[b] -/
theorem pe_ix {r : R2} (hr : IxR X r) (ha : PE X a ta) (hb : PE X b tb) (hs : PlainIx b) : PE X (.Subscript a b pos) (tOp r ta tb) := by
  intro pins s σ H Q I h
  exact Subscript_ (binT ha hb I h fun v u s2 x y H2 I2 rx ry q => hr a b pins s2 σ H2 x y v u Q I2 rx ry q (hs _ _))

def rIxL (K : PySem.W.Frag) : R2 := fun x y H Q => ∃ p xs i v, x = .ref p ∧ y = .int i ∧ SqL K H p xs ∧ atI xs i = some v ∧ Q v H
def rIxT (K : PySem.W.Frag) : R2 := fun x y H Q => ∃ p xs i v, x = .ref p ∧ y = .int i ∧ SqT K H p xs ∧ atI xs i = some v ∧ Q v H
theorem ix_list : IxR X (rIxL X.K) := by
  intro value slice pins s σ H x y v u Q I rx ry h hs
  obtain ⟨p, xs, i, z, rfl, rfl, hq, he, q⟩ := h
  cases rx
  obtain ⟨t, rfl⟩ := ry
  obtain ⟨its, r, pl, hz⟩ := I.list hq
  obtain ⟨j, h1, h2, h3, h4, h5⟩ := atI_get he
  obtain ⟨w, ew, rw'⟩ := r.get h2
  have hl := r.length
  have hn := line63
  have fin : EP X pins σ Q w s := ⟨z, H, I, rw', q⟩
  by_cases h0 : 0 ≤ i
  · have hj : i.toNat = j := by
      rw [seqIndex_of h0 h5] at h1
      exact Option.some.inj h1
    exact item_listR pl.isList h0 (by omega) (by rw [hj]; simpa using ew) fin hs
  · have hj : (i + (its.toArray.size : Int)).toNat = j := by
      rw [seqIndex_neg (by omega) h4] at h1
      rw [List.size_toArray, ← hl]
      exact Option.some.inj h1
    exact subscriptTail_builtinR (x := w) pl.isList.typeIs slot_list_getitem.lookup
      (wpAny_getItem_list_neg (Q := fun r s' => r = w ∧ EP X pins σ Q r s') pl.isList (by omega) (by rw [List.size_toArray] <;> omega) (by omega) (by rw [hj]; simpa using ew) ⟨rfl, fin⟩) hs
theorem ix_tup : IxR X (rIxT X.K) := by
  intro value slice pins s σ H x y v u Q I rx ry h hs
  obtain ⟨p, xs, i, z, rfl, rfl, hq, he, q⟩ := h
  cases rx
  obtain ⟨t, rfl⟩ := ry
  obtain ⟨its, r, pl, hz⟩ := I.tuple hq
  obtain ⟨j, h1, h2, h3, h4, h5⟩ := atI_get he
  obtain ⟨w, ew, rw'⟩ := r.get h2
  have hl := r.length
  have hn := line63
  have fin : EP X pins σ Q w s := ⟨z, H, I, rw', q⟩
  exact subscriptTail_builtinR (x := w) pl.typeIs slot_tuple_getitem.lookup
    (getItem_tuple (j := j) (Q := fun r s' => r = w ∧ EP X pins σ Q r s') pl (by omega) (by omega) (by rw [List.size_toArray, ← hl]; exact h1) (by simpa using ew) ⟨rfl, fin⟩) hs
/-! ### xs[i] = v, any sign -/
theorem Inv.lst {pins : List (Addr × Obj)} {σ : St} {H : Hp} {s : Shared} {p : Addr} {xs : List V} (I : Inv X pins σ H s) (h : H p = some (.lst xs)) :
    ∃ (its : List Value) (n : Nat), Vals xs its ∧ s.heap.get? p = some { cls := .type "list", data := .seq its.toArray n } ∧ xs.length ≤ sizeLine := by
  obtain ⟨z, its, n, r, e⟩ := I.hok p _ h
  exact ⟨its, n, r, e, z⟩
/-! ### slices -/
/-! ### in, not in: flat items -/
/-! ### len, list(x), tuple(x) of any list or tuple that is read -/
theorem call_len_seq : CallR X (.builtin "len") (fun xs H Q => ∃ p ys, xs = [.ref p] ∧ (SqL X.K H p ys ∨ SqT X.K H p ys) ∧ Q (.int ys.length) H) := by
  intro pins s σ H xs us Q I r h
  obtain ⟨p, ys, rfl, hq, q⟩ := h
  obtain ⟨u, rfl, rx⟩ := vals1 r
  cases rx
  have hn := line63
  rcases hq with hq | hq
  · obtain ⟨its, r', pl, hz⟩ := I.list hq
    have hlen := r'.length
    exact Calls.call_len_list pl.isList (by simp only [List.size_toArray] <;> omega) ⟨.int ys.length, H, I.tok _, ⟨s.toks + 1, by rw [List.size_toArray, hlen]⟩, q⟩
  · obtain ⟨its, r', pl, hz⟩ := I.tuple hq
    have hlen := r'.length
    exact len_tuple pl (by simp only [List.size_toArray] <;> omega) ⟨.int ys.length, H, I.tok _, ⟨s.toks + 1, by rw [List.size_toArray, hlen]⟩, q⟩
theorem CallR.or {f : Value} {r r' : List V → Hp → VK → Prop} (h : CallR X f r) (h' : CallR X f r') : CallR X f (fun xs H Q => r xs H Q ∨ r' xs H Q) := by
  intro pins s σ H xs us Q I rs q
  rcases q with q | q
  · exact h pins s σ H xs us Q I rs q
  · exact h' pins s σ H xs us Q I rs q
theorem call_list_of : CallR X (.type "list") (fun xs H Q => ∃ p ys, xs = [.ref p] ∧ (SqL X.K H p ys ∨ SqT X.K H p ys) ∧ ∀ l, H l = none → Q (.ref l) (upd H l (.lst ys))) := by
  intro pins s σ H xs us Q I r h
  obtain ⟨p, ys, rfl, hq, q⟩ := h
  obtain ⟨u, rfl, rx⟩ := vals1 r
  cases rx
  have fin : ∀ (its : List Value), Vals ys its → ys.length ≤ sizeLine → ∀ (h' : Heap) (c' : Nat), (∀ b o', s.heap.get? b = some o' → h'.get? b = some o') →
      h'.get? s.heap.objs.size = some { cls := .type "list", dict := none, data := .seq its.toArray c', slots := #[] } → EP X pins σ Q (.ref s.heap.objs.size) { s with heap := h' } := fun its r' hz h' c' kp e =>
    ⟨.ref s.heap.objs.size, _, I.laid (t' := s.toks) kp (Nat.le_refl _) (show ObjOk X.prog X.w _ h' _ (.lst ys) from ⟨hz, its, c', r', e⟩), rfl, q _ (I.hok.fresh (Nat.le_refl _))⟩
  rcases hq with hq | hq
  · obtain ⟨its, r', pl, hz⟩ := I.list hq
    have hlen := r'.length
    obtain ⟨o, ho, hc, n, hd⟩ := pl.isList
    exact call_list_seq p (.inl rfl) ho hc hd (fun h' c' kp e => fin its r' hz h' c' kp e) (by simp only [List.size_toArray] <;> omega)
  · obtain ⟨its, r', pl, hz⟩ := I.tuple hq
    have hlen := r'.length
    obtain ⟨o, ho, hc, n, hd⟩ := pl
    exact call_list_seq p (.inr rfl) ho hc hd (fun h' c' kp e => fin its r' hz h' c' kp e) (by simp only [List.size_toArray] <;> omega)
/-! ### the call of a builtin's method: o.m(..) -/
/-- the value is of that builtin type -/
def tyV (K : PySem.W.Frag) (T : String) (x : V) (H : Hp) : Prop := match x with
  | .str _ => T = "str"
  | .int _ => T = "int"
  | .ref p => (T = "list" ∧ ∃ xs, SqL K H p xs) ∨ (T = "tuple" ∧ ∃ o, K.lookup p = some o ∧ o.cls = .type "tuple" ∧ o.dict = none) ∨
      (T = "dict" ∧ ((∃ kvs, H p = some (.dK kvs)) ∨ ∃ kvs, H p = some (.dT kvs))) ∨ (T = "set" ∧ ∃ S n, H p = some (.set S n))
  | _ => False
theorem tyV_is {pins : List (Addr × Obj)} {σ : St} {H : Hp} {s : Shared} {T : String} {x : V} {v : Value} (I : Inv X pins σ H s) (r : RelV x v) (ty : tyV X.K T x H) :
    s.TypeIs v T ∧ ∀ a, v = .ref a → ∃ ob, s.heap.get? a = some ob ∧ ob.dict = none := by
  cases x with
  | str z =>
    obtain ⟨t, rfl⟩ := r
    cases (show T = "str" from ty)
    exact ⟨typeIs_str s z t, fun _ e => nomatch e⟩
  | int i =>
    obtain ⟨t, rfl⟩ := r
    cases (show T = "int" from ty)
    exact ⟨typeIs_int s i t, fun _ e => nomatch e⟩
  | ref p =>
    cases r
    rcases ty with ⟨rfl, xs, hq⟩ | ⟨rfl, o, hk, hc, hd⟩ | ⟨rfl, hk⟩ | ⟨rfl, S, n, hk⟩
    · obtain ⟨its, _, pl, _⟩ := I.list hq
      refine ⟨pl.isList.typeIs, fun a e => ?_⟩
      cases e
      obtain ⟨o, n, e, c, hd, _⟩ := pl
      exact ⟨o, e, hd⟩
    · refine ⟨⟨o, I.kIn p o hk, hc⟩, fun a e => ?_⟩
      cases e
      exact ⟨o, I.kIn _ o hk, hd⟩
    · have z : ∃ o, s.heap.get? p = some o ∧ o.ExactDict := by
        rcases hk with ⟨kvs, hk⟩ | ⟨kvs, hk⟩
        · obtain ⟨_, _, _, _, o, _, _, e, ex, _⟩ := I.hok p _ hk
          exact ⟨o, e, ex⟩
        · obtain ⟨_, _, _, _, o, _, _, e, ex, _⟩ := I.hok p _ hk
          exact ⟨o, e, ex⟩
      obtain ⟨o, e, ex⟩ := z
      refine ⟨⟨o, e, ex.1⟩, fun a e2 => ?_⟩
      cases e2
      exact ⟨o, e, ex.2.1⟩
    · obtain ⟨o, _, _, _, e, ex, _⟩ := I.hok p _ hk
      refine ⟨⟨o, e, ex.1⟩, fun a e2 => ?_⟩
      cases e2
      exact ⟨o, e, ex.2.1⟩
  | _ => exact False.elim ty
def tBM0 (K : PySem.W.Frag) (T : String) (r : V → List V → Hp → VK → Prop) (to : TE) : TE := fun σ H Q => to σ H fun x H1 => tyV K T x H1 ∧ r x [] H1 Q
def tBM (K : PySem.W.Frag) (T : String) (r : V → List V → Hp → VK → Prop) (to : TE) (t : TA) : TE := fun σ H Q => to σ H fun x H1 => tyV K T x H1 ∧ t σ H1 fun xs H2 => r x xs H2 Q
variable {o e : Expr} {es : List Expr} {to : TE} {t : TA} {name : Str} {apos cpos : Pos} {T id : String} {r : V → List V → Hp → VK → Prop}
theorem pe_bm0 (pa : PlainAttrs T) (slot : Slot T name id) (hty : typeOf (.builtin id) = pure (.type "method_descriptor")) (hm : MtR X id r) (ho : PE X o to)
    (hbase : attributeBase o name X.env (eval o X.env) = eval o X.env := by rfl) (hline : (apos.endLine == cpos.line) = true := by rfl) : PE X (.Call (.Attribute o name apos) [] [] cpos) (tBM0 X.K T r to) := by
  intro pins s σ H Q I h
  refine wpAny_Call_method0_late hbase hline (thn (ho pins s σ H _ I h) fun v s1 ⟨x, H1, I1, r1, ty, q1⟩ => ?_)
  obtain ⟨h1, h2⟩ := tyV_is I1 r1 ty
  exact ⟨T, id, pa, slot, hty, h1, h2, Calls.callWith_builtin rfl (PySem.evalArgs_none (hm pins s1 σ H1 x [] v [] Q I1 r1 .nil q1))⟩
theorem pe_bm (pa : PlainAttrs T) (slot : Slot T name id) (hty : typeOf (.builtin id) = pure (.type "method_descriptor")) (hm : MtR X id r) (ho : PE X o to) (ha : PA X (e :: es) t)
    (hbase : attributeBase o name X.env (eval o X.env) = eval o X.env := by rfl)
    (hfew : ((backTo cpos (starEach (e :: es) X.env)).all (fun x => !x.1) && (backToKw cpos (keywordEach [] X.env)).all (fun x => x.1.isSome)
      && decide ((e :: es).length + ([] : List Keyword).length + (if ([] : List Keyword).isEmpty then 0 else 1) < 30)) = true := by rfl)
    (hline : (apos.endLine == cpos.line) = true := by rfl) (hs : starEach (e :: es) X.env = (false, eval e X.env) :: starEach es X.env := by rfl) (hplain : (backTo cpos (starEach es X.env)).any (·.1) = false := by rfl) :
    PE X (.Call (.Attribute o name apos) (e :: es) [] cpos) (tBM X.K T r to t) := by
  intro pins s σ H Q I h
  refine wpAny_Call_method_late hbase hfew hline rfl (thn (ho pins s σ H _ I h) fun v s1 ⟨x, H1, I1, r1, ty, q1⟩ => ?_)
  obtain ⟨h1, h2⟩ := tyV_is I1 r1 ty
  refine ⟨T, id, pa, slot, hty, h1, h2, ?_⟩
  have hA := ha cpos pins s1 σ H1 _ I1 q1
  rw [hs] at hA ⊢
  refine Calls.callWith_builtin (by show (false || (backTo cpos (starEach es X.env)).any (·.1)) = false; rw [hplain] <;> rfl) (Calls.evalArgs_plain ?_)
  exact thn hA fun us s2 ⟨vs, H2, I2, r2, q2⟩ => hm pins s2 σ H2 x vs v us Q I2 r1 r2 q2
end
end L2

namespace L2
open PySem PySem.Spec PyProof.Rows

def MtM (X : Cx) (id : String) (r : V → List V → Hp → VK → Prop) : Prop :=
  ∀ (pins : List (Addr × Obj)) (s : Shared) (σ : St) (H : Hp) (x : V) (xs : List V) (v : Value) (us : List Value) (Q : VK), Inv X pins σ H s → RelV x v → Vals xs us → r x xs H Q →
    wpAny (model X.prog X.w) X.A (call (.builtin id) (v :: us)) (EP X pins σ Q) X.xe s

/-! ### lists of values -/
theorem Vals.one {x : V} {us : List Value} (h : Vals [x] us) : ∃ u, us = [u] ∧ RelV x u := by
  cases h with
  | cons r t => cases t; exact ⟨_, rfl, r⟩
theorem Vals.two {x y : V} {us : List Value} (h : Vals [x, y] us) : ∃ u v, us = [u, v] ∧ RelV x u ∧ RelV y v := by
  cases h with
  | cons r t =>
    obtain ⟨v, rfl, q⟩ := Vals.one t
    exact ⟨_, _, rfl, r, q⟩
theorem Vals.zero : ∀ {us : List Value}, Vals [] us → us = []
  | _, .nil => rfl
theorem Vals.dropLast {xs : List V} {us : List Value} (h : Vals xs us) : Vals xs.dropLast us.dropLast := by
  induction h with
  | nil => exact .nil
  | cons r t ih =>
    cases t with
    | nil => exact .nil
    | cons q t' => exact .cons r ih
theorem Vals.eraseIdx : ∀ {xs : List V} {us : List Value} (i : Nat), Vals xs us → Vals (xs.eraseIdx i) (us.eraseIdx i)
  | _, _, _, .nil => .nil
  | _, _, 0, .cons _ t => t
  | _, _, i + 1, .cons r t => .cons r (Vals.eraseIdx i t)
theorem Vals.reverse {xs : List V} {us : List Value} (h : Vals xs us) : Vals xs.reverse us.reverse := by
  induction h with
  | nil => exact .nil
  | cons r t ih => rw [List.reverse_cons, List.reverse_cons]; exact Vals.append ih (.cons r .nil)
theorem erase_last {α : Type} (l : List α) : l.eraseIdx (l.length - 1) = l.dropLast := by
  induction l with
  | nil => rfl
  | cons a r ih =>
    cases r with
    | nil => rfl
    | cons b r =>
      have e : (a :: b :: r).length - 1 = ((b :: r).length - 1) + 1 := by
        have h1 : (a :: b :: r).length = r.length + 2 := rfl
        have h2 : (b :: r).length = r.length + 1 := rfl
        omega
      rw [e, List.eraseIdx_cons_succ, ih]
      all_goals rfl
section
variable {X : Cx} {pins : List (Addr × Obj)} {σ : St} {H : Hp} {s : Shared} {l b : Addr} {xs ys zs : List V}

/-! ### the two steps: a tracked list is rewritten, a new list is laid -/
theorem Inv.lset {its its' : List Value} {n : Nat} {f : Array Value → Array Value} {t' : Nat} (I : Inv X pins σ H s) (hH : H l = some (.lst xs))
    (e : s.heap.get? l = some { cls := .type "list", data := .seq its.toArray n }) (hf : f its.toArray = its'.toArray) (hv : Vals ys its') (hz : ys.length ≤ sizeLine) :
    Inv X pins σ (upd H l (.lst ys)) { s with heap := s.heap.update l (Obj.mapSeq f), toks := t' } := by
  have q := PySem.IsL.update e f
  rw [hf] at q
  refine I.write (x := l) (e := l) (by rw [hH]; exact trivial) (.inl rfl) (fun b' u hb hu => (Heap.get?_update_other s.heap (Obj.mapSeq f) (Ne.symm hb)).trans hu) ⟨_, q⟩ ?_
  exact ⟨hz, its', _, hv, q⟩
theorem Inv.lnew {its : List Value} {t' : Nat} (I : Inv X pins σ H s) (hv : Vals ys its) (hz : ys.length ≤ sizeLine) :
    Inv X pins σ (upd H s.heap.objs.size (.lst ys)) { s with heap := s.heap.push { cls := .type "list", data := .seq its.toArray }, toks := t' } :=
  I.laid (fun _ _ q => Heap.get?_push_of_some _ q) (Nat.le_refl _) ⟨hz, its, 0, hv, Heap.get?_push_size _ rfl⟩
theorem Inv.fresh (I : Inv X pins σ H s) : H s.heap.objs.size = none := I.hok.fresh (Nat.le_refl _)
theorem Inv.lstM (I : Inv X pins σ H s) (hH : H l = some (.lst xs)) : xs.length ≤ sizeLine ∧ ∃ (its : List Value) (n : Nat), Vals xs its ∧ xs.length = its.length ∧ s.heap.get? l = some { cls := .type "list", data := .seq its.toArray n } := by
  obtain ⟨z, its, n, r, e⟩ := I.hok l _ hH
  exact ⟨z, its, n, r, r.length, e⟩

theorem notLongL {n : Nat} (h : n ≤ sizeLine) : Builtin.List.listTooLong n = false := by
  unfold Builtin.List.listTooLong
  exact decide_eq_false (by omega)
end

section
variable {X : Cx}

/-! ### methods -/
def rAppend : V → List V → Hp → VK → Prop := fun x vs H Q => ∃ l xs y, x = .ref l ∧ vs = [y] ∧ H l = some (.lst xs) ∧ xs.length < sizeLine ∧ Q .non (upd H l (.lst (xs ++ [y])))
theorem mt_append : MtM X "list.append" rAppend := by
  intro pins s σ H x vs v us Q I rx rv h
  obtain ⟨l, xs, y, rfl, rfl, hH, hz, q⟩ := h
  cases rx
  obtain ⟨u, rfl, ru⟩ := rv.one
  obtain ⟨z, its, n, r, hl, e⟩ := I.lstM hH
  refine call_meets F.slot_list_append ⟨_, e, rfl⟩ F.entry_list_append (F.args_list_append_2 _ _) (PySem.list_append l its.toArray n u (by rw [List.size_toArray]; omega)) ⟨e, ?_⟩
  refine ⟨.non, _, I.lset (its' := its ++ [u]) hH e (by simp) (r.append (.cons ru .nil)) ?_, rfl, q⟩
  rw [List.length_append, List.length_singleton]
  omega

def rExtend : V → List V → Hp → VK → Prop := fun x vs H Q => ∃ l b xs zs, x = .ref l ∧ vs = [.ref b] ∧ H l = some (.lst xs) ∧ H b = some (.lst zs) ∧ xs.length + zs.length ≤ sizeLine ∧ Q .non (upd H l (.lst (xs ++ zs)))
theorem mt_extend : MtM X "list.extend" rExtend := by
  intro pins s σ H x vs v us Q I rx rv h
  obtain ⟨l, b, xs, zs, rfl, rfl, hH, hB, hz, q⟩ := h
  cases rx
  obtain ⟨u, rfl, ru⟩ := rv.one
  cases ru
  obtain ⟨z, its, n, r, hl, e⟩ := I.lstM hH
  obtain ⟨z2, its2, n2, r2, hl2, e2⟩ := I.lstM hB
  have hsz : its.toArray.size + its2.toArray.size ≤ sizeLine := by rw [List.size_toArray, List.size_toArray]; omega
  have hlong : ¬ (!its.toArray.isEmpty && Builtin.List.listTooLong (its.toArray.size + its2.toArray.size)) = true := by
    rw [notLongL hsz, Bool.and_false]
    exact Bool.false_ne_true
  refine call_meets F.slot_list_extend ⟨_, e, rfl⟩ F.entry_list_extend (F.args_list_extend_2 _ _)
    (AutoSeq1.list_extend_list_list_0 l its.toArray n b its2.toArray n2 hlong (by rw [List.size_toArray]; omega) (by omega)) ⟨e, e2, ?_⟩
  refine ⟨.non, _, I.lset (its' := its ++ its2) hH e (by simp) (r.append r2) ?_, rfl, q⟩
  rw [List.length_append]
  omega

def rPop : V → List V → Hp → VK → Prop := fun x vs H Q => ∃ l xs y, x = .ref l ∧ vs = [] ∧ H l = some (.lst xs) ∧ xs[xs.length - 1]? = some y ∧ Q y (upd H l (.lst xs.dropLast))
theorem mt_pop : MtM X "list.pop" rPop := by
  intro pins s σ H x vs v us Q I rx rv h
  obtain ⟨l, xs, y, rfl, rfl, hH, hy, q⟩ := h
  cases rx
  have hus := rv.zero
  subst hus
  obtain ⟨z, its, n, r, hl, e⟩ := I.lstM hH
  obtain ⟨u, hu, ru⟩ := r.get hy
  have hy' : its.toArray[its.toArray.size - 1]? = some u := by
    show its.toArray[its.length - 1]? = some u
    rw [← Array.getElem?_toList, ← hl]
    exact hu
  refine call_meets F.slot_list_pop ⟨_, e, rfl⟩ F.entry_list_pop (F.args_list_pop_1 _) (MeetsSeq.list_pop_last l its.toArray n u hy' (by rw [List.size_toArray]; omega)) ⟨e, ?_⟩
  refine ⟨y, _, I.lset (its' := its.dropLast) hH e ?_ r.dropLast ?_, ru, q⟩
  · show its.toArray.eraseIdxIfInBounds (its.toArray.size - 1) = its.dropLast.toArray
    rw [List.size_toArray, List.eraseIdxIfInBounds_toArray, erase_last]
  · rw [List.length_dropLast]
    omega

/-! ### list + list, list += list, list * int -/
/-! ### del xs[i] -/
end

/-! ### xs[a:b] = ys -/
section
variable {prog : Program} {w : World} {A : Around} {E : Value → Shared → Prop} {s : Shared}
set_option maxRecDepth 100000 in
end

section
variable {X : Cx}
end
end L2

namespace Att
open PySem PySem.W PySem.Calls PyProof.Rows

/-! ### the script -/
theorem ints_of_wellAll {P : Params} {h : Heap} : ∀ (ns : List Int) (vs : List Value), WellAll P h vs (ns.map WData.int) → IntsAre vs ns := by
  intro ns
  induction ns with
  | nil =>
    intro vs w
    rw [List.map_nil] at w
    cases w
    exact .nil
  | cons n ns ih =>
    intro vs w
    rw [List.map_cons] at w
    cases w with
    | cons a b =>
      cases a
      exact .cons _ _ (ih _ b)

theorem script_of {l : OpenLaw} {n : Nat} (hn : l.most = some n) {P : Params} {h : Heap} {args : List WData} {vals : List Value}
    (hpre : l.row.toRowW.claim.pre args = true) (hwl : WellAll P h vals args) :
    ∃ a vs ns, vals = [Value.ref a] ∧ args = [WData.list (ns.map WData.int)] ∧ h.get? a = some { cls := .type "list", data := .seq vs.toArray } ∧ IntsAre vs ns ∧ ns.length ≤ n := by
  have hsh : WShape.hasAll [] args [.list .int] = true := (pre_splitW hpre).1
  have hc : l.pre.holds [] { args := args } = true := (pre_splitW hpre).2
  obtain ⟨d, r, rfl, h1, h2⟩ := hasAllW_cons hsh
  obtain rfl := hasAllW_nil h2
  obtain ⟨xs, rfl, h3⟩ := hasW_list h1
  obtain ⟨ns, rfl⟩ := items_int h3
  have hlen : ns.length ≤ n := by
    unfold OpenLaw.pre at hc
    have h4 : (WTm.not (.lt (.lit (.int (n : Int))) (.len (.arg 0)))).holds [] { args := [.list (ns.map .int)] } = true := by
      have h4 := (holds_andW hc).1
      rw [hn] at h4
      exact h4
    have h5 := condW_of h4 (w_not (w_lt w_lit (w_len_list (w_arg rfl))))
    rw [List.length_map] at h5
    refine Nat.le_of_not_lt fun q => ?_
    have q' : (n : Int) < ((ns.length : Nat) : Int) := by omega
    first
      | (rw [decide_eq_true q'] at h5; exact absurd h5 (by decide))
      | (simp at h5; omega)
  cases hwl with
  | cons w1 w2 =>
    cases w2
    cases w1 with
    | list ho hall => exact ⟨_, _, ns, rfl, rfl, ho, ints_of_wellAll ns _ hall, hlen⟩

theorem post_true (l : OpenLaw) (args : List WData) : l.row.toRowW.claim.post args (.bool true) args = true :=
  postW_of (r := l.row.toRowW) (X := (true == true))
    (show WShape.has [] (.bool true) .bool = true by first | rfl | decide | simp [WShape.has, WShape.arms, WShape.armsAll])
    (show (WTm.eq .res (.lit (.bool true))).value [] { args := args, res := some (.bool true), after := args } = some (.bool (true == true)) from w_eq_bool (w_res rfl) w_lit) rfl

/-! ### the attachment: holds_open's last premise (the goal 'hc' behind k_head) from a wpAny of the law's body -/
/-! ### rules over ANY heap (no ledger) from facts about the written part K: the library's own take a ledger (News) for what they write -/
section
variable {prog : Program} {w : World} {A : Around} {E : Value → Shared → Prop} {s : Shared} {K : Frag}

/-! the whole heap as the ledger: makes every rule that writes through a ledger a rule over any heap -/
def ledger (h : Heap) (L d : Addr) : List (Addr × Obj) := (List.range h.objs.size).filterMap fun a => if a = L ∨ a = d then none else (h.get? a).map fun o => (a, o)
end
end Att

namespace L2
open PySem PySem.Spec PyProof.Rows

theorem vals_ints : ∀ {vs : List Value} {ns : List Int}, IntsAre vs ns → Vals (ns.map V.int) vs
  | _, _, .nil => .nil
  | _, _, .cons n t h => .cons ⟨t, rfl⟩ (vals_ints h)

/-- nothing is tracked but the script, known to the object (or it is an object of the module) -/
def Only (H : Hp) : Prop := ∀ b, H b = none ∨ ∃ o xs, H b = some (.frz o (.lst xs))

/-- THE HEAD: the law's promise, at the heap behind the top. F, the promise of the law's def, may use that base is part of the heap (so K.In base, base.Ns mainGlobals mg stand in Mod) -/
theorem law_call {P : Program} {w : World} {K : PySem.W.Frag} {mg mb : Str → Option Value} {CX : CXT} {k : Nat} {fa a : Addr} {fd : FuncData} {x : Str} {sp : Sp} {s₁ : Shared} {vs : List Value} {ns : List Int}
    (KX : K.In s₁.heap) (hns : s₁.heap.Ns mainGlobals mg) (hb : s₁.heap.Ns builtinsNs mb) (hbb : ∀ x : Str, x ≠ "__name__" → mb x = bootBuiltins x) (hlim : s₁.heap.NoLimit) (hg : s₁.gens = #[])
    (ha : s₁.heap.get? a = some { cls := .type "list", data := .seq vs.toArray }) (hi : IntsAre vs ns) (hl : ns.length ≤ sizeLine) (hr : Room k callerA)
    (F : ∀ base : Heap, K.In base → base.Ns mainGlobals mg → FnOk P w K mg base CX k fa fd [x] sp) (hbind : ∀ (s : Shared) (u : Value), BindsTo s fd ⟨[u], []⟩ [(x, u)])
    (hsp : ∀ H : Hp, Only H → SqL K H a (ns.map V.int) → sp [.ref a] H (fun v _ => v = .bl true) fun _ _ _ => False)
    (hCX : ∀ H e s', CX [] H s₁ (fun _ _ _ => False) e s' → False) :
    codeAny (model P w) callerA (.call (.ref fa) ⟨[.ref a], []⟩) (fun r s' => r = .ok (.ret (.bool true)) ∧ OldK s₁.heap s'.heap ∧ s'.os = s₁.os ∧ AllBare s'.gens) s₁ := by
  have rv := vals_ints hi
  have lenV := hi.length
  -- from an abstract heap in which nothing but the script may be tracked
  have core : ∀ H : Hp, Only H → SqL K H a (ns.map V.int) → HOk P w H s₁.heap → (∀ b, H b ≠ none → b = a) → (H a ≠ none → K.lookup a = none) →
      codeAny (model P w) callerA (.call (.ref fa) ⟨[.ref a], []⟩) (fun r s' => r = .ok (.ret (.bool true)) ∧ OldK s₁.heap s'.heap ∧ s'.os = s₁.os ∧ AllBare s'.gens) s₁ := by
    intro H hO hS hok hA hK
    have base_of : ∀ {b : Addr} {o : Obj}, s₁.heap.get? b = some o → H b = none → (hidT s₁.heap H).get? b = some o := fun e n => hidT_get e n
    have noA : ∀ {b : Addr} {o : Obj} {es : Array DictEntry} {ep : Nat}, s₁.heap.get? b = some o → o.data = .dict es ep → H b = none := fun {b o es ep} e d => by
      cases q : H b with
      | none => rfl
      | some u =>
        have e' : b = a := hA b (by rw [q]; simp)
        subst e'
        rw [ha] at e; cases e
        have d' : Data.seq vs.toArray _ = Data.dict es ep := d
        cases d'
    have nsK : ∀ {b : Addr} {m : Str → Option Value}, s₁.heap.Ns b m → (hidT s₁.heap H).Ns b m := fun {b m} ⟨o, es, ep, e, d, r⟩ => ⟨o, es, ep, base_of e (noA e d), d, r⟩
    have hKb : K.In (hidT s₁.heap H) := fun b o e => base_of (KX b o e) (by
      cases q : H b with
      | none => rfl
      | some u =>
        have e' : b = a := hA b (by rw [q]; simp)
        subst e'
        rw [hK (by rw [q]; simp)] at e; cases e)
    have hM : Mod K mg (hidT s₁.heap H) := ⟨hKb, nsK hns, ⟨mb, nsK hb, hbb⟩, let ⟨mc, h1, h2⟩ := hlim; ⟨mc, nsK h1, h2⟩⟩
    have e0 : Env0 P w K mg (hidT s₁.heap H) callerA [] s₁ H := ⟨rfl, hM, fun b o e => of_hidT e, Nat.le_of_eq (hidT_size _ _), trivial, fun b hb => absurd (show b ∈ ([] : List Addr) from hb) (by simp), hok, .of_eq hg⟩
    refine codeAny_mono ((F _ hKb (nsK hns)).run callerA [] s₁ H ⟨[.ref a], []⟩ [.ref a] [.ref a] _ _ hr e0 (hbind s₁ (.ref a)) (.cons rfl .nil) (hsp H hO hS)) fun r s' h => ?_
    cases r with
    | error e => exact (hCX H e s' h).elim
    | ok fl =>
      cases fl with
      | next => exact False.elim h
      | brk => exact False.elim h
      | cont => exact False.elim h
      | ret u =>
        obtain ⟨v, H', os, bare, un, hok', r', q⟩ := h
        have q' : v = .bl true := q
        subst q'
        obtain rfl : u = Value.bool true := r'
        refine ⟨rfl, OldK.of_keep fun b o e => ?_, os, bare⟩
        cases q : H b with
        | none => exact un.keep b o e q (by intro z; exact absurd (show b ∈ ([] : List Addr) from z) (by simp)) (by simp)
        | some u =>
          rcases hO b with z | ⟨ob, xs, z⟩
          · rw [q] at z; cases z
          · have z2 := un.frzs b ob _ z
            obtain ⟨e1, _⟩ := hok b _ z
            obtain ⟨e2, _⟩ := hok' b _ z2
            rw [e] at e1; cases e1
            exact e2
  cases hk : K.lookup a with
  | some o =>
    -- the script is one of the module's own objects
    have e := KX a o hk
    rw [ha] at e
    cases e
    refine core (fun _ => none) (fun _ => .inl rfl) (.inr ⟨_, vs.toArray, _, hk, rfl, rfl, rfl, by rw [List.size_toArray, lenV]; exact hl, by simpa using rv⟩) (fun b u z => by have z' : (none : Option HO) = some u := z; cases z') (fun b z => absurd rfl z) fun z => absurd rfl z
  | none =>
    refine core (fun b => if b = a then some (.frz { cls := .type "list", data := .seq vs.toArray } (.lst (ns.map V.int))) else none) (fun b => ?_) (.inl (.inr ⟨{ cls := .type "list", data := .seq vs.toArray }, if_pos rfl⟩)) (fun b u z => ?_) (fun b z => ?_) fun _ => hk
    · by_cases hb : b = a
      · exact .inr ⟨_, _, if_pos hb⟩
      · exact .inl (if_neg hb)
    · by_cases hb : b = a
      · have z' := (if_pos hb).symm.trans z
        cases z'
        subst hb
        exact ⟨ha, by rw [List.length_map]; exact hl, vs, _, rv, ha⟩
      · have z' := (if_neg hb).symm.trans z
        cases z'
    · by_cases hb : b = a
      · exact hb
      · exact absurd (if_neg hb) z
end L2

namespace L2
open PySem PySem.Spec PyProof.Rows

end L2


/-! SHORT WORDS over the layer: a def of the text, its body, what a loop and a test want. -/
namespace L2
open PySem PySem.Spec PyProof.Rows

/-! ### the text by places -/
def defArgs (s : Stmt) : Arguments := match s with
  | .FunctionDef _ a _ _ _ _ _ _ _ _ => a
  | _ => { posonlyargs := [], args := [], vararg := none, kwonlyargs := [], kw_defaults := [], kwarg := none, defaults := [] }
def defBody (s : Stmt) : List Stmt := match s with
  | .FunctionDef _ _ b _ _ _ _ _ _ _ => b
  | _ => []
def defScope (s : Stmt) : Scope := match s with
  | .FunctionDef _ _ _ _ _ _ sc _ _ _ => sc
  | _ => { kind := .function, names := [], isGenerator := false, isCoroutine := false }

/-! ### no exception leaves a def -/
abbrev CX0 : CXT := fun _ _ _ _ _ _ => False
abbrev E0 : XK := fun _ _ _ => False
theorem pass0 {X : Cx} : Passes CX0 X E0 := fun _ _ _ _ _ _ _ h => h.elim

/-! ### a def (or method) of the text as it stands behind the top -/
structure Fun (K : PySem.W.Frag) (x qual : Str) (st : Stmt) (f : Addr) (fd : FuncData) : Prop where
  ex : ∃ (oc : Value) (od : Option Addr) (kV doc pm : Value) (an : Option Addr) (cdv ct : Value) (osl : Array (Option Value)),
    fd = PySem.W.fnOf x qual (defArgs st) (defBody st) (defScope st) .none kV doc pm an cdv ct ∧ K.lookup f = some ⟨oc, od, .func fd, osl⟩ ∧ PySem.W.codeIn K cdv qual = true
  kp : PySem.W.keepIn K (.ref f) = true
section
variable {P : Program} {w : World} {K : PySem.W.Frag} {mg : Str → Option Value} {base : Heap}
/-- THE RULE for a def: its body as a term of rules, and the reading of that term -/
theorem Fun.ok {x qual : Str} {st : Stmt} {f : Addr} {fd : FuncData} {N ps : List Str} {k : Nat} {sp : Sp} (F : Fun K x qual st f fd) (S : FnScope N ps (defScope st)) (len : ∀ vs H Q E, sp vs H Q E → vs.length = ps.length)
    (hbody : ∀ (cdv : Value) (A : Around) (outer : List Env) (s : Shared) (H : Hp) (vs : List V) (Q : VK) (E : XK), Room k (A.deeper (envOfC qual (defScope st) s.heap.objs.size f cdv)) → sp vs H Q E →
      ∃ t, PSs (cxOf CX0 P w K mg base N qual (defScope st) f cdv A outer s H E).nox (defBody st) t ∧ t { nx := fun _ H' => Q .non H', rt := Q } (start N vs) H) : FnOk P w K mg base CX0 (k + 1) f fd ps sp := by
  obtain ⟨oc, od, kV, doc, pm, an, cdv, ct, osl, rfl, lk, hcd⟩ := F.ex
  refine fn_of lk hcd S len fun A outer s H vs Q E hr hsp => ?_
  obtain ⟨t, h, q⟩ := hbody cdv A outer s H vs Q E hr hsp
  exact ⟨t, h.nox, q⟩
/-- how its arguments bind (no defaults): h is «fun _ _ _ _ _ _ us hl => match us, hl with | [_, _], _ => rfl», one _ a parameter -/
theorem Fun.binds {x qual : Str} {st : Stmt} {f : Addr} {fd : FuncData} {ps : List Str} (F : Fun K x qual st f fd)
    (h : ∀ (kV doc pm : Value) (an : Option Addr) (cdv ct : Value) (us : List Value), us.length = ps.length → bindArgs (PySem.W.fnOf x qual (defArgs st) (defBody st) (defScope st) .none kV doc pm an cdv ct) ⟨us, []⟩ = pure (ps.zip us)) : Binds K fd ps [] := by
  obtain ⟨oc, od, kV, doc, pm, an, cdv, ct, osl, rfl, lk, hcd⟩ := F.ex
  exact .all (h kV doc pm an cdv ct)
theorem fun_mk {x qual : Str} {st : Stmt} {f : Addr} {oc : Value} {od an : Option Addr} {osl : Array (Option Value)} {kV doc pm cdv ct : Value} (l : K.lookup f = some ⟨oc, od, .func (PySem.W.fnOf x qual (defArgs st) (defBody st) (defScope st) .none kV doc pm an cdv ct), osl⟩)
    (c : PySem.W.codeIn K cdv qual = true) (k : PySem.W.keepIn K (.ref f) = true) : Fun K x qual st f (PySem.W.fnOf x qual (defArgs st) (defBody st) (defScope st) .none kV doc pm an cdv ct) := ⟨⟨oc, od, kV, doc, pm, an, cdv, ct, osl, rfl, l, c⟩, k⟩
end
theorem small1000 {n : Nat} (h : n ≤ 1000) : n < sizeLine := Nat.lt_of_le_of_lt h (by decide)

/-! ### expressions in short: the name that stands in the i-th slot -/
section
variable {X : Cx}
end

/-! ### tests -/
theorem iteF {A B : Prop} (h : B) : if false = true then A else B := by
  rw [if_neg Bool.false_ne_true]
  exact h
theorem iteT {A B : Prop} (h : A) : if true = true then A else B := by
  rw [if_pos rfl]
  exact h
/-! ### heaps -/
/-- all that was tracked is as it was -/
def Same (H H' : Hp) : Prop := ∀ b o, H b = some o → H' b = some o
theorem Same.refl (H : Hp) : Same H H := fun _ _ h => h
theorem Same.trans {H H1 H2 : Hp} (a : Same H H1) (b : Same H1 H2) : Same H H2 := fun c o h => b c o (a c o h)
theorem Same.free {H H' : Hp} (e : Same H H') {l : Addr} (h : H' l = Option.none) : H l = Option.none := by
  cases q : H l with
  | none => rfl
  | some o =>
    rw [e l o q] at h
    cases h
theorem Same.seq {K : PySem.W.Frag} {H H' : Hp} {a : Addr} {xs : List V} (e : Same H H') (h : SqL K H a xs) : SqL K H' a xs := by
  rcases h with (h | ⟨o, h⟩) | h
  · exact .inl (.inl (e _ _ h))
  · exact .inl (.inr ⟨o, e _ _ h⟩)
  · exact .inr h

end L2
set_option maxHeartbeats 4000000
/-! ### a list comprehension of one clause -/
namespace L2
open PySem PySem.Spec PyProof.Rows

theorem closure_aux {env : Env} (body : (Str × NameKind) → List (Str × Addr) → Sem (ForInStep (List (Str × Addr))))
    (hf : ∀ n k acc c, k = NameKind.free → env.cells.lookup n = some c → body (n, k) acc = pure (.yield ((n, c) :: acc)))
    (hn : ∀ n k acc, k ≠ NameKind.free → body (n, k) acc = pure (.yield acc)) :
    ∀ (names : List (Str × NameKind)) (acc : List (Str × Addr)), (∀ y ∈ names, y.2 = .free → ∃ c, env.cells.lookup y.1 = some c) →
      (∀ y c, acc.lookup y = some c → env.cells.lookup y = some c) →
      ∃ cl, forIn names acc body = pure cl ∧ (∀ y c, cl.lookup y = some c → env.cells.lookup y = some c) ∧ (∀ y, (∃ c, acc.lookup y = some c) → ∃ c, cl.lookup y = some c) ∧ ∀ y, (y, NameKind.free) ∈ names → ∃ c, cl.lookup y = some c := by
  intro names
  induction names with
  | nil => exact fun acc _ ha => ⟨acc, rfl, ha, fun _ h => h, fun _ h => by cases h⟩
  | cons p r ih =>
    obtain ⟨n, k⟩ := p
    intro acc h ha
    by_cases hk : k = NameKind.free
    · obtain ⟨c, hc⟩ := h (n, k) List.mem_cons_self hk
      obtain ⟨cl, e, h1, h2, h3⟩ := ih ((n, c) :: acc) (fun y hy => h y (List.mem_cons_of_mem _ hy)) (fun y c' e => by
        rw [List.lookup_cons] at e
        split at e
        · rename_i q
          have q' : y = n := by simpa using q
          subst q'; cases e; exact hc
        · exact ha y c' e)
      refine ⟨cl, ?_, h1, fun y hy => h2 y ?_, fun y hy => ?_⟩
      · rw [List.forIn_cons, hf n k acc c hk hc]
        exact e
      · obtain ⟨c', e'⟩ := hy
        rw [List.lookup_cons]
        split
        · exact ⟨_, rfl⟩
        · exact ⟨_, e'⟩
      · rcases List.mem_cons.mp hy with q | q
        · cases q
          exact h2 _ ⟨c, by rw [List.lookup_cons]; simp⟩
        · exact h3 y q
    · obtain ⟨cl, e, h1, h2, h3⟩ := ih acc (fun y hy => h y (List.mem_cons_of_mem _ hy)) ha
      refine ⟨cl, ?_, h1, h2, fun y hy => ?_⟩
      · rw [List.forIn_cons, hn n k acc hk]
        exact e
      · rcases List.mem_cons.mp hy with q | q
        · cases q; exact absurd rfl hk
        · exact h3 y q
theorem closure_of {sc : Scope} {env : Env} (h : ∀ y ∈ sc.names, y.2 = .free → ∃ c, env.cells.lookup y.1 = some c) :
    ∃ cl, closureFor sc env = pure cl ∧ (∀ y c, cl.lookup y = some c → env.cells.lookup y = some c) ∧ ∀ y, (y, NameKind.free) ∈ sc.names → ∃ c, cl.lookup y = some c := by
  simp only [closureFor]
  obtain ⟨cl, e, h1, _, h3⟩ := closure_aux (env := env) (fun x cs => if (x.2 == NameKind.free) = true then (do let a ← cellOf env x.1; pure (ForInStep.yield ((x.1, a) :: cs))) else pure (ForInStep.yield cs)) (fun n k acc c hk hc => by
      subst hk
      simp only [cellOf, hc, beq_self_eq_true, if_true]; rfl) (fun n k acc hk => by
      have : (k == NameKind.free) = false := by simpa using hk
      simp only [this, Bool.false_eq_true, if_false]) sc.names [] h (fun y c e => by cases e)
  refine ⟨cl, ?_, h1, h3⟩
  exact (congrArg (· >>= fun r => pure r) e).trans rfl

/-- the context of a comprehension's block -/
def compCx (X : Cx) (N' : List Str) (sc : Scope) (cl : List (Str × Addr)) (C : Addr) (fp : List Addr) (pins : List (Addr × Obj)) (s : Shared) (H : Hp) : Cx where
  prog := X.prog
  w := X.w
  K := X.K
  mg := X.mg
  base := X.base
  A := X.A
  N := N'
  s₀ := s
  H₀ := H
  env := compEnvC sc cl C X.env
  outer := X.stack
  stack := X.stack
  ex := fp
  fn := fun x => decide (sc.names.lookup x = some .cell)
  calm := X.calm
  pn := X.pn ++ pins
  xe := fun _ _ => False

/-- the tests of a clause -/
def PTs (X : Cx) (ifs : List Expr) (t : TT) : Prop :=
  ∀ (pins : List (Addr × Obj)) (s : Shared) (σ : St) (H : Hp) (Q : Bool → Hp → Prop), Inv X pins σ H s → t σ H Q →
    wpAny (model X.prog X.w) X.A (forIn ifs true fun c r => if r = true then do let ok ← isTrue c X.env (eval c X.env); pure (ForInStep.yield ok) else pure (ForInStep.yield r)) (TP X pins σ Q) X.xe s
def tTru : TT := fun _ H Q => Q true H
theorem pts_nil {X : Cx} : PTs X [] tTru := fun _ _ _ H _ I h => wpAny_tests_nil ⟨H, I, h⟩
theorem thF {α : Type} {t : Sem α} {Q Q' : α → Shared → Prop} {M : Model} {A : Around} {E : Value → Shared → Prop} {s : Shared} (h : wpAny M A t Q (fun _ _ => False) s) (hQ : ∀ a s, Q a s → Q' a s) : wpAny M A t Q' E s := wpAny_mono h hQ fun _ _ x => x.elim

theorem loop_tests {prog : Program} {w : World} {A : Around} {R : Result → Shared → Prop} {s : Shared} {elt target iter : Expr} {ifs : List Expr} {scope : Scope} {pos : Pos} {it acc : Value} {env : Env} (I : Nat → Shared → Prop)
    (turn : ∀ n s, I n s → wpAny (model prog w) A (pyNext it) (fun r s₁ => match r with
      | none => R (.ok .next) s₁
      | some v => wpAny (model prog w) A (letOwnedTupleGo target it v) (fun _ s₁ => wpAny (model prog w) A (assign target env v) (fun _ s₂ =>
          wpAny (model prog w) A (forIn ifs true fun c r => if r = true then do let ok ← isTrue c env (eval c env); pure (ForInStep.yield ok) else pure (ForInStep.yield r)) (fun ok s₃ =>
            if ok = true then wpAny (model prog w) A (eval elt env) (fun x s₄ =>
              wpAny (model prog w) A (call (.builtin "list.append") [acc, x]) (fun _ s₅ => ∃ m, m < n ∧ I m s₅) (notedBy (model prog w) A env fun e s' => R (.error e) s') s₄) (notedBy (model prog w) A env fun e s' => R (.error e) s') s₃
            else ∃ m, m < n ∧ I m s₃) (notedBy (model prog w) A env fun e s' => R (.error e) s') s₂) (notedBy (model prog w) A env fun e s' => R (.error e) s') s₁) (notedBy (model prog w) A env fun e s' => R (.error e) s') s₁) (notedBy (model prog w) A env fun e s' => R (.error e) s') s)
    (n : Nat) (h : I n s) :
    codeAny (model prog w) A (.compLoop (.ListComp elt [⟨target, iter, ifs, 0⟩] scope pos) 0 it acc env) R s := by
  refine codeAny_loop rfl I (fun n s hI => ?_) n h
  show wpAny _ A ((compTurn (.ListComp elt [⟨target, iter, ifs, 0⟩] scope pos) 0 it acc env).onRaise (fun x => do noteFrame x env; theTreesLotGoes x)) _ _ s
  refine wpAny_noted ?_
  rw [compTurn_list]
  refine wpAny_bind (wpAny_standAt (wpAny_bind (wpAny_mono (turn n s hI) (fun r s₁ h₁ => ?_) fun _ _ h' => h')))
  cases r with
  | none => exact wpAny_pure h₁
  | some v =>
    refine wpAny_bind (wpAny_mono h₁ (fun _ s₁' h₁' => ?_) fun _ _ h' => h')
    refine wpAny_bind (wpAny_mono h₁' (fun _ s₂ h₂ => wpAny_bind (wpAny_mono h₂ (fun ok s₃ h₃ => ?_) fun _ _ h' => h')) fun _ _ h' => h')
    cases ok with
    | false => exact wpAny_pure ⟨rfl, h₃⟩
    | true =>
      exact wpAny_bind (wpAny_bind (wpAny_mono h₃ (fun x s₄ h₄ => wpAny_bind (wpAny_mono h₄ (fun _ s₅ h₅ => wpAny_pure (wpAny_pure ⟨rfl, h₅⟩)) fun _ _ h' => h')) fun _ _ h' => h'))

/-- names of the clause's scope against those of the code around it -/
structure CompOk (X : Cx) (N' : List Str) (k : Nat) (sc : Scope) : Prop where
  calm : X.calm = true
  kind : sc.kind = .function
  nd : X.N.Nodup
  nd' : N'.Nodup
  len : N'.length = X.N.length + k
  cells : ∀ y ∈ sc.names, y.2 = .cell → sc.names.lookup y.1 = some .cell
  names : ∀ y ∈ sc.names, y.2 = .local → sc.names.lookup y.1 = some .local
  old : ∀ i y, i < X.N.length → N'[i]? = some y → (X.N[i]? = some y ∧ sc.names.lookup y ≠ some .local ∧ sc.names.lookup y ≠ some .cell) ∨ sc.names.lookup y = none
  free : ∀ y ∈ sc.names, y.2 = .free → X.env.kindOf y.1 = some .cell ∨ X.env.kindOf y.1 = some .free

/-- the cells of a clause's scope, laid over those that it closes over -/
theorem cf_ok (lo : Nat) : ∀ (names : List (Str × NameKind)) (h : Heap) (acc : List (Str × Addr)), lo ≤ h.objs.size → (∀ y c, acc.lookup y = some c → lo ≤ c → c < h.objs.size) → (∀ y z c, lo ≤ c → acc.lookup y = some c → acc.lookup z = some c → y = z) →
    (∀ y c, (cellsFrom h.objs.size names acc).lookup y = some c → acc.lookup y = some c ∨ (h.objs.size ≤ c ∧ (pushCells h names).IsCell c none)) ∧ (∀ y, (∃ c, acc.lookup y = some c) → ∃ c, (cellsFrom h.objs.size names acc).lookup y = some c) ∧
    (∀ y, (y, NameKind.cell) ∈ names → ∃ c, (cellsFrom h.objs.size names acc).lookup y = some c ∧ h.objs.size ≤ c) ∧ (∀ y, (y, NameKind.cell) ∉ names → (cellsFrom h.objs.size names acc).lookup y = acc.lookup y) ∧
    ∀ y z c, lo ≤ c → (cellsFrom h.objs.size names acc).lookup y = some c → (cellsFrom h.objs.size names acc).lookup z = some c → y = z := by
  intro names
  induction names with
  | nil => exact fun h acc _ _ inj => ⟨fun _ _ e => .inl e, fun _ e => e, (fun _ e => by cases e), fun _ _ => rfl, inj⟩
  | cons p r ih =>
    obtain ⟨name, kind⟩ := p
    intro h acc hl hb inj
    by_cases hk : kind = .cell
    · subst hk
      have sz : (h.push { cls := .type "cell", data := .cell none }).objs.size = h.objs.size + 1 := Heap.size_push ..
      have lk : ∀ y, List.lookup y ((name, h.objs.size) :: acc) = if y = name then some h.objs.size else acc.lookup y := fun y => by
        rw [List.lookup_cons]
        by_cases q : y = name
        · rw [if_pos q, beq_iff_eq.mpr q]
        · rw [if_neg q, beq_eq_false_iff_ne.mpr q]
      obtain ⟨a1, a2, a3, a4, a5⟩ := ih (h.push { cls := .type "cell", data := .cell none }) ((name, h.objs.size) :: acc) (by omega) (fun y c e q => by
          rw [lk] at e
          rw [sz]
          split at e
          · cases e; exact Nat.lt_succ_self _
          · exact Nat.lt_succ_of_lt (hb y c e q)) (fun y z c q e1 e2 => by
          rw [lk] at e1 e2
          split at e1 <;> split at e2
          · rename_i u v; rw [u, v]
          · cases e1; exact absurd (hb z _ e2 q) (Nat.lt_irrefl _)
          · cases e2; exact absurd (hb y _ e1 q) (Nat.lt_irrefl _)
          · exact inj y z c q e1 e2)
      rw [sz] at a1 a2 a3 a4 a5
      have e0 : cellsFrom h.objs.size ((name, NameKind.cell) :: r) acc = cellsFrom (h.objs.size + 1) r ((name, h.objs.size) :: acc) := rfl
      have e1 : pushCells h ((name, NameKind.cell) :: r) = pushCells (h.push { cls := .type "cell", data := .cell none }) r := rfl
      rw [e0, e1]
      have b1 : ∀ y c, (cellsFrom (h.objs.size + 1) r ((name, h.objs.size) :: acc)).lookup y = some c → acc.lookup y = some c ∨ (h.objs.size ≤ c ∧ (pushCells (h.push { cls := .type "cell", data := .cell none }) r).IsCell c none) := fun y c e => by
        rcases a1 y c e with q | ⟨q1, q2⟩
        · rw [lk] at q
          split at q
          · cases q
            exact .inr ⟨Nat.le_refl _, _, pushCells_keeps r _ _ _ (Heap.get?_push_size _ rfl), rfl⟩
          · exact .inl q
        · exact .inr ⟨by omega, q2⟩
      refine ⟨b1, fun y e => a2 y ?_, fun y e => ?_, fun y e => ?_, a5⟩
      · obtain ⟨c, e⟩ := e
        rw [lk]
        split
        · exact ⟨_, rfl⟩
        · exact ⟨_, e⟩
      · rcases List.mem_cons.mp e with q | q
        · cases q
          obtain ⟨c, q⟩ := a2 name ⟨h.objs.size, by rw [lk, if_pos rfl]⟩
          refine ⟨c, q, ?_⟩
          rcases a1 name c q with z | z
          · rw [lk, if_pos rfl] at z; cases z; exact Nat.le_refl _
          · omega
        · obtain ⟨c, q1, q2⟩ := a3 y q
          exact ⟨c, q1, by omega⟩
      · rw [a4 y fun z => e (List.mem_cons_of_mem _ z), lk, if_neg fun z => e (by rw [z]; exact List.mem_cons_self)]
    · have hb' : (kind == NameKind.cell) = false := beq_eq_false_iff_ne.mpr hk
      have e0 : cellsFrom h.objs.size ((name, kind) :: r) acc = cellsFrom h.objs.size r acc := by rw [cellsFrom, hb']; rfl
      have e1 : pushCells h ((name, kind) :: r) = pushCells h r := by rw [pushCells, hb']; rfl
      rw [e0, e1]
      obtain ⟨a1, a2, a3, a4, a5⟩ := ih h acc hl hb inj
      refine ⟨a1, a2, fun y e => ?_, fun y e => a4 y fun z => e (List.mem_cons_of_mem _ z), a5⟩
      rcases List.mem_cons.mp e with q | q
      · cases q; exact absurd rfl hk
      · exact a3 y q
theorem new_env {M : Model} {A : Around} {E : Value → Shared → Prop} {s : Shared} {sc : Scope} {gl : Addr} {cl : List (Str × Addr)} {qual : Str} {func : Option Addr} {code : Value} {env : Env} {bl : Addr} {Q : Env → Shared → Prop}
    (hQ : Q (newEnv sc s.heap.objs.size gl (cellsFrom (s.heap.objs.size + 1) sc.names cl) qual func code (some env) bl) { s with heap := pushCells (s.heap.push { cls := .type "dict", data := .dict #[] }) sc.names }) :
    wpAny M A (newFunctionEnv sc gl cl [] qual func code (some env) bl) Q E s := by
  simp only [newFunctionEnv, Option.isSome_some, if_true]
  refine wpAny_bind (wpAny_alloc (wpAny_bind (wpAny_layCells _ (fun name kind cells => by cases hkc : kind == NameKind.cell <;> simp [hkc]) _ _ _ _ ?_)))
  rw [show ({ s with heap := s.heap.push { cls := .type "dict", data := .dict #[] } } : Shared).heap.objs.size = s.heap.objs.size + 1 from Heap.size_push ..]
  rw [List.forIn_nil]
  exact wpAny_bind (wpAny_pure (wpAny_pure hQ))
/-- what is known of the cells of a block -/
structure ClOk (X : Cx) (sc : Scope) (cl : List (Str × Addr)) (n : Nat) (h : Heap) : Prop where
  old : ∀ y c, cl.lookup y = some c → X.env.cells.lookup y = some c ∨ (n < c ∧ ∃ v, h.IsCell c v)
  free : ∀ y, sc.names.lookup y = some .free → ∃ c, cl.lookup y = some c ∧ X.env.cells.lookup y = some c
  cell : ∀ y, sc.names.lookup y = some .cell → ∃ c, cl.lookup y = some c ∧ n < c
  inj : ∀ y z c, cl.lookup y = some c → cl.lookup z = some c → y = z

def tCompT (J : It) (wg : TG) (tt : TT) (te : TE) (W : Nat → Nat → List V → St → Hp → Prop) (i m : Nat) (ys : List V) (σ : St) (H : Hp) : Prop :=
  ∀ x H2, J.yld i H x H2 → wg x σ H2 fun σ3 H3 => tt σ3 H3 fun b H4 => if b = true then te σ3 H4 fun v H5 => ys.length < sizeLine ∧ ∃ m', m' < m ∧ W (i + 1) m' (ys ++ [v]) σ3 H5
    else ∃ m', m' < m ∧ W (i + 1) m' ys σ3 H4
def tCompW (k : Nat) (J : It) (wg : TG) (tt : TT) (te : TE) (σ : St) (H : Hp) (Q : VK) : Prop :=
  ∃ W : Nat → Nat → List V → St → Hp → Prop, (∃ m, W 0 m [] (σ ++ List.replicate k none) H) ∧ ∀ i m ys σ' H', W i m ys σ' H' →
    (J.stop i H' ∧ ∀ D, H' D = none → Q (.ref D) (upd H' D (.lst ys))) ∨ (J.go i H' ∧ tCompT J wg tt te W i m ys σ' H')
def tComp (k : Nat) (wi : TI) (wg : TG) (tt : TT) (te : TE) : TE := fun σ H Q => wi σ H fun J H1 => tCompW k J wg tt te σ H1 Q

theorem lookup_relabel {env : Env} : ∀ {names : List (Str × NameKind)} {x : Str} {k : NameKind},
    (names.map fun (n, k) => if (k == NameKind.free && env.scope.kind == .function && env.kindOf n == some .cell) then (n, NameKind.cell) else (n, k)).lookup x = some k →
      (names.lookup x = some k) ∨ (k = .cell ∧ names.lookup x = some .free)
  | [], _, _, h => by simp at h
  | (n, k') :: r, x, k, h => by
    have h' : List.lookup x ((if (k' == NameKind.free && env.scope.kind == .function && env.kindOf n == some .cell) = true then (n, NameKind.cell) else (n, k')) :: (r.map fun (n, k) => if (k == NameKind.free && env.scope.kind == .function && env.kindOf n == some .cell) then (n, NameKind.cell) else (n, k))) = some k := h
    have ih := @lookup_relabel env r x k
    cases hx : x == n with
    | true =>
      by_cases hc : (k' == NameKind.free && env.scope.kind == .function && env.kindOf n == some .cell) = true
      · rw [if_pos hc] at h'
        simp only [List.lookup_cons, hx] at h' ⊢
        cases h'
        have : k' = .free := by
          rw [Bool.and_eq_true, Bool.and_eq_true] at hc
          simpa using hc.1.1
        subst this
        exact .inr ⟨rfl, rfl⟩
      · rw [if_neg hc] at h'
        simp only [List.lookup_cons, hx] at h' ⊢
        exact .inl h'
    | false =>
      by_cases hc : (k' == NameKind.free && env.scope.kind == .function && env.kindOf n == some .cell) = true
      · rw [if_pos hc] at h'
        simp only [List.lookup_cons, hx] at h' ⊢
        exact ih h'
      · rw [if_neg hc] at h'
        simp only [List.lookup_cons, hx] at h' ⊢
        exact ih h'

section
variable {X : Cx} {elt iter : Expr} {ifs : List Expr} {tg : Expr} {N' : List Str} {sc : Scope} {pos : Pos} {wi : TI} {wg : TG} {tt : TT} {te : TE} {k : Nat}

/-- the block's entry -/
theorem comp_inv {pins : List (Addr × Obj)} {σ : St} {H : Hp} {s s' : Shared} {cl : List (Str × Addr)} {fp : List Addr} {m : Str → Option Value} (O : CompOk X N' k sc) (I : Inv X pins σ H s) (cK : ClOk X sc cl s.heap.objs.size s'.heap)
    (hf : ∀ b ∈ fp, FpOk X pins H b) (hlt : ∀ b ∈ fp, b < s.heap.objs.size) (hos : s'.os = s.os) (hg : s'.gens = s.gens) (hk : ∀ b o, s.heap.get? b = some o → s'.heap.get? b = some o) (hns : s'.heap.Ns s.heap.objs.size m) :
    Inv (compCx X N' sc cl s.heap.objs.size fp pins s H) [] (σ ++ List.replicate k none) H s' := by
  have stk : ∀ b, b ≠ X.env.locals → b ∉ X.fs → b ∉ frs X.stack := fun b h1 h2 hb => by
    rcases List.mem_cons.mp (I.stkSub b hb) with z | z
    · exact h1 z
    · exact h2 z
  have hr : ∀ {y : Str}, (relabel sc X.env).names.lookup y = some .cell ∨ (relabel sc X.env).names.lookup y = some .free → sc.names.lookup y = some .free ∨ sc.names.lookup y = some .cell := fun {y} h => by
    rcases h with h | h
    · rcases lookup_relabel h with q | q
      · exact .inr q
      · exact .inl q.2
    · rcases lookup_relabel h with q | q
      · exact .inl q
      · exact .inl q.2
  refine ⟨⟨I.ok.mod, O.kind, I.ok.glob, I.ok.blt, Nat.le_refl _, cK.inj, fun y hy => ?_, fun y c z e => ?_, I.ok.hd, I.ok.frames, .inl rfl, fun b hb => ?_, I.bs, Nat.le_trans I.ok.bsz I.sz, fun b o e hb => ?_, fun b hb => ?_, I.stack, I.stkFree⟩,
    hos, ?_, Un.kept hk, ⟨m, hns, fun i y v h1 h2 h3 => ?_⟩, fun y c h => ?_, I.hok.fresh (Nat.le_refl _), fun y c h => (cK.old y c h).elim (I.freeC y c) fun z => I.hok.fresh (Nat.le_of_lt z.1), fun p hp => ?_, I.hok.kept hk, ?_⟩
  · rcases hr hy with q | q
    · obtain ⟨c, e, _⟩ := cK.free y q; exact ⟨c, e⟩
    · obtain ⟨c, e, _⟩ := cK.cell y q; exact ⟨c, e⟩
  · obtain ⟨c', e', q⟩ := cK.cell y (of_decide_eq_true z)
    have e : cl.lookup y = some c := e
    rw [e'] at e; cases e
    exact Nat.le_of_lt q
  · have q := hf b hb
    exact ⟨Nat.ne_of_lt (hlt b hb), fun z c e => (cK.old z c e).elim (q.2.2.2.2.1 z c) fun w => Nat.ne_of_gt (Nat.lt_trans (hlt b hb) w.1)⟩
  · have hb' : b ∈ fp := hb
    rcases (hf b hb').2.2.2.1 with z | z
    · exact I.ok.noex b o e z
    · exact absurd (Nat.lt_of_lt_of_le (Heap.lt_size (I.ok.bs b o e).1) z) (Nat.lt_irrefl _)
  · exact stk b (hf b hb).2.1 (hf b hb).2.2.1
  · rw [hg]; exact I.bare
  · have hl := I.len
    have hi : i < X.N.length := by
      by_cases hi : i < X.N.length
      · exact hi
      · rw [List.getElem?_append_right (by omega)] at h2
        have := List.getElem?_replicate (a := (none : Option V)) (n := k) (i := i - σ.length)
        rw [this] at h2
        split at h2 <;> cases h2
    have h1' : X.N[i]? = some y ∧ sc.names.lookup y ≠ some .local ∧ sc.names.lookup y ≠ some .cell := by
      rcases O.old i y hi h1 with q | q
      · exact q
      · have no : ∀ kk, (relabel sc X.env).names.lookup y ≠ some kk := fun kk z => by
          rcases lookup_relabel z with w | w
          · rw [q] at w; cases w
          · rw [q] at w; cases w.2
        rcases h3 with h3 | h3 | h3
        · exact absurd h3 (no _)
        · exact absurd h3 (no _)
        · exact absurd h3 (no _)
    obtain ⟨h1', h1n, h1c⟩ := h1'
    have h2' : σ[i]? = some (some v) := by
      rw [List.getElem?_append_left (by omega)] at h2
      exact h2
    have key : sc.names.lookup y = some .free ∧ ((relabel sc X.env).names.lookup y = some .cell ∨ (relabel sc X.env).names.lookup y = some .free) := by
      rcases h3 with h3 | h3 | h3
      · rcases lookup_relabel h3 with q | q
        · exact absurd q h1n
        · cases q.1
      · exact ⟨(hr (.inl h3)).resolve_right h1c, .inl h3⟩
      · exact ⟨(hr (.inr h3)).resolve_right h1c, .inr h3⟩
    obtain ⟨q, kd⟩ := key
    have mem := PySem.mem_of_lookup q
    have kx := O.free _ mem rfl
    obtain ⟨m0, hn, hl'⟩ := I.loc
    obtain ⟨u, r, l⟩ := hl' i y v h1' h2' (by rcases kx with z | z; exact .inr (.inl z); exact .inr (.inr z))
    rcases l with ⟨l, _⟩ | ⟨_, c, e, z⟩
    · rcases kx with z | z
      · rw [l] at z; cases z
      · rw [l] at z; cases z
    · obtain ⟨c', e', e2⟩ := cK.free y q
      rw [e] at e2; cases e2
      obtain ⟨o, ho, hd⟩ := z
      exact ⟨u, r, .inr ⟨kd, c, e', o, hk _ _ ho, hd⟩⟩
  · rcases cK.old y c h with z | z
    · obtain ⟨v, o, ho, hd⟩ := I.cell y c z
      exact ⟨v, o, hk _ _ ho, hd⟩
    · exact z.2
  · have hp' : p ∈ X.pn ++ pins := by
      rcases List.mem_append.mp hp with z | z
      · exact z
      · cases z
    obtain ⟨e, n, ne, nf, d⟩ := I.pin p hp'
    exact ⟨hk _ _ e, n, Nat.ne_of_lt (Heap.lt_size e), stk p.1 ne nf, d⟩
  · show (σ ++ List.replicate k none).length = N'.length
    rw [List.length_append, List.length_replicate, I.len, O.len]

/-- behind the block -/
theorem comp_back {pins : List (Addr × Obj)} {σ σ' : St} {H H' : Hp} {s s1 : Shared} {cl : List (Str × Addr)} {fp : List Addr} {C : Addr} (I : Inv X pins σ H s) (hf : ∀ b ∈ fp, FpOk X pins H b)
    (J : Inv (compCx X N' sc cl C fp pins s H) [] σ' H' s1) : Inv X pins σ H' s1 :=
  I.call' (ch := fp) J.os J.base J.hok J.bare fun b hb => ⟨(hf b hb).2.2.2.1, (hf b hb).2.1, (hf b hb).2.2.2.2.1, (hf b hb).2.2.2.2.2⟩

/-- an object that was not tracked is tracked from here on -/
theorem Inv.track {pins : List (Addr × Obj)} {σ : St} {H : Hp} {s : Shared} {D : Addr} {o : HO} (I : Inv X pins σ H s) (hn : H D = none) (hL : D ≠ X.env.locals) (h1 : D ∈ X.ex ∨ X.s₀.heap.objs.size ≤ D) (h2 : ∀ x c, X.env.cells.lookup x = some c → c ≠ D) (h3 : ∀ p ∈ X.pn ++ pins, p.1 ≠ D)
    (ok : ObjOk X.prog X.w (upd H D o) s.heap D o) : Inv X pins σ (upd H D o) s := by
  have ne : ∀ b u, H b = some u → b ≠ D := fun b u e => ne_of_none e hn
  exact I.step (g' := s.gens) (d' := s.drawn) (t' := s.toks) (ch := [D]) (h' := s.heap) (fun b hb => by
      have e : b = D := by simpa using hb
      subst e
      exact ⟨h1, hL, h2, h3⟩) (fun b o _ _ _ e _ => e) (fun b o _ _ _ e _ => ⟨o.slots, e⟩) (fun b o hc e n => by rw [upd_ne (fun z => hc (by simp [z]))]; exact n) (fun b o _ e => ⟨o, e⟩)
    (fun b xs e => by rw [upd_ne (ne b _ e)]; exact e) (fun b o u e => by rw [upd_ne (ne b _ e)]; exact e) (fun b ps e => ⟨#[], by rw [upd_ne (ne b _ e), e]; simp⟩) (fun m hm => hm) (fun b u e => by
      by_cases hb : b = D
      · subst hb; rw [upd_same] at e; cases e; exact ok
      · rw [upd_ne hb] at e
        exact (I.hok b u e).stay (fun c v _ q => q) (fun c q => by rw [upd_ne (ne c _ q)]; exact q) fun c xs q => by rw [upd_ne (ne c _ q)]; exact q) I.bare

/-- the block runs -/
theorem comp_loop {pins : List (Addr × Obj)} {σ : St} {H : Hp} {s s' : Shared} {cl : List (Str × Addr)} {fp : List Addr} {m : Str → Option Value} {it D : Addr} {tn : Nat → Heap → Prop} {J : It} {R : Result → Shared → Prop} {Qd : List V → Hp → Prop} (O : CompOk X N' k sc)
    (I : Inv X pins σ H s) (cK : ClOk X sc cl s.heap.objs.size s'.heap) (hf : ∀ b ∈ D :: fp, FpOk X pins H b) (hlt : ∀ b ∈ D :: fp, b < s.heap.objs.size)
    (hos : s'.os = s.os) (hg : s'.gens = s.gens) (hk : ∀ b o, s.heap.get? b = some o → s'.heap.get? b = some o) (hns : s'.heap.Ns s.heap.objs.size m)
    (T : Turn X.prog X.w X.K tg J fp it tn) (hDf : D ∉ fp) (st : tn 0 s'.heap) (hD : s'.heap.PlainList D #[])
    (pg : PG (compCx X N' sc cl s.heap.objs.size (D :: fp) pins s H) tg wg) (hq : PTs (compCx X N' sc cl s.heap.objs.size (D :: fp) pins s H) ifs tt) (he : PE (compCx X N' sc cl s.heap.objs.size (D :: fp) pins s H) elt te)
    (W : Nat → Nat → List V → St → Hp → Prop) (m0 : Nat) (w0 : W 0 m0 [] (σ ++ List.replicate k none) H) (turn : ∀ i m ys σ' H', W i m ys σ' H' → (J.stop i H' ∧ Qd ys H') ∨ (J.go i H' ∧ tCompT J wg tt te W i m ys σ' H'))
    (fin : ∀ s1 H1 σ1 (ys : List V) (its : List Value), Inv (compCx X N' sc cl s.heap.objs.size (D :: fp) pins s H) [] σ1 H1 s1 → H1 D = none → s1.heap.PlainList D its.toArray → Vals ys its → ys.length ≤ sizeLine → Qd ys H1 → R (.ok .next) s1) :
    codeAny (model X.prog X.w) X.A (.compLoop (.ListComp elt [⟨tg, iter, ifs, 0⟩] sc pos) 0 (.ref it) (.ref D) (compEnvC sc cl s.heap.objs.size X.env)) R s' := by
  have I0 : Inv (compCx X N' sc cl s.heap.objs.size (D :: fp) pins s H) [] (σ ++ List.replicate k none) H s' := comp_inv O I cK hf hlt hos hg hk hns
  have stk : ∀ b, b ≠ X.env.locals → b ∉ X.fs → b ∉ frs X.stack := fun b h1 h2 hb => by
    rcases List.mem_cons.mp (I.stkSub b hb) with z | z
    · exact h1 z
    · exact h2 z
  have stat : ∀ {H' : Hp}, (∀ b ∈ D :: fp, H' b = none) → ∀ b ∈ D :: fp, FpOk (compCx X N' sc cl s.heap.objs.size (D :: fp) pins s H) [] H' b := fun hn b hb =>
    ⟨hn b hb, Nat.ne_of_lt (hlt b hb), stk b (hf b hb).2.1 (hf b hb).2.2.1, .inl hb, fun z c e => (cK.old z c e).elim ((hf b hb).2.2.2.2.1 z c) fun w => Nat.ne_of_gt (Nat.lt_trans (hlt b hb) w.1), fun p hp => by
      have hp' : p ∈ X.pn ++ pins := by
        rcases List.mem_append.mp hp with z | z
        · exact z
        · cases z
      exact (hf b hb).2.2.2.2.2 p hp'⟩
  have statF : ∀ {H' : Hp}, (∀ b ∈ D :: fp, H' b = none) → ∀ b ∈ fp, FpOk (compCx X N' sc cl s.heap.objs.size (D :: fp) pins s H) [] H' b := fun hn b hb => stat hn b (List.mem_cons_of_mem _ hb)
  refine loop_tests (fun kk s1 => ∃ i ys its σ' H', Inv (compCx X N' sc cl s.heap.objs.size (D :: fp) pins s H) [] σ' H' s1 ∧ tn i s1.heap ∧ (∀ b ∈ D :: fp, H' b = none) ∧ s1.heap.PlainList D its.toArray ∧ Vals ys its ∧ ys.length ≤ sizeLine ∧ W i kk ys σ' H') ?_ m0 ⟨0, [], [], σ ++ List.replicate k none, H, I0, st, fun b hb => (hf b hb).1, hD, .nil, Nat.zero_le _, w0⟩
  rintro kk s3 ⟨i, ys, its, σ3, H3, I3, st3, fr3, pl3, rv3, hz3, w3⟩
  rcases turn i kk ys σ3 H3 w3 with ⟨stop, qn⟩ | ⟨go, step⟩
  · have J3 := I3.pinned (fp := [D]) (fun b hb => by
      have e : b = D := by simpa using hb
      subst e
      exact stat fr3 b List.mem_cons_self) (fun b hb => by
      have e : b = D := by simpa using hb
      subst e
      obtain ⟨n, e⟩ := pl3
      exact ⟨_, e, fun v z => by cases z⟩)
    have fpo : ∀ b ∈ fp, FpOk (compCx X N' sc cl s.heap.objs.size (D :: fp) pins s H) ([] ++ pinsAt [D] s3.heap) H3 b := fun b hb => by
      obtain ⟨a1, a2, a3, a4, a5, a6⟩ := statF fr3 b hb
      refine ⟨a1, a2, a3, a4, a5, fun p hp => ?_⟩
      rcases List.mem_append.mp hp with z | z
      · exact a6 p (List.mem_append_left _ z)
      · have z' : p ∈ pinsAt [D] s3.heap := by simpa using z
        have := (of_pinsAt z').1
        have e : p.1 = D := by simpa using this
        rw [e]
        intro z2
        subst z2
        exact hDf hb
    refine thn (T.done (compCx X N' sc cl s.heap.objs.size (D :: fp) pins s H) rfl rfl rfl O.calm i _ s3 σ3 H3 _ J3 fpo st3 stop) fun r s4 ⟨hr, I4⟩ => ?_
    subst hr
    obtain ⟨n, e⟩ := pl3
    have e4 := (I4.pin (D, _) (List.mem_append_right _ (List.mem_append_right _ (mem_pinsAt (by simp) e)))).1
    exact fin s4 H3 σ3 ys its I4.unpinned (fr3 D List.mem_cons_self) ⟨n, e4⟩ rv3 hz3 qn
  · have J3 := I3.pinned (fp := [D]) (fun b hb => by
      have e : b = D := by simpa using hb
      subst e
      exact stat fr3 b List.mem_cons_self) (fun b hb => by
      have e : b = D := by simpa using hb
      subst e
      obtain ⟨n, e⟩ := pl3
      exact ⟨_, e, fun v z => by cases z⟩)
    have fpo : ∀ {H' : Hp}, (∀ b ∈ fp, H' b = none) → ∀ b ∈ fp, FpOk (compCx X N' sc cl s.heap.objs.size (D :: fp) pins s H) ([] ++ pinsAt [D] s3.heap) H' b := fun {H'} hn b hb => by
      obtain ⟨_, a2, a3, a4, a5, a6⟩ := statF fr3 b hb
      refine ⟨hn b hb, a2, a3, a4, a5, fun p hp => ?_⟩
      rcases List.mem_append.mp hp with z | z
      · exact a6 p (List.mem_append_left _ z)
      · have z' : p ∈ pinsAt [D] s3.heap := by simpa using z
        have := (of_pinsAt z').1
        have e : p.1 = D := by simpa using this
        rw [e]
        intro z2
        subst z2
        exact hDf hb
    refine thn (T.item (compCx X N' sc cl s.heap.objs.size (D :: fp) pins s H) rfl rfl rfl O.calm i _ s3 σ3 H3 _ J3 (fpo fun b hb => fr3 b (List.mem_cons_of_mem _ hb)) st3 go) fun r s4 ⟨u, hr, h4⟩ => ?_
    subst hr
    refine thn h4 fun _ s5 ⟨y, H5, I5, r5, y5, st5, fr5⟩ => ?_
    have I5' := I5.pinned (fpo fr5) (T.obj _ _ st5)
    have step' := step y H5 y5
    obtain ⟨n3, e3⟩ := pl3
    have dpin : ∀ {σ7 : St} {H7 : Hp} {s7 : Shared}, Inv (compCx X N' sc cl s.heap.objs.size (D :: fp) pins s H) ([] ++ pinsAt [D] s3.heap ++ pinsAt fp s5.heap) σ7 H7 s7 → s7.heap.get? D = some { cls := .type "list", data := .seq its.toArray n3 } ∧ H7 D = none := fun {σ7 H7 s7} I7 => by
      have q := I7.pin (D, _) (List.mem_append_right _ (List.mem_append_left _ (List.mem_append_right _ (mem_pinsAt (by simp) e3))))
      exact ⟨q.1, q.2.1⟩
    have tkeep : ∀ {σ7 : St} {H7 : Hp} {s7 : Shared}, Inv (compCx X N' sc cl s.heap.objs.size (D :: fp) pins s H) ([] ++ pinsAt [D] s3.heap ++ pinsAt fp s5.heap) σ7 H7 s7 → tn (i + 1) s7.heap ∧ ∀ b ∈ D :: fp, H7 b = none := fun {σ7 H7 s7} I7 => by
      refine ⟨T.keep _ _ _ st5 fun b hb o e => (I7.pin (b, o) (List.mem_append_right _ (List.mem_append_right _ (mem_pinsAt hb e)))).1, fun b hb => ?_⟩
      rcases List.mem_cons.mp hb with rfl | hb
      · exact (dpin I7).2
      · obtain ⟨o, e, d⟩ := T.obj _ _ st5 b hb
        exact (I7.pin (b, o) (List.mem_append_right _ (List.mem_append_right _ (mem_pinsAt hb e)))).2.1
    refine thF (pg _ s5 σ3 H5 y u _ I5' r5 step') fun _ s6 ⟨σ6, H6, I6, step6⟩ => ?_
    refine thF (hq _ s6 _ H6 _ I6 step6) fun b s7 ⟨H7, I7, q7⟩ => ?_
    cases b with
    | false =>
      simp only [Bool.false_eq_true, if_false] at q7 ⊢
      obtain ⟨m', hm, w8⟩ := q7
      obtain ⟨t8, f8⟩ := tkeep I7
      exact ⟨m', hm, i + 1, ys, its, _, H7, I7.unpinned.unpinned, t8, f8, ⟨n3, (dpin I7).1⟩, rv3, hz3, w8⟩
    | true =>
      simp only [if_true] at q7 ⊢
      refine thF (he _ s7 _ H7 _ I7 q7) fun v s8 ⟨vv, H8, I8, r8, hz, m', hm, w8⟩ => ?_
      have hlen := rv3.length
      refine wpAny_list_append_plain ⟨n3, (dpin I8).1⟩ (fun h9 pl9 sb9 => ?_) (by rw [List.size_toArray]; omega)
      obtain ⟨t8, f8⟩ := tkeep I8
      have st8 := stat f8 D List.mem_cons_self
      have I9 : Inv (compCx X N' sc cl s.heap.objs.size (D :: fp) pins s H) [] σ6 H8 { s8 with heap := h9 } :=
        I8.unpinned.unpinned.turned (t' := s8.toks) (fun b o hb e => (sb9.2 b hb).trans e) st8.1 st8.2.1 st8.2.2.2.1 st8.2.2.2.2.1 st8.2.2.2.2.2
      refine ⟨m', hm, i + 1, ys ++ [vv], its ++ [v], _, H8, I9, T.keep _ _ _ t8 fun b hb o e => (sb9.2 b (fun z => hDf (z ▸ hb))).trans e, f8, by simpa using pl9, rv3.append (.cons r8 .nil), ?_, w8⟩
      rw [List.length_append, List.length_singleton]
      omega

/-- the block, from the iterator on -/
theorem comp_block {E : Value → Shared → Prop} {pins : List (Addr × Obj)} {σ : St} {H : Hp} {s : Shared} {cl : List (Str × Addr)} {fp : List Addr} {it : Addr} {tn : Nat → Heap → Prop} {J : It} {RR : Value → Addr → Result → Shared → Prop} {Qd : V → Hp → Prop} (O : CompOk X N' k sc)
    (I : Inv X pins σ H s) (hcl1 : ∀ y c, cl.lookup y = some c → X.env.cells.lookup y = some c) (hcl2 : ∀ y, (y, NameKind.free) ∈ sc.names → ∃ c, cl.lookup y = some c) (hf : ∀ b ∈ fp, FpOk X pins H b)
    (T : Turn X.prog X.w X.K tg J fp it tn) (st : tn 0 s.heap)
    (hg : ∀ cl C fp pins s H, PG (compCx X N' sc cl C fp pins s H) tg wg) (hq : ∀ cl C fp pins s H, PTs (compCx X N' sc cl C fp pins s H) ifs tt) (he : ∀ cl C fp pins s H, PE (compCx X N' sc cl C fp pins s H) elt te)
    (turn : tCompW k J wg tt te σ H Qd)
    (fin : ∀ D C s1 H1 m, Inv X pins σ H1 s1 → s1.heap.Ns C m → H1 C = none → C ≠ X.env.locals → (X.s₀.heap.objs.size ≤ C) → (∀ z c, X.env.cells.lookup z = some c → c ≠ C) → (∀ p ∈ X.pn ++ pins, p.1 ≠ C) → Qd (.ref D) H1 → RR (.ref D) C (.ok .next) s1) :
    wpAny (model X.prog X.w) X.A (newList []) (fun acc s₃ => wpAny (model X.prog X.w) X.A (newFunctionEnv sc X.env.globals cl [] X.env.qual none .none (some X.env)) (fun cenv s₄ =>
      codeAny (model X.prog X.w) X.A (.compStart (.ListComp elt [⟨tg, iter, ifs, 0⟩] sc pos) 0 (.ref it) acc { cenv with scope := relabel sc X.env }) (RR acc cenv.locals) s₄) E s₃) E s := by
  refine wpAny_newObj_type (new_env ?_)
  dsimp only
  have hD := I.hok.fresh (Nat.le_refl s.heap.objs.size)
  have I3 : Inv X pins σ H { s with heap := s.heap.push { cls := .type "list", dict := none, data := .seq ([] : List Value).toArray } } :=
    I.kept (t' := s.toks) (fun b u e => Heap.get?_push_of_some _ e)
  have fpl : ∀ b ∈ fp, b < s.heap.objs.size := fun b hb => by
    obtain ⟨o, e, _⟩ := T.obj _ _ st b hb
    exact Heap.lt_size e
  have fD : FpOk X pins H s.heap.objs.size := I.fpOk (Nat.le_refl _) hD
  have hf3 : ∀ b ∈ s.heap.objs.size :: fp, FpOk X pins H b := fun b hb => by
    rcases List.mem_cons.mp hb with rfl | hb
    · exact fD
    · exact hf b hb
  have eD : (s.heap.push { cls := .type "list", dict := none, data := .seq ([] : List Value).toArray }).get? s.heap.objs.size = some { cls := .type "list", dict := none, data := .seq ([] : List Value).toArray } := Heap.get?_push_size _ rfl
  generalize hH2 : s.heap.push { cls := .type "list", dict := none, data := .seq ([] : List Value).toArray } = H2 at I3 eD ⊢
  have hC : H2.objs.size = s.heap.objs.size + 1 := by rw [← hH2, Heap.size_push]
  have sz2 : (H2.push { cls := .type "dict", data := .dict #[] }).objs.size = H2.objs.size + 1 := Heap.size_push ..
  obtain ⟨a1, a2, a3, a4, a5⟩ := cf_ok H2.objs.size sc.names (H2.push { cls := .type "dict", data := .dict #[] }) cl (by omega) (fun y c e q => by
    obtain ⟨v, z⟩ := I3.cell y c (hcl1 y c e)
    exact Nat.lt_of_lt_of_le z.lt (by rw [sz2]; exact Nat.le_succ _)) (fun y z c q e1 e2 => I3.ok.inj y z c (hcl1 _ _ e1) (hcl1 _ _ e2))
  rw [sz2] at a1 a2 a3 a4 a5
  generalize hcl' : cellsFrom (H2.objs.size + 1) sc.names cl = cl' at a1 a2 a3 a4 a5 ⊢
  have old3 : ∀ b o, H2.get? b = some o → (pushCells (H2.push { cls := .type "dict", data := .dict #[] }) sc.names).get? b = some o := fun b o e => pushCells_keeps _ _ _ _ (Heap.get?_push_of_some _ e)
  have hns₁ : (pushCells (H2.push { cls := .type "dict", data := .dict #[] }) sc.names).Ns H2.objs.size (fun _ => none) := (Heap.Ns.new H2 (.type "dict")).keeps (pushCells_keeps _ _)
  have cK : ClOk X sc cl' H2.objs.size (pushCells (H2.push { cls := .type "dict", data := .dict #[] }) sc.names) := by
    have fr : ∀ y, sc.names.lookup y = some .free → ∃ c, cl'.lookup y = some c ∧ X.env.cells.lookup y = some c := fun y e => by
      obtain ⟨c, q⟩ := hcl2 y (PySem.mem_of_lookup e)
      refine ⟨c, ?_, hcl1 y c q⟩
      rw [a4 y fun z => by have := O.cells _ z rfl; rw [e] at this; cases this]
      exact q
    have ol : ∀ y c, cl'.lookup y = some c → X.env.cells.lookup y = some c ∨ (H2.objs.size < c ∧ ∃ v, (pushCells (H2.push { cls := .type "dict", data := .dict #[] }) sc.names).IsCell c v) := fun y c e => by
      rcases a1 y c e with z | ⟨z1, z2⟩
      · exact .inl (hcl1 y c z)
      · exact .inr ⟨by omega, none, z2⟩
    refine ⟨ol, fr, fun y e => ?_, fun y z c e1 e2 => ?_⟩
    · obtain ⟨c, q1, q2⟩ := a3 y (PySem.mem_of_lookup e)
      exact ⟨c, q1, by omega⟩
    · by_cases hc : H2.objs.size ≤ c
      · exact a5 y z c hc e1 e2
      · rcases ol y c e1 with q | q
        · rcases ol z c e2 with r | r
          · exact I3.ok.inj y z c q r
          · omega
        · omega
  generalize pushCells (H2.push { cls := .type "dict", data := .dict #[] }) sc.names = h₁ at *
  have old2 : ∀ b o, s.heap.get? b = some o → H2.get? b = some o := fun b o e => hH2 ▸ Heap.get?_push_of_some _ e
  obtain ⟨W, ⟨m0, w0⟩, tr⟩ := turn
  have st1 : tn 0 h₁ := T.keep _ _ _ st fun b _ o e => old3 b o (old2 b o e)
  have loop : codeAny (model X.prog X.w) X.A (.compLoop (.ListComp elt [⟨tg, iter, ifs, 0⟩] sc pos) 0 (.ref it) (.ref s.heap.objs.size) (compEnvC sc cl' H2.objs.size X.env)) (RR (.ref s.heap.objs.size) H2.objs.size)
      { s with heap := h₁ } := by
    refine comp_loop (s := { s with heap := H2 }) (s' := { s with heap := h₁ }) (Qd := fun ys H' => ∀ D, H' D = none → Qd (.ref D) (upd H' D (.lst ys))) O I3 cK hf3 (fun b hb => ?_) rfl rfl old3 hns₁ T (fun z => Nat.lt_irrefl _ (fpl _ z)) st1 ⟨0, old3 _ _ eD⟩ (hg _ _ _ _ _ _) (hq _ _ _ _ _ _) (he _ _ _ _ _ _) W m0 w0 tr ?_
    · show b < H2.objs.size
      rw [hC]
      rcases List.mem_cons.mp hb with hb | hb
      · rw [hb]; exact Nat.lt_succ_self _
      · exact Nat.lt_succ_of_lt (fpl b hb)
    intro s1 H1 σ1 ys its J1 hD1 pl1 rv1 hz1 q1
    obtain ⟨m, hn1, _⟩ := J1.loc
    obtain ⟨n1, e1⟩ := pl1
    have I4 := (comp_back I3 hf3 J1).track (D := s.heap.objs.size) (o := .lst ys) hD1 fD.2.1 fD.2.2.2.1 fD.2.2.2.2.1 fD.2.2.2.2.2 ⟨hz1, its, n1, rv1, e1⟩
    refine fin _ _ s1 _ m I4 hn1 (by rw [upd_ne (by show H2.objs.size ≠ s.heap.objs.size; omega)]; exact J1.free) (Nat.ne_of_gt I3.lt) I3.sz (fun z c e h => ?_) (fun p hp h => ?_) (q1 _ hD1)
    · obtain ⟨v, q⟩ := I3.cell z c e
      have := q.lt
      rw [h] at this
      exact Nat.lt_irrefl _ this
    · have := Heap.lt_size (I3.pin p hp).1
      rw [h] at this
      exact Nat.lt_irrefl _ this
  exact codeAny_compStart_list loop (T.self _ 0 _ _ _ st1 loop)

theorem pe_comp (O : CompOk X N' k sc) (hi : PI X tg iter wi) (hg : ∀ cl C fp pins s H, PG (compCx X N' sc cl C fp pins s H) tg wg) (hq : ∀ cl C fp pins s H, PTs (compCx X N' sc cl C fp pins s H) ifs tt) (he : ∀ cl C fp pins s H, PE (compCx X N' sc cl C fp pins s H) elt te)
    (hs : ∀ v, foldedSetIterable iter X.env v = pure v := by intro _; rfl) : PE X (.ListComp elt [⟨tg, iter, ifs, 0⟩] sc pos) (tComp k wi wg tt te) := by
  intro pins s σ H Q I h
  rw [eval_ListComp]
  obtain ⟨cl, hcl, hcl1, hcl2⟩ := closure_of (sc := sc) (env := X.env) (fun y hy hf => I.ok.has y.1 (O.free y hy hf))
  refine wpAny_comprehension_free (use := none) rfl hs hcl O.kind O.names ?_
  refine thn (hi pins s σ H _ I h) fun v s1 h1 => thn h1 fun itv s2 h2 => ?_
  obtain ⟨it, fp, tn, J, H2, e, I2, T, st2, f2, q⟩ := h2
  subst e
  refine comp_block (RR := fun acc C => compPost (model X.prog X.w) X.A X.xe none (EP X pins σ Q) acc C) (Qd := Q) O I2 hcl1 hcl2 f2 T st2 hg hq he q ?_
  intro D C s3 H3 m I3 hn3 hC3 hL hsz hcl3 hp3 q3
  exact ⟨m, hn3, fun h' sb => ⟨.ref D, H3, I3.turned (t' := s3.toks) (fun b o hb e => (sb.2 b hb).trans e) hC3 hL (.inr hsz) hcl3 hp3, rfl, q3⟩⟩

/-- name = [..] -/
theorem ps_comp {j : Nat} {y : Str} {py spos : Pos} (O : CompOk X N' k sc) (hj : X.N[j]? = some y) (hy : X.env.scope.names.lookup y = some .local) (hi : PI X tg iter wi) (hg : ∀ cl C fp pins s H, PG (compCx X N' sc cl C fp pins s H) tg wg) (hq : ∀ cl C fp pins s H, PTs (compCx X N' sc cl C fp pins s H) ifs tt) (he : ∀ cl C fp pins s H, PE (compCx X N' sc cl C fp pins s H) elt te)
    (hsw : swapsWith (.ListComp elt [⟨tg, iter, ifs, 0⟩] sc pos) (some (.Name y py)) spos.line X.env = pure true := by rfl)
    (hs : ∀ v, foldedSetIterable iter X.env v = pure v := by intro _; rfl) : PS X (.Assign [.Name y py] (.ListComp elt [⟨tg, iter, ifs, 0⟩] sc pos) spos) (tAsg (tComp k wi wg tt te) (gName j)) := by
  intro pins s σ H D I h
  rw [exec_Assign_Name_used _ _ _ _ hsw]
  refine wpAny_bind (wpAny_standAt (wpAny_bind ?_))
  show wpAny _ X.A (do let _ ← comprehension (.ListComp elt [⟨tg, iter, ifs, 0⟩] sc pos) sc X.env _ (newList []) false (eval iter X.env) (some (assign (.Name y py) X.env))) _ _ s
  obtain ⟨cl, hcl, hcl1, hcl2⟩ := closure_of (sc := sc) (env := X.env) (fun y hy hf => I.ok.has y.1 (O.free y hy hf))
  refine wpAny_bind (wpAny_mono (wpAny_comprehension_free (use := some (assign (.Name y py) X.env)) (Q := fun _ s' => SP X pins D .next s') rfl hs hcl O.kind O.names ?_) (fun _ s' hq => wpAny_pure (wpAny_pure hq)) fun _ _ e => e)
  refine thn (hi pins s σ H _ I h) fun v s1 h1 => thn h1 fun itv s2 h2 => ?_
  obtain ⟨it, fp, tn, J, H2, e, I2, T, st2, f2, q⟩ := h2
  subst e
  refine comp_block (RR := fun acc C => compPost (model X.prog X.w) X.A X.xe (some (assign (.Name y py) X.env)) (fun _ s' => SP X pins D .next s') acc C) (Qd := fun x H1 => gName j x σ H1 D.nx) O I2 hcl1 hcl2 f2 T st2 hg hq he q ?_
  intro B C s3 H3 m I3 hn3 hC3 hL hsz hcl3 hp3 q3
  refine wpAny_assign_Name (store_ok2 I3 O.nd hj (.inl hy) (v := .ref B) rfl (fun s4 I4 ⟨a, sb, ha⟩ => ?_) (.inr hy))
  have hCa : C ≠ a := by
    rcases ha with ha | ha
    · rw [ha]; exact hL
    · exact Ne.symm (hcl3 _ _ ha)
  refine ⟨m, hn3.sameBut sb hCa, fun h' sb' => ⟨_, H3, I4.turned (t' := s4.toks) (fun b o hb e => (sb'.2 b hb).trans e) hC3 hL (.inr hsz) hcl3 hp3, q3⟩⟩
end
end L2
namespace L2
open PySem PySem.Spec PyProof.Rows
/-! ### keys of dicts: tuples of ints and of tuples of ints -/
abbrev K2 := List (Int ⊕ List Int)
def k2D (k : Int ⊕ List Int) : PyData := match k with
  | .inl i => .int i
  | .inr js => .tuple (js.map .int)
def k2T (ks : K2) : PyData := .tuple (ks.map k2D)
def k2H (k : Int ⊕ List Int) : Int := match k with
  | .inl i => hashInt i
  | .inr js => reduceHash (Builtin.Tuple.tupleHashOf (js.map hashInt))
theorem map_int_inj : ∀ {a b : List Int}, a.map PyData.int = b.map PyData.int → a = b
  | [], [], _ => rfl
  | [], _ :: _, e => by simp at e
  | _ :: _, [], e => by simp at e
  | x :: xs, y :: ys, e => by
    rw [List.map_cons, List.map_cons] at e
    injection e with e1 e2
    injection e1 with e1
    rw [e1, map_int_inj e2]
theorem k2D_inj {a b : Int ⊕ List Int} (e : k2D a = k2D b) : a = b := by
  cases a with
  | inl i => cases b with
    | inl j => injection (show PyData.int i = PyData.int j from e) with e; rw [e]
    | inr js => cases (show PyData.int i = PyData.tuple _ from e)
  | inr is => cases b with
    | inl j => cases (show PyData.tuple _ = PyData.int j from e)
    | inr js => injection (show PyData.tuple (is.map .int) = PyData.tuple (js.map .int) from e) with e; rw [map_int_inj e]
theorem k2Ds_inj : ∀ {a b : K2}, a.map k2D = b.map k2D → a = b
  | [], [], _ => rfl
  | [], _ :: _, e => by simp at e
  | _ :: _, [], e => by simp at e
  | x :: xs, y :: ys, e => by
    rw [List.map_cons, List.map_cons] at e
    injection e with e1 e2
    rw [k2D_inj e1, k2Ds_inj e2]
theorem k2T_inj {a b : K2} (e : k2T a = k2T b) : a = b := by
  injection (show PyData.tuple (a.map k2D) = PyData.tuple (b.map k2D) from e) with e
  exact k2Ds_inj e
theorem can_is (ns : List Int) : PyData.canLayAll0 (ns.map .int) = true ∧ PyData.depthAll (ns.map .int) = 0 := by
  induction ns with
  | nil => exact ⟨rfl, rfl⟩
  | cons n ns ih => exact ⟨ih.1, by show max 0 (PyData.depthAll (ns.map .int)) = 0; rw [ih.2]; rfl⟩
theorem can_k2 (ks : K2) : PyData.canLayAll0 (ks.map k2D) = true ∧ PyData.depthAll (ks.map k2D) ≤ 1 := by
  induction ks with
  | nil => exact ⟨rfl, Nat.zero_le _⟩
  | cons k ks ih =>
    have hk : (k2D k).canLay0 = true ∧ (k2D k).depth ≤ 1 := by
      cases k with
      | inl i => exact ⟨rfl, Nat.zero_le _⟩
      | inr js => exact ⟨(can_is js).1, by show PyData.depthAll (js.map .int) + 1 ≤ 1; rw [(can_is js).2]; exact Nat.le_refl _⟩
    refine ⟨?_, ?_⟩
    · show ((k2D k).canLay0 && PyData.canLayAll0 (ks.map k2D)) = true
      rw [hk.1, ih.1]; rfl
    · show max (k2D k).depth (PyData.depthAll (ks.map k2D)) ≤ 1
      exact Nat.max_le.mpr ⟨hk.2, ih.2⟩
theorem can_k2T (ks : K2) : (k2T ks).canLay0 = true ∧ (k2T ks).depth ≤ 2 := ⟨(can_k2 ks).1, Nat.succ_le_succ (can_k2 ks).2⟩
def Is2 (h : Heap) (ks : K2) (a : Addr) : Prop := ∃ as, Reads h (.ref a) (k2T ks) as
section
variable {prog : Program} {w : World} {A : Around} {E : Value → Shared → Prop} {s : Shared}
theorem Is2.typeIs {ks : K2} {a : Addr} (x : Is2 s.heap ks a) : s.TypeIs (.ref a) "tuple" := by
  obtain ⟨as, r⟩ := x
  cases r with
  | tuple h1 h2 h3 h4 => exact ⟨_, h1, h2⟩
theorem quiet_v {n : Nat} {h : Heap} {v : Value} {as : List Addr} {i : Int} (r : Reads h v (.int i) as) : eqIsQuiet n v = pure true := by
  cases r
  cases n <;> rfl
theorem quiet_tup {m : Nat} {a : Addr} {o : Obj} {items : Array Value} {n : Nat} {Q : Bool → Shared → Prop} (ho : s.heap.get? a = some o) (hc : o.cls = .type "tuple") (hd : o.data = .seq items n)
    (hi : ∀ v ∈ items.toList, ∀ Q' : Bool → Shared → Prop, Q' true s → wpAny (model prog w) A (eqIsQuiet m v) Q' E s) (h : Q true s) : wpAny (model prog w) A (eqIsQuiet (m + 1) (.ref a)) Q E s := by
  have hT : s.TypeIs (.ref a) "tuple" := ⟨o, ho, hc⟩
  unfold eqIsQuiet
  refine wpAny_bind (wpAny_specialOf hT F.slot_tuple_eq.lookup (?_ : wpAny _ _ (isInstance (.ref a) (.type "tuple") >>= _) _ _ s))
  refine wpAny_bind (wpAny_isInstance hT isSubtype_tuple_tuple (id ?_))
  simp only [Bool.not_true, if_false, Bool.false_eq_true]
  refine wpAny_bind (wpAny_seqItems ho hd (wpAny_bind (?_ : wpAny _ _ (forIn items _ _) _ _ s)))
  rw [← Array.forIn_toList]
  refine wpAny_forIn_list _ (fun rest r s' => r.1 = none ∧ s' = s ∧ ∀ v ∈ rest, ∀ Q' : Bool → Shared → Prop, Q' true s → wpAny (model prog w) A (eqIsQuiet m v) Q' E s) _ ?_ ?_ _ _ ⟨rfl, rfl, hi⟩
  · rintro v rest r s' ⟨hr, rfl, hall⟩
    refine wpAny_bind (hall v List.mem_cons_self _ ?_)
    simp only [Bool.not_true, if_false, Bool.false_eq_true]
    exact wpAny_pure ⟨rfl, rfl, fun u hu' => hall u (List.mem_cons_of_mem _ hu')⟩
  · rintro ⟨r1, r2⟩ s' ⟨hr, rfl, _⟩
    simp only at hr
    subst hr
    exact wpAny_pure h
theorem readsAll_each {h : Heap} : ∀ {vs : List Value} {ds : List PyData} {as : List Addr}, ReadsAll h vs ds as → ∀ v ∈ vs, ∃ d ∈ ds, ∃ bs, Reads h v d bs
  | _, _, _, .nil, v, hv => by cases hv
  | _, _, _, .cons r t, v, hv => by
    rcases List.mem_cons.mp hv with rfl | hv
    · exact ⟨_, .head _, _, r⟩
    · obtain ⟨d, hd, bs, q⟩ := readsAll_each t v hv
      exact ⟨d, .tail _ hd, bs, q⟩
theorem Is2.quiet {ks : K2} {a : Addr} {Q : Bool → Shared → Prop} (x : Is2 s.heap ks a) (h : Q true s) : wpAny (model prog w) A (eqIsQuiet 8 (.ref a)) Q E s := by
  obtain ⟨as, r⟩ := x
  cases r with
  | tuple h1 h2 h3 h4 =>
    refine quiet_tup h1 h2 h3 (fun v hv Q' q => ?_) h
    obtain ⟨d, hd, bs, rv⟩ := readsAll_each h4 v hv
    obtain ⟨k, _, rfl⟩ := List.mem_map.mp hd
    cases k with
    | inl i => rw [quiet_v (show Reads s.heap v (.int i) bs from rv)]; exact wpAny_pure q
    | inr js =>
      cases (show Reads s.heap v (.tuple (js.map .int)) bs from rv) with
      | tuple g1 g2 g3 g4 =>
        refine quiet_tup g1 g2 g3 (fun u hu Q2 q2 => ?_) q
        obtain ⟨d, hd, cs, ru⟩ := readsAll_each g4 u hu
        obtain ⟨i, _, rfl⟩ := List.mem_map.mp hd
        rw [quiet_v ru]
        exact wpAny_pure q2
theorem Is2.inj {h : Heap} {a : Addr} {x y : K2} (hx : Is2 h x a) (hy : Is2 h y a) : x = y := by
  obtain ⟨as, r⟩ := hx
  obtain ⟨bs, q⟩ := hy
  exact k2T_inj (SeqAt.Reads.unique _ _ _ _ _ (can_k2T x).1 r q)
/-- reading tuples of ints is not touched where a dict changes -/
theorem readsI_keeps {h h' : Heap} {d : Addr} (k : ∀ b o, b ≠ d → h.get? b = some o → h'.get? b = some o) : ∀ {vs : List Value} {ns : List Int} {as : List Addr}, ReadsAll h vs (ns.map .int) as → ReadsAll h' vs (ns.map .int) as
  | _, [], _, r => by cases r; exact .nil
  | _, n :: ns, _, r => by
    cases r with
    | cons a t => cases a; exact .cons (.int _ _) (readsI_keeps k t)
theorem Is2.keeps {h h' : Heap} {ks : K2} {a d : Addr} {o : Obj} {es : Array DictEntry} {ep : Nat} (x : Is2 h ks a) (ho : h.get? d = some o) (hd : o.data = .dict es ep) (hs : Heap.SameBut d h h') : Is2 h' ks a := by
  have k : ∀ b o, b ≠ d → h.get? b = some o → h'.get? b = some o := fun b o hb e => (hs.2 b hb).trans e
  have ne : ∀ {b : Addr} {ob : Obj} {items : Array Value} {n : Nat}, h.get? b = some ob → ob.data = .seq items n → b ≠ d := fun e q z => by
    subst z
    rw [ho] at e
    cases e
    rw [hd] at q
    cases q
  have item : ∀ {vs : List Value} {ks : K2} {as : List Addr}, ReadsAll h vs (ks.map k2D) as → ReadsAll h' vs (ks.map k2D) as := by
    intro vs ks
    induction ks generalizing vs with
    | nil => intro as r; cases r; exact .nil
    | cons k1 ks ih =>
      intro as r
      cases r with
      | cons a t =>
        refine .cons ?_ (ih t)
        cases k1 with
        | inl i => cases (show Reads h _ (.int i) _ from a); exact .int _ _
        | inr js =>
          cases (show Reads h _ (.tuple (js.map .int)) _ from a) with
          | tuple g1 g2 g3 g4 => exact .tuple (k _ _ (ne g1 g3) g1) g2 g3 (readsI_keeps k g4)
  obtain ⟨as, r⟩ := x
  cases r with
  | tuple h1 h2 h3 h4 => exact ⟨_, .tuple (k _ _ (ne h1 h3) h1) h2 h3 (item h4)⟩
end
/-! a dict by its one object: keys (ints alone, or tuples alone), where they stand, values -/
def k2Hash (ks : K2) : Int := reduceHash (Builtin.Tuple.tupleHashOf (ks.map k2H))
abbrev KX := Int ⊕ K2
def kxD (k : KX) : PyData := match k with
  | .inl i => .int i
  | .inr ks => k2T ks
def kxV (k : KX) (b : Addr) : V := match k with
  | .inl i => .int i
  | .inr _ => .ref b
def kxI (k : KX) : Bool := match k with
  | .inl _ => true
  | .inr _ => false
def isIntD : PyData → Bool
  | .int _ => true
  | _ => false
abbrev PkT (p : KX × Addr × V) (q : K2 × Addr × Value) : Prop := p.1 = .inr q.1 ∧ p.2.1 = q.2.1 ∧ RelV p.2.2 q.2.2
abbrev PkI (p : KX × Addr × V) (q : Int × Value) : Prop := p.1 = .inl q.1 ∧ RelV p.2.2 q.2
abbrev EnI (e : DictEntry) (q : Int × Value) : Prop := e.hash = hashInt q.1 ∧ (∃ t, e.key = .int q.1 t) ∧ e.val = q.2
def DctT (a : Addr) (kvs : List (KX × Addr × V)) (ep : Nat) (h : Heap) : Prop :=
  ∃ xs : List (K2 × Addr × Value), Paired PkT kvs xs ∧ ∃ o es, h.get? a = some o ∧ o.ExactDict ∧ o.data = .dict es ep ∧ es.toList = xs.map (fun x => (⟨k2Hash x.1, .ref x.2.1, x.2.2⟩ : DictEntry)) ∧ (xs.map (·.1)).Nodup
def DctI (a : Addr) (kvs : List (KX × Addr × V)) (ep : Nat) (h : Heap) : Prop :=
  ∃ vs : List (Int × Value), Paired PkI kvs vs ∧ ∃ o es, h.get? a = some o ∧ o.ExactDict ∧ o.data = .dict es ep ∧ Paired EnI es.toList vs ∧ (vs.map (·.1)).Nodup
def DctAt (a : Addr) (kvs : List (KX × Addr × V)) (ep : Nat) (h : Heap) : Prop :=
  kvs.length ≤ sizeLine ∧ (a == sysModules) = false ∧ (DctT a kvs ep h ∨ DctI a kvs ep h)
def DctO (a : Addr) (kvs : List (KX × Addr × V)) (ep : Nat) : HO := .ext (DctAt a kvs ep)
theorem DctAt.ok {P : Program} {w : World} {H : Hp} {h : Heap} {a : Addr} {kvs : List (KX × Addr × V)} {ep : Nat} (d : DctAt a kvs ep h) : ObjOk P w H h a (DctO a kvs ep) := by
  refine ⟨d, ?_, fun h1 h2 ⟨z, y, e⟩ k => ⟨z, y, e.imp (fun ⟨xs, r, o, es, g1, g2⟩ => ⟨xs, r, o, es, k o g1, g2⟩) fun ⟨xs, r, o, es, g1, g2⟩ => ⟨xs, r, o, es, k o g1, g2⟩⟩⟩
  obtain ⟨_, _, ⟨_, _, o, _, g1, _⟩ | ⟨_, _, o, _, g1, _⟩⟩ := d
  · exact ⟨o, g1⟩
  · exact ⟨o, g1⟩
theorem DctAt.of {P : Program} {w : World} {H : Hp} {h : Heap} {a : Addr} {kvs : List (KX × Addr × V)} {ep : Nat} (x : ObjOk P w H h a (DctO a kvs ep)) : DctAt a kvs ep h := x.1
def dkv (kvs : List (KX × Addr × V)) (ds : List PyData) : List (PyData × PyData) := (kvs.map fun p => kxD p.1).zip ds
theorem pkT_vals {kvs : List (KX × Addr × V)} {xs : List (K2 × Addr × Value)} (r : Paired PkT kvs xs) : Vals (kvs.map fun p => kxV p.1 p.2.1) (xs.map fun x => Value.ref x.2.1) ∧ Vals (kvs.map (·.2.2)) (xs.map (·.2.2)) := by
  induction r with
  | nil => exact ⟨.nil, .nil⟩
  | cons h t ih => exact ⟨.cons (by dsimp only; rw [h.1, h.2.1]; rfl) ih.1, .cons h.2.2 ih.2⟩
theorem pkI_vals : ∀ {kvs : List (KX × Addr × V)} {vs : List (Int × Value)} {es : List DictEntry}, Paired PkI kvs vs → Paired EnI es vs → Vals (kvs.map fun p => kxV p.1 p.2.1) (es.map (·.key)) ∧ Vals (kvs.map (·.2.2)) (es.map (·.val))
  | _, _, _, .nil, .nil => ⟨.nil, .nil⟩
  | _, _, _, .cons h t, .cons g u => by
    obtain ⟨i1, i2⟩ := pkI_vals t u
    obtain ⟨_, ⟨tk, g1⟩, g2⟩ := g
    exact ⟨.cons (by dsimp only; rw [h.1, g1]; exact ⟨tk, rfl⟩) i1, .cons (by dsimp only; rw [g2]; exact h.2) i2⟩
/-- the object, its keys and values -/
theorem DctAt.vals {h : Heap} {a : Addr} {kvs : List (KX × Addr × V)} {ep : Nat} (d : DctAt a kvs ep h) : ∃ o es, h.get? a = some o ∧ o.ExactDict ∧ o.data = .dict es ep ∧ Vals (kvs.map fun p => kxV p.1 p.2.1) (es.toList.map (·.key)) ∧ Vals (kvs.map (·.2.2)) (es.toList.map (·.val)) := by
  obtain ⟨_, _, ⟨xs, r, o, es, g1, g2, g3, g4, _⟩ | ⟨vs, r, o, es, g1, g2, g3, g4, _⟩⟩ := d
  · refine ⟨o, es, g1, g2, g3, ?_⟩
    rw [g4, List.map_map, List.map_map]
    exact pkT_vals r
  · exact ⟨o, es, g1, g2, g3, pkI_vals r g4⟩
theorem DctAt.tup {h : Heap} {a : Addr} {kvs : List (KX × Addr × V)} {ep : Nat} (d : DctAt a kvs ep h) (hk : ∀ p ∈ kvs, kxI p.1 = false) : DctT a kvs ep h := by
  obtain ⟨_, _, d | ⟨vs, r, o, es, g1, g2, g3, g4, g5⟩⟩ := d
  · exact d
  · cases r with
    | nil =>
      have he : es.toList = [] := by cases h : es.toList with
        | nil => rfl
        | cons => rw [h] at g4; cases g4
      exact ⟨[], .nil, o, es, g1, g2, g3, he, List.nodup_nil⟩
    | @cons p q _ _ h t =>
      have := hk p (.head _)
      rw [h.1] at this
      cases this
theorem DctAt.int {h : Heap} {a : Addr} {kvs : List (KX × Addr × V)} {ep : Nat} (d : DctAt a kvs ep h) (hk : ∀ p ∈ kvs, kxI p.1 = true) : DctI a kvs ep h := by
  obtain ⟨_, _, ⟨xs, r, o, es, g1, g2, g3, g4, g5⟩ | d⟩ := d
  · cases r with
    | nil => exact ⟨[], .nil, o, es, g1, g2, g3, by rw [g4]; exact .nil, List.nodup_nil⟩
    | @cons p q _ _ h t =>
      have := hk p (.head _)
      rw [h.1] at this
      cases this
  · exact d
end L2
namespace L2
open PySem PySem.Spec PyProof.Rows
/-! ### exceptions of one's own classes: what K knows of their class -/
def excTs : List String := ["int", "bool", "tuple", "list", "str"]
def xcB (K : PySem.W.Frag) (C : Addr) : Bool :=
  (PySem.W.clsIn K C).isSome && (PySem.W.findIn K (.ref C) "__getattribute__" == some (some (.builtin "BaseException.__getattribute__"))) && (PySem.W.findIn K (.ref C) "__getattr__" == some none)
  && (PySem.W.findIn K (.ref C) "__class__" == some (some (.builtin "object.__class__"))) && (PySem.W.mroIn K C (.type "object") == some true) && (PySem.W.mroIn K C (.type "BaseException") == some true)
  && excTs.all fun T => PySem.W.kitOne K (.ref C) (.type T) == some false
structure XcK (K : PySem.W.Frag) (C : Addr) : Prop where
  cls : (PySem.W.clsIn K C).isSome = true
  ga : PySem.W.findIn K (.ref C) "__getattribute__" = some (some (.builtin "BaseException.__getattribute__"))
  gt : PySem.W.findIn K (.ref C) "__getattr__" = some none
  cl : PySem.W.findIn K (.ref C) "__class__" = some (some (.builtin "object.__class__"))
  mo : PySem.W.mroIn K C (.type "object") = some true
  mb : PySem.W.mroIn K C (.type "BaseException") = some true
  ts : ∀ T ∈ excTs, PySem.W.kitOne K (.ref C) (.type T) = some false
theorem xcK_of {K : PySem.W.Frag} {C : Addr} (h : xcB K C = true) : XcK K C := by
  unfold xcB at h
  simp only [Bool.and_eq_true, beq_iff_eq, List.all_eq_true] at h
  obtain ⟨⟨⟨⟨⟨⟨h1, h2⟩, h3⟩, h4⟩, h5⟩, h6⟩, h7⟩ := h
  exact ⟨h1, h2, h3, h4, h5, h6, h7⟩
section
variable {prog : Program} {w : World} {A : Around} {E : Value → Shared → Prop} {s : Shared} {K : PySem.W.Frag} {x C : Addr}
/-- an object of that class -/
def OfC (h : Heap) (x C : Addr) : Prop := ∃ o, h.get? x = some o ∧ o.cls = .ref C
theorem OfC.ty {h : Heap} {M : Model} (I : OfC h x C) : PySem.W.Looks M h (typeOf (.ref x)) (.ref C) := by
  obtain ⟨o, h1, h2⟩ := I
  exact h2 ▸ (PySem.W.Looks.ld h1).andThen .now
open PySem.W in
theorem exc_ga_check {M : Model} {nameV : Value} {Q : Unit → Shared → Prop} (Z : XcK K C) (X : K.In s.heap) (I : OfC s.heap x C) (hq : Q () s) :
    wpAny M A (checkBuiltinCall "BaseException.__getattribute__" ⟨[.ref x, nameV], []⟩) Q E s := by
  obtain ⟨hh, g, d, t, os⟩ := s
  have hk : builtinKind "BaseException.__getattribute__" = some .slot := by decide +kernel
  have hs : splitId "BaseException.__getattribute__" = some ("BaseException", "__getattribute__") := by decide +kernel
  have L0 := I.ty (M := M)
  have L1 := looks_mroIn (M := M) X Z.mb
  have ha := F.args_bexc_ga (.ref x) nameV
  simp only [checkBuiltinCall, hk, hs]
  refine wpAny_bind ?_
  unfold isInstance
  repeat (first | with_reducible refine Looks.at (by assumption) ?_ | wp_step)
  exact hq
open PySem.W in
theorem exc_class_get {R : Result → Shared → Prop} (Z : XcK K C) (X : K.In s.heap) (I : OfC s.heap x C) (hq : R (.ok (.ret (.ref C))) s) :
    codeAny (model prog w) A (.call (.builtin "getset_descriptor.__get__") ⟨[.builtin "object.__class__", .ref x, .ref C], []⟩) R s := by
  obtain ⟨hh, g, d, t, os⟩ := s
  have hT5 : (⟨hh, g, d, t, os⟩ : Shared).TypeIs (.builtin "object.__class__") "getset_descriptor" := F.typeOf_object_class
  have L0 := I.ty (M := model prog w)
  have L1 : Looks (model prog w) hh (isSubtype (.ref C) (.type (".".intercalate ("object.__class__".cutAt '.').dropLast))) true := by
    rw [F.owner_object_class]
    exact looks_mroIn (M := model prog w) X Z.mo
  refine codeAny_call_builtin F.slot_gs_get.plain F.entry_gs_get (F.slot_gs_get.check _ _ _ _ _ _ _ _ hT5 (F.args_gs_get _ _ _) ?_)
  repeat (any_goals (first | assumption | with_reducible refine Looks.at (by assumption) ?_ | wp_step))
  refine ⟨Code.quiet_builtin _ (by decide +kernel), codeAny_builtin F.entry_object_class ?_⟩
  repeat (any_goals (first | assumption | with_reducible refine Looks.at (by assumption) ?_ | wp_step))
open PySem.W in
theorem exc_class_entry {tk : Tok} {Q : Fin → Shared → Prop} (Z : XcK K C) (X : K.In s.heap) (I : OfC s.heap x C) (hq : Q (.done (.ret (.ref C))) s) :
    wpAny (model prog w) A (Builtin.«object.__getattribute__» ⟨[.ref x, .str "__class__" tk], []⟩) Q E s := by
  obtain ⟨hh, g, d, t, os⟩ := s
  have hT5 : (⟨hh, g, d, t, os⟩ : Shared).TypeIs (.builtin "object.__class__") "getset_descriptor" := F.typeOf_object_class
  have L0 := I.ty (M := model prog w)
  have L1 := looks_findIn (M := model prog w) X Z.cl
  have f5 := F.typeOf_object_class; have f6 := F.slot_gs_get.lookup; have f7 := F.slot_gs_set.lookup
  repeat (any_goals (first | assumption | with_reducible refine Looks.at (by assumption) ?_ | wp_step))
  refine exc_class_get Z X I ?_
  repeat (any_goals (first | assumption | wp_step))
open PySem.W in
theorem exc_class_by {tk : Tok} {Q : Value → Shared → Prop} (Z : XcK K C) (X : K.In s.heap) (I : OfC s.heap x C) (hq : Q (.ref C) s) :
    wpAny (model prog w) A (getAttrBy (.ref x) (.str "__class__" tk) false) Q E s := by
  obtain ⟨hh, g, d, t, os⟩ := s
  have L0 := I.ty (M := model prog w)
  have L1 := looks_findIn (M := model prog w) X Z.ga
  have L2 := looks_findIn (M := model prog w) X Z.gt
  have f3 := F.excAttr_ValueError.ga.bind (.ref x)
  have hx2 : (Value.builtin "BaseException.__getattribute__" == Value.builtin "object.__getattribute__") = false := by decide +kernel
  have hx1 : (onTheHeap (Value.ref C) && Value.builtin "BaseException.__getattribute__" == Value.builtin "object.__getattribute__") = false := by rw [hx2]; exact Bool.and_false _
  repeat (any_goals (first | assumption | with_reducible refine Looks.at (by assumption) ?_ | wp_step))
  refine codeAny_call_builtin F.excAttr_ValueError.ga.plain F.entry_bexc_ga (exc_ga_check Z X I (exc_class_entry Z X I ?_))
  repeat (any_goals (first | assumption | wp_step))
open PySem.W in
theorem exc_class {Q : Option Value → Shared → Prop} (Z : XcK K C) (X : K.In s.heap) (I : OfC s.heap x C) (hq : Q (some (.ref C)) { s with toks := s.toks + 1 }) :
    wpAny (model prog w) A (getAttr? (.ref x) "__class__") Q E s := by
  obtain ⟨hh, g, d, t, os⟩ := s
  unfold getAttr? getAttrBy?
  refine wpAny_bind (wpAny_mkText (wpAny_bind (wpAny_attempt (exc_class_by (s := ⟨hh, g, d, t + 1, os⟩) Z X I ?_))))
  exact wpAny_pure hq
end
open PySem.W in
theorem kitx_exc {K : Frag} {a C : Addr} (Z : XcK K C) : KitX K (.ref a) (.ref C) (fun h => OfC h a C) where
  ty := fun _ _ _ I => I.ty
  it := fun _ _ X _ => by
    have z := Z.cls
    unfold clsIn at z
    split at z
    · rename_i c' d' cd' sl' ho
      intro A' Q' E' s' k q; unfold isType loadHead
      exact wpAny_bind (wpAny_loadPart (k _ _ (X _ _ ho)) (wpAny_pure q))
    · cases z
  ne := fun h tp dd its n sl X htp => by
    have z := Z.cls
    refine Bool.eq_false_iff.mpr fun q => ?_
    have e : C = tp := Value.ref.inj (beq_iff_eq.mp q)
    subst e; unfold clsIn at z
    split at z
    · rename_i c' d' cd' sl' ho
      have y := (X _ _ ho).symm.trans htp
      cases y
    · cases z
  ca := fun X I k => exc_class Z X I k
/-- a plain class of one's own: what K knows of it -/
def icB (K : PySem.W.Frag) (C : Addr) : Bool :=
  PySem.W.plainGet K C Str.empty && PySem.W.hasDictIn K C && PySem.W.plainOver K C && (PySem.W.findIn K (.ref C) "__setattr__" == some (some (.builtin "object.__setattr__")))
  && (PySem.W.findIn K (.ref C) "__class__" == some (some (.builtin "object.__class__"))) && (PySem.W.specialIn K (.builtin "object.__class__") "__get__" == some (some (.builtin "getset_descriptor.__get__")))
  && (PySem.W.takesIn K (.builtin "object.__class__") == some true) && (PySem.W.mroIn K C (.type "object") == some true) && excTs.all fun T => PySem.W.kitOne K (.ref C) (.type T) == some false
structure IcK (K : PySem.W.Frag) (C : Addr) : Prop where
  cl : Cls K C
  ha : PySem.W.findIn K (.ref C) "__class__" = some (some (.builtin "object.__class__"))
  hn : PySem.W.specialIn K (.builtin "object.__class__") "__get__" = some (some (.builtin "getset_descriptor.__get__"))
  tk : PySem.W.takesIn K (.builtin "object.__class__") = some true
  mo : PySem.W.mroIn K C (.type "object") = some true
  ts : ∀ T ∈ excTs, PySem.W.kitOne K (.ref C) (.type T) = some false
theorem icK_of {K : PySem.W.Frag} {C : Addr} (h : icB K C = true) : IcK K C := by
  unfold icB at h
  simp only [Bool.and_eq_true, beq_iff_eq, List.all_eq_true] at h
  obtain ⟨⟨⟨⟨⟨⟨⟨⟨h1, h2⟩, h3⟩, h4⟩, h5⟩, h6⟩, h7⟩, h8⟩, h9⟩ := h
  exact ⟨⟨h1, h2, h3, h4⟩, h5, h6, h7, h8, h9⟩
theorem IcK.ty {K : PySem.W.Frag} {H : Hp} {a C dx : Addr} {fs : List (Str × V)} (Z : IcK K C) (e : H a = some (.ins C dx fs)) : TyOf K H (.ref a) (.ref C) := .ins e Z.cl Z.ha Z.hn Z.tk Z.mo
end L2
/-! ### what a value is worth, as data; S: the objects that are kept apart, since they may be changed -/
namespace L2
open PySem PySem.Spec PyProof.Rows
abbrev Av := Addr → Prop
def isMut : HO → Bool
  | .lst _ => true
  | .dK _ => true
  | .dT _ => true
  | .ext _ => true
  | _ => false
/-- what is kept apart stands there, a thing that may be changed -/
def Dm (S : Av) (H : Hp) : Prop := ∀ a, S a → ∃ o, H a = some o ∧ isMut o = true
/-- all but S is as it was -/
def Off (S : Av) (H H' : Hp) : Prop := ∀ b o, ¬ S b → H b = some o → H' b = some o
def KqL (K : PySem.W.Frag) (a : Addr) (xs : List V) : Prop := ∃ (o : Obj) (its : Array Value) (n : Nat), K.lookup a = some o ∧ o.cls = .type "list" ∧ o.dict = none ∧ o.data = .seq its n ∧ its.size ≤ sizeLine ∧ Vals xs its.toList
def SqLS (K : PySem.W.Frag) (H : Hp) (S : Av) (a : Addr) (xs : List V) : Prop := (Rd H a (.lst xs) ∧ ¬ S a) ∨ KqL K a xs
/-- an exception's object, of the class that has the name c -/
def ExcO (K : PySem.W.Frag) (o : Obj) (c : Str) : Prop := ∃ C vs, o.cls = .ref C ∧ o.data = .fields vs ∧ PySem.W.nsIn K mainGlobals c = some (some (.ref C)) ∧ xcB K C = true
/-- an exception as data: its class, what it tells (its keys are of two kinds: no dict is so) -/
def excD (c : Str) (d : PyData) : PyData := .dict [(.str c, d), (.int 0, .none)]
/-- an instance of a plain class as data -/
def objD (c : Str) : PyData := .dict [(.str c, .none), (.int 1, .none)]
mutual
inductive Den (K : PySem.W.Frag) (H : Hp) (S : Av) : V → PyData → Prop
  | none : Den K H S .non .none
  | bool (b : Bool) : Den K H S (.bl b) (.bool b)
  | int (i : Int) : Den K H S (.int i) (.int i)
  | str (x : Str) : Den K H S (.str x) (.str x)
  | list {a : Addr} {xs : List V} {ds : List PyData} : SqLS K H S a xs → DenL K H S xs ds → Den K H S (.ref a) (.list ds)
  | tuple {a : Addr} {xs : List V} {ds : List PyData} : SqT K H a xs → DenL K H S xs ds → Den K H S (.ref a) (.tuple ds)
  | dict {a : Addr} {kvs : List (KX × Addr × V)} {ep : Nat} {ds : List PyData} : (H a = some (DctO a kvs ep) ∧ ¬ S a) → DenL K H S (kvs.map fun p => kxV p.1 p.2.1) (kvs.map fun p => kxD p.1) → DenL K H S (kvs.map (·.2.2)) ds → Den K H S (.ref a) (.dict (dkv kvs ds))
  | exc0 {a : Addr} {o : Obj} {c : Str} : H a = some (.frz o (.own a)) → ExcO K o c → Den K H S (.ref a) (excD c .none)
  | exc1 {a dx : Addr} {o : Obj} {c n : Str} {v : V} {d : PyData} : H a = some (.frz o (.own a)) → ExcO K o c → o.dict = some dx → H dx = some (.xd [(n, v)]) → Den K H S v d → Den K H S (.ref a) (excD c (.tuple [.str n, d]))
  | ins {a dx C : Addr} {c : Str} : H a = some (.ins C dx []) → (PySem.W.nsIn K mainGlobals c = some (some (.ref C)) ∧ icB K C = true) → Den K H S (.ref a) (objD c)
inductive DenL (K : PySem.W.Frag) (H : Hp) (S : Av) : List V → List PyData → Prop
  | nil : DenL K H S [] []
  | cons {x : V} {d : PyData} {xs : List V} {ds : List PyData} : Den K H S x d → DenL K H S xs ds → DenL K H S (x :: xs) (d :: ds)
end
mutual
def flat : PyData → Bool
  | .none => true
  | .bool _ => true
  | .int _ => true
  | .str _ => true
  | .list _ => false
  | .tuple ds => flatL ds
  | .dict _ => false
def flatL : List PyData → Bool
  | [] => true
  | d :: ds => flat d && flatL ds
end
section
variable {K : PySem.W.Frag} {H H' : Hp} {S S' : Av}
theorem SqLS.sq {a : Addr} {xs : List V} (h : SqLS K H S a xs) : SqL K H a xs := h.imp (·.1) id
theorem SqLS.new {a : Addr} {xs : List V} (h : H a = some (.lst xs)) (n : ¬ S a) : SqLS K H S a xs := .inl ⟨.inl h, n⟩
theorem Dm.free {p : Addr} (m : Dm S H) (h : H p = none) : ¬ S p := fun q => by
  obtain ⟨o, e, _⟩ := m p q
  rw [h] at e; cases e
theorem Dm.same (e : Same H H') (m : Dm S H) : Dm S H' := fun a q => by
  obtain ⟨o, h, w⟩ := m a q
  exact ⟨o, e a o h, w⟩
theorem Dm.sub (m : Dm S H) (h : ∀ a, S' a → S a) : Dm S' H := fun a q => m a (h a q)
theorem Dm.tup {a : Addr} {xs : List V} (m : Dm S H) (h : Rd H a (.tup xs)) : ¬ S a := fun q => by
  obtain ⟨o, e, w⟩ := m a q
  rcases h with h | ⟨u, h⟩
  · rw [h] at e; cases e; cases w
  · rw [h] at e; cases e; cases w
theorem Dm.not {a : Addr} {u : HO} (m : Dm S H) (h : H a = some u) (n : isMut u = false) : ¬ S a := fun q => by
  obtain ⟨o, e, w⟩ := m a q
  rw [h] at e; cases e; rw [n] at w; cases w
theorem Rd.off {a : Addr} {o : HO} (e : Off S H H') (n : ¬ S a) (h : Rd H a o) : Rd H' a o := by
  rcases h with h | ⟨u, h⟩
  · exact .inl (e _ _ n h)
  · exact .inr ⟨u, e _ _ n h⟩
theorem Rd.dom {a : Addr} {o : HO} (h : Rd H a o) : H a ≠ none := by
  rcases h with h | ⟨u, h⟩ <;> (rw [h]; exact fun z => nomatch z)
theorem Same.off (e : Same H H') : Off S H H' := fun b o _ h => e b o h
theorem SqT.upd {a p : Addr} {o : HO} {xs : List V} (h : SqT K H a xs) (hn : H p = none) : SqT K (upd H p o) a xs := by
  rcases h with (h | ⟨o', h⟩) | h
  · exact .inl (.inl (by rw [upd_ne (ne_of_none h hn)]; exact h))
  · exact .inl (.inr ⟨o', by rw [upd_ne (ne_of_none h hn)]; exact h⟩)
  · exact .inr h
theorem Same.sqT {a : Addr} {xs : List V} (e : Same H H') (h : SqT K H a xs) : SqT K H' a xs := by
  rcases h with (h | ⟨o, h⟩) | h
  · exact .inl (.inl (e _ _ h))
  · exact .inl (.inr ⟨o, e _ _ h⟩)
  · exact .inr h
theorem Same.lay {p : Addr} {o : HO} (hn : H p = none) : Same H (L2.upd H p o) := fun b u q => by rw [upd_ne (ne_of_none q hn)]; exact q
theorem Same.lay' {H0 : Hp} {p : Addr} {o : HO} (e : Same H0 H) (hn : H p = none) : Same H0 (L2.upd H p o) := e.trans (Same.lay hn)
theorem Den.off (m : Dm S H) (e : Off S H H') {v : V} {d : PyData} (h : Den K H S v d) : Den K H' S v d :=
  Den.rec (motive_1 := fun v d _ => Den K H' S v d) (motive_2 := fun vs ds _ => DenL K H' S vs ds) .none .bool .int .str (fun h _ t => .list (h.imp (fun q => ⟨q.1.off e q.2, q.2⟩) id) t) (fun h _ t => .tuple (h.imp (fun q => q.off e (m.tup q)) id) t)
    (fun h _ _ k t => .dict ⟨e _ _ h.2 h.1, h.2⟩ k t) (fun h o => .exc0 (e _ _ (m.not h rfl) h) o) (fun h o x y _ t => .exc1 (e _ _ (m.not h rfl) h) o x (e _ _ (m.not y rfl) y) t) (fun h o => .ins (e _ _ (m.not h rfl) h) o) .nil (fun _ _ h t => .cons h t) h
/-- by way of the items -/
theorem DenL.byE {K : PySem.W.Frag} {H : Hp} {S : Av} {P : List V → List PyData → Prop} (n : P [] []) (c : ∀ {x : V} {d : PyData} {xs : List V} {ds : List PyData}, Den K H S x d → DenL K H S xs ds → P xs ds → P (x :: xs) (d :: ds)) {vs : List V} {ds : List PyData} (h : DenL K H S vs ds) : P vs ds :=
  DenL.rec (motive_1 := fun _ _ _ => True) (motive_2 := fun vs ds _ => P vs ds) trivial (fun _ => trivial) (fun _ => trivial) (fun _ => trivial) (fun _ _ _ => trivial) (fun _ _ _ => trivial) (fun _ _ _ _ _ => trivial) (fun _ _ => trivial) (fun _ _ _ _ _ _ => trivial) (fun _ _ => trivial) n (fun h t _ p => c h t p) h
theorem DenL.off (m : Dm S H) (e : Off S H H') {vs : List V} {ds : List PyData} (h : DenL K H S vs ds) : DenL K H' S vs ds := h.byE (P := fun vs ds => DenL K H' S vs ds) .nil fun h _ t => .cons (h.off m e) t
theorem Den.same (e : Same H H') {v : V} {d : PyData} (h : Den K H S v d) : Den K H' S v d :=
  Den.rec (motive_1 := fun v d _ => Den K H' S v d) (motive_2 := fun vs ds _ => DenL K H' S vs ds) .none .bool .int .str (fun h _ t => .list (h.imp (fun q => ⟨q.1.off (S := S) e.off q.2, q.2⟩) id) t) (fun h _ t => .tuple (e.sqT h) t)
    (fun h _ _ k t => .dict ⟨e _ _ h.1, h.2⟩ k t) (fun h o => .exc0 (e _ _ h) o) (fun h o x y _ t => .exc1 (e _ _ h) o x (e _ _ y) t) (fun h o => .ins (e _ _ h) o) .nil (fun _ _ h t => .cons h t) h
theorem DenL.same (e : Same H H') {vs : List V} {ds : List PyData} (h : DenL K H S vs ds) : DenL K H' S vs ds := h.byE (P := fun vs ds => DenL K H' S vs ds) .nil fun h _ t => .cons (h.same e) t
theorem Den.sub (e : ∀ a, H a ≠ Option.none → S' a → S a) {v : V} {d : PyData} (h : Den K H S v d) : Den K H S' v d :=
  Den.rec (motive_1 := fun v d _ => Den K H S' v d) (motive_2 := fun vs ds _ => DenL K H S' vs ds) .none .bool .int .str (fun h _ t => .list (h.imp (fun q => ⟨q.1, fun z => q.2 (e _ q.1.dom z)⟩) id) t) (fun h _ t => .tuple h t)
    (fun h _ _ k t => .dict ⟨h.1, fun z => h.2 (e _ (by rw [h.1]; exact fun y => nomatch y) z)⟩ k t) (fun h o => .exc0 h o) (fun h o x y _ t => .exc1 h o x y t) (fun h o => .ins h o) .nil (fun _ _ h t => .cons h t) h
theorem DenL.sub (e : ∀ a, H a ≠ none → S' a → S a) {vs : List V} {ds : List PyData} (h : DenL K H S vs ds) : DenL K H S' vs ds := h.byE (P := fun vs ds => DenL K H S' vs ds) .nil fun h _ t => .cons (h.sub e) t
theorem Den.flat {v : V} {d : PyData} (f : L2.flat d = true) (h : Den K H S v d) : Den K H S' v d :=
  Den.rec (motive_1 := fun v d _ => L2.flat d = true → Den K H S' v d) (motive_2 := fun vs ds _ => flatL ds = true → DenL K H S' vs ds) (fun _ => .none) (fun b _ => .bool b) (fun i _ => .int i) (fun x _ => .str x) (fun _ _ _ f => nomatch f) (fun h _ t f => .tuple h (t (by rw [L2.flat] at f; exact f)))
    (fun _ _ _ _ _ f => nomatch f) (fun _ _ f => nomatch f) (fun _ _ _ _ _ _ f => nomatch f) (fun _ _ f => nomatch f) (fun _ => .nil) (fun _ _ h t f => by rw [flatL, Bool.and_eq_true] at f; exact .cons (h f.1) (t f.2)) h f
theorem DenL.flat {vs : List V} {ds : List PyData} (f : flatL ds = true) (h : DenL K H S vs ds) : DenL K H S' vs ds :=
  h.byE (P := fun vs ds => flatL ds = true → DenL K H S' vs ds) (fun _ => .nil) (fun h _ t f => by rw [flatL, Bool.and_eq_true] at f; exact .cons (h.flat f.1) (t f.2)) f
theorem DenL.length {vs : List V} {ds : List PyData} (h : DenL K H S vs ds) : vs.length = ds.length := h.byE (P := fun vs ds => vs.length = ds.length) rfl fun _ _ t => by rw [List.length_cons, List.length_cons, t]
theorem DenL.append {vs ws : List V} {ds es : List PyData} (h : DenL K H S vs ds) (q : DenL K H S ws es) : DenL K H S (vs ++ ws) (ds ++ es) := h.byE (P := fun vs ds => DenL K H S (vs ++ ws) (ds ++ es)) q fun h _ t => .cons h t
theorem DenL.snoc {vs : List V} {ds : List PyData} {v : V} {d : PyData} (h : DenL K H S vs ds) (q : Den K H S v d) : DenL K H S (vs ++ [v]) (ds ++ [d]) := h.append (.cons q .nil)
theorem DenL.get : ∀ {vs : List V} {ds : List PyData} {i : Nat} {d : PyData}, DenL K H S vs ds → ds[i]? = some d → ∃ v, vs[i]? = some v ∧ Den K H S v d
  | _, _, _, _, .nil, e => by simp at e
  | _, _, 0, _, .cons h _, e => by simp at e; subst e; exact ⟨_, rfl, h⟩
  | _, _, i + 1, d, .cons _ t, e => by
    obtain ⟨v, h1, h2⟩ := DenL.get (i := i) (d := d) t (by simpa using e)
    exact ⟨v, by simpa using h1, h2⟩
theorem DenL.drop : ∀ {vs : List V} {ds : List PyData} (n : Nat), DenL K H S vs ds → DenL K H S (vs.drop n) (ds.drop n)
  | _, _, 0, h => h
  | _, _, _ + 1, .nil => .nil
  | _, _, n + 1, .cons _ t => t.drop n
theorem DenL.take : ∀ {vs : List V} {ds : List PyData} (n : Nat), DenL K H S vs ds → DenL K H S (vs.take n) (ds.take n)
  | _, _, 0, _ => .nil
  | _, _, _ + 1, .nil => .nil
  | _, _, n + 1, .cons h t => .cons h (t.take n)
theorem DenL.ints : ∀ ns : List Int, DenL K H S (ns.map V.int) (ns.map PyData.int)
  | [] => .nil
  | n :: ns => .cons (.int n) (DenL.ints ns)
theorem Den.int_inv {v : V} {i : Int} (h : Den K H S v (.int i)) : v = .int i := by cases h; rfl
theorem Den.bool_inv {v : V} {b : Bool} (h : Den K H S v (.bool b)) : v = .bl b := by cases h; rfl
theorem Den.list_inv {v : V} {ds : List PyData} (h : Den K H S v (.list ds)) : ∃ a xs, v = .ref a ∧ SqLS K H S a xs ∧ DenL K H S xs ds := by
  cases h with
  | list h t => exact ⟨_, _, rfl, h, t⟩
theorem Den.tuple_inv {v : V} {ds : List PyData} (h : Den K H S v (.tuple ds)) : ∃ a xs, v = .ref a ∧ SqT K H a xs ∧ DenL K H S xs ds := by
  cases h with
  | tuple h t => exact ⟨_, _, rfl, h, t⟩
theorem DenL.inv1 {vs : List V} {d : PyData} (h : DenL K H S vs [d]) : ∃ v, vs = [v] ∧ Den K H S v d := by
  cases h with
  | cons a t => cases t; exact ⟨_, rfl, a⟩
end
section
variable {X : Cx} {pins : List (Addr × Obj)} {σ : St} {H : Hp} {s : Shared} {S : Av}
theorem DenL.readsE (I : Inv X pins σ H s) {vs : List V} {ds : List PyData} (h : DenL X.K H S vs ds) (f : ∀ {x : V} {d : PyData} {u : Value}, Den X.K H S x d → d.canLay0 = true → RelV x u → ∃ as, Reads s.heap u d as) {us : List Value} (c : PyData.canLayAll0 ds = true) (r : Vals vs us) : ∃ as, ReadsAll s.heap us ds as :=
  h.byE (P := fun vs ds => ∀ us, PyData.canLayAll0 ds = true → Vals vs us → ∃ as, ReadsAll s.heap us ds as) (fun _ _ r => by cases r; exact ⟨_, .nil⟩) (fun h _ t _ c r => by
    cases r with
    | cons r rr =>
      rw [PyData.canLayAll0, Bool.and_eq_true] at c
      obtain ⟨as, q⟩ := f h c.1 r
      obtain ⟨bs, q'⟩ := t _ c.2 rr
      exact ⟨_, .cons q q'⟩) us c r
theorem Den.reads (I : Inv X pins σ H s) {v : V} {d : PyData} {u : Value} (h : Den X.K H S v d) (c : d.canLay0 = true) (r : RelV v u) : ∃ as, Reads s.heap u d as :=
  Den.rec (motive_1 := fun v d _ => ∀ u, d.canLay0 = true → RelV v u → ∃ as, Reads s.heap u d as) (motive_2 := fun vs ds _ => ∀ us, PyData.canLayAll0 ds = true → Vals vs us → ∃ as, ReadsAll s.heap us ds as)
    (fun u _ r => by cases (show u = Value.none from r); exact ⟨_, .none⟩) (fun b u _ r => by cases (show u = Value.bool b from r); exact ⟨_, .bool b⟩) (fun i u _ r => by obtain ⟨t, e⟩ := (show ∃ t, u = Value.int i t from r); cases e; exact ⟨_, .int i t⟩) (fun x u _ r => by obtain ⟨t, e⟩ := (show ∃ t, u = Value.str x t from r); cases e; exact ⟨_, .str x t⟩)
    (@fun a xs ds h _ t u c0 r => by
      cases (show u = Value.ref a from r)
      obtain ⟨its, rv, ⟨o, n, e, c, _, d⟩, _⟩ := I.list h.sq
      obtain ⟨as, q⟩ := t its (by rw [PyData.canLay0] at c0; exact c0) rv
      exact ⟨_, .list e c d (by rw [List.toList_toArray]; exact q)⟩)
    (@fun a xs ds h _ t u c0 r => by
      cases (show u = Value.ref a from r)
      obtain ⟨its, rv, ⟨o, e, c, n, d⟩, _⟩ := I.tuple h
      obtain ⟨as, q⟩ := t its (by rw [PyData.canLay0] at c0; exact c0) rv
      exact ⟨_, .tuple e c d (by rw [List.toList_toArray]; exact q)⟩)
    (fun _ _ _ _ _ _ c0 _ => by rw [PyData.canLay0] at c0; cases c0) (fun _ _ _ c0 _ => by unfold excD at c0; rw [PyData.canLay0] at c0; cases c0) (fun _ _ _ _ _ _ _ c0 _ => by unfold excD at c0; rw [PyData.canLay0] at c0; cases c0) (fun _ _ _ c0 _ => by unfold objD at c0; rw [PyData.canLay0] at c0; cases c0)
    (fun _ _ r => by cases r; exact ⟨_, .nil⟩) (fun _ _ h t _ c r => by
      cases r with
      | cons r rr =>
        rw [PyData.canLayAll0, Bool.and_eq_true] at c
        obtain ⟨as, q⟩ := h _ c.1 r
        obtain ⟨bs, q'⟩ := t _ c.2 rr
        exact ⟨_, .cons q q'⟩) h u c r
theorem DenL.reads (I : Inv X pins σ H s) {vs : List V} {ds : List PyData} {us : List Value} (h : DenL X.K H S vs ds) (c : PyData.canLayAll0 ds = true) (r : Vals vs us) : ∃ as, ReadsAll s.heap us ds as := h.readsE I (fun h c r => h.reads I c r) c r
end
section
variable {X : Cx} {pins : List (Addr × Obj)} {σ : St} {H : Hp} {s : Shared}
/-- == and != of data -/
def rEqD (K : PySem.W.Frag) : R2 := fun x y H Q => ∃ S d e, Den K H S x d ∧ Den K H S y e ∧ SeqAt.shaped d = true ∧ SeqAt.shaped e = true ∧ Q (.bl (PyData.eqv d e)) H
def rNeD (K : PySem.W.Frag) : R2 := fun x y H Q => ∃ S d e, Den K H S x d ∧ Den K H S y e ∧ SeqAt.shaped d = true ∧ SeqAt.shaped e = true ∧ Q (.bl (!PyData.eqv d e)) H
theorem op_eqD {k : Nat} (hr : Room k X.A) : OpR X (compareOp .Eq) (rEqD X.K) := by
  intro pins s σ H x y v u Q I rx ry h
  obtain ⟨S, d, e, h1, h2, s1, s2, q⟩ := h
  obtain ⟨as, q1⟩ := h1.reads I (SeqAt.canLay_of_shaped s1) rx
  obtain ⟨bs, q2⟩ := h2.reads I (SeqAt.canLay_of_shaped s2) ry
  exact eq_dataH q1 q2 s1 s2 hr.units (fin_bl I q rfl)
theorem op_neD {k : Nat} (hr : Room k X.A) : OpR X (compareOp .NotEq) (rNeD X.K) := by
  intro pins s σ H x y v u Q I rx ry h
  obtain ⟨S, d, e, h1, h2, s1, s2, q⟩ := h
  obtain ⟨as, q1⟩ := h1.reads I (SeqAt.canLay_of_shaped s1) rx
  obtain ⟨bs, q2⟩ := h2.reads I (SeqAt.canLay_of_shaped s2) ry
  exact ne_dataH q1 q2 s1 s2 hr.units (fin_bl I q rfl)
/-- a product, whatever its factors' sizes (within the machine's) -/
theorem op_mulW : OpR X (binaryOp .Mult) (rI IntMulOk fun i j => .int (i * j)) := opI fun _ _ _ _ _ _ _ hc q => mul_int q hc
/-- isinstance by a built-in type -/
inductive TyD (K : PySem.W.Frag) (H : Hp) : V → String → Prop
  | non : TyD K H .non "NoneType"
  | bl (b : Bool) : TyD K H (.bl b) "bool"
  | int (i : Int) : TyD K H (.int i) "int"
  | str (x : Str) : TyD K H (.str x) "str"
  | lst {a : Addr} {xs : List V} (h : SqL K H a xs) : TyD K H (.ref a) "list"
  | tup {a : Addr} {xs : List V} (h : SqT K H a xs) : TyD K H (.ref a) "tuple"
  | dct {a : Addr} {kvs : List (KX × Addr × V)} {ep : Nat} (h : H a = some (DctO a kvs ep)) : TyD K H (.ref a) "dict"
def rIsi (K : PySem.W.Frag) : List V → Hp → VK → Prop := fun vs H Q => ∃ x T t b, vs = [x, .ty T] ∧ TyD K H x t ∧ PySem.W.kitOne K (.type t) (.type T) = some b ∧ Q (.bl b) H
theorem call_isi : CallR X (.builtin "isinstance") (rIsi X.K) := by
  intro pins s σ H xs us Q I r h
  obtain ⟨x, T, t, b, rfl, ty, e, q⟩ := h
  obtain ⟨u, c, rfl, ru, rc⟩ := r.two
  cases (show c = Value.type T from rc)
  have fin : ∀ tk, EP X pins σ Q (.bool b) { s with toks := tk } := fun tk => ⟨.bl b, H, I.tok tk, rfl, q⟩
  cases ty with
  | non => cases (show u = Value.none from ru); exact PySem.W.kia_one PySem.W.kitx_none I.kIn True.intro e (fun z => nomatch z) fin
  | bl y => cases (show u = Value.bool y from ru); exact PySem.W.kia_one PySem.W.kitx_bool I.kIn True.intro e (fun z => nomatch z) fin
  | int i => obtain ⟨t, q⟩ := (show ∃ t, u = Value.int i t from ru); cases q; exact PySem.W.kia_one PySem.W.kitx_int I.kIn True.intro e (fun z => nomatch z) fin
  | str y => obtain ⟨t, q⟩ := (show ∃ t, u = Value.str y t from ru); cases q; exact PySem.W.kia_one PySem.W.kitx_str I.kIn True.intro e (fun z => nomatch z) fin
  | @lst a xs ea =>
    cases (show u = Value.ref a from ru)
    obtain ⟨_, _, ⟨o, n, h1, h2, _⟩, _⟩ := I.list ea
    exact PySem.W.kia_one PySem.W.kitx_list I.kIn ⟨o, h1, h2⟩ e (fun z => nomatch z) fin
  | @tup a xs ea =>
    cases (show u = Value.ref a from ru)
    obtain ⟨_, _, ⟨o, h1, h2, _⟩, _⟩ := I.tuple ea
    exact PySem.W.kia_one PySem.W.kitx_tuple I.kIn ⟨o, h1, h2⟩ e (fun z => nomatch z) fin
  | @dct a kvs ep ea =>
    cases (show u = Value.ref a from ru)
    obtain ⟨o, _, h1, h2, _⟩ := (DctAt.of (I.hok a _ ea)).vals
    exact PySem.W.kia_one PySem.W.kitx_dict I.kIn ⟨o, h1, h2.1⟩ e (fun z => nomatch z) fin
/-- an exception's object -/
def ExcH (K : PySem.W.Frag) (H : Hp) (a : Addr) (c : Str) : Prop := ∃ o, H a = some (.frz o (.own a)) ∧ ExcO K o c
theorem Inv.excAt {a : Addr} {c : Str} (I : Inv X pins σ H s) (h : ExcH X.K H a c) : ∃ C, PySem.W.nsIn X.K mainGlobals c = some (some (.ref C)) ∧ xcB X.K C = true ∧ OfC s.heap a C := by
  obtain ⟨o, ha, C, vs, h1, h2, h3, h4⟩ := h
  exact ⟨C, h3, h4, o, (I.hok a _ ha).1, h1⟩
/-- .. of an exception -/
def rIsiX (K : PySem.W.Frag) : List V → Hp → VK → Prop := fun vs H Q => ∃ a c T b, vs = [.ref a, .ty T] ∧ ExcH K H a c ∧ (∀ C, xcB K C = true → PySem.W.kitOne K (.ref C) (.type T) = some b) ∧ Q (.bl b) H
theorem call_isiX : CallR X (.builtin "isinstance") (rIsiX X.K) := by
  intro pins s σ H xs us Q I r h
  obtain ⟨a, c, T, b, rfl, hx, e, q⟩ := h
  obtain ⟨u, c', rfl, ru, rc⟩ := r.two
  cases (show c' = Value.type T from rc)
  cases (show u = Value.ref a from ru)
  obtain ⟨C, _, h4, IA⟩ := I.excAt hx
  exact PySem.W.kia_one (kitx_exc (xcK_of h4)) I.kIn IA (e C h4) (fun z => nomatch z) fun tk => ⟨.bl b, H, I.tok tk, rfl, q⟩
/-- isinstance of an instance -/
def rIsiI (K : PySem.W.Frag) : List V → Hp → VK → Prop := fun vs H Q => ∃ a C dx T b, vs = [.ref a, .ty T] ∧ H a = some (.ins C dx []) ∧ icB K C = true ∧ PySem.W.kitOne K (.ref C) (.type T) = some b ∧ Q (.bl b) H
theorem call_isiI : CallR X (.builtin "isinstance") (rIsiI X.K) := by
  intro pins s σ H xs us Q I r h
  obtain ⟨a, C, dx, T, b, rfl, hx, hc, e, q⟩ := h
  obtain ⟨u, c', rfl, ru, rc⟩ := r.two
  cases (show c' = Value.type T from rc)
  exact isinst_ok I ru ((icK_of hc).ty hx) e fun tk => ⟨.bl b, H, I.tok tk, rfl, q⟩
end
end L2
/-! ### pure code: what it is worth, as a function of data -/
namespace L2
open PySem PySem.Spec PyProof.Rows
abbrev Rho := List (Option PyData)
def DenS (K : PySem.W.Frag) (H : Hp) (S : Av) (M : List Nat) (σ : St) (ρ : Rho) : Prop := Dm S H ∧ σ.length = ρ.length ∧ ∀ (i : Nat) (d : PyData), i ∉ M → ρ[i]? = some (some d) → ∃ v, σ[i]? = some (some v) ∧ Den K H S v d
section
variable {K : PySem.W.Frag} {H H' : Hp} {S : Av} {M : List Nat} {σ : St} {ρ : Rho} {v : V} {d : PyData}
theorem DenS.same (e : Same H H') (h : DenS K H S M σ ρ) : DenS K H' S M σ ρ := ⟨h.1.same e, h.2.1, fun i d n q => let ⟨v, a, b⟩ := h.2.2 i d n q; ⟨v, a, b.same e⟩⟩
theorem DenS.set (h : DenS K H S M σ ρ) (q : Den K H S v d) (i : Nat) : DenS K H S M (σ.set i (some v)) (ρ.set i (some d)) := by
  refine ⟨h.1, by rw [List.length_set, List.length_set]; exact h.2.1, fun j e n he => ?_⟩
  by_cases hj : i = j
  · subst hj
    by_cases hi : i < ρ.length
    · rw [List.getElem?_set_self hi] at he
      cases he
      exact ⟨v, List.getElem?_set_self (by rw [h.2.1]; exact hi), q⟩
    · rw [List.set_eq_of_length_le (by omega)] at he
      exact absurd (List.getElem?_eq_some_iff.mp he).1 hi
  · rw [List.getElem?_set_ne hj] at he
    obtain ⟨w, a, b⟩ := h.2.2 j e n he
    exact ⟨w, by rw [List.getElem?_set_ne hj]; exact a, b⟩
theorem DenS.start {vs : List V} {ds : List PyData} (m : Dm S H) (h : DenL K H S vs ds) (N : List Str) : DenS K H S [] (start N vs) (ds.map some ++ List.replicate (N.length - ds.length) none) := by
  have hl := h.length
  refine ⟨m, ?_, fun j e _ he => ?_⟩
  · unfold L2.start
    rw [List.length_append, List.length_append, List.length_map, List.length_map, List.length_replicate, List.length_replicate, hl]
  · by_cases hj : j < ds.length
    · rw [List.getElem?_append_left (by simpa using hj), List.getElem?_map] at he
      cases e1 : ds[j]? with
      | none => rw [e1] at he; cases he
      | some d =>
        rw [e1] at he
        cases he
        obtain ⟨v, a, b⟩ := h.get e1
        refine ⟨v, ?_, b⟩
        unfold L2.start
        rw [List.getElem?_append_left (by rw [List.length_map]; omega), List.getElem?_map, a]
        rfl
    · rw [List.getElem?_append_right (by simpa using hj), List.getElem?_replicate] at he
      split at he <;> cases he
end
def tD (K : PySem.W.Frag) (M : List Nat) (f : Rho → Option PyData) : TE := fun σ H Q => ∃ S ρ d, DenS K H S M σ ρ ∧ f ρ = some d ∧ ∀ v H', Same H H' → Den K H' S v d → Q v H'
def tDA (K : PySem.W.Frag) (M : List Nat) (f : Rho → Option (List PyData)) : TA := fun σ H Q => ∃ S ρ ds, DenS K H S M σ ρ ∧ f ρ = some ds ∧ ∀ vs H', Same H H' → DenL K H' S vs ds → Q vs H'
def tDT (K : PySem.W.Frag) (M : List Nat) (f : Rho → Option Bool) : TT := fun σ H Q => ∃ S ρ b, DenS K H S M σ ρ ∧ f ρ = some b ∧ ∀ H', Same H H' → Q b H'
inductive Out where
  | nx (ρ : Rho) | rt (d : PyData) | bk (ρ : Rho) | ct (ρ : Rho)
def PD (X : Cx) (M : List Nat) (e : Expr) (f : Rho → Option PyData) : Prop := PE X e (tD X.K M f)
def PDA (X : Cx) (M : List Nat) (es : List Expr) (f : Rho → Option (List PyData)) : Prop := PA X es (tDA X.K M f)
def PDT (X : Cx) (M : List Nat) (e : Expr) (f : Rho → Option Bool) : Prop := PT X e (tDT X.K M f)
theorem PE.weak {X : Cx} {e : Expr} {t t' : TE} (h : PE X e t) (w : ∀ σ H Q, t' σ H Q → t σ H Q) : PE X e t' := fun pins s σ H Q I q => h pins s σ H Q I (w σ H Q q)
theorem PT.weak {X : Cx} {e : Expr} {t t' : TT} (h : PT X e t) (w : ∀ σ H Q, t' σ H Q → t σ H Q) : PT X e t' := fun pins s σ H Q I q => h pins s σ H Q I (w σ H Q q)
theorem PW.weak {X : Cx} {e : Expr} {t t' : TT} (h : PW X e t) (w : ∀ σ H Q, t' σ H Q → t σ H Q) : PW X e t' := fun wh pins s σ H Q I q => h wh pins s σ H Q I (w σ H Q q)
theorem PA.weak {X : Cx} {e : List Expr} {t t' : TA} (h : PA X e t) (w : ∀ σ H Q, t' σ H Q → t σ H Q) : PA X e t' := fun pos pins s σ H Q I q => h pos pins s σ H Q I (w σ H Q q)
theorem PS.weak {X : Cx} {e : Stmt} {t t' : TS} (h : PS X e t) (w : ∀ D σ H, t' D σ H → t D σ H) : PS X e t' := fun pins s σ H D I q => h pins s σ H D I (w D σ H q)
theorem PSs.weak {X : Cx} {e : List Stmt} {t t' : TS} (h : PSs X e t) (w : ∀ D σ H, t' D σ H → t D σ H) : PSs X e t' := fun pins s σ H D I q => h pins s σ H D I (w D σ H q)
/-- Option's bind, by its own name -/
def ob {α β : Type} (a : Option α) (f : α → Option β) : Option β := match a with | some x => f x | none => none
theorem ob_some {α β : Type} {a : Option α} {f : α → Option β} {y : β} (h : ob a f = some y) : ∃ x, a = some x ∧ f x = some y := by
  cases a with
  | none => cases h
  | some x => exact ⟨x, rfl, h⟩
/-! names, decided -/
def visB (sc : Scope) (x : Str) : Bool := decide (sc.names.lookup x = some .local) || decide (sc.names.lookup x = some .cell) || decide (sc.names.lookup x = some .free)
def locB (sc : Scope) (x : Str) : Bool := decide (sc.names.lookup x = some .local) || decide (sc.names.lookup x = some .cell)
def glB (sc : Scope) (x : Str) : Bool := decide (sc.names.lookup x = some .globalImplicit)
theorem vis_fn {sc : Scope} {x : Str} (h : visB sc x = true) : Vis sc x := by
  unfold visB at h
  simp only [Bool.or_eq_true, decide_eq_true_eq] at h
  rcases h with (h | h) | h
  · exact .inl h
  · exact .inr (.inl h)
  · exact .inr (.inr h)
theorem loc_fn {sc : Scope} {x : Str} (h : locB sc x = true) : Loc sc x := by
  unfold locB at h
  simp only [Bool.or_eq_true, decide_eq_true_eq] at h
  exact h
theorem gl_fn {X : Cx} {x : Str} (sc : Scope) (hs : X.env.scope = sc) (h : glB sc x = true) : Gl X x := by
  subst hs
  have h' : X.env.scope.names.lookup x = some .globalImplicit := of_decide_eq_true h
  exact h'
theorem relabel_of {env : Env} : ∀ {names : List (Str × NameKind)} {x : Str} {k : NameKind}, names.lookup x = some k →
    (names.map fun (n, k) => if (k == NameKind.free && env.scope.kind == .function && env.kindOf n == some .cell) then (n, NameKind.cell) else (n, k)).lookup x = some k ∨
    (k = .free ∧ (names.map fun (n, k) => if (k == NameKind.free && env.scope.kind == .function && env.kindOf n == some .cell) then (n, NameKind.cell) else (n, k)).lookup x = some .cell)
  | [], _, _, h => by simp at h
  | (n, k') :: r, x, k, h => by
    have ih := @relabel_of env r x k
    show List.lookup x ((if (k' == NameKind.free && env.scope.kind == .function && env.kindOf n == some .cell) = true then (n, NameKind.cell) else (n, k')) :: _) = _ ∨ (_ ∧ List.lookup x ((if (k' == NameKind.free && env.scope.kind == .function && env.kindOf n == some .cell) = true then (n, NameKind.cell) else (n, k')) :: _) = _)
    cases hx : x == n with
    | true =>
      simp only [List.lookup_cons, hx] at h
      cases h
      by_cases hc : (k' == NameKind.free && env.scope.kind == .function && env.kindOf n == some .cell) = true
      · rw [if_pos hc]
        rw [Bool.and_eq_true, Bool.and_eq_true] at hc
        exact .inr ⟨by simpa using hc.1.1, by simp [List.lookup_cons, hx]⟩
      · rw [if_neg hc]
        exact .inl (by simp [List.lookup_cons, hx])
    | false =>
      simp only [List.lookup_cons, hx] at h
      by_cases hc : (k' == NameKind.free && env.scope.kind == .function && env.kindOf n == some .cell) = true
      · rw [if_pos hc]
        simp only [List.lookup_cons, hx]
        exact ih h
      · rw [if_neg hc]
        simp only [List.lookup_cons, hx]
        exact ih h
section
variable {X : Cx} {x : Str} {N' : List Str} {sc : Scope} {cl : List (Str × Addr)} {C : Addr} {fp : List Addr} {pins : List (Addr × Obj)} {s : Shared} {H : Hp}
theorem vis_comp (h : visB sc x = true) : Vis (compCx X N' sc cl C fp pins s H).env.scope x := by
  rcases vis_fn h with h | h | h
  · rcases relabel_of (env := X.env) h with q | q
    · exact .inl q
    · cases q.1
  · rcases relabel_of (env := X.env) h with q | q
    · exact .inr (.inl q)
    · cases q.1
  · rcases relabel_of (env := X.env) h with q | q
    · exact .inr (.inr q)
    · exact .inr (.inl q.2)
theorem gl_comp (h : glB sc x = true) : Gl (compCx X N' sc cl C fp pins s H) x := by
  rcases relabel_of (env := X.env) (of_decide_eq_true h) with q | q
  · exact q
  · cases q.1
end
/-! the functions of which a body is made -/
def vr (i : Nat) : Rho → Option PyData := fun ρ => (ρ[i]?).join
def kd (d : PyData) : Rho → Option PyData := fun _ => some d
def ev1 (fa : Rho → Option PyData) (g : PyData → Option PyData) : Rho → Option PyData := fun ρ => ob (fa ρ) g
def aN : Rho → Option (List PyData) := fun _ => some []
def aC (fa : Rho → Option PyData) (fs : Rho → Option (List PyData)) : Rho → Option (List PyData) := fun ρ => ob (fa ρ) fun x => ob (fs ρ) fun xs => some (x :: xs)
def evA (fs : Rho → Option (List PyData)) (h : List PyData → Option PyData) : Rho → Option PyData := fun ρ => ob (fs ρ) h
def evC (n : Nat) (fs : Rho → Option (List PyData)) (h : List PyData → Option PyData) : Rho → Option PyData := fun ρ => ob (fs ρ) fun ds => if ds.length = n then h ds else none
def evC0 (h : List PyData → Option PyData) : Rho → Option PyData := fun _ => h []
section
variable {X : Cx} {M : List Nat} {a b c : Expr} {es : List Expr} {f g fa fb : Rho → Option PyData} {pos : Pos}
/-! #### expressions -/
theorem pd_var (i : Nat) {x : Str} (hv : Vis X.env.scope x) (hM : i ∉ M) (hN : X.N[i]? = some x := by rfl) (hd : (x == ("__debug__" : Str)) = false := by decide +kernel)
    (hcd : (x == ("__classdict__" : Str)) = false := by decide +kernel) : PD X M (.Name x pos) (vr i) :=
  (pe_var hN hv hd hcd).weak fun σ H Q ⟨S, ρ, d, hs, e, q⟩ => by
    have e : (ρ[i]?).join = some d := e
    have e' : ρ[i]? = some (some d) := by
      cases h : ρ[i]? with
      | none => rw [h] at e; cases e
      | some o => rw [h] at e; exact congrArg some e
    obtain ⟨v, h1, h2⟩ := hs.2.2 i d hM e'
    exact ⟨v, h1, q v H (Same.refl H) h2⟩
theorem pd_int {i j p} : PD X M (.Constant (.int i) j p) (kd (.int i)) := pe_int.weak fun σ H Q ⟨S, _, d, _, e, q⟩ => by cases e; exact q _ H (Same.refl H) (.int i)
theorem pd_str {i j p} : PD X M (.Constant (.str i) j p) (kd (.str i)) := pe_str.weak fun σ H Q ⟨S, _, d, _, e, q⟩ => by cases e; exact q _ H (Same.refl H) (.str i)
/-- a two-place operation on data -/
def rD2 (K : PySem.W.Frag) (g : PyData → PyData → Option PyData) : R2 := fun x y H Q => ∃ S dx dy d, Dm S H ∧ Den K H S x dx ∧ Den K H S y dy ∧ g dx dy = some d ∧ ∀ v H', Same H H' → Den K H' S v d → Q v H'
def OpD (X : Cx) (f : Value → Value → Sem Value) (g : PyData → PyData → Option PyData) : Prop := OpR X f (rD2 X.K g)
def CallD (X : Cx) (f : Value) (g : List PyData → Option PyData) : Prop := CallR X f (fun vs H Q => ∃ S ds d, Dm S H ∧ DenL X.K H S vs ds ∧ g ds = some d ∧ ∀ v H', Same H H' → Den X.K H' S v d → Q v H')
def ev2 (fa fb : Rho → Option PyData) (g : PyData → PyData → Option PyData) (ρ : Rho) : Option PyData := ob (fa ρ) fun x => ob (fb ρ) fun y => g x y
theorem tD2 {K : PySem.W.Frag} {g : PyData → PyData → Option PyData} : ∀ σ H Q, tD K M (ev2 fa fb g) σ H Q → tOp (rD2 K g) (tD K M fa) (tD K M fb) σ H Q := by
  intro σ H Q ⟨S, ρ, d, hs, e, q⟩
  obtain ⟨x, e1, e⟩ := ob_some e
  obtain ⟨y, e2, e⟩ := ob_some e
  exact ⟨S, ρ, x, hs, e1, fun v H1 g1 d1 => ⟨S, ρ, y, hs.same g1, e2, fun w H2 g2 d2 => ⟨S, x, y, d, hs.1.same (g1.trans g2), d1.same g2, d2, e, fun z H3 g3 d3 => q z H3 (g1.trans (g2.trans g3)) d3⟩⟩⟩
theorem pd_op {op : Operator} {g : PyData → PyData → Option PyData} (ho : OpD X (binaryOp op) g) (ha : PD X M a fa) (hb : PD X M b fb) : PD X M (.BinOp a op b pos) (ev2 fa fb g) := (pe_op ho ha hb).weak tD2
theorem pd_cmp {op : CmpOp} {g : PyData → PyData → Option PyData} (ho : OpD X (compareOp op) g) (ha : PD X M a fa) (hb : PD X M b fb) (hm : behindInMarks op b = false) : PD X M (.Compare a [op] [b] pos) (ev2 fa fb g) := (pe_cmpR ho ha hb hm).weak tD2
/-- a subscript -/
def ixD : PyData → PyData → Option PyData
  | .tuple ds, .int i => atI ds i
  | .list ds, .int i => atI ds i
  | _, _ => none
theorem DenL.atI {K : PySem.W.Frag} {H : Hp} {S : Av} {vs : List V} {ds : List PyData} {i : Int} {d : PyData} (h : DenL K H S vs ds) (e : atI ds i = some d) : ∃ v, L2.atI vs i = some v ∧ Den K H S v d := by
  unfold L2.atI at e ⊢
  rw [h.length]
  cases q : ixN ds.length i with
  | none => rw [q] at e; cases e
  | some j => rw [q] at e; exact h.get e
theorem pd_ix (ha : PD X M a fa) (hb : PD X M b fb) (hs : PlainIx b := by intro _ _; rfl) : PD X M (.Subscript a b pos) (ev2 fa fb ixD) :=
  (pe_ix (r := fun x y H Q => rIxL X.K x y H Q ∨ rIxT X.K x y H Q) (ix_list.or ix_tup) ha hb hs).weak fun σ H Q ⟨S, ρ, d, hs, e, q⟩ => by
    obtain ⟨x, e1, e⟩ := ob_some e
    obtain ⟨y, e2, e⟩ := ob_some e
    refine ⟨S, ρ, x, hs, e1, fun v H1 g1 d1 => ⟨S, ρ, y, hs.same g1, e2, fun w H2 g2 d2 => ?_⟩⟩
    have d1' := d1.same g2
    cases d1' with
    | list h t =>
      cases d2 with
      | int i => obtain ⟨z, z1, z2⟩ := t.atI e; exact .inl ⟨_, _, _, _, rfl, rfl, h.sq, z1, q z H2 (g1.trans g2) z2⟩
      | _ => cases e
    | tuple h t =>
      cases d2 with
      | int i => obtain ⟨z, z1, z2⟩ := t.atI e; exact .inr ⟨_, _, _, _, rfl, rfl, h, z1, q z H2 (g1.trans g2) z2⟩
      | _ => cases e
    | _ => cases e
/-! #### argument lists, displays -/
theorem pda_nil : PDA X M [] aN := pa_nil.weak fun σ H Q ⟨S, _, d, _, e, q⟩ => by cases e; exact q [] H (Same.refl H) .nil
theorem pda_cons {fs : Rho → Option (List PyData)} (ha : PD X M a fa) (hr : PDA X M es fs) (hs : starEach (a :: es) X.env = (false, eval a X.env) :: starEach es X.env := by rfl) : PDA X M (a :: es) (aC fa fs) :=
  (pa_cons ha hr hs).weak fun σ H Q ⟨S, ρ, d, hs, e, q⟩ => by
    obtain ⟨x, e1, e⟩ := ob_some e
    obtain ⟨xs, e2, e⟩ := ob_some e
    cases e
    exact ⟨S, ρ, x, hs, e1, fun v H1 g1 d1 => ⟨S, ρ, xs, hs.same g1, e2, fun vs H2 g2 d2 => q _ H2 (g1.trans g2) (.cons (d1.same g2) d2)⟩⟩
def tupD (ds : List PyData) : Option PyData := if ds.length ≤ 1000 then some (.tuple ds) else none
def lstD (ds : List PyData) : Option PyData := if ds.length ≤ 1000 then some (.list ds) else none
theorem tupD_some {ds : List PyData} {d : PyData} (h : tupD ds = some d) : ds.length ≤ 1000 ∧ d = .tuple ds := by
  unfold tupD at h
  split at h
  · rename_i q; cases h; exact ⟨q, rfl⟩
  · cases h
theorem lstD_some {ds : List PyData} {d : PyData} (h : lstD ds = some d) : ds.length ≤ 1000 ∧ d = .list ds := by
  unfold lstD at h
  split at h
  · rename_i q; cases h; exact ⟨q, rfl⟩
  · cases h
theorem pd_tup {fs : Rho → Option (List PyData)} {x1} (h : PDA X M es fs) : PD X M (.Tuple es x1 pos) (evA fs tupD) :=
  (pe_tup h).weak fun σ H Q ⟨S, ρ, d, hs, e, q⟩ => by
    obtain ⟨xs, e1, e⟩ := ob_some e
    obtain ⟨hz, rfl⟩ := tupD_some e
    refine ⟨S, ρ, xs, hs, e1, fun vs H1 g1 d1 => ⟨Nat.le_of_lt (small1000 (by rw [d1.length]; exact hz)), fun p hp => ?_⟩⟩
    exact q _ _ (g1.lay' hp) (.tuple (SqT.of upd_same) (d1.same (Same.lay hp)))
theorem pd_lst {fs : Rho → Option (List PyData)} (h : PDA X M es fs) : PD X M (.List es pos) (evA fs lstD) :=
  (pe_lst h).weak fun σ H Q ⟨S, ρ, d, hs, e, q⟩ => by
    obtain ⟨xs, e1, e⟩ := ob_some e
    obtain ⟨hz, rfl⟩ := lstD_some e
    refine ⟨S, ρ, xs, hs, e1, fun vs H1 g1 d1 => ⟨Nat.le_of_lt (small1000 (by rw [d1.length]; exact hz)), fun p hp => ?_⟩⟩
    exact q _ _ (g1.lay' hp) (.list (SqLS.new upd_same ((hs.1.same g1).free hp)) (d1.same (Same.lay hp)))
/-! #### calls -/
/-- a pure def: its answer as a function of data -/
def spF (K : PySem.W.Frag) (n : Nat) (f : List PyData → Option PyData) : Sp := fun vs H Q _ => ∃ S ds d, Dm S H ∧ DenL K H S vs ds ∧ ds.length = n ∧ f ds = some d ∧ ∀ v H', Same H H' → Den K H' S v d → Q v H'
theorem pd_call {CX : CXT} {k n : Nat} {fn : Addr} {fd : FuncData} {ps : List Str} {h : List PyData → Option PyData} {E : XK} {x : Str} {p : Pos} {fs : Rho → Option (List PyData)} (F : FnOk X.prog X.w X.K X.mg X.base CX k fn fd ps (spF X.K n h)) (hr : Room k X.A) (hg : Gl X x) (hm : X.mg x = some (.ref fn)) (hk : PySem.W.keepIn X.K (.ref fn) = true)
    (hb : Binds X.K fd ps []) (hx : Passes CX X E) (ha : PDA X M (a :: es) fs) (hl : (a :: es).length = n) (hdb : (x == ("__debug__" : Str)) = false := by decide +kernel) (he : starEach (a :: es) X.env = (false, eval a X.env) :: starEach es X.env := by rfl) (hpl : (backTo pos (starEach es X.env)).any (·.1) = false := by rfl) :
    PD X M (.Call (.Name x p) (a :: es) [] pos) (evC n fs h) :=
  (pe_call F hr hg hm hk hb .nil hx ha hdb he hpl).weak fun σ H Q ⟨S, ρ, d, hs, e, q⟩ => by
    obtain ⟨ds, e1, e⟩ := ob_some e
    have e : (if ds.length = n then h ds else none) = some d := e
    split at e
    · rename_i hn
      exact ⟨S, ρ, ds, hs, e1, fun vs H1 g1 d1 => ⟨S, ds, d, hs.1.same g1, by rw [List.append_nil]; exact d1, hn, e, fun v H' g2 d2 => q v H' (g1.trans g2) d2⟩⟩
    · cases e
theorem pd_callB {id : String} {x : Str} {p : Pos} {h : List PyData → Option PyData} {fs : Rho → Option (List PyData)} (hc : CallD X (.builtin id) h) (hg : Gl X x) (hm : X.mg x = none) (hv : bootBuiltins x = some (.builtin id)) (ha : PDA X M (a :: es) fs) (hn : x ≠ "__name__" := by decide +kernel) (hdb : (x == ("__debug__" : Str)) = false := by decide +kernel)
    (he : starEach (a :: es) X.env = (false, eval a X.env) :: starEach es X.env := by rfl) (hpl : (backTo pos (starEach es X.env)).any (·.1) = false := by rfl) : PD X M (.Call (.Name x p) (a :: es) [] pos) (evA fs h) :=
  (pe_callB hc hg hm hv ha hn hdb he hpl).weak fun σ H Q ⟨S, ρ, d, hs, e, q⟩ => by
    obtain ⟨ds, e1, e⟩ := ob_some e
    exact ⟨S, ρ, ds, hs, e1, fun vs H1 g1 d1 => ⟨S, ds, d, hs.1.same g1, d1, e, fun v H' g2 d2 => q v H' (g1.trans g2) d2⟩⟩
/-! #### isinstance -/
def tyS : PyData → String
  | .none => "NoneType" | .bool _ => "bool" | .int _ => "int" | .str _ => "str" | .list _ => "list" | .tuple _ => "tuple" | .dict _ => "dict"
def isiT (T : String) : PyData → Bool
  | .none => T == "NoneType" || T == "object"
  | .bool _ => T == "bool" || T == "int" || T == "object"
  | .int _ => T == "int" || T == "object"
  | .str _ => T == "str" || T == "object"
  | .list _ => T == "list" || T == "object"
  | .tuple _ => T == "tuple" || T == "object"
  | .dict _ => T == "dict" || T == "object"
def isiD (T : String) (d : PyData) : Option PyData := some (.bool (isiT T d))
def KitOk (K : PySem.W.Frag) (T : String) : Prop := ∀ d : PyData, PySem.W.kitOne K (.type (tyS d)) (.type T) = some (isiT T d)
theorem kit_tuple (K : PySem.W.Frag) : KitOk K "tuple" := fun d => by cases d <;> rfl
theorem kit_list (K : PySem.W.Frag) : KitOk K "list" := fun d => by cases d <;> rfl
theorem kit_str (K : PySem.W.Frag) : KitOk K "str" := fun d => by cases d <;> rfl
theorem exc_isi {K : PySem.W.Frag} {T : String} {C : Addr} {c : Str} {d : PyData} (hT : T ∈ excTs) (h : xcB K C = true) : PySem.W.kitOne K (.ref C) (.type T) = some (isiT T (excD c d)) := by
  rw [(xcK_of h).ts T hT]
  have : (T == "dict" || T == "object") = false := by
    simp only [excTs, List.mem_cons, List.not_mem_nil, or_false] at hT
    rcases hT with rfl | rfl | rfl | rfl | rfl <;> decide +kernel
  exact congrArg some this.symm
theorem ins_isi {K : PySem.W.Frag} {T : String} {C : Addr} {c : Str} (hT : T ∈ excTs) (h : icB K C = true) : PySem.W.kitOne K (.ref C) (.type T) = some (isiT T (objD c)) := by
  rw [(icK_of h).ts T hT]
  have : (T == "dict" || T == "object") = false := by
    simp only [excTs, List.mem_cons, List.not_mem_nil, or_false] at hT
    rcases hT with rfl | rfl | rfl | rfl | rfl <;> decide +kernel
  exact congrArg some this.symm
theorem pd_isi {T : String} {p p2 : Pos} (kit : KitOk X.K T) (hg : Gl X "isinstance") (hm : X.mg "isinstance" = none) (hgT : Gl X (Str.ofString T)) (hmT : X.mg (Str.ofString T) = none) (hvT : bootBuiltins (Str.ofString T) = some (.type T)) (hv : bootBuiltins "isinstance" = some (.builtin "isinstance")) (ha : PD X M a fa) (hnT : Str.ofString T ≠ "__name__" := by decide +kernel) (hdT : (Str.ofString T == ("__debug__" : Str)) = false := by decide +kernel) (hT : T ∈ excTs := by decide +kernel)
    (he : starEach [a, .Name (Str.ofString T) p2] X.env = (false, eval a X.env) :: starEach [.Name (Str.ofString T) p2] X.env := by rfl) (hpl : (backTo pos (starEach [.Name (Str.ofString T) p2] X.env)).any (·.1) = false := by rfl)
    (hs2 : starEach [.Name (Str.ofString T) p2] X.env = (false, eval (.Name (Str.ofString T) p2) X.env) :: starEach [] X.env := by rfl) :
    PD X M (.Call (.Name "isinstance" p) [a, .Name (Str.ofString T) p2] [] pos) (ev1 fa (isiD T)) :=
  (pe_callB (call_isi.or (call_isiX.or call_isiI)) hg hm hv (pa_cons ha (pa_cons (pe_bltn (v := .ty T) hgT hmT hvT rfl hnT hdT) pa_nil hs2) he) (by decide +kernel) (by decide +kernel) he hpl).weak fun σ H Q ⟨S, ρ, d, hs, e, q⟩ => by
    obtain ⟨x, e1, e⟩ := ob_some e
    cases e
    refine ⟨S, ρ, x, hs, e1, fun v H1 g1 d1 => ?_⟩
    have fin := q (.bl (isiT T x)) H1 g1 (.bool _)
    have k := kit x
    show rIsi X.K [v, .ty T] H1 Q ∨ rIsiX X.K [v, .ty T] H1 Q ∨ rIsiI X.K [v, .ty T] H1 Q
    cases d1 with
    | none => exact .inl ⟨_, _, _, _, rfl, .non, k, fin⟩
    | bool y => exact .inl ⟨_, _, _, _, rfl, .bl y, k, fin⟩
    | int y => exact .inl ⟨_, _, _, _, rfl, .int y, k, fin⟩
    | str y => exact .inl ⟨_, _, _, _, rfl, .str y, k, fin⟩
    | list h t => exact .inl ⟨_, _, _, _, rfl, .lst h.sq, k, fin⟩
    | tuple h t => exact .inl ⟨_, _, _, _, rfl, .tup h, k, fin⟩
    | dict h k2 t => exact .inl ⟨_, _, _, _, rfl, .dct h.1, k, fin⟩
    | exc0 h o => exact .inr (.inl ⟨_, _, _, _, rfl, ⟨_, h, o⟩, fun C z => exc_isi hT z, fin⟩)
    | exc1 h o x y t => exact .inr (.inl ⟨_, _, _, _, rfl, ⟨_, h, o⟩, fun C z => exc_isi hT z, fin⟩)
    | ins h o => exact .inr (.inr ⟨_, _, _, _, _, rfl, h, o.2, ins_isi hT o.2, fin⟩)
/-! #### operations -/
theorem opD_of {f : Value → Value → Sem Value} {g : PyData → PyData → Option PyData} {r : R2} (h : OpR X f r) (w : ∀ x y dx dy d H S (Q : VK), Dm S H → Den X.K H S x dx → Den X.K H S y dy → g dx dy = some d → (∀ v H', Same H H' → Den X.K H' S v d → Q v H') → r x y H Q) : OpD X f g :=
  fun pins s σ H x y v u Q I rx ry ⟨S, dx, dy, d, m, h1, h2, e, q⟩ => h pins s σ H x y v u Q I rx ry (w x y dx dy d H S Q m h1 h2 e q)
def iiD (h : Int → Int → Option PyData) : PyData → PyData → Option PyData
  | .int i, .int j => h i j
  | _, _ => none
theorem iiD_some {h : Int → Int → Option PyData} {x y d : PyData} (e : iiD h x y = some d) : ∃ i j, x = .int i ∧ y = .int j ∧ h i j = some d := by
  cases x <;> cases y <;> first | exact ⟨_, _, rfl, rfl, e⟩ | cases e
theorem opD_int {f : Value → Value → Sem Value} {gi : Int → Int → Int} (h : OpR X f (rI0 fun i j => .int (gi i j))) : OpD X f (iiD fun i j => some (.int (gi i j))) :=
  opD_of h fun x y dx dy d H S Q m h1 h2 e q => by
    obtain ⟨i, j, rfl, rfl, e⟩ := iiD_some e
    cases h1; cases h2; cases e
    exact ⟨i, j, rfl, rfl, q _ H (Same.refl H) (.int _)⟩
theorem opD_intC {f : Value → Value → Sem Value} {C : Int → Int → Prop} [∀ i j, Decidable (C i j)] {gi : Int → Int → Int} (h : OpR X f (rI C fun i j => .int (gi i j))) : OpD X f (iiD fun i j => if C i j then some (.int (gi i j)) else none) :=
  opD_of h fun x y dx dy d H S Q m h1 h2 e q => by
    obtain ⟨i, j, rfl, rfl, e'⟩ := iiD_some e
    split at e'
    · rename_i c
      cases h1; cases h2; cases e'
      exact ⟨i, j, rfl, rfl, c, q _ H (Same.refl H) (.int _)⟩
    · cases e'
theorem opD_bool {f : Value → Value → Sem Value} {gi : Int → Int → Bool} (h : OpR X f (rI0 fun i j => .bl (gi i j))) : OpD X f (iiD fun i j => some (.bool (gi i j))) :=
  opD_of h fun x y dx dy d H S Q m h1 h2 e q => by
    obtain ⟨i, j, rfl, rfl, e⟩ := iiD_some e
    cases h1; cases h2; cases e
    exact ⟨i, j, rfl, rfl, q _ H (Same.refl H) (.bool _)⟩
instance (i j : Int) : Decidable (IntMulOk i j) := by unfold IntMulOk; exact inferInstance
instance (i j : Int) : Decidable (CDiv i j) := by unfold CDiv; exact inferInstance
instance (i j : Int) : Decidable (CPow i j) := by unfold CPow; exact inferInstance
def subD : PyData → PyData → Option PyData := iiD fun i j => some (.int (i - j))
def mulD : PyData → PyData → Option PyData := iiD fun i j => if IntMulOk i j then some (.int (i * j)) else none
def fdivD : PyData → PyData → Option PyData := iiD fun i j => if CDiv i j then some (.int (i / j)) else none
def modD : PyData → PyData → Option PyData := iiD fun i j => if 0 < j then some (.int (i % j)) else none
def powD : PyData → PyData → Option PyData := iiD fun i j => if CPow i j then some (.int (i ^ j.toNat)) else none
theorem d_sub : OpD X (binaryOp .Sub) subD := opD_int op_sub
theorem d_mul : OpD X (binaryOp .Mult) mulD := opD_intC op_mulW
theorem d_fdiv : OpD X (binaryOp .FloorDiv) fdivD := opD_intC op_fdiv
theorem d_mod : OpD X (binaryOp .Mod) modD := opD_intC (C := fun _ j => 0 < j) op_mod
def leD : PyData → PyData → Option PyData := iiD fun i j => some (.bool (decide (i ≤ j)))
def gtD : PyData → PyData → Option PyData := iiD fun i j => some (.bool (decide (j < i)))
def geD : PyData → PyData → Option PyData := iiD fun i j => some (.bool (decide (j ≤ i)))
theorem d_gt : OpD X (compareOp .Gt) gtD := opD_bool op_gt
def eqD (x y : PyData) : Option PyData := if SeqAt.shaped x = true ∧ SeqAt.shaped y = true then some (.bool (PyData.eqv x y)) else none
def neD (x y : PyData) : Option PyData := if SeqAt.shaped x = true ∧ SeqAt.shaped y = true then some (.bool (!PyData.eqv x y)) else none
theorem d_eq {k : Nat} (hr : Room k X.A) : OpD X (compareOp .Eq) eqD := opD_of (op_eqD hr) fun x y dx dy d H S Q m h1 h2 e q => by
  unfold eqD at e
  split at e
  · rename_i c; cases e; exact ⟨S, dx, dy, h1, h2, c.1, c.2, q _ H (Same.refl H) (.bool _)⟩
  · cases e
theorem d_ne {k : Nat} (hr : Room k X.A) : OpD X (compareOp .NotEq) neD := opD_of (op_neD hr) fun x y dx dy d H S Q m h1 h2 e q => by
  unfold neD at e
  split at e
  · rename_i c; cases e; exact ⟨S, dx, dy, h1, h2, c.1, c.2, q _ H (Same.refl H) (.bool _)⟩
  · cases e
def negD : PyData → Option PyData
  | .int i => some (.int (-i))
  | _ => none
/-! #### built-ins -/
def lenD : List PyData → Option PyData
  | [.list ds] => some (.int ds.length)
  | [.tuple ds] => some (.int ds.length)
  | _ => none
/-- a list or a tuple, all that is handed over -/
theorem DenL.seq1 {K : PySem.W.Frag} {H : Hp} {S : Av} {xs : List V} {ds : List PyData} (h1 : DenL K H S xs ds) {F : List PyData → PyData} {g : List PyData → Option PyData} (hg : ∀ ds d, g ds = some d → (∃ l, ds = [.list l] ∧ d = F l) ∨ ∃ l, ds = [.tuple l] ∧ d = F l) {d : PyData} (e : g ds = some d) : ∃ a ys l, xs = [.ref a] ∧ d = F l ∧ DenL K H S ys l ∧ (SqL K H a ys ∨ SqT K H a ys) := by
  rcases hg _ _ e with ⟨l, rfl, rfl⟩ | ⟨l, rfl, rfl⟩
  · obtain ⟨v, rfl, hv⟩ := h1.inv1
    obtain ⟨a, ys, rfl, hs, t⟩ := hv.list_inv
    exact ⟨a, ys, l, rfl, rfl, t, .inl hs.sq⟩
  · obtain ⟨v, rfl, hv⟩ := h1.inv1
    obtain ⟨a, ys, rfl, hs, t⟩ := hv.tuple_inv
    exact ⟨a, ys, l, rfl, rfl, t, .inr hs⟩
theorem lenD_some (ds : List PyData) (d : PyData) (e : lenD ds = some d) : (∃ l, ds = [.list l] ∧ d = .int (l.length : Nat)) ∨ ∃ l, ds = [.tuple l] ∧ d = .int (l.length : Nat) := by
  unfold lenD at e
  split at e
  · cases e; exact .inl ⟨_, rfl, rfl⟩
  · cases e; exact .inr ⟨_, rfl, rfl⟩
  · cases e
theorem b_len : CallD X (.builtin "len") lenD := fun pins s σ H xs us Q I r ⟨S, ds, d, m, h1, e, q⟩ => call_len_seq pins s σ H xs us Q I r (by
  obtain ⟨a, ys, l, rfl, rfl, t, h⟩ := h1.seq1 lenD_some e
  exact ⟨_, _, rfl, h, by rw [t.length]; exact q _ H (Same.refl H) (.int _)⟩)
def tupleD : List PyData → Option PyData
  | [.list ds] => some (.tuple ds)
  | [.tuple ds] => some (.tuple ds)
  | _ => none
def listD : List PyData → Option PyData
  | [.list ds] => some (.list ds)
  | [.tuple ds] => some (.list ds)
  | _ => none
end
end L2
namespace L2
open PySem PySem.Spec PyProof.Rows
def boolD : PyData → Option Bool
  | .bool b => some b
  | _ => none
def tV (f : Rho → Option PyData) : Rho → Option Bool := fun ρ => ob (f ρ) boolD
def tN (p : Rho → Option Bool) : Rho → Option Bool := fun ρ => ob (p ρ) fun b => some (!b)
def tA (p q : Rho → Option Bool) : Rho → Option Bool := fun ρ => ob (p ρ) fun c => if c = true then q ρ else some false
def tO (p q : Rho → Option Bool) : Rho → Option Bool := fun ρ => ob (p ρ) fun c => if c = true then some true else q ρ
def tT : Rho → Option Bool := fun _ => some true
def vA (fa fb : Rho → Option PyData) : Rho → Option PyData := fun ρ => ob (fa ρ) fun x => ob (boolD x) fun c => if c = true then fb ρ else some (.bool false)
def vO (fa fb : Rho → Option PyData) : Rho → Option PyData := fun ρ => ob (fa ρ) fun x => ob (boolD x) fun c => if c = true then some (.bool true) else fb ρ
def vN (fa : Rho → Option PyData) : Rho → Option PyData := fun ρ => ob (fa ρ) fun x => ob (boolD x) fun c => some (.bool (!c))
def vIf (p : Rho → Option Bool) (fa fb : Rho → Option PyData) : Rho → Option PyData := fun ρ => ob (p ρ) fun x => if x = true then fa ρ else fb ρ
def evI (f : Rho → Option PyData) (h : PyData → Option (List PyData)) : Rho → Option (List PyData) := fun ρ => ob (f ρ) h
def evR (fs : Rho → Option (List PyData)) (h : List PyData → Option (List PyData)) : Rho → Option (List PyData) := fun ρ => ob (fs ρ) h
def sN : Rho → Option Out := fun ρ => some (.nx ρ)
def sRet (f : Rho → Option PyData) : Rho → Option Out := fun ρ => ob (f ρ) fun d => some (.rt d)
def sIf (p : Rho → Option Bool) (u w : Rho → Option Out) : Rho → Option Out := fun ρ => ob (p ρ) fun b => if b = true then u ρ else w ρ
def sSet (i : Nat) (f : Rho → Option PyData) : Rho → Option Out := fun ρ => ob (f ρ) fun d => some (.nx (ρ.set i (some d)))
def sAsg (f : Rho → Option PyData) (g : PyData → Rho → Option Rho) : Rho → Option Out := fun ρ => ob (f ρ) fun d => ob (g d ρ) fun ρ' => some (.nx ρ')
def gNm (i : Nat) : PyData → Rho → Option Rho := fun d ρ => some (ρ.set i (some d))
def gsN : List PyData → Rho → Option Rho := fun ds ρ => match ds with | [] => some ρ | _ => none
def gsC (g1 : PyData → Rho → Option Rho) (g2 : List PyData → Rho → Option Rho) : List PyData → Rho → Option Rho := fun ds ρ => match ds with | d :: r => ob (g1 d ρ) fun ρ' => g2 r ρ' | [] => none
def sBk : Rho → Option Out := fun ρ => some (.bk ρ)
def sCt : Rho → Option Out := fun ρ => some (.ct ρ)
section
variable {X : Cx} {M : List Nat} {a b c : Expr} {es rest : List Expr} {f g fa fb : Rho → Option PyData} {p q : Rho → Option Bool} {pos : Pos}
/-! #### tests -/
theorem boolD_some {d : PyData} {b : Bool} (h : boolD d = some b) : d = .bool b := by cases d <;> first | (cases h; rfl) | cases h
theorem pdt_val (h : PD X M a f) (he : ∀ whole, isTrue a X.env whole = (do let v ← whole; standAt a.pos; holding [v] (truthy v)) := by intro _; rfl) : PDT X M a (tV f) :=
  (pt_val h he).weak fun σ H Q ⟨S, ρ, d, hs, e, q⟩ => by
    obtain ⟨x, e1, e⟩ := ob_some e
    cases boolD_some e
    exact ⟨S, ρ, _, hs, e1, fun v H1 g1 d1 => ⟨d, d1.bool_inv, q H1 g1⟩⟩
theorem pdt_cmp {op : CmpOp} {g : PyData → PyData → Option PyData} (ho : OpD X (compareOp op) g) (ha : PD X M a fa) (hb : PD X M b fb) (hm : behindInMarks op b = false) : PDT X M (.Compare a [op] [b] pos) (tV (ev2 fa fb g)) :=
  (pt_cmpR ho ha hb hm).weak fun σ H Q ⟨S, ρ, d, hs, e, q⟩ => by
    obtain ⟨x, e1, e⟩ := ob_some e
    cases boolD_some e
    exact tD2 σ H _ ⟨S, ρ, _, hs, e1, fun v H1 g1 d1 => ⟨d, d1.bool_inv, q H1 g1⟩⟩
theorem pdt_not (h : PDT X M a p) : PDT X M (.UnaryOp .Not a pos) (tN p) :=
  (pt_not h).weak fun σ H Q ⟨S, ρ, d, hs, e, q⟩ => by
    obtain ⟨x, e1, e⟩ := ob_some e
    cases e
    exact ⟨S, ρ, x, hs, e1, fun H1 g1 => q H1 g1⟩
def PDW (X : Cx) (M : List Nat) (e : Expr) (f : Rho → Option Bool) : Prop := PW X e (tDT X.K M f)
theorem PDW.pdt (h : PDW X M a p) : PDT X M a p := PW.pt h
theorem pdw_or1 (h : PDT X M a p) : PDW X M (.BoolOp .Or [a] pos) p := pw_or1 h
theorem pdw_or (ha : PDT X M a p) (hb : PDW X M (.BoolOp .Or (b :: rest) pos) q) : PDW X M (.BoolOp .Or (a :: b :: rest) pos) (tO p q) :=
  (pw_or ha hb).weak fun σ H Q ⟨S, ρ, d, hs, e, w⟩ => by
    obtain ⟨x, e1, e⟩ := ob_some e
    refine ⟨S, ρ, x, hs, e1, fun H1 g1 => ?_⟩
    cases x with
    | true => cases e; exact iteT (w H1 g1)
    | false => exact iteF ⟨S, ρ, d, hs.same g1, e, fun H2 g2 => w H2 (g1.trans g2)⟩
/-! #### and, or, not, if as values -/
theorem pd_one {op} (h : PD X M a f) : PD X M (.BoolOp op [a] pos) f := pe_one h
theorem pd_and (ha : PD X M a fa) (hb : PD X M (.BoolOp .And (b :: rest) pos) fb) : PD X M (.BoolOp .And (a :: b :: rest) pos) (vA fa fb) :=
  (pe_and ha hb).weak fun σ H Q ⟨S, ρ, d, hs, e, w⟩ => by
    obtain ⟨x, e1, e⟩ := ob_some e
    obtain ⟨c, e2, e⟩ := ob_some e
    cases boolD_some e2
    refine ⟨S, ρ, _, hs, e1, fun v H1 g1 d1 => ⟨c, d1.bool_inv, ?_⟩⟩
    cases c with
    | true => exact iteT ⟨S, ρ, d, hs.same g1, e, fun v H2 g2 d2 => w v H2 (g1.trans g2) d2⟩
    | false => cases e; exact iteF (w _ H1 g1 (.bool false))
/-! #### what is walked -/
structure IsIt (K : PySem.W.Frag) (S : Av) (J : It) (H : Hp) (ds : List PyData) : Prop where
  go : ∀ (i : Nat) (H' : Hp), Same H H' → i < ds.length → J.go i H'
  yld : ∀ (i : Nat) (H' : Hp) (x : V) (H2 : Hp), Same H H' → J.yld i H' x H2 → Same H' H2 ∧ ∀ d, ds[i]? = some d → ∀ S' : Av, (∀ y e, Den K H S y e → Den K H2 S' y e) → Den K H2 S' x d
  stop : ∀ H' : Hp, Same H H' → J.stop ds.length H'
theorem IsIt.lst {K : PySem.W.Frag} {H : Hp} {S : Av} {l : Addr} {xs : List V} {ds : List PyData} (h : SqL K H l xs) (t : DenL K H S xs ds) : IsIt K S (Itl K l) H ds where
  go := fun i H' e hi => by
    have hi' : i < xs.length := by rw [t.length]; exact hi
    exact ⟨xs, xs[i], e.seq h, List.getElem?_eq_getElem hi'⟩
  yld := fun i H' x H2 e ⟨e2, q⟩ => ⟨by rw [e2]; exact Same.refl _, fun d hd S' w => by
    obtain ⟨v, h1, h2⟩ := t.get hd
    have := q xs (e.seq h)
    rw [h1] at this
    cases this
    exact w _ _ h2⟩
  stop := fun H' e => ⟨xs, e.seq h, by rw [t.length]; exact Nat.le_refl _⟩
theorem IsIt.tup {K : PySem.W.Frag} {H : Hp} {S : Av} {l : Addr} {xs : List V} {ds : List PyData} (h : SqT K H l xs) (t : DenL K H S xs ds) : IsIt K S (Itt K l) H ds where
  go := fun i H' e hi => by
    have hi' : i < xs.length := by rw [t.length]; exact hi
    exact ⟨xs, xs[i], e.sqT h, List.getElem?_eq_getElem hi'⟩
  yld := fun i H' x H2 e ⟨e2, q⟩ => ⟨by rw [e2]; exact Same.refl _, fun d hd S' w => by
    obtain ⟨v, h1, h2⟩ := t.get hd
    have := q xs (e.sqT h)
    rw [h1] at this
    cases this
    exact w _ _ h2⟩
  stop := fun H' e => ⟨xs, e.sqT h, by rw [t.length]; exact Nat.le_refl _⟩
theorem SqLS.off {K : PySem.W.Frag} {H H' : Hp} {S : Av} {a : Addr} {xs : List V} (e : Off S H H') (h : SqLS K H S a xs) : SqLS K H' S a xs := h.imp (fun q => ⟨q.1.off e q.2, q.2⟩) id
theorem SqT.off {K : PySem.W.Frag} {H H' : Hp} {S : Av} {a : Addr} {xs : List V} (m : Dm S H) (e : Off S H H') (h : SqT K H a xs) : SqT K H' a xs := h.imp (fun q => q.off e (m.tup q)) id
/-- lo, lo + 1, .. : n of them -/
def rngL : Int → Nat → List PyData
  | _, 0 => []
  | lo, n + 1 => .int lo :: rngL (lo + 1) n
theorem rngL_length : ∀ (lo : Int) (n : Nat), (rngL lo n).length = n
  | _, 0 => rfl
  | lo, n + 1 => by rw [rngL, List.length_cons, rngL_length]
theorem rngL_get : ∀ (lo : Int) (n i : Nat) (d : PyData), (rngL lo n)[i]? = some d → d = .int (lo + i)
  | _, 0, _, _, h => by simp [rngL] at h
  | lo, n + 1, 0, d, h => by simp [rngL] at h; subst h; simp
  | lo, n + 1, i + 1, d, h => by
    have := rngL_get (lo + 1) n i d (by simpa [rngL] using h)
    rw [this]
    congr 1
    omega
theorem IsIt.rng {K : PySem.W.Frag} {H : Hp} {S : Av} (lo : Int) (n : Nat) : IsIt K S (Itr lo n) H (rngL lo n) where
  go := fun i H' e hi => by rw [rngL_length] at hi; exact hi
  yld := fun i H' x H2 e ⟨e2, q⟩ => ⟨by rw [e2]; exact Same.refl _, fun d hd _ _ => by
    have q' : x = .int (lo + i) := q
    rw [rngL_get lo n i d hd, q']
    exact .int _⟩
  stop := fun H' e => by rw [rngL_length]; exact Nat.le_refl n
/-- what is walked, at every heap that is the same but for S -/
def tDI (K : PySem.W.Frag) (M : List Nat) (f : Rho → Option (List PyData)) : TI := fun σ H R => ∃ S ρ ds, DenS K H S M σ ρ ∧ f ρ = some ds ∧ ∀ J H', Same H H' → (∀ H2, Off S H' H2 → IsIt K S J H2 ds) → R J H'
def PDI (X : Cx) (M : List Nat) (tg iter : Expr) (f : Rho → Option (List PyData)) : Prop := PI X tg iter (tDI X.K M f)
theorem PI.weak {X : Cx} {tg e : Expr} {t t' : TI} (h : PI X tg e t) (w : ∀ σ H R, t' σ H R → t σ H R) : PI X tg e t' := fun pins s σ H Q I q => h pins s σ H Q I (w σ H Q q)
def iSeq (K : PySem.W.Frag) (tl : TE) : TI := fun σ H R => tl σ H fun x H1 => ∃ a, x = .ref a ∧ (((∃ xs, SqL K H1 a xs) ∧ R (Itl K a) H1) ∨ ((∃ xs, SqT K H1 a xs) ∧ R (Itt K a) H1))
theorem pi_seq {tg l : Expr} {tl : TE} (hl : PE X l tl) : PI X tg l (iSeq X.K tl) := by
  intro pins s σ H R I h
  refine thn (hl pins s σ H _ I h) fun v s1 ⟨x, H1, I1, r1, q1⟩ => ?_
  obtain ⟨a, e, q1⟩ := q1
  subst e
  cases r1
  have fp : ∀ b ∈ [s1.heap.objs.size], FpOk X pins H1 b := fun b hb => by
    have e : b = s1.heap.objs.size := by simpa using hb
    subst e
    exact I1.fpOk (Nat.le_refl _) (I1.hok.fresh (Nat.le_refl _))
  rcases q1 with ⟨⟨xs, hq⟩, q⟩ | ⟨⟨xs, hq⟩, q⟩
  · obtain ⟨its, rv, p, hz⟩ := I1.list hq
    refine wpAny_pyIter_list p.isList ?_
    exact ⟨s1.heap.objs.size, [s1.heap.objs.size], _, _, H1, rfl, I1.kept (t' := s1.toks) fun b o e => Heap.get?_push_of_some _ e, turn_list a _, ⟨_, Heap.get?_push_size _ rfl, rfl, rfl⟩, fp, q⟩
  · obtain ⟨its, rv, p, hz⟩ := I1.tuple hq
    refine wpAny_pyIter_tuple (show s1.heap.IsTuple a its.toArray from p) ?_
    exact ⟨s1.heap.objs.size, [s1.heap.objs.size], _, _, H1, rfl, I1.kept (t' := s1.toks) fun b o e => Heap.get?_push_of_some _ e, turn_tuple a _, ⟨_, Heap.get?_push_size _ rfl, rfl, rfl⟩, fp, q⟩
def seqD : PyData → Option (List PyData)
  | .list ds => some ds
  | .tuple ds => some ds
  | _ => none
theorem pdi_seq {tg : Expr} (h : PD X M a f) : PDI X M tg a (evI f seqD) :=
  (pi_seq h).weak fun σ H R ⟨S, ρ, ds, hs, e, w⟩ => by
    obtain ⟨x, e1, e⟩ := ob_some e
    refine ⟨S, ρ, x, hs, e1, fun v H1 g1 d1 => ?_⟩
    cases d1 with
    | list h t => cases e; exact ⟨_, rfl, .inl ⟨⟨_, h.sq⟩, w _ _ g1 fun H2 o => IsIt.lst (h.off o).sq (t.off (hs.1.same g1) o)⟩⟩
    | tuple h t => cases e; exact ⟨_, rfl, .inr ⟨⟨_, h⟩, w _ _ g1 fun H2 o => IsIt.tup (h.off (hs.1.same g1) o) (t.off (hs.1.same g1) o)⟩⟩
    | _ => cases e
def rng1D : List PyData → Option (List PyData)
  | [.int j] => if -1000 ≤ j ∧ j ≤ 1000 then some (rngL 0 j.toNat) else none
  | _ => none
def rng2D : List PyData → Option (List PyData)
  | [.int i, .int j] => if (-1000 ≤ i ∧ i ≤ 1000) ∧ (-1000 ≤ j ∧ j ≤ 1000) then some (rngL i (j - i).toNat) else none
  | _ => none
theorem pdi_range1 {tg : Expr} {fs : Rho → Option (List PyData)} {p : Pos} (hg : Gl X "range") (hm : X.mg "range" = none) (ha : PDA X M [a] fs) (hs : starEach [a] X.env = [(false, eval a X.env)] := by rfl) : PDI X M tg (.Call (.Name "range" p) [a] [] pos) (evR fs rng1D) :=
  (pi_range1 hg hm ha hs).weak fun σ H R ⟨S, ρ, ds, hs, e, w⟩ => by
    obtain ⟨xs, e1, e⟩ := ob_some e
    refine ⟨S, ρ, xs, hs, e1, fun vs H1 g1 d1 => ?_⟩
    unfold rng1D at e
    split at e
    · rename_i j
      split at e
      · rename_i hj
        cases e
        obtain ⟨v, rfl, q⟩ := d1.inv1
        cases q
        exact ⟨j, rfl, by omega, by omega, w _ _ g1 fun _ _ => IsIt.rng 0 _⟩
      · cases e
    · cases e
/-! #### comprehensions -/
def compD (tt : Rho → Option Bool) (te : Rho → Option PyData) (ρ : Rho) : List PyData → Option (List PyData)
  | [] => some []
  | d :: ds => ob (tt (ρ ++ [some d])) fun b => if b = true then ob (te (ρ ++ [some d])) fun y => ob (compD tt te ρ ds) fun ys => some (y :: ys) else compD tt te ρ ds
def compR (n : Nat) (fi : Rho → Option (List PyData)) (tt : Rho → Option Bool) (te : Rho → Option PyData) (ρ : Rho) : Option PyData :=
  ob (fi ρ) fun ds => if ρ.length = n ∧ ds.length ≤ 1000 then ob (compD tt te ρ ds) fun ys => some (.list ys) else none
def PDTs (X : Cx) (M : List Nat) (ifs : List Expr) (p : Rho → Option Bool) : Prop := PTs X ifs (tDT X.K M p)
theorem pdts_nil : PDTs X M [] tT := fun pins s σ H Q I ⟨S, ρ, b, hs, e, q⟩ => by
  cases e
  exact pts_nil pins s σ H Q I (q H (Same.refl H))
def lc1 (sc : Scope) (x : Str) : Bool := decide (sc.names.lookup x = some .local) || decide (sc.names.lookup x = some .cell)
theorem relabel_cell {env : Env} : ∀ {names : List (Str × NameKind)} {x : Str}, names.lookup x = some .cell →
    (names.map fun (n, k) => if (k == NameKind.free && env.scope.kind == .function && env.kindOf n == some .cell) then (n, NameKind.cell) else (n, k)).lookup x = some .cell
  | [], _, h => by simp at h
  | (n, k) :: r, x, h => by
    have ih := @relabel_cell env r x
    show List.lookup x ((if (k == NameKind.free && env.scope.kind == .function && env.kindOf n == some .cell) = true then (n, NameKind.cell) else (n, k)) :: _) = _
    rw [List.lookup_cons] at h
    by_cases hx : (x == n) = true
    · rw [hx] at h; cases h
      split <;> rw [List.lookup_cons, hx]
    · rw [Bool.eq_false_iff.mpr hx] at h
      split <;> rw [List.lookup_cons, Bool.eq_false_iff.mpr hx] <;> exact ih h
/-! targets within an expression -/
def tDGc (K : PySem.W.Frag) (M : List Nat) (g : PyData → Rho → Option Rho) : TG := fun v σ H Q => ∃ S ρ d ρ', DenS K H S M σ ρ ∧ Den K H S v d ∧ g d ρ = some ρ' ∧ ∀ σ' H', Same H H' → DenS K H' S M σ' ρ' → Q σ' H'
def PDGc (X : Cx) (M : List Nat) (t : Expr) (g : PyData → Rho → Option Rho) : Prop := PG X t (tDGc X.K M g)
theorem PG.weak {X : Cx} {e : Expr} {t t' : TG} (h : PG X e t) (w : ∀ v σ H Q, t' v σ H Q → t v σ H Q) : PG X e t' := fun pins s σ H v u Q I r q => h pins s σ H v u Q I r (w v σ H Q q)
theorem PGs.weak {X : Cx} {e : List Expr} {t t' : TGs} (h : PGs X e t) (w : ∀ v σ H Q, t' v σ H Q → t v σ H Q) : PGs X e t' := fun pins s σ H v u Q I r q => h pins s σ H v u Q I r (w v σ H Q q)
def unpD (n : Nat) (g : List PyData → Rho → Option Rho) : PyData → Rho → Option Rho
  | .tuple ds, ρ => if ds.length = n then g ds ρ else none
  | _, _ => none
theorem pdgc_name (i : Nat) {x : Str} (hN : X.N.Nodup) (hx : Loc X.env.scope x) (hi : X.N[i]? = some x) (hf : X.fn x = true ∨ X.env.scope.names.lookup x = some .local) : PDGc X M (.Name x pos) (gNm i) :=
  (pg_name hN hi hx hf).weak fun v σ H Q ⟨S, ρ, d, ρ', hs, hd, e, q⟩ => by
    cases e
    exact q _ H (Same.refl H) (hs.set hd i)
/-- the target touches the new slots alone -/
def GIn (n k : Nat) (g : PyData → Rho → Option Rho) : Prop := ∀ d (ρ r ρ1 : Rho), ρ.length = n → r.length = k → g d (ρ ++ r) = some ρ1 → ∃ r', r'.length = k ∧ ρ1 = ρ ++ r'
theorem gin_name {n k i : Nat} (h : n ≤ i) : GIn n k (gNm i) := fun d ρ r ρ1 h1 h2 e => by
  cases e
  refine ⟨r.set (i - n) (some d), by rw [List.length_set]; exact h2, ?_⟩
  rw [List.set_append_right _ _ (by omega), h1]
def compT (k : Nat) (g : PyData → Rho → Option Rho) (tt : Rho → Option Bool) (te : Rho → Option PyData) (ρ : Rho) : List PyData → Option (List PyData)
  | [] => some []
  | d :: ds => ob (g d (ρ ++ List.replicate k none)) fun ρ1 => ob (tt ρ1) fun b => if b = true then ob (te ρ1) fun y => ob (compT k g tt te ρ ds) fun ys => some (y :: ys) else compT k g tt te ρ ds
def compG (n k : Nat) (fi : Rho → Option (List PyData)) (g : PyData → Rho → Option Rho) (tt : Rho → Option Bool) (te : Rho → Option PyData) (ρ : Rho) : Option PyData :=
  ob (fi ρ) fun ds => if ρ.length = n ∧ ds.length ≤ 1000 then ob (compT k g tt te ρ ds) fun ys => some (.list ys) else none
theorem compT_name {tt : Rho → Option Bool} {te : Rho → Option PyData} {ρ : Rho} {n : Nat} (hn : ρ.length = n) : ∀ ds, compT 1 (gNm n) tt te ρ ds = compD tt te ρ ds
  | [] => rfl
  | d :: ds => by
    have e : gNm n d (ρ ++ List.replicate 1 none) = some (ρ ++ [some d]) := by
      show some ((ρ ++ [none]).set n (some d)) = _
      rw [← hn, List.set_append_right _ _ (Nat.le_refl _)]
      simp
    rw [compT, compD, e]
    show (ob (tt (ρ ++ [some d])) fun b => _) = _
    rw [compT_name hn ds]
theorem compG_name (n : Nat) (fi : Rho → Option (List PyData)) (tt : Rho → Option Bool) (te : Rho → Option PyData) : compR n fi tt te = compG n 1 fi (gNm n) tt te := by
  funext ρ
  unfold compR compG
  cases fi ρ with
  | none => rfl
  | some ds =>
    show (if ρ.length = n ∧ ds.length ≤ 1000 then _ else none) = (if ρ.length = n ∧ ds.length ≤ 1000 then _ else none)
    split
    · rename_i h
      rw [compT_name h.1]
    · rfl
theorem DenS.forget {K : PySem.W.Frag} {H : Hp} {S : Av} {σ : St} {ρ r' : Rho} {k : Nat} (h : DenS K H S M σ (ρ ++ r')) (hk : r'.length = k) : DenS K H S M σ (ρ ++ List.replicate k none) := by
  refine ⟨h.1, by rw [h.2.1, List.length_append, List.length_append, List.length_replicate, hk], fun i d hi e => ?_⟩
  by_cases hlt : i < ρ.length
  · rw [List.getElem?_append_left hlt] at e
    exact h.2.2 i d hi (by rw [List.getElem?_append_left hlt]; exact e)
  · rw [List.getElem?_append_right (by omega)] at e
    have := List.getElem?_replicate (a := (none : Option PyData)) (n := k) (i := i - ρ.length)
    rw [this] at e
    split at e <;> cases e
theorem DenS.more {K : PySem.W.Frag} {H : Hp} {S : Av} {σ : St} {ρ : Rho} (k : Nat) (h : DenS K H S M σ ρ) : DenS K H S M (σ ++ List.replicate k none) (ρ ++ List.replicate k none) := by
  refine ⟨h.1, by rw [List.length_append, List.length_append, h.2.1, List.length_replicate, List.length_replicate], fun i d hi e => ?_⟩
  by_cases hlt : i < ρ.length
  · rw [List.getElem?_append_left hlt] at e
    obtain ⟨v, a, b⟩ := h.2.2 i d hi e
    exact ⟨v, by rw [List.getElem?_append_left (by rw [h.2.1]; exact hlt)]; exact a, b⟩
  · rw [List.getElem?_append_right (by omega)] at e
    have := List.getElem?_replicate (a := (none : Option PyData)) (n := k) (i := i - ρ.length)
    rw [this] at e
    split at e <;> cases e
theorem tDcompG {K : PySem.W.Frag} {n k : Nat} {fi : Rho → Option (List PyData)} {g : PyData → Rho → Option Rho} (hg : GIn n k g) : ∀ σ H Q S ρ ds ys, DenS K H S M σ ρ → fi ρ = some ds → ρ.length = n → ds.length ≤ 1000 → compT k g p f ρ ds = some ys → (∀ H' zs, Same H H' → DenL K H' S zs ys → ∀ D, H' D = none → Q (.ref D) (upd H' D (.lst zs))) → tComp k (tDI K M fi) (tDGc K M g) (tDT K M p) (tD K M f) σ H Q := by
  intro σ H Q S ρ ds ys hs e1 hn hz e2 q
  refine ⟨S, ρ, ds, hs, e1, fun J H1 g1 hJ0 => ?_⟩
  have hJ := hJ0 H1 fun _ _ _ z => z
  have z1000 : 1000 < sizeLine := small1000 (Nat.le_refl _)
  refine ⟨fun i m zs σ' H' => m = ds.length - i ∧ i ≤ ds.length ∧ zs.length ≤ i ∧ Same H1 H' ∧ DenS K H' S M σ' (ρ ++ List.replicate k none) ∧ ∃ pre rest, DenL K H' S zs pre ∧ compT k g p f ρ (ds.drop i) = some rest ∧ pre ++ rest = ys, ⟨ds.length, by simp, Nat.zero_le _, Nat.le_refl _, Same.refl _, (hs.same g1).more k, [], ys, .nil, e2, rfl⟩, ?_⟩
  rintro i m zs σ' H' ⟨rfl, hi, hzi, g2, hS, pre, rest, dl, er, rfl⟩
  by_cases hlt : i < ds.length
  · refine .inr ⟨hJ.go i H' g2 hlt, fun x H2 y => ?_⟩
    obtain ⟨g2', yd⟩ := hJ.yld i H' x H2 g2 y
    have hd := yd _ (List.getElem?_eq_getElem hlt) S fun y e q => q.same (g2.trans g2')
    rw [List.drop_eq_getElem_cons hlt] at er
    obtain ⟨ρ1, r1, er⟩ := ob_some er
    obtain ⟨bb, b1, er⟩ := ob_some er
    obtain ⟨r', hr', rfl⟩ := hg _ ρ _ ρ1 hn (List.length_replicate) r1
    have g2 := g2.trans g2'
    have dl := dl.same g2'
    refine ⟨S, _, _, _, hS.same g2', hd, r1, fun σ3 H3 g3 hS3 => ⟨S, _, bb, hS3, b1, fun H4 g4 => ?_⟩⟩
    cases bb with
    | true =>
      rw [if_pos rfl] at er
      obtain ⟨y1, e3, er⟩ := ob_some er
      obtain ⟨ys1, e4, er⟩ := ob_some er
      cases er
      refine iteT ⟨S, _, y1, hS3.same g4, e3, fun v H5 g5 d5 => ⟨by omega, ds.length - (i + 1), by omega, rfl, hlt, by rw [List.length_append, List.length_singleton]; omega, g2.trans (g3.trans (g4.trans g5)), (hS3.same (g4.trans g5)).forget hr', pre ++ [y1], ys1, (dl.same (g3.trans (g4.trans g5))).snoc d5, e4, by simp⟩⟩
    | false =>
      rw [if_neg Bool.false_ne_true] at er
      exact iteF ⟨ds.length - (i + 1), by omega, rfl, hlt, by omega, g2.trans (g3.trans g4), (hS3.same g4).forget hr', pre, rest, dl.same (g3.trans g4), er, rfl⟩
  · have hi' : i = ds.length := by omega
    subst hi'
    rw [List.drop_length] at er
    cases er
    refine .inl ⟨hJ.stop H' g2, fun D hD => q H' zs (g1.trans g2) (by rw [List.append_nil]; exact dl) D hD⟩
theorem compG_some {n k : Nat} {fi : Rho → Option (List PyData)} {g : PyData → Rho → Option Rho} {tt : Rho → Option Bool} {te : Rho → Option PyData} {ρ : Rho} {d : PyData} (e : compG n k fi g tt te ρ = some d) : ∃ ds ys, fi ρ = some ds ∧ ρ.length = n ∧ ds.length ≤ 1000 ∧ compT k g tt te ρ ds = some ys ∧ d = .list ys := by
  obtain ⟨ds, e1, e⟩ := ob_some e
  split at e
  · rename_i hc
    obtain ⟨ys, e2, e⟩ := ob_some e
    cases e
    exact ⟨ds, ys, e1, hc.1, hc.2, e2, rfl⟩
  · cases e
theorem tDcomp {K : PySem.W.Frag} {n k : Nat} {fi : Rho → Option (List PyData)} {g : PyData → Rho → Option Rho} (hg : GIn n k g) : ∀ σ H Q, tD K M (compG n k fi g p f) σ H Q → tComp k (tDI K M fi) (tDGc K M g) (tDT K M p) (tD K M f) σ H Q := by
  intro σ H Q ⟨S, ρ, d, hs, e, q⟩
  obtain ⟨ds, ys, e1, hn, hz, e2, rfl⟩ := compG_some e
  exact tDcompG hg σ H Q S ρ ds ys hs e1 hn hz e2 fun H' zs g2 dl D hD => q _ _ (g2.lay' hD) (.list (SqLS.new upd_same ((hs.1.same g2).free hD)) (dl.same (Same.lay hD)))
section
variable {elt iter tg : Expr} {ifs : List Expr} {x : Str} {N' : List Str} {px : Pos} {sc : Scope} {n k : Nat} {fi : Rho → Option (List PyData)} {g : PyData → Rho → Option Rho}
theorem pg_comp {i : Nat} (O : CompOk X N' k sc) (hx : N'[i]? = some x) (hl : lc1 sc x = true) (cl : List (Str × Addr)) (C : Addr) (fp : List Addr) (pins : List (Addr × Obj)) (s : Shared) (H : Hp) : PDGc (compCx X N' sc cl C fp pins s H) M (.Name x px) (gNm i) :=
  (Bool.or_eq_true_iff.mp hl).elim (fun hl =>
    have hloc : (relabel sc X.env).names.lookup x = some .local := lookup_relabel_local (of_decide_eq_true hl)
    pdgc_name (X := compCx X N' sc cl C fp pins s H) i O.nd' (.inl hloc) hx (.inr hloc)) fun hl =>
    have hloc : (relabel sc X.env).names.lookup x = some .cell := relabel_cell (of_decide_eq_true hl)
    pdgc_name (X := compCx X N' sc cl C fp pins s H) i O.nd' (.inr hloc) hx (.inl hl)
theorem pd_compG (O : CompOk X N' k sc) (gi : GIn n k g) (hi : PDI X M tg iter fi) (hg : ∀ cl C fp pins s H, PDGc (compCx X N' sc cl C fp pins s H) M tg g) (hq : ∀ cl C fp pins s H, PDTs (compCx X N' sc cl C fp pins s H) M ifs p) (he : ∀ cl C fp pins s H, PD (compCx X N' sc cl C fp pins s H) M elt f)
    (hs : ∀ v, foldedSetIterable iter X.env v = pure v := by intro _; rfl) : PD X M (.ListComp elt [⟨tg, iter, ifs, 0⟩] sc pos) (compG n k fi g p f) :=
  (pe_comp (wg := tDGc X.K M g) (tt := tDT X.K M p) (te := tD X.K M f) O hi hg hq he hs).weak (tDcomp gi)
theorem pd_comp (O : CompOk X N' 1 sc) (hx : N'[n]? = some x) (hl : lc1 sc x = true) (hi : PDI X M (.Name x px) iter fi) (hq : ∀ cl C fp pins s H, PDTs (compCx X N' sc cl C fp pins s H) M ifs p) (he : ∀ cl C fp pins s H, PD (compCx X N' sc cl C fp pins s H) M elt f)
    (hs : ∀ v, foldedSetIterable iter X.env v = pure v := by intro _; rfl) : PD X M (.ListComp elt [⟨.Name x px, iter, ifs, 0⟩] sc pos) (compR n fi p f) := by
  rw [compG_name]
  exact pd_compG O (gin_name (Nat.le_refl _)) hi (pg_comp O hx hl) hq he hs
end
end
end L2
namespace L2
open PySem PySem.Spec PyProof.Rows
/-! ### statements: what a def owns -/
/-- a def's frame: the heap at its entry (what was there stays), what its callers keep apart, what a loop walks -/
structure Gm where
  H0 : Hp
  S0 : Av
  lk : Nat → Addr × PyData
def insA (S : Av) (p : Addr) : Av := fun a => S a ∨ a = p
/-- an object that is one's own, by its data -/
inductive OwnO (K : PySem.W.Frag) (H : Hp) (S : Av) (p : Addr) : PyData → Prop
  | lst {xs : List V} {ds : List PyData} : H p = some (.lst xs) → DenL K H S xs ds → OwnO K H S p (.list ds)
  | dct {kvs : List (KX × Addr × V)} {ep : Nat} {ds : List PyData} : H p = some (DctO p kvs ep) → DenL K H S (kvs.map fun p => kxV p.1 p.2.1) (kvs.map fun p => kxD p.1) → DenL K H S (kvs.map (·.2.2)) ds → OwnO K H S p (.dict (dkv kvs ds))
section
variable {K : PySem.W.Frag} {H H' : Hp} {S S' : Av} {p : Addr} {d : PyData}
theorem OwnO.same (e : Same H H') (h : OwnO K H S p d) : OwnO K H' S p d := by
  cases h with
  | lst h t => exact .lst (e _ _ h) (t.same e)
  | dct h k t => exact .dct (e _ _ h) (k.same e) (t.same e)
theorem OwnO.sub (e : ∀ a, H a ≠ none → S' a → S a) (h : OwnO K H S p d) : OwnO K H S' p d := by
  cases h with
  | lst h t => exact .lst h (t.sub e)
  | dct h k t => exact .dct h (k.sub e) (t.sub e)
theorem OwnO.mut (h : OwnO K H S p d) : ∃ o, H p = some o ∧ isMut o = true := by
  cases h with
  | lst h t => exact ⟨_, h, rfl⟩
  | dct h k t => exact ⟨_, h, rfl⟩
theorem OwnO.dom (h : OwnO K H S p d) : H p ≠ none := by
  obtain ⟨o, e, _⟩ := h.mut
  rw [e]; exact fun z => nomatch z
/-- given out of hand: plain data for whoever keeps nothing of it apart -/
theorem OwnO.den (h : OwnO K H S p d) (n : ¬ S' p) (e : ∀ a, H a ≠ none → S' a → S a) : Den K H S' (.ref p) d := by
  cases h with
  | lst h t => exact .list (SqLS.new h n) (t.sub e)
  | dct h k t => exact .dict ⟨h, n⟩ (k.sub e) (t.sub e)
/-- another own object is changed -/
theorem OwnO.upd {q : Addr} {o : HO} (m : Dm S H) (h : OwnO K H S p d) (hq : S q) (hm : isMut o = true) (ne : p ≠ q) : OwnO K (upd H q o) S p d := by
  have off : Off S H (L2.upd H q o) := fun b u n e => by
    rw [upd_ne (fun z => n (by rw [z]; exact hq))]; exact e
  cases h with
  | lst h t => exact .lst (by rw [upd_ne ne]; exact h) (t.off m off)
  | dct h k t => exact .dct (by rw [upd_ne ne]; exact h) (k.off m off) (t.off m off)
theorem Dm.upd {q : Addr} {o : HO} (m : Dm S H) (hm : isMut o = true) : Dm S (upd H q o) := fun a ha => by
  by_cases e : a = q
  · subst e; exact ⟨o, upd_same, hm⟩
  · rw [upd_ne e]; exact m a ha
theorem Dm.ins (m : Dm S H) (h : ∃ o, H p = some o ∧ isMut o = true) : Dm (insA S p) H := fun a ha => by
  rcases ha with ha | rfl
  · exact m a ha
  · exact h
end
/-! ### things whose lists within are one's own, too: fp all that may be changed -/
inductive Kids (K : PySem.W.Frag) (H : Hp) (S : Av) : List Addr → List PyData → Prop
  | nil : Kids K H S [] []
  | cons {q : Addr} {xs : List V} {es : List PyData} {qs : List Addr} {ds : List PyData} : H q = some (.lst xs) → DenL K H S xs es → q ∉ qs → Kids K H S qs ds → Kids K H S (q :: qs) (.list es :: ds)
/-- what a tuple holds: own lists, and flat things -/
inductive Mx (K : PySem.W.Frag) (H : Hp) (S : Av) : List Addr → List V → List PyData → Prop
  | nil : Mx K H S [] [] []
  | kid {q : Addr} {xs : List V} {es : List PyData} {qs : List Addr} {vs : List V} {ds : List PyData} : H q = some (.lst xs) → DenL K H S xs es → q ∉ qs → Mx K H S qs vs ds → Mx K H S (q :: qs) (.ref q :: vs) (.list es :: ds)
  | flt {v : V} {d : PyData} {qs : List Addr} {vs : List V} {ds : List PyData} : Den K H S v d → flat d = true → Mx K H S qs vs ds → Mx K H S qs (v :: vs) (d :: ds)
inductive DeepO (K : PySem.W.Frag) (H : Hp) (S : Av) : List Addr → Addr → PyData → Prop
  | tpl {p : Addr} {qs : List Addr} {vs : List V} {ds : List PyData} : H p = some (.tup vs) → Mx K H S qs vs ds → DeepO K H S qs p (.tuple ds)
  | lst {p : Addr} {qs : List Addr} {ds : List PyData} : H p = some (.lst (qs.map V.ref)) → p ∉ qs → Kids K H S qs ds → DeepO K H S (p :: qs) p (.list ds)
  | dct {p : Addr} {kvs : List (KX × Addr × V)} {ep : Nat} {qs : List Addr} {ds : List PyData} : H p = some (DctO p kvs ep) → DenL K H S (kvs.map fun p => kxV p.1 p.2.1) (kvs.map fun p => kxD p.1) → kvs.map (·.2.2) = qs.map V.ref → p ∉ qs → Kids K H S qs ds → DeepO K H S (p :: qs) p (.dict (dkv kvs ds))
section
variable {K : PySem.W.Frag} {H H' : Hp} {S S' : Av} {p : Addr} {d : PyData} {fp qs : List Addr} {ds : List PyData}
theorem Kids.same (e : Same H H') (h : Kids K H S qs ds) : Kids K H' S qs ds := by
  induction h with
  | nil => exact .nil
  | cons h t n _ r => exact .cons (e _ _ h) (t.same e) n r
theorem Kids.sub (e : ∀ a, H a ≠ none → S' a → S a) (h : Kids K H S qs ds) : Kids K H S' qs ds := by
  induction h with
  | nil => exact .nil
  | cons h t n _ r => exact .cons h (t.sub e) n r
theorem Kids.mx (h : Kids K H S qs ds) : Mx K H S qs (qs.map V.ref) ds := by
  induction h with
  | nil => exact .nil
  | cons h t n _ r => exact .kid h t n r
theorem Mx.same {vs : List V} (e : Same H H') (h : Mx K H S qs vs ds) : Mx K H' S qs vs ds := by
  induction h with
  | nil => exact .nil
  | kid h t n _ r => exact .kid (e _ _ h) (t.same e) n r
  | flt a f _ r => exact .flt (a.same e) f r
theorem Mx.sub {vs : List V} (e : ∀ a, H a ≠ none → S' a → S a) (h : Mx K H S qs vs ds) : Mx K H S' qs vs ds := by
  induction h with
  | nil => exact .nil
  | kid h t n _ r => exact .kid h (t.sub e) n r
  | flt a f _ r => exact .flt (a.sub e) f r
theorem Mx.mut {vs : List V} (h : Mx K H S qs vs ds) (q : Addr) (hq : q ∈ qs) : ∃ o, H q = some o ∧ isMut o = true := by
  induction h with
  | nil => exact nomatch hq
  | kid h t n _ r => exact (List.mem_cons.mp hq).elim (fun e => by rw [e]; exact ⟨_, h, rfl⟩) r
  | flt a f _ r => exact r hq
theorem Kids.mut (h : Kids K H S qs ds) : ∀ q ∈ qs, ∃ o, H q = some o ∧ isMut o = true := h.mx.mut
theorem Mx.den {vs : List V} (e : ∀ a, H a ≠ none → S' a → S a) (n : ∀ q ∈ qs, ¬ S' q) (h : Mx K H S qs vs ds) : DenL K H S' vs ds := by
  induction h with
  | nil => exact .nil
  | kid h t _ _ r => exact .cons (.list (SqLS.new h (n _ (.head _))) (t.sub e)) (r fun q hq => n q (.tail _ hq))
  | flt a f _ r => exact .cons (a.sub e) (r n)
theorem Kids.den (e : ∀ a, H a ≠ none → S' a → S a) (n : ∀ q ∈ qs, ¬ S' q) (h : Kids K H S qs ds) : DenL K H S' (qs.map V.ref) ds := h.mx.den e n
theorem Kids.upd {q : Addr} {o : HO} (m : Dm S H) (hq : S q) (n : q ∉ qs) (h : Kids K H S qs ds) : Kids K (upd H q o) S qs ds := by
  induction h with
  | nil => exact .nil
  | cons h t n' _ r => exact .cons (by rw [upd_ne (fun z => n (by rw [z]; exact .head _))]; exact h) (t.off m fun b u z e => by rw [upd_ne (fun y => z (by rw [y]; exact hq))]; exact e) n' (r fun z => n (.tail _ z))
theorem Mx.upd {q : Addr} {o : HO} {vs : List V} (m : Dm S H) (hq : S q) (n : q ∉ qs) (h : Mx K H S qs vs ds) : Mx K (upd H q o) S qs vs ds := by
  have off : Off S H (L2.upd H q o) := fun b u z e => by rw [upd_ne (fun y => z (by rw [y]; exact hq))]; exact e
  induction h with
  | nil => exact .nil
  | kid h t n' _ r => exact .kid (by rw [upd_ne (fun z => n (by rw [z]; exact .head _))]; exact h) (t.off m off) n' (r fun z => n (.tail _ z))
  | flt a f _ r => exact .flt (a.off m off) f (r n)
theorem Mx.length {vs : List V} (h : Mx K H S qs vs ds) : vs.length = ds.length := by
  induction h with
  | nil => rfl
  | kid _ _ _ _ r => rw [List.length_cons, List.length_cons, r]
  | flt _ _ _ r => rw [List.length_cons, List.length_cons, r]
theorem DeepO.same (e : Same H H') (h : DeepO K H S fp p d) : DeepO K H' S fp p d := by
  cases h with
  | tpl h t => exact .tpl (e _ _ h) (t.same e)
  | lst h n t => exact .lst (e _ _ h) n (t.same e)
  | dct h k v n t => exact .dct (e _ _ h) (k.same e) v n (t.same e)
theorem DeepO.sub (e : ∀ a, H a ≠ none → S' a → S a) (h : DeepO K H S fp p d) : DeepO K H S' fp p d := by
  cases h with
  | tpl h t => exact .tpl h (t.sub e)
  | lst h n t => exact .lst h n (t.sub e)
  | dct h k v n t => exact .dct h (k.sub e) v n (t.sub e)
theorem DeepO.mut (h : DeepO K H S fp p d) : ∀ q ∈ fp, ∃ o, H q = some o ∧ isMut o = true := by
  cases h with
  | tpl h t => exact t.mut
  | lst h n t => exact fun q hq => (List.mem_cons.mp hq).elim (fun e => by rw [e]; exact ⟨_, h, rfl⟩) (t.mut q)
  | dct h k v n t => exact fun q hq => (List.mem_cons.mp hq).elim (fun e => by rw [e]; exact ⟨_, h, rfl⟩) (t.mut q)
theorem DeepO.den (h : DeepO K H S fp p d) (n : ∀ q ∈ fp, ¬ S' q) (e : ∀ a, H a ≠ none → S' a → S a) : Den K H S' (.ref p) d := by
  cases h with
  | tpl h t => exact .tuple (.inl (.inl h)) (t.den e n)
  | lst h _ t => exact .list (SqLS.new h (n _ (.head _))) (t.den e fun q hq => n q (.tail _ hq))
  | dct h k v _ t => exact .dict ⟨h, n _ (.head _)⟩ (k.sub e) (by rw [v]; exact t.den e fun q hq => n q (.tail _ hq))
theorem DeepO.upd {q : Addr} {o : HO} (m : Dm S H) (h : DeepO K H S fp p d) (hq : S q) (ne : q ∉ fp) : DeepO K (upd H q o) S fp p d := by
  have off : Off S H (L2.upd H q o) := fun b u n e => by
    rw [upd_ne (fun z => n (by rw [z]; exact hq))]; exact e
  cases h with
  | tpl h t => exact .tpl (by rw [upd_ne (fun z => m.tup (.inl h) (by rw [z]; exact hq))]; exact h) (t.upd m hq ne)
  | lst h n t => exact .lst (by rw [upd_ne (fun z => ne (by rw [z]; exact .head _))]; exact h) n (t.upd m hq fun z => ne (.tail _ z))
  | dct h k v n t => exact .dct (by rw [upd_ne (fun z => ne (by rw [z]; exact .head _))]; exact h) (k.off m off) v n (t.upd m hq fun z => ne (.tail _ z))
end
/-- slot i is one's own: the thing itself; with the lists within -/
abbrev Flt (M : List Nat) (i : Nat) : Prop := i ∈ M ∧ i + 1000 ∉ M
abbrev Dp (M : List Nat) (i : Nat) : Prop := i ∈ M ∧ i + 1000 ∈ M
abbrev Out0 (M : List Nat) (i : Nat) : Prop := i ∉ M ∧ i + 1000 ∉ M ∧ i < 1000
structure SubM (A B : List Nat) : Prop where
  sub : ∀ i ∈ A, i ∈ B
  dp : ∀ i ∈ A, i + 1000 ∈ B → i + 1000 ∈ A
theorem SubM.flt {A B : List Nat} {i : Nat} (h : SubM A B) (q : Flt A i) : Flt B i := ⟨h.sub i q.1, fun z => q.2 (h.dp i q.1 z)⟩
theorem SubM.deep {A B : List Nat} {i : Nat} (h : SubM A B) (q : Dp A i) : Dp B i := ⟨h.sub i q.1, h.sub _ q.2⟩
def Has (ρ : Rho) (i : Nat) : Prop := ∃ d : PyData, ρ[i]? = some (some d)
structure DeepF (K : PySem.W.Frag) (G : Gm) (M : List Nat) (H : Hp) (S : Av) (σ : St) (ρ : Rho) (F : Nat → List Addr) : Prop where
  own : ∀ i, Dp M i → ∀ d, ρ[i]? = some (some d) → ∃ p, σ[i]? = some (some (.ref p)) ∧ DeepO K H S (F i) p d ∧ ∀ q ∈ F i, S q ∧ ¬ G.S0 q ∧ G.H0 q = none
  disj : ∀ i, Dp M i → ∀ j, Dp M j → Has ρ i → Has ρ j → ∀ q, q ∈ F i → q ∈ F j → i = j
  flat : ∀ i, Flt M i → ∀ j, Dp M j → Has ρ i → Has ρ j → ∀ p, σ[i]? = some (some (.ref p)) → p ∉ F j
structure OwnS (K : PySem.W.Frag) (G : Gm) (M L : List Nat) (H : Hp) (S : Av) (σ : St) (ρ : Rho) : Prop where
  ds : DenS K H S M σ ρ
  s0 : ∀ a, G.S0 a → S a
  h0 : Same G.H0 H
  own : ∀ i, Flt M i → ∀ d, ρ[i]? = some (some d) → ∃ p, σ[i]? = some (some (.ref p)) ∧ OwnO K H S p d ∧ S p ∧ ¬ G.S0 p ∧ (i ∉ L → G.H0 p = none) ∧ (i ∈ L → (p, d) = G.lk i)
  apart : ∀ i, Flt M i → ∀ j, Flt M j → ∀ d e p, ρ[i]? = some (some d) → ρ[j]? = some (some e) → σ[i]? = some (some (.ref p)) → σ[j]? = some (some (.ref p)) → i = j
  bnd : ∀ a, S a → G.S0 a ∨ G.H0 a = none ∨ ∃ i ∈ L, a = (G.lk i).1
  lkd : ∀ i ∈ L, Flt M i ∧ ρ[i]? = some (some (G.lk i).2)
  deep : ∃ F, DeepF K G M H S σ ρ F
section
variable {K : PySem.W.Frag} {G : Gm} {M M' L : List Nat} {H H' : Hp} {S : Av} {σ : St} {ρ : Rho} {v : V} {d : PyData}
theorem OwnS.same (e : Same H H') (h : OwnS K G M L H S σ ρ) : OwnS K G M L H' S σ ρ :=
  ⟨h.ds.same e, h.s0, h.h0.trans e, fun i hi d q => let ⟨p, a, b, c⟩ := h.own i hi d q; ⟨p, a, b.same e, c⟩, h.apart, h.bnd, h.lkd, let ⟨F, f⟩ := h.deep; ⟨F, fun i hi d q => let ⟨p, a, b, c⟩ := f.own i hi d q; ⟨p, a, b.same e, c⟩, f.disj, f.flat⟩⟩
/-- all of it, as a caller's plain data -/
theorem OwnS.den (h : OwnS K G M L H S σ ρ) : DenS K H G.S0 [] σ ρ := by
  refine ⟨h.ds.1.sub h.s0, h.ds.2.1, fun i d _ q => ?_⟩
  by_cases hi : i ∈ M
  · by_cases hk : i + 1000 ∈ M
    · obtain ⟨F, f⟩ := h.deep
      obtain ⟨p, a, b, c⟩ := f.own i ⟨hi, hk⟩ d q
      exact ⟨_, a, b.den (fun q hq => (c q hq).2.1) fun a _ z => h.s0 a z⟩
    · obtain ⟨p, a, b, c, n, _⟩ := h.own i ⟨hi, hk⟩ d q
      exact ⟨_, a, b.den n fun a _ z => h.s0 a z⟩
  · obtain ⟨v, a, b⟩ := h.ds.2.2 i d hi q
    exact ⟨v, a, b.sub fun a _ z => h.s0 a z⟩
theorem get_set_ne {α : Type} {xs : List α} {i j : Nat} {x : α} (h : i ≠ j) : (xs.set i x)[j]? = xs[j]? := List.getElem?_set_ne h
theorem OwnS.set (h : OwnS K G M L H S σ ρ) (q : Den K H S v d) {i : Nat} (hi : i ∉ M) : OwnS K G M L H S (σ.set i (some v)) (ρ.set i (some d)) := by
  have ne : ∀ j ∈ M, i ≠ j := fun j hj e => hi (by rw [e]; exact hj)
  obtain ⟨F, f⟩ := h.deep
  refine ⟨h.ds.set q i, h.s0, h.h0, fun j hj e he => ?_, fun j hj k hk e e' p h1 h2 h3 h4 => ?_, h.bnd, fun j hj => ⟨(h.lkd j hj).1, by rw [get_set_ne (ne j (h.lkd j hj).1.1)]; exact (h.lkd j hj).2⟩, F, fun j hj e he => ?_, fun j hj k hk h1 h2 => ?_, fun j hj k hk h1 h2 p h3 => ?_⟩
  · rw [get_set_ne (ne j hj.1)] at he ⊢
    exact h.own j hj e he
  · rw [get_set_ne (ne j hj.1)] at h1 h3
    rw [get_set_ne (ne k hk.1)] at h2 h4
    exact h.apart j hj k hk e e' p h1 h2 h3 h4
  · rw [get_set_ne (ne j hj.1)] at he ⊢
    exact f.own j hj e he
  · unfold Has at h1 h2
    rw [get_set_ne (ne j hj.1)] at h1
    rw [get_set_ne (ne k hk.1)] at h2
    exact f.disj j hj k hk h1 h2
  · unfold Has at h1 h2
    rw [get_set_ne (ne j hj.1)] at h1 h3
    rw [get_set_ne (ne k hk.1)] at h2
    exact f.flat j hj k hk h1 h2 p h3
/-- some are given out of hand -/
theorem OwnS.frz (h : OwnS K G M L H S σ ρ) (hs : SubM M' M) (hl : ∀ i ∈ L, i ∈ M → i ∈ M') : ∃ S', OwnS K G M' L H S' σ ρ := by
  obtain ⟨F, f⟩ := h.deep
  have sb : ∀ a, (S a ∧ (¬ ∃ i, Flt M i ∧ i ∉ M' ∧ Has ρ i ∧ σ[i]? = some (some (.ref a))) ∧ ¬ ∃ i, Dp M i ∧ i ∉ M' ∧ Has ρ i ∧ a ∈ F i) → S a := fun a z => z.1
  refine ⟨fun a => S a ∧ (¬ ∃ i, Flt M i ∧ i ∉ M' ∧ Has ρ i ∧ σ[i]? = some (some (.ref a))) ∧ ¬ ∃ i, Dp M i ∧ i ∉ M' ∧ Has ρ i ∧ a ∈ F i, ⟨?_, ?_, ?_⟩, ?_, h.h0, ?_, ?_, ?_, fun i hi => ⟨⟨hl i hi (h.lkd i hi).1.1, fun z => (h.lkd i hi).1.2 (hs.sub _ z)⟩, (h.lkd i hi).2⟩, F, ?_, ?_, ?_⟩
  · exact h.ds.1.sub fun a z => z.1
  · exact h.ds.2.1
  · intro i d hi q
    by_cases hm : i ∈ M
    · by_cases hk : i + 1000 ∈ M
      · obtain ⟨p, a, b, c⟩ := f.own i ⟨hm, hk⟩ d q
        exact ⟨_, a, b.den (fun r hr z => z.2.2 ⟨i, ⟨hm, hk⟩, hi, ⟨d, q⟩, hr⟩) fun a _ z => z.1⟩
      · obtain ⟨p, a, b, c, _⟩ := h.own i ⟨hm, hk⟩ d q
        exact ⟨_, a, b.den (fun z => z.2.1 ⟨i, ⟨hm, hk⟩, hi, ⟨d, q⟩, a⟩) fun a _ z => z.1⟩
    · obtain ⟨v, a, b⟩ := h.ds.2.2 i d hm q
      exact ⟨v, a, b.sub fun a _ z => z.1⟩
  · intro a ha
    refine ⟨h.s0 a ha, fun ⟨i, hm, hi, ⟨d, q⟩, e⟩ => ?_, fun ⟨i, hm, hi, ⟨d, q⟩, e⟩ => ?_⟩
    · obtain ⟨p, e', b, c, n, _⟩ := h.own i hm d q
      rw [e] at e'; cases e'
      exact n ha
    · obtain ⟨p, e', b, c⟩ := f.own i hm d q
      exact (c a e).2.1 ha
  · intro i hi d q
    obtain ⟨p, a, b, c, n, w, w'⟩ := h.own i (hs.flt hi) d q
    refine ⟨p, a, b.sub fun a _ z => z.1, ⟨c, fun ⟨j, hj, hj', ⟨e, q'⟩, a'⟩ => ?_, fun ⟨j, hj, hj', q', a'⟩ => ?_⟩, n, w, w'⟩
    · have := h.apart i (hs.flt hi) j hj d e p q q' a a'
      subst this
      exact hj' hi.1
    · exact f.flat i (hs.flt hi) j hj ⟨d, q⟩ q' p a a'
  · exact fun i hi j hj => h.apart i (hs.flt hi) j (hs.flt hj)
  · exact fun a z => h.bnd a z.1
  · intro i hi d q
    obtain ⟨p, a, b, c⟩ := f.own i (hs.deep hi) d q
    refine ⟨p, a, b.sub fun a _ z => z.1, fun r hr => ⟨⟨(c r hr).1, fun ⟨j, hj, hj', q', a'⟩ => ?_, fun ⟨j, hj, hj', q', a'⟩ => ?_⟩, (c r hr).2⟩⟩
    · exact f.flat j hj i (hs.deep hi) q' ⟨d, q⟩ r a' hr
    · have := f.disj i (hs.deep hi) j hj ⟨d, q⟩ q' r hr a'
      subst this
      exact hj' hi.1
  · exact fun i hi j hj => f.disj i (hs.deep hi) j (hs.deep hj)
  · exact fun i hi j hj => f.flat i (hs.flt hi) j (hs.deep hj)
theorem flt_up {i j : Nat} (hi : Out0 M i) (hj : Flt M j) : Flt (i :: M) j := ⟨.tail _ hj.1, fun z => by rcases List.mem_cons.mp z with e | z; (have := hi.2.2; omega); exact hj.2 z⟩
theorem flt_dn {i j : Nat} (hj : Flt (i :: M) j) (ne : i ≠ j) : Flt M j := ⟨(List.mem_cons.mp hj.1).resolve_left fun z => ne z.symm, fun z => hj.2 (.tail _ z)⟩
theorem dp_dn {i j : Nat} (hi : Out0 M i) (hj : Dp (i :: M) j) : Dp M j := by
  have q : j + 1000 ∈ M := (List.mem_cons.mp hj.2).resolve_left fun z => by have := hi.2.2; omega
  refine ⟨(List.mem_cons.mp hj.1).resolve_left fun z => hi.2.1 (by rw [← z]; exact q), q⟩
/-- a new thing comes into slot i, one's own -/
theorem OwnS.take (h : OwnS K G M L H S σ ρ) {p : Addr} {i : Nat} (hn : H p = none) (e : Same H H') (o : OwnO K H' (insA S p) p d) (hi : Out0 M i) (hl : i ∉ L) (hz : i < ρ.length) : OwnS K G (i :: M) L H' (insA S p) (σ.set i (some (.ref p))) (ρ.set i (some d)) := by
  have np : ¬ S p := h.ds.1.free hn
  have sub : ∀ a, H a ≠ none → insA S p a → S a := fun a ha z => by
    rcases z with z | rfl
    · exact z
    · exact absurd hn ha
  have ne : ∀ j ∈ M, i ≠ j := fun j hj e => hi.1 (by rw [e]; exact hj)
  have hz' : i < σ.length := by rw [h.ds.2.1]; exact hz
  have gi : (ρ.set i (some d))[i]? = some (some d) := List.getElem?_set_self hz
  have gi' : (σ.set i (some (.ref p)))[i]? = some (some (.ref p)) := List.getElem?_set_self hz'
  obtain ⟨F, f⟩ := h.deep
  refine ⟨⟨(h.ds.1.same e).ins o.mut, by rw [List.length_set, List.length_set]; exact h.ds.2.1, fun j d' hj q => ?_⟩, fun a z => .inl (h.s0 a z), h.h0.trans e, fun j hj d' q => ?_, fun j hj k hk d1 d2 q h1 h2 h3 h4 => ?_, fun a z => ?_, fun j hj => ⟨flt_up hi (h.lkd j hj).1, by rw [get_set_ne (fun z => hl (by rw [z]; exact hj))]; exact (h.lkd j hj).2⟩,
    F, fun j hj d' q => ?_, fun j hj k hk h1 h2 => ?_, fun j hj k hk h1 h2 r h3 => ?_⟩
  · have hij : i ≠ j := fun z => hj (by rw [z]; exact .head _)
    rw [get_set_ne hij] at q ⊢
    obtain ⟨v, a, b⟩ := h.ds.2.2 j d' (fun z => hj (.tail _ z)) q
    exact ⟨v, a, (b.sub sub).same e⟩
  · by_cases hij : i = j
    · subst hij
      rw [gi] at q; cases q
      exact ⟨p, gi', o, .inr rfl, fun z => np (h.s0 p z), fun _ => h.h0.free hn, fun z => absurd z hl⟩
    · rw [get_set_ne hij] at q ⊢
      obtain ⟨q', a, b, c, n, w⟩ := h.own j (flt_dn hj hij) d' q
      exact ⟨q', a, (b.sub sub).same e, .inl c, n, w⟩
  · have key : ∀ m, Flt M m → ∀ (d' : PyData) (q : Addr), (ρ.set i (some d))[m]? = some (some d') → (σ.set i (some (.ref p)))[m]? = some (some (.ref q)) → q ≠ p := fun m hm d' q e1 e2 z => by
      rw [get_set_ne (ne m hm.1)] at e1 e2
      obtain ⟨q', a, b, _⟩ := h.own m hm d' e1
      rw [e2] at a; cases a
      subst z
      exact b.dom hn
    by_cases ej : i = j
    · by_cases ek : i = k
      · rw [← ej, ← ek]
      · rw [← ej, gi'] at h3
        cases h3
        exact absurd rfl (key k (flt_dn hk ek) d2 p h2 h4)
    · by_cases ek : i = k
      · rw [← ek, gi'] at h4
        cases h4
        exact absurd rfl (key j (flt_dn hj ej) d1 p h1 h3)
      · rw [get_set_ne ej] at h1 h3
        rw [get_set_ne ek] at h2 h4
        exact h.apart j (flt_dn hj ej) k (flt_dn hk ek) d1 d2 q h1 h2 h3 h4
  · rcases z with z | rfl
    · exact h.bnd a z
    · exact .inr (.inl (h.h0.free hn))
  · have hj' := dp_dn hi hj
    rw [get_set_ne (ne j hj'.1)] at q ⊢
    obtain ⟨q', a, b, c⟩ := f.own j hj' d' q
    exact ⟨q', a, (b.sub sub).same e, fun r hr => ⟨.inl (c r hr).1, (c r hr).2⟩⟩
  · have hj' := dp_dn hi hj
    have hk' := dp_dn hi hk
    unfold Has at h1 h2
    rw [get_set_ne (ne j hj'.1)] at h1
    rw [get_set_ne (ne k hk'.1)] at h2
    exact f.disj j hj' k hk' h1 h2
  · have hk' := dp_dn hi hk
    unfold Has at h1 h2
    rw [get_set_ne (ne k hk'.1)] at h2
    by_cases ej : i = j
    · rw [← ej, gi'] at h3
      cases h3
      obtain ⟨d2, e2⟩ := h2
      obtain ⟨q', a, b, c⟩ := f.own k hk' d2 e2
      intro z
      obtain ⟨o2, z2, _⟩ := b.mut p z
      rw [hn] at z2; cases z2
    · rw [get_set_ne ej] at h1 h3
      exact f.flat j (flt_dn hj ej) k hk' h1 h2 r h3
def insL (S : Av) (fp : List Addr) : Av := fun a => S a ∨ a ∈ fp
theorem Dm.insL {fp : List Addr} (m : Dm S H) (h : ∀ q ∈ fp, ∃ o, H q = some o ∧ isMut o = true) : Dm (insL S fp) H := fun a ha => by
  rcases ha with ha | ha
  · exact m a ha
  · exact h a ha
/-- one's own thing in slot i is changed -/
theorem OwnS.write (h : OwnS K G M L H S σ ρ) {p : Addr} {i : Nat} {o : HO} {d₀ : PyData} (hi : Flt M i) (hl : i ∉ L) (e0 : ρ[i]? = some (some d₀)) (e1 : σ[i]? = some (some (.ref p))) (hm : isMut o = true) (ow : OwnO K (upd H p o) S p d) : OwnS K G M L (upd H p o) S σ (ρ.set i (some d)) := by
  obtain ⟨p', a, b, c, n, w, _⟩ := h.own i hi d₀ e0
  rw [e1] at a; cases a
  have off : Off S H (upd H p o) := fun b u z e => by
    rw [upd_ne (fun y => z (by rw [y]; exact c))]; exact e
  have hz : i < ρ.length := (List.getElem?_eq_some_iff.mp e0).1
  have get : ∀ m d', (ρ.set i (some d))[m]? = some (some d') → ∃ d'', ρ[m]? = some (some d'') := fun m d' q => by
    by_cases him : i = m
    · subst him; exact ⟨_, e0⟩
    · rw [get_set_ne him] at q; exact ⟨_, q⟩
  have get2 : ∀ m, Has (ρ.set i (some d)) m → Has ρ m := fun m ⟨d', q⟩ => get m d' q
  have dne : ∀ j, Dp M j → i ≠ j := fun j hj z => hi.2 (by rw [z]; exact hj.2)
  obtain ⟨F, f⟩ := h.deep
  refine ⟨⟨h.ds.1.upd hm, by rw [List.length_set]; exact h.ds.2.1, fun j d' hj q => ?_⟩, h.s0, fun a u q => ?_, fun j hj d' q => ?_, fun j hj k hk d1 d2 q h1 h2 h3 h4 => ?_, h.bnd, fun j hj => ⟨(h.lkd j hj).1, by rw [get_set_ne (fun z => hl (by rw [z]; exact hj))]; exact (h.lkd j hj).2⟩,
    F, fun j hj d' q => ?_, fun j hj k hk h1 h2 => f.disj j hj k hk (get2 j h1) (get2 k h2), fun j hj k hk h1 h2 => f.flat j hj k hk (get2 j h1) (get2 k h2)⟩
  · have hij : i ≠ j := fun z => hj (by rw [← z]; exact hi.1)
    rw [get_set_ne hij] at q
    obtain ⟨v, a, b⟩ := h.ds.2.2 j d' hj q
    exact ⟨v, a, b.off h.ds.1 off⟩
  · have : a ≠ p := fun z => by subst z; rw [w hl] at q; cases q
    rw [upd_ne this]
    exact h.h0 a u q
  · by_cases hij : i = j
    · subst hij
      rw [List.getElem?_set_self hz] at q; cases q
      exact ⟨p, e1, ow, c, n, w, fun z => absurd z hl⟩
    · rw [get_set_ne hij] at q
      obtain ⟨q', a, b', c', n', w'⟩ := h.own j hj d' q
      have : q' ≠ p := fun z => by subst z; exact hij (h.apart i hi j hj d₀ d' q' e0 q e1 a)
      exact ⟨q', a, b'.upd h.ds.1 c hm this, c', n', w'⟩
  · obtain ⟨x1, y1⟩ := get j d1 h1
    obtain ⟨x2, y2⟩ := get k d2 h2
    exact h.apart j hj k hk x1 x2 q y1 y2 h3 h4
  · rw [get_set_ne (dne j hj)] at q
    obtain ⟨q', a, b', c'⟩ := f.own j hj d' q
    exact ⟨q', a, b'.upd h.ds.1 c (f.flat i hi j hj ⟨_, e0⟩ ⟨_, q⟩ p e1), c'⟩
noncomputable def cut (P : Prop) (o : Option HO) : Option HO := @ite _ P (Classical.propDecidable P) none o
theorem cut_pos {P : Prop} {o : Option HO} (h : P) : cut P o = none := if_pos h
theorem cut_neg {P : Prop} {o : Option HO} (h : ¬ P) : cut P o = o := if_neg h
/-- the frame seen from a loop: all that is not one's own is there to stay -/
noncomputable def Gm.base (G : Gm) (S : Av) (H : Hp) : Gm := { G with H0 := fun a => cut (S a ∧ G.H0 a = none) (H a) }
theorem base_le : Same (G.base S H).H0 H := fun a o q => by
  have q : cut (S a ∧ G.H0 a = none) (H a) = some o := q
  by_cases h : S a ∧ G.H0 a = none
  · rw [cut_pos h] at q; cases q
  · rw [cut_neg h] at q; exact q
theorem OwnS.base (h : OwnS K G M L H S σ ρ) : OwnS K (G.base S H) M L H S σ ρ := by
  obtain ⟨F, f⟩ := h.deep
  refine ⟨h.ds, h.s0, base_le, fun i hi d q => ?_, h.apart, fun a z => ?_, h.lkd, F, fun i hi d q => let ⟨p, a, b, c⟩ := f.own i hi d q; ⟨p, a, b, fun r hr => ⟨(c r hr).1, (c r hr).2.1, cut_pos ⟨(c r hr).1, (c r hr).2.2⟩⟩⟩, f.disj, f.flat⟩
  · obtain ⟨p, a, b, c, n, w, w'⟩ := h.own i hi d q
    exact ⟨p, a, b, c, n, fun hl => cut_pos ⟨c, w hl⟩, w'⟩
  · rcases h.bnd a z with y | y | y
    · exact .inl y
    · exact .inr (.inl (cut_pos ⟨z, y⟩))
    · exact .inr (.inr y)
theorem OwnS.unbase {G' : Gm} (s : Same G.H0 G'.H0) (e : G'.S0 = G.S0) (e' : G'.lk = G.lk) (h : OwnS K G' M L H S σ ρ) : OwnS K G M L H S σ ρ := by
  obtain ⟨F, f⟩ := h.deep
  refine ⟨h.ds, by rw [← e]; exact h.s0, s.trans h.h0, fun i hi d q => ?_, h.apart, fun a z => ?_, by rw [← e']; exact h.lkd, F, fun i hi d q => let ⟨p, a, b, c⟩ := f.own i hi d q; ⟨p, a, b, fun r hr => ⟨(c r hr).1, by rw [← e]; exact (c r hr).2.1, s.free (c r hr).2.2⟩⟩, f.disj, f.flat⟩
  · obtain ⟨p, a, b, c, n, w, w'⟩ := h.own i hi d q
    exact ⟨p, a, b, c, by rw [← e]; exact n, fun hl => s.free (w hl), by rw [← e']; exact w'⟩
  · rcases h.bnd a z with y | y | y
    · exact .inl (by rw [← e]; exact y)
    · exact .inr (.inl (s.free y))
    · exact .inr (.inr (by rw [← e']; exact y))
/-- what a loop walks, behind some turns -/
theorem OwnS.turn {G' : Gm} {S' : Av} {x : V} (s0 : ∀ a, G'.S0 a → S a) (sl : ∀ i ∈ L, S (G'.lk i).1) (h : OwnS K G' M L H S' σ ρ) (q : Den K G'.H0 S x d) : Den K H S' x d := by
  refine (q.sub fun a ha z => ?_).same h.h0
  rcases h.bnd a z with y | y | ⟨i, hi, rfl⟩
  · exact s0 a y
  · exact absurd y ha
  · exact sl i hi
end
end L2
namespace L2
open PySem PySem.Spec PyProof.Rows
/-! ### statements -/
/-- an answer: plain; a new thing that nobody else holds; a new thing with new lists within -/
inductive Fr where
  | pl | nw | dp
/-- what is wanted behind a statement -/
def OutQ (K : PySem.W.Frag) (G : Gm) (M' Mb L : List Nat) (fr : Fr) (D : Ends) : Out → Prop
  | .nx ρ => ∀ σ' H' S', OwnS K G M' L H' S' σ' ρ → D.nx σ' H'
  | .rt d => match fr with
    | .nw => ∀ p H', Same G.H0 H' → G.H0 p = none → ¬ G.S0 p → OwnO K H' (insA G.S0 p) p d → D.rt (.ref p) H'
    | .dp => ∀ p fp H', Same G.H0 H' → (∀ q ∈ fp, G.H0 q = none ∧ ¬ G.S0 q) → DeepO K H' (insL G.S0 fp) fp p d → D.rt (.ref p) H'
    | .pl => ∀ v H', Same G.H0 H' → Den K H' G.S0 v d → D.rt v H'
  | .bk ρ => ∀ σ' H' S', OwnS K G Mb L H' S' σ' ρ → D.bk σ' H'
  | .ct ρ => ∀ σ' H' S', OwnS K G Mb L H' S' σ' ρ → D.ct σ' H'
def tDS (K : PySem.W.Frag) (G : Gm) (M L M' Mb : List Nat) (fr : Fr) (f : Rho → Option Out) : TS := fun D σ H => ∃ S ρ o, OwnS K G M L H S σ ρ ∧ f ρ = some o ∧ OutQ K G M' Mb L fr D o
def PDS (X : Cx) (G : Gm) (M L M' Mb : List Nat) (fr : Fr) (s : Stmt) (f : Rho → Option Out) : Prop := PS X s (tDS X.K G M L M' Mb fr f)
def PDSs (X : Cx) (G : Gm) (M L M' Mb : List Nat) (fr : Fr) (s : List Stmt) (f : Rho → Option Out) : Prop := PSs X s (tDS X.K G M L M' Mb fr f)
/-- the value is a new thing that nobody else holds -/
def tF (K : PySem.W.Frag) (M : List Nat) (f : Rho → Option PyData) : TE := fun σ H Q => ∃ S ρ d, DenS K H S M σ ρ ∧ f ρ = some d ∧ ∀ p H', Same H H' → H p = none → OwnO K H' (insA S p) p d → Q (.ref p) H'
def PF (X : Cx) (M : List Nat) (e : Expr) (f : Rho → Option PyData) : Prop := PE X e (tF X.K M f)
def flatF (f : Rho → Option PyData) : Rho → Option PyData := fun ρ => ob (f ρ) fun d => if flat d = true then some d else none
def flatO : PyData → Bool
  | .list ds => flatL ds
  | _ => false
def flatG (f : Rho → Option PyData) : Rho → Option PyData := fun ρ => ob (f ρ) fun d => if flatO d = true then some d else none
def seqO (u w : Rho → Option Out) (ρ : Rho) : Option Out := ob (u ρ) fun o => match o with | .nx ρ' => w ρ' | o => some o
section
variable {X : Cx} {G : Gm} {M M1 M2 M' Mb L : List Nat} {fr : Fr} {a b c : Expr} {es : List Expr} {f g : Rho → Option PyData} {p : Rho → Option Bool} {pos : Pos} {s1 : Stmt} {ss st1 st2 : List Stmt} {u w : Rho → Option Out}
theorem OwnO.flat {K : PySem.W.Frag} {H : Hp} {S S' : Av} {p : Addr} {d : PyData} (fl : flatO d = true) (h : OwnO K H S p d) : OwnO K H S' p d := by
  cases h with
  | lst h t => exact .lst h (t.flat fl)
  | dct h k t => cases fl
/-! #### one behind the other -/
theorem pds_nil : PDSs X G M L M Mb fr [] sN := pss_nil.weak fun D σ H ⟨S, ρ, o, hs, e, q⟩ => by cases e; exact q σ H S hs
theorem pds_cons (h1 : PDS X G M L M1 Mb fr s1 u) (h2 : PDSs X G M1 L M2 Mb fr ss w) : PDSs X G M L M2 Mb fr (s1 :: ss) (seqO u w) :=
  (pss_cons h1 h2).weak fun D σ H ⟨S, ρ, o, hs, e, q⟩ => by
    obtain ⟨o1, e1, e⟩ := ob_some e
    refine ⟨S, ρ, o1, hs, e1, ?_⟩
    cases o1 with
    | nx ρ' => exact fun σ' H' S' hs' => ⟨S', ρ', o, hs', e, q⟩
    | rt d => cases e; exact q
    | bk d => cases e; exact q
    | ct d => cases e; exact q
theorem pds_one (h1 : PDS X G M L M' Mb fr s1 u) : PDSs X G M L M' Mb fr [s1] u := pss_one h1
def subB (A B : List Nat) : Bool := A.all fun i => B.contains i && (!(B.contains (i + 1000)) || A.contains (i + 1000))
theorem sub_of {A B : List Nat} (h : subB A B = true) : ∀ i ∈ A, i ∈ B := fun i hi => by
  have := List.all_eq_true.mp h i hi
  rw [Bool.and_eq_true] at this
  simpa using this.1
theorem subM_of {A B : List Nat} (h : subB A B = true) : SubM A B := ⟨sub_of h, fun i hi hk => by
  have := List.all_eq_true.mp h i hi
  rw [Bool.and_eq_true, Bool.or_eq_true] at this
  rcases this.2 with z | z
  · rw [Bool.not_eq_true', ← Bool.not_eq_true] at z
    exact absurd (by simpa using hk) z
  · simpa using z⟩
theorem OutQ.drop {K : PySem.W.Frag} {D : Ends} {o : Out} (h1 : subB M1 M' = true) (h2 : subB L M1 = true) (q : OutQ K G M1 Mb L fr D o) : OutQ K G M' Mb L fr D o := by
  cases o with
  | nx ρ => exact fun σ' H' S' hs => let ⟨S2, hs2⟩ := hs.frz (subM_of h1) fun i hi _ => sub_of h2 i hi; q σ' H' S2 hs2
  | rt d => exact q
  | bk ρ => exact q
  | ct ρ => exact q
theorem pds_ret (h : PD X [] a f) : PDS X G M L M' Mb .pl (.Return (some a) pos) (sRet f) :=
  (ps_ret h).weak fun D σ H ⟨S, ρ, o, hs, e, q⟩ => by
    obtain ⟨d, e1, e⟩ := ob_some e
    cases e
    exact ⟨G.S0, ρ, d, hs.den, e1, fun v H' g1 d1 => q v H' (hs.h0.trans g1) d1⟩
/-- a name's own thing -/
theorem pe_own (i : Nat) {x : Str} (hv : Vis X.env.scope x) (hN : X.N[i]? = some x := by rfl) (hd : (x == ("__debug__" : Str)) = false := by decide +kernel)
    (hcd : (x == ("__classdict__" : Str)) = false := by decide +kernel) : PE X (.Name x pos) (fun σ H Q => ∃ v, σ[i]? = some (some v) ∧ Q v H) := pe_var hN hv hd hcd
theorem vr_some {i : Nat} {ρ : Rho} {d : PyData} (e : vr i ρ = some d) : ρ[i]? = some (some d) := by
  have e : (ρ[i]?).join = some d := e
  cases h : ρ[i]? with
  | none => rw [h] at e; cases e
  | some o => rw [h] at e; exact congrArg some e
theorem pds_if (hc : PDT X [] c p) (h1 : PDSs X G M L M' Mb fr st1 u) (h2 : PDSs X G M L M' Mb fr st2 w) : PDS X G M L M' Mb fr (.If c st1 st2 pos) (sIf p u w) :=
  (ps_if hc h1 h2).weak fun D σ H ⟨S, ρ, o, hs, e, q⟩ => by
    obtain ⟨d, e1, e⟩ := ob_some e
    refine ⟨G.S0, ρ, d, hs.den, e1, fun H1 g1 => ?_⟩
    cases d with
    | true => exact iteT ⟨S, ρ, o, hs.same g1, e, q⟩
    | false => exact iteF ⟨S, ρ, o, hs.same g1, e, q⟩
/-! #### targets -/
/-! #### a name gets a value -/
theorem pds_set (i : Nat) {x : Str} {p' : Pos} (hN : X.N.Nodup) (hx : Loc X.env.scope x) (hi : X.N[i]? = some x) (hs : swapsWith a (some (.Name x p')) pos.line X.env = pure false) (hf : X.fn x = true ∨ X.env.scope.names.lookup x = some .local) (hM : i ∉ M) (he : PD X M a f) :
    PDS X G M L M Mb fr (.Assign [.Name x p'] a pos) (sSet i f) :=
  (ps_set hN hi hx he hs hf).weak fun D σ H ⟨S, ρ, o, hs, e, q⟩ => by
    obtain ⟨d, e1, e⟩ := ob_some e
    cases e
    exact ⟨S, ρ, d, hs.ds, e1, fun v H1 g1 d1 => q _ H1 S ((hs.same g1).set d1 hM)⟩
def sTake (i : Nat) (f : Rho → Option PyData) : Rho → Option Out := fun ρ => if i < ρ.length then ob (f ρ) fun d => some (.nx (ρ.set i (some d))) else none
theorem pds_setF (i : Nat) {x : Str} {p' : Pos} (hN : X.N.Nodup) (hx : Loc X.env.scope x) (hi : X.N[i]? = some x) (hs : swapsWith a (some (.Name x p')) pos.line X.env = pure false) (hf : X.fn x = true ∨ X.env.scope.names.lookup x = some .local) (hM : Out0 M i) (hL : i ∉ L) (he : PF X M a f) :
    PDS X G M L (i :: M) Mb fr (.Assign [.Name x p'] a pos) (sTake i f) :=
  (ps_set hN hi hx he hs hf).weak fun D σ H ⟨S, ρ, o, hs, e, q⟩ => by
    unfold sTake at e
    split at e
    · rename_i hz
      obtain ⟨d, e1, e⟩ := ob_some e
      cases e
      exact ⟨S, ρ, d, hs.ds, e1, fun p H1 g1 n o => q _ H1 _ (hs.take n g1 o hM hL hz)⟩
    · cases e
/-! #### for -/
def forD (g : PyData → Rho → Option Rho) (body : Rho → Option Out) : List PyData → Rho → Option Out
  | [], ρ => some (.nx ρ)
  | d :: ds, ρ => ob (g d ρ) fun ρ1 => ob (body ρ1) fun o => match o with
    | .nx ρ' => forD g body ds ρ'
    | .ct ρ' => forD g body ds ρ'
    | .bk ρ' => some (.nx ρ')
    | .rt r => some (.rt r)
def sFor (fi : Rho → Option (List PyData)) (g : PyData → Rho → Option Rho) (u : Rho → Option Out) : Rho → Option Out := fun ρ => ob (fi ρ) fun ds => forD g u ds ρ
end
end L2
namespace L2
open PySem PySem.Spec PyProof.Rows
/-! ### defs -/
def outD : Out → Option PyData
  | .rt d => some d
  | .nx _ => some .none
  | _ => none
def outF : Out → Option PyData
  | .rt d => some d
  | _ => none
/-- a def's own start -/
def rho0 (n : Nat) (ds : List PyData) : Rho := ds.map some ++ List.replicate (n - ds.length) none
def G0 (H : Hp) (S : Av) : Gm := ⟨H, S, fun _ => (0, .none)⟩
theorem OwnS.start {K : PySem.W.Frag} {H : Hp} {S : Av} {vs : List V} {ds : List PyData} (m : Dm S H) (h : DenL K H S vs ds) (N : List Str) : OwnS K (G0 H S) [] [] H S (start N vs) (rho0 N.length ds) :=
  ⟨DenS.start m h N, fun _ z => z, Same.refl _, (fun _ h => nomatch h.1), (fun _ h => nomatch h.1), fun _ z => .inl z, (fun _ h => nomatch h), fun _ => [], (fun _ h => nomatch h.1), (fun _ h => nomatch h.1), (fun _ h => nomatch h.1)⟩
/-- the promise of a def that hands back a new thing -/
def spN (K : PySem.W.Frag) (n : Nat) (f : List PyData → Option PyData) : Sp := fun vs H Q _ => ∃ S ds d, Dm S H ∧ DenL K H S vs ds ∧ ds.length = n ∧ f ds = some d ∧ ∀ p H', Same H H' → H p = none → OwnO K H' (insA S p) p d → Q (.ref p) H'
/-- a def as it stands behind the top, with or without defaults -/
structure FunG (K : PySem.W.Frag) (x qual : Str) (st : Stmt) (f : Addr) (fd : FuncData) : Prop where
  ex : ∃ (oc dV : Value) (od : Option Addr) (kV doc pm : Value) (an : Option Addr) (cdv ct : Value) (osl : Array (Option Value)),
    fd = PySem.W.fnOf x qual (defArgs st) (defBody st) (defScope st) dV kV doc pm an cdv ct ∧ K.lookup f = some ⟨oc, od, .func fd, osl⟩ ∧ PySem.W.codeIn K cdv qual = true
  kp : PySem.W.keepIn K (.ref f) = true
theorem Fun.g {K : PySem.W.Frag} {x qual : Str} {st : Stmt} {f : Addr} {fd : FuncData} (F : Fun K x qual st f fd) : FunG K x qual st f fd := by
  obtain ⟨oc, od, kV, doc, pm, an, cdv, ct, osl, e, lk, hcd⟩ := F.ex
  exact ⟨⟨oc, _, od, kV, doc, pm, an, cdv, ct, osl, e, lk, hcd⟩, F.kp⟩
section
variable {P : Program} {w : World} {K : PySem.W.Frag} {mg : Str → Option Value} {base : Heap}
theorem FunG.ok {x qual : Str} {st : Stmt} {f : Addr} {fd : FuncData} {N ps : List Str} {k : Nat} {sp : Sp} (F : FunG K x qual st f fd) (S : FnScope N ps (defScope st)) (len : ∀ vs H Q E, sp vs H Q E → vs.length = ps.length)
    (hbody : ∀ (cdv : Value) (A : Around) (outer : List Env) (s : Shared) (H : Hp) (vs : List V) (Q : VK) (E : XK), Room k (A.deeper (envOfC qual (defScope st) s.heap.objs.size f cdv)) → sp vs H Q E →
      ∃ t, PSs (cxOf CX0 P w K mg base N qual (defScope st) f cdv A outer s H E).nox (defBody st) t ∧ t { nx := fun _ H' => Q .non H', rt := Q } (start N vs) H) : FnOk P w K mg base CX0 (k + 1) f fd ps sp := by
  obtain ⟨oc, dV, od, kV, doc, pm, an, cdv, ct, osl, rfl, lk, hcd⟩ := F.ex
  refine fn_of lk hcd S len fun A outer s H vs Q E hr hsp => ?_
  obtain ⟨t, h, q⟩ := hbody cdv A outer s H vs Q E hr hsp
  exact ⟨t, h.nox, q⟩
theorem FunG.pure {x qual : Str} {st : Stmt} {f : Addr} {fd : FuncData} {N ps : List Str} {k n : Nat} {u : Rho → Option Out} {M' : List Nat} (F : FunG K x qual st f fd) (S : FnScope N ps (defScope st)) (hn : ps.length = n)
    (hbody : ∀ (cdv : Value) (A : Around) (outer : List Env) (s : Shared) (H : Hp) (E : XK), Room k (A.deeper (envOfC qual (defScope st) s.heap.objs.size f cdv)) → ∀ G : Gm,
      PDSs (cxOf CX0 P w K mg base N qual (defScope st) f cdv A outer s H E).nox G [] [] M' [] .pl (defBody st) u) :
    FnOk P w K mg base CX0 (k + 1) f fd ps (spF K n fun ds => ob (u (rho0 N.length ds)) outD) := by
  refine F.ok S (fun vs H Q E h => ?_) (fun cdv A outer s H vs Q E hr h => ?_)
  · obtain ⟨_, ds, d, _, h1, h2, _⟩ := h
    rw [h1.length, h2, hn]
  · obtain ⟨Sv, ds, d, m, h1, h2, e, q⟩ := h
    obtain ⟨o, e1, e⟩ := ob_some e
    refine ⟨_, hbody cdv A outer s H E hr (G0 H Sv), Sv, rho0 N.length ds, o, OwnS.start m h1 N, e1, ?_⟩
    cases o with
    | rt r => cases e; exact q
    | nx ρ => cases e; exact fun σ' H' S' hs => q _ H' hs.h0 .none
    | bk ρ => cases e
    | ct ρ => cases e
theorem Fun.pure {x qual : Str} {st : Stmt} {f : Addr} {fd : FuncData} {N ps : List Str} {k n : Nat} {u : Rho → Option Out} {M' : List Nat} (F : Fun K x qual st f fd) (S : FnScope N ps (defScope st)) (hn : ps.length = n)
    (hbody : ∀ (cdv : Value) (A : Around) (outer : List Env) (s : Shared) (H : Hp) (E : XK), Room k (A.deeper (envOfC qual (defScope st) s.heap.objs.size f cdv)) → ∀ G : Gm,
      PDSs (cxOf CX0 P w K mg base N qual (defScope st) f cdv A outer s H E).nox G [] [] M' [] .pl (defBody st) u) :
    FnOk P w K mg base CX0 (k + 1) f fd ps (spF K n fun ds => ob (u (rho0 N.length ds)) outD) :=
  F.g.pure S hn hbody
theorem FunG.new {x qual : Str} {st : Stmt} {f : Addr} {fd : FuncData} {N ps : List Str} {k n : Nat} {u : Rho → Option Out} {M' : List Nat} (F : FunG K x qual st f fd) (S : FnScope N ps (defScope st)) (hn : ps.length = n)
    (hbody : ∀ (cdv : Value) (A : Around) (outer : List Env) (s : Shared) (H : Hp) (E : XK), Room k (A.deeper (envOfC qual (defScope st) s.heap.objs.size f cdv)) → ∀ G : Gm,
      PDSs (cxOf CX0 P w K mg base N qual (defScope st) f cdv A outer s H E).nox G [] [] M' [] .nw (defBody st) u) :
    FnOk P w K mg base CX0 (k + 1) f fd ps (spN K n fun ds => ob (u (rho0 N.length ds)) outF) := by
  refine F.ok S (fun vs H Q E h => ?_) (fun cdv A outer s H vs Q E hr h => ?_)
  · obtain ⟨_, ds, d, _, h1, h2, _⟩ := h
    rw [h1.length, h2, hn]
  · obtain ⟨Sv, ds, d, m, h1, h2, e, q⟩ := h
    obtain ⟨o, e1, e⟩ := ob_some e
    refine ⟨_, hbody cdv A outer s H E hr (G0 H Sv), Sv, rho0 N.length ds, o, OwnS.start m h1 N, e1, ?_⟩
    cases o with
    | rt r => cases e; exact fun p H' g n _ o => q p H' g n o
    | nx ρ => cases e
    | bk ρ => cases e
    | ct ρ => cases e
theorem Fun.new {x qual : Str} {st : Stmt} {f : Addr} {fd : FuncData} {N ps : List Str} {k n : Nat} {u : Rho → Option Out} {M' : List Nat} (F : Fun K x qual st f fd) (S : FnScope N ps (defScope st)) (hn : ps.length = n)
    (hbody : ∀ (cdv : Value) (A : Around) (outer : List Env) (s : Shared) (H : Hp) (E : XK), Room k (A.deeper (envOfC qual (defScope st) s.heap.objs.size f cdv)) → ∀ G : Gm,
      PDSs (cxOf CX0 P w K mg base N qual (defScope st) f cdv A outer s H E).nox G [] [] M' [] .nw (defBody st) u) :
    FnOk P w K mg base CX0 (k + 1) f fd ps (spN K n fun ds => ob (u (rho0 N.length ds)) outF) :=
  F.g.new S hn hbody
/-- a def that is known: how it is reached, what it is worth -/
structure Known (P : Program) (w : World) (K : PySem.W.Frag) (mg : Str → Option Value) (base : Heap) (x : Str) (n k : Nat) (h : List PyData → Option PyData) : Prop where
  ex : ∃ (f : Addr) (fd : FuncData) (ps : List Str), FnOk P w K mg base CX0 k f fd ps (spF K n h) ∧ mg x = some (.ref f) ∧ PySem.W.keepIn K (.ref f) = true ∧ Binds K fd ps []
structure KnownN (P : Program) (w : World) (K : PySem.W.Frag) (mg : Str → Option Value) (base : Heap) (x : Str) (n k : Nat) (h : List PyData → Option PyData) : Prop where
  ex : ∃ (f : Addr) (fd : FuncData) (ps : List Str), FnOk P w K mg base CX0 k f fd ps (spN K n h) ∧ mg x = some (.ref f) ∧ PySem.W.keepIn K (.ref f) = true ∧ Binds K fd ps []
theorem KnownN.known {x : Str} {n k : Nat} {h : List PyData → Option PyData} (F : KnownN P w K mg base x n k h) : Known P w K mg base x n k h := by
  obtain ⟨f, fd, ps, F, m, kp, b⟩ := F.ex
  exact ⟨f, fd, ps, F.imp fun vs H Q E ⟨S, ds, d, m, h1, h2, e, q⟩ => ⟨S, ds, d, m, h1, h2, e, fun p H' g n o => q _ H' g (o.den (m.free n) fun a _ z => .inl z)⟩, m, kp, b⟩
end
section
variable {X : Cx} {G : Gm} {M M' Mb L : List Nat} {fr : Fr} {a b c : Expr} {es : List Expr} {f g : Rho → Option PyData} {p : Rho → Option Bool} {pos : Pos} {u : Rho → Option Out}
theorem pd_known {x : Str} {p : Pos} {n k k' : Nat} {h : List PyData → Option PyData} {fs : Rho → Option (List PyData)} (F : Known X.prog X.w X.K X.mg X.base x n k h) (hr : Room k' X.A) (hk : k ≤ k') (hg : Gl X x) (ha : PDA X M (a :: es) fs) (hl : (a :: es).length = n)
    (hdb : (x == ("__debug__" : Str)) = false := by decide +kernel) (he : starEach (a :: es) X.env = (false, eval a X.env) :: starEach es X.env := by rfl) (hpl : (backTo pos (starEach es X.env)).any (·.1) = false := by rfl) :
    PD X M (.Call (.Name x p) (a :: es) [] pos) (evC n fs h) := by
  obtain ⟨f, fd, ps, F, m, kp, b⟩ := F.ex
  exact pd_call F (hr.mono hk) hg m kp b pass0 ha hl hdb he hpl
/-! #### new things -/
/-- a new list, just laid -/
theorem OwnO.laid {K : PySem.W.Frag} {H : Hp} {S : Av} {p : Addr} {vs : List V} {ds : List PyData} (n : H p = none) (t : DenL K H S vs ds) : OwnO K (L2.upd H p (.lst vs)) (insA S p) p (.list ds) :=
  .lst upd_same ((t.sub fun a ha z => z.elim id fun y => absurd (by rw [y]; exact n) ha).same (Same.lay n))
theorem pf_lst {fs : Rho → Option (List PyData)} (h : PDA X M es fs) : PF X M (.List es pos) (evA fs lstD) :=
  (pe_lst h).weak fun σ H Q ⟨S, ρ, d, hs, e, q⟩ => by
    obtain ⟨xs, e1, e⟩ := ob_some e
    obtain ⟨hz, rfl⟩ := lstD_some e
    exact ⟨S, ρ, xs, hs, e1, fun vs H1 g1 d1 => ⟨Nat.le_of_lt (small1000 (by rw [d1.length]; exact hz)), fun p hp => q _ _ (g1.lay' hp) (g1.free hp) (OwnO.laid hp d1)⟩⟩
/-- a built-in's call that makes a new thing -/
def CallN (X : Cx) (f : Value) (g : List PyData → Option PyData) : Prop := CallR X f (fun vs H Q => ∃ S ds d, Dm S H ∧ DenL X.K H S vs ds ∧ g ds = some d ∧ ∀ p H', Same H H' → H p = none → OwnO X.K H' (insA S p) p d → Q (.ref p) H')
theorem pf_callTy {T : String} {x : Str} {p : Pos} {h : List PyData → Option PyData} {fs : Rho → Option (List PyData)} (hc : CallN X (.type T) h) (hg : Gl X x) (hm : X.mg x = none) (hv : bootBuiltins x = some (.type T)) (ha : PDA X M (a :: es) fs) (hn : x ≠ "__name__" := by decide +kernel) (hdb : (x == ("__debug__" : Str)) = false := by decide +kernel)
    (he : starEach (a :: es) X.env = (false, eval a X.env) :: starEach es X.env := by rfl) (hpl : (backTo pos (starEach es X.env)).any (·.1) = false := by rfl) : PF X M (.Call (.Name x p) (a :: es) [] pos) (evA fs h) :=
  (pe_callTy hc hg hm hv ha hn hdb he hpl).weak fun σ H Q ⟨S, ρ, d, hs, e, q⟩ => by
    obtain ⟨ds, e1, e⟩ := ob_some e
    exact ⟨S, ρ, ds, hs, e1, fun vs H1 g1 d1 => ⟨S, ds, d, hs.1.same g1, d1, e, fun p H' g2 n o => q p H' (g1.trans g2) (g1.free n) o⟩⟩
theorem n_list : CallN X (.type "list") listD := fun pins s σ H xs us Q I r ⟨S, ds, d, m, h1, e, q⟩ => call_list_of pins s σ H xs us Q I r (by
  cases h1 with
  | nil => cases e
  | cons a t =>
    cases t with
    | cons a' t' => cases a <;> cases e
    | nil =>
      cases a with
      | list h t => cases e; exact ⟨_, _, rfl, .inl h.sq, fun l hl => q _ _ (Same.lay hl) hl (OwnO.laid hl t)⟩
      | tuple h t => cases e; exact ⟨_, _, rfl, .inr h, fun l hl => q _ _ (Same.lay hl) hl (OwnO.laid hl t)⟩
      | _ => cases e)
/-! #### a list grows, is emptied -/
def appD : PyData → PyData → Option PyData
  | .list ds, d => if ds.length < 1000 then some (.list (ds ++ [d])) else none
  | _, _ => none
def sApp (i : Nat) (f : Rho → Option PyData) : Rho → Option Out := fun ρ => ob (vr i ρ) fun l => ob (f ρ) fun d => ob (appD l d) fun l' => some (.nx (ρ.set i (some l')))
theorem appD_some {l d l' : PyData} (e : appD l d = some l') : ∃ ds, l = .list ds ∧ ds.length < 1000 ∧ l' = .list (ds ++ [d]) := by
  unfold appD at e
  split at e
  · split at e
    · rename_i hz; cases e; exact ⟨_, rfl, hz, rfl⟩
    · cases e
  · cases e
theorem Off.upd {S : Av} {H : Hp} {p : Addr} {o : HO} (c : S p) : Off S H (L2.upd H p o) := fun b u z e => by
  rw [upd_ne (fun y => z (by rw [y]; exact c))]; exact e
theorem pds_app (i : Nat) {x : Str} {px apos cpos : Pos} (hv : Vis X.env.scope x) (hM : Flt M i) (hL : i ∉ L) (he : PD X M a f) (hN : X.N[i]? = some x := by rfl) (hd : (x == ("__debug__" : Str)) = false := by decide +kernel) (hcd : (x == ("__classdict__" : Str)) = false := by decide +kernel)
    (hbase : attributeBase (.Name x px) "append" X.env (eval (.Name x px) X.env) = eval (.Name x px) X.env := by rfl)
    (hfew : ((backTo cpos (starEach [a] X.env)).all (fun x => !x.1) && (backToKw cpos (keywordEach [] X.env)).all (fun x => x.1.isSome)
      && decide ([a].length + ([] : List Keyword).length + (if ([] : List Keyword).isEmpty then 0 else 1) < 30)) = true := by rfl)
    (hline : (apos.endLine == cpos.line) = true := by rfl) (hs : starEach [a] X.env = (false, eval a X.env) :: starEach [] X.env := by rfl) (hplain : (backTo cpos (starEach [] X.env)).any (·.1) = false := by rfl)
    (hsw : swapsWith (.Call (.Attribute (.Name x px) "append" apos) [a] [] cpos) none pos.line X.env = pure false := by rfl) :
    PDS X G M L M Mb fr (.Expr (.Call (.Attribute (.Name x px) "append" apos) [a] [] cpos) pos) (sApp i f) :=
  (ps_expr (pe_bm PySem.F.plainAttrs_list PySem.F.slot_list_append PySem.F.type_list_append mt_append (pe_own i hv hN hd hcd) (pda_cons he pda_nil hs) hbase hfew hline hs hplain) hsw).weak fun D σ H ⟨S, ρ, o, os, e, q⟩ => by
    obtain ⟨l, e1, e⟩ := ob_some e
    obtain ⟨d, e2, e⟩ := ob_some e
    obtain ⟨l', e3, e⟩ := ob_some e
    cases e
    obtain ⟨ds, rfl, hz, rfl⟩ := appD_some e3
    obtain ⟨pp, a1, b1, c1, n1, w1, _⟩ := os.own i hM _ (vr_some e1)
    cases b1 with
    | @lst xs _ h t =>
      refine ⟨_, a1, .inl ⟨rfl, _, SqL.of h⟩, S, ρ, [d], os.ds, by show ob (f ρ) _ = _; rw [e2]; rfl, fun vs H2 g2 dl => ?_⟩
      obtain ⟨v, rfl, dv⟩ := dl.inv1
      have os2 := os.same g2
      refine ⟨pp, xs, v, rfl, rfl, g2 _ _ h, Nat.lt_of_lt_of_le (by rw [t.length]; exact hz) (Nat.le_of_lt (small1000 (Nat.le_refl _))), ?_⟩
      exact q _ _ _ (os2.write hM hL (vr_some e1) a1 rfl (.lst upd_same (((t.same g2).snoc dv).off os2.ds.1 (Off.upd c1))))
def sClr (i : Nat) : Rho → Option Out := fun ρ => ob (vr i ρ) fun l => match l with | .list _ => some (.nx (ρ.set i (some (.list [])))) | _ => none
/-! #### is -/
def isNone : PyData → Bool
  | .none => true
  | _ => false
def isD : PyData → PyData → Option PyData
  | x, .none => some (.bool (isNone x))
  | .bool b, .bool c => some (.bool (b == c))
  | _, _ => none
def isnD : PyData → PyData → Option PyData
  | x, .none => some (.bool (!isNone x))
  | .bool b, .bool c => some (.bool (!(b == c)))
  | _, _ => none
end
end L2
namespace L2
open PySem PySem.Spec PyProof.Rows
section
variable {X : Cx} {G : Gm} {M M' Mb L : List Nat} {fr : Fr} {a b c : Expr} {es : List Expr} {f g : Rho → Option PyData} {p : Rho → Option Bool} {pos : Pos} {u : Rho → Option Out}
/-! #### a loop over one's own list, which it leaves as it is -/
/-! #### while, at most so many turns -/
def whileD (t : Rho → Option Bool) (body : Rho → Option Out) : Nat → Rho → Option Out
  | 0, _ => none
  | n + 1, ρ => ob (t ρ) fun b => if b = true then ob (body ρ) fun o => match o with
      | .nx ρ' => whileD t body n ρ'
      | .ct ρ' => whileD t body n ρ'
      | .bk ρ' => some (.nx ρ')
      | .rt r => some (.rt r)
    else some (.nx ρ)
def sWhile (t : Rho → Option Bool) (body : Rho → Option Out) : Rho → Option Out := whileD t body 1000000
theorem pds_while {body : List Stmt} (hp : PassesOwn (model X.prog X.w) X.A X.env X.xe) (hc : PDT X [] c p) (hb : PDSs X G M L M M fr body u) : PDS X G M L M Mb fr (.While c body [] pos) (sWhile p u) :=
  (ps_while hp hc hb).weak fun D σ H ⟨S, ρ, o, os, e, q⟩ => by
    refine ⟨fun m σ' H' => ∃ S' ρ' o', OwnS X.K G M L H' S' σ' ρ' ∧ whileD p u m ρ' = some o' ∧ OutQ X.K G M Mb L fr D o', ⟨1000000, S, ρ, o, os, e, q⟩, ?_⟩
    rintro m σ' H' ⟨S', ρ', o', os', e', q'⟩
    cases m with
    | zero => cases e'
    | succ m =>
      obtain ⟨b, e1, e'⟩ := ob_some e'
      refine ⟨G.S0, ρ', b, os'.den, e1, fun H1 g1 => ?_⟩
      have os1 := os'.same g1
      cases b with
      | false =>
        cases e'
        exact iteF (q' σ' H1 S' os1)
      | true =>
        rw [if_pos rfl] at e'
        obtain ⟨o1, e2, e'⟩ := ob_some e'
        refine iteT ?_
        have next : ∀ ρ2, whileD p u m ρ2 = some o' → ∃ N : St → Hp → Prop, (∀ σ' H'', N σ' H'' → ∃ m', m' < m + 1 ∧ ∃ S' ρ' o', OwnS X.K G M L H'' S' σ' ρ' ∧ whileD p u m' ρ' = some o' ∧ OutQ X.K G M Mb L fr D o') ∧ ∀ σ2 H2 S2, OwnS X.K G M L H2 S2 σ2 ρ2 → N σ2 H2 := fun ρ2 e4 =>
          ⟨fun σ2 H2 => ∃ S2, OwnS X.K G M L H2 S2 σ2 ρ2, fun σ2 H2 ⟨S2, hs3⟩ => ⟨m, Nat.lt_succ_self m, S2, ρ2, o', hs3, e4, q'⟩, fun σ2 H2 S2 hs3 => ⟨S2, hs3⟩⟩
        cases o1 with
        | nx ρ2 =>
          obtain ⟨N, n1, n2⟩ := next ρ2 e'
          exact ⟨N, n1, S', ρ', _, os1, e2, fun σ3 H3 S3 hs3 => n2 σ3 H3 S3 hs3⟩
        | ct ρ2 =>
          obtain ⟨N, n1, n2⟩ := next ρ2 e'
          exact ⟨N, n1, S', ρ', _, os1, e2, fun σ3 H3 S3 hs3 => n2 σ3 H3 S3 hs3⟩
        | bk ρ2 =>
          cases e'
          exact ⟨fun _ _ => False, fun _ _ z => z.elim, S', ρ', _, os1, e2, fun σ3 H3 S3 hs3 => q' σ3 H3 S3 hs3⟩
        | rt r =>
          cases e'
          have q2 : OutQ X.K G M Mb L fr D (.rt r) := q'
          exact ⟨fun _ _ => False, fun _ _ z => z.elim, S', ρ', _, os1, e2, q2⟩
/-! #### slices -/
def intD : PyData → Option Int
  | .int i => some i
  | _ => none
def oN : Rho → Option (Option Int) := fun _ => some none
def oS (f : Rho → Option PyData) : Rho → Option (Option Int) := fun ρ => ob (f ρ) fun d => ob (intD d) fun i => some (some i)
def cutD (ds : List PyData) (lo hi : Option Int) : List PyData := (ds.drop (HT.sIx ds.length 0 lo)).take (HT.sIx ds.length ds.length hi - HT.sIx ds.length 0 lo)
def sliD (x : PyData) (lo hi : Option Int) : Option PyData := match x with
  | .list ds => some (.list (cutD ds lo hi))
  | .tuple ds => if HT.sIx ds.length 0 lo = 0 ∧ HT.sIx ds.length ds.length hi = ds.length then none else some (.tuple (cutD ds lo hi))
  | _ => none
def evS (fa : Rho → Option PyData) (fl fh : Rho → Option (Option Int)) : Rho → Option PyData := fun ρ => ob (fa ρ) fun x => ob (fl ρ) fun l => ob (fh ρ) fun h => sliD x l h
/-! #### tuple + tuple, beside int + int -/
def add2D (x y : PyData) : Option PyData := match x, y with
  | .int i, .int j => some (.int (i + j))
  | .tuple ds, .tuple es => if ds.length + es.length ≤ 1000 then some (.tuple (ds ++ es)) else none
  | _, _ => none
theorem cat_none {prog : Program} {w : World} {A : Around} {E : Value → Shared → Prop} {s : Shared} {t b : Addr} {vs ws : List Value} {Q : Value → Shared → Prop} (ht : IsTup s.heap t vs.toArray) (hb : IsTup s.heap b ws.toArray) (hv : vs = []) (h : Q (.ref b) s) :
    wpAny (model prog w) A (binaryOp .Add (.ref t) (.ref b)) Q E s := by
  obtain ⟨⟨cls, dd, data, sl⟩, ho, hc, n, hd⟩ := id ht
  obtain ⟨⟨cls2, dd2, data2, sl2⟩, ho2, hc2, n2, hd2⟩ := id hb
  simp only at hc hd hc2 hd2
  subst hc hd hc2 hd2
  exact concat_meets ⟨_, ho, rfl⟩ ⟨_, ho2, rfl⟩ noFill_tuple_add seq_tuple_add PySem.F.slot_tuple_add PySem.F.entry_tuple_add (PySem.F.args_tuple_add_2 _ _) (tuple_addW0 t b vs.toArray ws.toArray n n2 dd dd2 sl sl2 (by simp [hv])) ⟨ho, ho2, h⟩
theorem op_cat0 : OpR X (binaryOp .Add) (fun x y H Q => ∃ a b ys, x = .ref a ∧ y = .ref b ∧ SqT X.K H a [] ∧ SqT X.K H b ys ∧ Q (.ref b) H) := by
  intro pins s σ H x y v u Q I rx ry h
  obtain ⟨a, b, ys, rfl, rfl, ha, hb, q⟩ := h
  cases rx
  cases ry
  obtain ⟨its, r1, p1, _⟩ := I.tuple ha
  obtain ⟨its2, r2, p2, _⟩ := I.tuple hb
  exact cat_none p1 p2 (r1.nil_iff.mpr rfl) ⟨.ref b, H, I, rfl, q⟩
theorem d_add2 : OpD X (binaryOp .Add) add2D := by
  refine opD_of (r := fun x y H Q => rI0 (fun i j => .int (i + j)) x y H Q ∨ (rCatT X.K x y H Q ∨ (∃ a b ys, x = .ref a ∧ y = .ref b ∧ SqT X.K H a [] ∧ SqT X.K H b ys ∧ Q (.ref b) H))) (op_add.or (op_catT.or op_cat0)) fun x y dx dy d H S Q m h1 h2 e q => ?_
  unfold add2D at e
  split at e
  · cases e; cases h1; cases h2
    exact .inl ⟨_, _, rfl, rfl, q _ H (Same.refl H) (.int _)⟩
  · split at e
    · rename_i ds es hc
      cases e
      cases h1 with
      | tuple a1 t1 =>
        cases h2 with
        | tuple a2 t2 =>
          cases ds with
          | nil =>
            cases t1
            exact .inr (.inr ⟨_, _, _, rfl, rfl, a1, a2, q _ H (Same.refl H) (.tuple a2 t2)⟩)
          | cons d0 ds =>
            refine .inr (.inl ⟨_, _, _, _, rfl, rfl, a1, a2, fun z => ?_, ?_, fun z => ?_, fun z p hp => q _ _ (Same.lay hp) (.tuple (SqT.of upd_same) ((t1.append t2).same (Same.lay hp)))⟩)
            · subst z; cases t1
            · rw [t1.length, t2.length]
              exact Nat.le_of_lt (small1000 hc)
            · subst z; cases t2
              rw [List.append_nil] at q
              exact q _ H (Same.refl H) (.tuple a1 t1)
    · cases e
  · cases e
end
end L2
namespace L2
open PySem PySem.Spec PyProof.Rows
section
variable {X : Cx} {G : Gm} {M M1 M' Mb L : List Nat} {fr : Fr} {a b c : Expr} {es : List Expr} {f g : Rho → Option PyData} {p : Rho → Option Bool} {pos : Pos} {u : Rho → Option Out} {ss : List Stmt} {s1 : Stmt}
/-! #### a loop over a range, which hangs on no object -/
/-! #### the generator's forms: what hangs on a part that comes first stands behind it -/
end
end L2
namespace L2
open PySem PySem.Spec PyProof.Rows
/-! ### in, sum, all, any -/
def intsOf : List PyData → Option (List Int)
  | [] => some []
  | .int i :: r => ob (intsOf r) fun ns => some (i :: ns)
  | _ :: _ => none
def inOk (ds : List PyData) (x : PyData) : Bool := PyData.canLayAll0 ds && (x.canLay0 && decide (x.depth ≤ 63))
def inL (ds : List PyData) (x : PyData) : Bool := ds.any fun y => PyData.eqv y x
def inD (x y : PyData) : Option PyData := match y with
  | .list ds => if inOk ds x = true then some (.bool (inL ds x)) else none
  | .tuple ds => if inOk ds x = true then some (.bool (inL ds x)) else none
  | _ => none
def ninD (x y : PyData) : Option PyData := match y with
  | .list ds => if inOk ds x = true then some (.bool (!inL ds x)) else none
  | .tuple ds => if inOk ds x = true then some (.bool (!inL ds x)) else none
  | _ => none
section
variable {X : Cx}
end
section
variable {X : Cx} {G : Gm} {M M' Mb L : List Nat} {fr : Fr} {f : Rho → Option PyData} {p : Rho → Option Bool} {pos : Pos}
theorem tFcomp {K : PySem.W.Frag} {n k : Nat} {fi : Rho → Option (List PyData)} {g : PyData → Rho → Option Rho} (hg : GIn n k g) : ∀ σ H Q, tF K M (compG n k fi g p f) σ H Q → tComp k (tDI K M fi) (tDGc K M g) (tDT K M p) (tD K M f) σ H Q := by
  intro σ H Q ⟨S, ρ, d, hs, e, q⟩
  obtain ⟨ds, ys, e1, hn, hz, e2, rfl⟩ := compG_some e
  exact tDcompG hg σ H Q S ρ ds ys hs e1 hn hz e2 fun H' zs g2 dl D hD => q _ _ (g2.lay' hD) (g2.free hD) (OwnO.laid hD dl)
variable {elt iter tg : Expr} {ifs : List Expr} {x : Str} {N' : List Str} {px : Pos} {sc : Scope} {n k : Nat} {fi : Rho → Option (List PyData)} {g : PyData → Rho → Option Rho}
def swB (sc₀ sc : Scope) (t : Str) (pt p : Pos) : Bool := decide (sc₀.names.lookup t = some .local) && (pt.line == p.line) && !(sc.names.any fun (n, k) => n == t && (k == .local || k == .cell))
theorem sw_local {sc : Scope} {y : Str} {py : Pos} {sc₀ : Scope} (hsc : X.env.scope = sc₀) (h : swB sc₀ sc y py pos = true) : X.env.scope.names.lookup y = some .local := by
  subst hsc
  unfold swB at h
  rw [Bool.and_eq_true, Bool.and_eq_true] at h
  exact of_decide_eq_true h.1.1
theorem sw_of {elt : Expr} {gens : List Comprehension} {sc : Scope} {y : Str} {py : Pos} {line : Nat} {sc₀ : Scope} (hsc : X.env.scope = sc₀) (h : swB sc₀ sc y py pos = true) (hbk : X.env.blockKind = .function) : swapsWith (.ListComp elt gens sc pos) (some (.Name y py)) line X.env = pure true := by
  have h0 := sw_local hsc h
  subst hsc
  unfold swB at h
  rw [Bool.and_eq_true, Bool.and_eq_true] at h
  show pure (X.env.blockKind == .function && X.env.kindOf y == some .local && py.line == pos.line && !(sc.names.any fun (n, k) => n == y && (k == .local || k == .cell))) = pure true
  have e1 : (X.env.blockKind == ScopeKind.function) = true := by rw [hbk]; rfl
  have e2 : (X.env.kindOf y == some NameKind.local) = true := by
    show (X.env.scope.names.lookup y == some NameKind.local) = true
    rw [h0]; rfl
  rw [e1, e2, h.1.2, h.2]
  rfl
theorem pds_compG (j : Nat) {y : Str} {py spos : Pos} (O : CompOk X N' k sc) (gi : GIn n k g) (sc₀ : Scope) (hsc : X.env.scope = sc₀) (hB : swB sc₀ sc y py pos = true) (hM : Out0 M j) (hL : j ∉ L) (hi : PDI X M tg iter fi) (hg : ∀ cl C fp pins s H, PDGc (compCx X N' sc cl C fp pins s H) M tg g) (hq : ∀ cl C fp pins s H, PDTs (compCx X N' sc cl C fp pins s H) M ifs p) (he : ∀ cl C fp pins s H, PD (compCx X N' sc cl C fp pins s H) M elt f)
    (hj : X.N[j]? = some y := by rfl) (hbk : X.env.blockKind = .function := by rfl)
    (hs : ∀ v, foldedSetIterable iter X.env v = pure v := by intro _; rfl) : PDS X G M L (j :: M) Mb fr (.Assign [.Name y py] (.ListComp elt [⟨tg, iter, ifs, 0⟩] sc pos) spos) (sTake j (compG n k fi g p f)) :=
  (ps_comp (wg := tDGc X.K M g) (tt := tDT X.K M p) (te := tD X.K M f) O hj (sw_local hsc hB) hi hg hq he (sw_of hsc hB hbk) hs).weak fun D σ H ⟨S, ρ, o, hs, e, q⟩ => by
    unfold sTake at e
    split at e
    · rename_i hz
      obtain ⟨d, e1, e⟩ := ob_some e
      cases e
      exact tFcomp gi σ H _ ⟨S, ρ, d, hs.ds, e1, fun p H1 g1 n o => q _ H1 _ (hs.take n g1 o hM hL hz)⟩
    · cases e
theorem pds_comp (j : Nat) {y : Str} {py spos : Pos} (O : CompOk X N' 1 sc) (hx : N'[n]? = some x) (hl : lc1 sc x = true) (sc₀ : Scope) (hsc : X.env.scope = sc₀) (hB : swB sc₀ sc y py pos = true) (hM : Out0 M j) (hL : j ∉ L) (hi : PDI X M (.Name x px) iter fi) (hq : ∀ cl C fp pins s H, PDTs (compCx X N' sc cl C fp pins s H) M ifs p) (he : ∀ cl C fp pins s H, PD (compCx X N' sc cl C fp pins s H) M elt f)
    (hj : X.N[j]? = some y := by rfl) (hbk : X.env.blockKind = .function := by rfl)
    (hs : ∀ v, foldedSetIterable iter X.env v = pure v := by intro _; rfl) : PDS X G M L (j :: M) Mb fr (.Assign [.Name y py] (.ListComp elt [⟨.Name x px, iter, ifs, 0⟩] sc pos) spos) (sTake j (compR n fi p f)) := by
  rw [compG_name]
  exact pds_compG j O (gin_name (Nat.le_refl _)) sc₀ hsc hB hM hL hi (pg_comp O hx hl) hq he hj hbk hs
end
end L2
namespace L2
open PySem PySem.Spec PyProof.Rows
/-! ### comprehensions: the names, decided -/
def compOkB (N N' : List Str) (k : Nat) (sc₀ sc : Scope) : Bool :=
  decide (sc.kind = .function) && decide N.Nodup && decide N'.Nodup && decide (N'.length = N.length + k) && sc.names.all (fun y => decide (y.2 ≠ .cell) || decide (sc.names.lookup y.1 = some .cell)) && sc.names.all (fun y => decide (y.2 ≠ .local) || decide (sc.names.lookup y.1 = some .local)) &&
  (N.zip N').all (fun y => (decide (y.1 = y.2) && (decide (sc.names.lookup y.2 ≠ some .local) && decide (sc.names.lookup y.2 ≠ some .cell))) || decide (sc.names.lookup y.2 = none)) &&
  sc.names.all (fun y => decide (y.2 ≠ .free) || decide (sc₀.names.lookup y.1 = some .cell) || decide (sc₀.names.lookup y.1 = some .free))
theorem CompOk.of {X : Cx} {sc : Scope} {k : Nat} (N N' : List Str) (sc₀ : Scope) (hc : X.calm = true) (hN : X.N = N) (hs : X.env.scope = sc₀) (h : compOkB N N' k sc₀ sc = true) : CompOk X N' k sc := by
  subst hN
  subst hs
  unfold compOkB at h
  simp only [Bool.and_eq_true, decide_eq_true_eq, List.all_eq_true, Bool.or_eq_true] at h
  obtain ⟨⟨⟨⟨⟨⟨⟨h1, h2⟩, h2'⟩, h2l⟩, h3⟩, h4⟩, h7⟩, h8⟩ := h
  refine ⟨hc, h1, h2, h2', h2l, fun y hy q => (h3 y hy).resolve_left (fun z => z q), fun y hy q => (h4 y hy).resolve_left (fun z => z q), fun i y hi e => ?_, fun y hy q => ?_⟩
  · have hz : (X.N.zip N')[i]? = some (X.N[i], y) := by
      rw [List.getElem?_zip_eq_some]
      exact ⟨List.getElem?_eq_getElem hi, e⟩
    rcases h7 _ (List.mem_of_getElem? hz) with ⟨q, w⟩ | q
    · refine .inl ⟨?_, w⟩
      rw [List.getElem?_eq_getElem hi]
      exact congrArg some q
    · exact .inr q
  · rcases h8 y hy with (z | z) | z
    · exact absurd q z
    · exact .inl z
    · exact .inr z
/-! ### the script's ints -/
theorem weight_mem : ∀ {ns : List Int} {n : Int}, n ∈ ns → PySem.W.WData.weight (.int n) ≤ PySem.W.WData.weightAll (ns.map .int)
  | m :: ns, n, h => by
    rw [List.map_cons, PySem.W.WData.weightAll]
    rcases List.mem_cons.mp h with rfl | h
    · omega
    · have := weight_mem h
      omega
theorem bits_of_script {ns : List Int} (h : PySem.W.WData.layableAll [.list (ns.map .int)] = true) : ∀ n ∈ ns, Builtin.Int.intBits n ≤ 2 ^ 20 := by
  intro n hn
  have h1 : PySem.W.WData.layable (.list (ns.map .int)) = true := by
    unfold PySem.W.WData.layableAll at h
    simpa using h
  unfold PySem.W.WData.layable at h1
  rw [Bool.and_eq_true] at h1
  have h2 := of_decide_eq_true h1.2
  rw [PySem.W.WData.weight] at h2
  have h3 := Nat.le_trans (weight_mem hn) h2
  rw [PySem.W.WData.weight] at h3
  exact h3
end L2
namespace Att
open PySem PySem.W PySem.Calls PyProof.Rows
theorem attach_callB {l : OpenLaw} {n : Nat} {q : Program} {loose : List Str} {XP : (Str → Option Value) → Heap → Prop} {YP : World → Heap → Prop} {d : DefRec}
    (hn : l.most = some n) (hdf : d.params.defaults = [])
    (call : ∀ (w : World) (s₀ s₁ : Shared) (mg mb : Str → Option Value) (fa : Addr) (o : Obj) (pm cd doc : Value) (a : Addr) (vs : List Value) (ns : List Int),
      Ground q loose [] XP w s₀ mg mb s₁.heap → YP w s₁.heap →
      s₁.heap.get? fa = some o → o.data = .func (docDef d.name d.params d.body d.scope pm cd doc) → s₁.heap.CodeRec cd d.name → mg d.name = some (.ref fa) →
      s₁.heap.get? a = some { cls := .type "list", data := .seq vs.toArray } → IntsAre vs ns → ns.length ≤ n → (∀ k ∈ ns, Builtin.Int.intBits k ≤ 2 ^ 20) → s₁.gens = #[] →
      codeAny (model l.prog w) callerA (.call (.ref fa) ⟨[.ref a], []⟩) (fun r s' => r = .ok (.ret (.bool true)) ∧ OldK s₁.heap s'.heap ∧ s'.os = s₁.os ∧ AllBare s'.gens) s₁) :
    WalkO q loose XP YP l.row.toRowW d [] (fun f vs => PySem.call f vs) := by
  intro w s₀ s₁ mg mb G Y fa o pm cd doc dV kV ho hd hcd hD hmg hg args vals as hpre hlay hrd hwl hlo
  obtain rfl : dV = .none := Dflts.none hD hdf
  obtain rfl : kV = .none := Dflts.noKw hD
  obtain ⟨a, vs, ns, rfl, rfl, hobj, hints, hlen⟩ := script_of hn hpre hwl
  refine enter_call (codeAny_mono (call w s₀ s₁ mg mb fa o pm cd doc a vs ns G Y ho (fd_plain hd) hcd hmg hobj hints hlen (L2.bits_of_script hlay) hg) fun r s' hq => ?_)
  obtain ⟨rfl, h2, h3, h4⟩ := hq
  exact ⟨.inl ⟨.bool true, .bool true, [], rfl, fun _ => rfl, .bool true, post_true l _, fun _ => ⟨List.Pairwise.nil, fun _ hm => (nomatch hm)⟩⟩, h2, h3, h4⟩
end Att
namespace L2
open PySem PySem.Spec PyProof.Rows
/-- what the law's def promises -/
def spLawT (K : PySem.W.Frag) (n : Nat) : Sp := fun vs H Q _ => ∃ (a : Addr) (ns : List Int), vs = [.ref a] ∧ SqL K H a (ns.map V.int) ∧ ns.length ≤ n ∧ (∀ k ∈ ns, Builtin.Int.intBits k ≤ 2 ^ 20) ∧ ∀ H', Q (.bl true) H'
theorem law_true {P : Program} {w : World} {K : PySem.W.Frag} {mg : Str → Option Value} {base : Heap} {CX : CXT} {k n : Nat} {f : Addr} {fd : FuncData} {ps : List Str} {h : List PyData → Option PyData} (F : FnOk P w K mg base CX k f fd ps (spF K 1 h))
    (e : ∀ ns : List Int, ns.length ≤ n → (∀ k ∈ ns, Builtin.Int.intBits k ≤ 2 ^ 20) → h [.list (ns.map .int)] = some (.bool true)) : FnOk P w K mg base CX k f fd ps (spLawT K n) :=
  F.imp fun vs H Q E ⟨a, ns, h1, h2, h3, h4, q⟩ => by
    subst h1
    exact ⟨fun _ => False, [.list (ns.map .int)], .bool true, (fun _ z => z.elim), .cons (.list (h2.imp (fun y => ⟨y, id⟩) id) (DenL.ints ns)) .nil, rfl, e ns h3 h4, fun v H' _ d => by rw [d.bool_inv]; exact q H'⟩
theorem walk_pure {l : PySem.W.OpenLaw} {n k : Nat} {q : Program} {loose : List Str} {XP : (Str → Option Value) → Heap → Prop} {YP : World → Heap → Prop} {d : DefRec} {K : Params → PySem.W.Frag} {x : Str}
    (hn : l.most = some n) (hn2 : n ≤ sizeLine) (hdf : d.params.defaults = []) (hr : Room k callerA)
    (hY : ∀ (w : World) (h : Heap), YP w h → (K w.params).In h)
    (F : ∀ (w : World) (mg : Str → Option Value) (fa : Addr) (h : Heap), (K w.params).In h → h.Ns mainGlobals mg → mg d.name = some (.ref fa) →
      ∃ fd : FuncData, (∀ (s : Shared) (u : Value), BindsTo s fd ⟨[u], []⟩ [(x, u)]) ∧
        ∀ base : Heap, (K w.params).In base → base.Ns mainGlobals mg → FnOk l.prog w (K w.params) mg base CX0 k fa fd [x] (spLawT (K w.params) n)) :
    PySem.W.WalkO q loose XP YP l.row.toRowW d [] (fun f vs => PySem.call f vs) := by
  refine Att.attach_callB hn hdf fun w s₀ s₁ mg mb fa o pm cd doc a vs ns G Y ho hd hcd hmg hobj hints hlen hbits hg => ?_
  have KX := hY w _ Y
  obtain ⟨fd, hb, hF⟩ := F w mg fa _ KX G.T.g hmg
  exact law_call KX G.T.g G.T.b G.T.builtins G.T.nolimit hg hobj hints (Nat.le_trans hlen hn2) hr hF hb (fun H hO hS => ⟨a, ns, rfl, hS, hlen, hbits, fun _ => rfl⟩) fun H e s' h => h
end L2
namespace L2
open PySem PySem.Spec PyProof.Rows
/-! ### less than, of data: ints, tuples of such -/
mutual
def ltX : PyData → PyData → Option Bool
  | .int i, .int j => some (decide (i < j))
  | .tuple xs, .tuple ys => ltXs xs ys
  | .list xs, .list ys => ltXs xs ys
  | _, _ => none
def ltXs : List PyData → List PyData → Option Bool
  | [], [] => some false
  | [], _ :: _ => some true
  | _ :: _, [] => some false
  | x :: xs, y :: ys => if PyData.eqv x y = true then ltXs xs ys else ltX x y
end
def LtAt (A : Around) (s : Shared) (y x : Value) (b : Bool) : Prop := ∀ (prog : Program) (w : World) (E Q : Value → Shared → Prop), Q (.bool b) s → wpAny (model prog w) A (richCompare .Lt y x) Q E s
def LexAt (A : Around) (s : Shared) : List Value → List Value → Bool → Prop
  | [], [], r => r = false
  | [], _ :: _, r => r = true
  | _ :: _, [], r => r = false
  | y :: ys, x :: xs, r => ∃ e, SeqAt.EqAt A s y x e ∧ (e = true → LexAt A s ys xs r) ∧ (e = false → LtAt A s y x r)
section
open PySem.SeqAt
open PySem.AutoSeq1 (wpAny_loadPart')
open PySem.MeetsSeq PySem.MeetsSeq2 PySem.MeetsSeq3
theorem tuple_lt_lex (l b : Addr) (items items2 : Array Value) (n n2 : Nat) (dd dd2 : Option Addr) (sl sl2 : Array (Option Value)) :
    Meets (Builtin.«tuple.__lt__» ⟨[.ref l, .ref b], []⟩)
      (fun A R s => s.heap.get? l = some { cls := .type "tuple", dict := dd, data := .seq items n, slots := sl } ∧ s.heap.get? b = some { cls := .type "tuple", dict := dd2, data := .seq items2 n2, slots := sl2 } ∧
        ∃ r, LexAt A.in1 s items.toList items2.toList r ∧ R (.ok (.ret (.bool r))) s) :=
  .of_wp fun prog w A R s h => by
    obtain ⟨hp, g, d, tk, os⟩ := s; obtain ⟨hl, hb, r, hx, h⟩ := h
    have f2 := AutoSeq1.sub_tuple_tuple
    wp_walk using wpAny_loadPart' hl, wpAny_loadPart' hb, wpAny_forIn_list _ (fun rest b s' => b.1 = none ∧ s' = ⟨hp, g, d, tk, os⟩ ∧ ∃ (vs ws : List Value), rest = vs.zip ws ∧
      LexAt A.in1 ⟨hp, g, d, tk, os⟩ vs ws r ∧ vs.length + items2.size = ws.length + items.size) _
    case turn =>
      rintro ⟨y, x⟩ rest b s' ⟨hb', rfl, vs, ws, hz, hlx, hlen⟩
      cases vs with
      | nil => rw [List.zip_nil_left] at hz; cases hz
      | cons v vs =>
        cases ws with
        | nil => rw [List.zip_nil_right] at hz; cases hz
        | cons u ws =>
          rw [List.zip_cons_cons] at hz
          injection hz with hyx hrest
          injection hyx with hy hx'
          subst hy hx'
          simp only [List.length_cons] at hlen
          obtain ⟨e, he, h1, h2⟩ := hlx
          refine wpAny_bind (he prog w _ _ ?_)
          cases e with
          | true =>
            wp_walk
            exact ⟨rfl, rfl, _, _, hrest, h1 rfl, by omega⟩
          | false =>
            have hri := h2 rfl prog w
            wp_walk using hri
            exact ⟨_, rfl, by simpa using h⟩
    case fin =>
      rintro ⟨b1, b2⟩ s' ⟨hb', rfl, vs, ws, hz, hlx, hlen⟩
      simp only at hb'
      subst hb'
      have hv : r = decide (items.size < items2.size) := by
        cases vs with
        | nil =>
          cases ws with
          | nil =>
            simp only [List.length_nil] at hlen
            rw [show r = false from hlx]
            exact (decide_eq_false (by omega)).symm
          | cons c hw =>
            simp only [List.length_nil, List.length_cons] at hlen
            rw [show r = true from hlx]
            exact (decide_eq_true (by omega)).symm
        | cons a hv =>
          cases ws with
          | nil =>
            simp only [List.length_nil, List.length_cons] at hlen
            rw [show r = false from hlx]
            exact (decide_eq_false (by omega)).symm
          | cons c hw =>
            rw [List.zip_cons_cons] at hz
            cases hz
      rw [hv] at h
      wp_walk
      exact ⟨_, rfl, by simpa [Builtin.Tuple.tupleCompareSizes] using h⟩
    case h =>
      exact ⟨rfl, rfl, items.toList, items2.toList, rfl, hx, by simp [Nat.add_comm]⟩
end
theorem ltAt_tup {A : Around} {s : Shared} {l b : Addr} {items items2 : Array Value} {r : Bool} (hl : IsTup s.heap l items) (hb : IsTup s.heap b items2) (hu : A.units < cLine) (h : LexAt A.in1 s items.toList items2.toList r) : LtAt A s (.ref l) (.ref b) r := fun prog w E Q q => by
  obtain ⟨⟨cls, dd, data, sl⟩, ho, hc, n, hd⟩ := id hl
  obtain ⟨⟨cls2, dd2, data2, sl2⟩, ho2, hc2, n2, hd2⟩ := id hb
  simp only at hc hd hc2 hd2
  subst hc hd hc2 hd2
  exact richCompare_meets_room (op := .Lt) ⟨_, ho, rfl⟩ ⟨_, ho2, rfl⟩ PySem.F.slot_tuple_lt PySem.F.entry_tuple_lt (PySem.F.args_tuple_lt_2 _ _) (tuple_lt_lex l b items items2 n n2 dd dd2 sl sl2)
    ⟨ho, ho2, r, h, show Value.bool r ≠ Value.notImplemented ∧ Q (.bool r) s from ⟨(fun x => nomatch x), q⟩⟩ hu
section
open PySem.SeqAt
open PySem.AutoSeq1 (wpAny_loadPart')
open PySem.MeetsSeq PySem.MeetsSeq2 PySem.MeetsSeq3
theorem list_lt_loop (l b : Addr) (xs ys : Array Value) (n n2 : Nat) (dd dd2 : Option Addr) (sl sl2 : Array (Option Value)) : ∀ (k i : Nat), xs.size = i + k → i ≤ ys.size → Meets (Builtin.«list.__eq__.loop» ⟨[.ref l, .ref b, rawInt i, rawInt 0], []⟩)
      (fun A R s => s.heap.get? l = some ⟨.type "list", dd, .seq xs n, sl⟩ ∧ s.heap.get? b = some ⟨.type "list", dd2, .seq ys n2, sl2⟩ ∧ ∃ r, LexAt A.in1 s (xs.toList.drop i) (ys.toList.drop i) r ∧ R (.ok (.ret (.bool r))) s) := by
  intro k
  induction k with
  | zero =>
    intro i hx hy prog w A R s ⟨hl, hb, r, hq, hR⟩
    obtain ⟨hp, g, d, tk, os⟩ := s
    have e1 : xs.toList.drop i = [] := List.drop_eq_nil_of_le (by rw [Array.length_toList]; omega)
    have e2 : xs[((i : Nat) : Int).toNat]? = none := by rw [Int.toNat_natCast]; exact Array.getElem?_eq_none (by omega)
    rw [e1] at hq
    have hr : r = decide (xs.size < ys.size) := by
      by_cases h : i < ys.size
      · have e3 : ys.toList.drop i = ys[i] :: ys.toList.drop (i + 1) := by rw [List.drop_eq_getElem_cons (by rw [Array.length_toList]; exact h), Array.getElem_toList]
        rw [e3] at hq
        rw [show r = true from hq]; exact (decide_eq_true (by omega)).symm
      · rw [List.drop_eq_nil_of_le (by rw [Array.length_toList]; omega)] at hq
        rw [show r = false from hq]; exact (decide_eq_false (by omega)).symm
    rw [hr] at hR
    wp_walk using wpAny_loadPart' hl, wpAny_loadPart' hb
    rw [e2]
    wp_walk using wpAny_loadPart' hl, wpAny_loadPart' hb
    exact hR
  | succ k ih =>
    intro i hx hy prog w A R s ⟨hl, hb, r, hq, hR⟩
    obtain ⟨hp, g, d, tk, os⟩ := s
    have h1 : i < xs.size := by omega
    have e1 : xs.toList.drop i = xs[i] :: xs.toList.drop (i + 1) := by rw [List.drop_eq_getElem_cons (by rw [Array.length_toList]; exact h1), Array.getElem_toList]
    have e2 : xs[((i : Nat) : Int).toNat]? = some xs[i] := by rw [Int.toNat_natCast]; exact Array.getElem?_eq_getElem h1
    rw [e1] at hq
    wp_walk using wpAny_loadPart' hl, wpAny_loadPart' hb
    by_cases h2 : i < ys.size
    · have e3 : ys.toList.drop i = ys[i] :: ys.toList.drop (i + 1) := by rw [List.drop_eq_getElem_cons (by rw [Array.length_toList]; exact h2), Array.getElem_toList]
      have e4 : ys[((i : Nat) : Int).toNat]? = some ys[i] := by rw [Int.toNat_natCast]; exact Array.getElem?_eq_getElem h2
      rw [e3] at hq
      obtain ⟨e, he, q1, q2⟩ := hq
      rw [e2, e4]
      refine wpAny_bind (he prog w _ _ ?_)
      cases e with
      | true =>
        wp_walk
        refine ⟨plainId_quiet plain_eq_loop _, codeAny_builtin entry_eq_loop ?_⟩
        rw [Around.under_plainId plain_eq_loop _]
        exact ih (i + 1) (by omega) h2 prog w A R _ ⟨hl, hb, r, q1 rfl, hR⟩
      | false =>
        wp_walk using wpAny_loadPart' hl, wpAny_loadPart' hb
        rw [e2, e4]
        have hri := q2 rfl prog w
        wp_walk using hri
        exact hR
    · rw [List.drop_eq_nil_of_le (as := ys.toList) (by rw [Array.length_toList]; omega)] at hq
      have e4 : ys[((i : Nat) : Int).toNat]? = none := by rw [Int.toNat_natCast]; exact Array.getElem?_eq_none (by omega)
      have hr : r = decide (xs.size < ys.size) := by rw [show r = false from hq]; exact (decide_eq_false (by omega)).symm
      rw [hr] at hR
      rw [e2, e4]
      wp_walk using wpAny_loadPart' hl, wpAny_loadPart' hb
      exact hR
theorem list_lt_lex (l b : Addr) (xs ys : Array Value) (n n2 : Nat) (dd dd2 : Option Addr) (sl sl2 : Array (Option Value)) : Meets (Builtin.«list.__lt__» ⟨[.ref l, .ref b], []⟩)
      (fun A R s => s.heap.get? l = some ⟨.type "list", dd, .seq xs n, sl⟩ ∧ s.heap.get? b = some ⟨.type "list", dd2, .seq ys n2, sl2⟩ ∧ ∃ r, LexAt A.in1 s xs.toList ys.toList r ∧ R (.ok (.ret (.bool r))) s) := by
  intro prog w A R s ⟨hl, hb, r, hq, hR⟩
  obtain ⟨hp, g, d, tk, os⟩ := s
  have f3 := AutoSeq1.sub_list_list
  wp_walk using wpAny_loadPart' hl, wpAny_loadPart' hb
  refine ⟨plainId_quiet plain_eq_loop _, codeAny_builtin entry_eq_loop ?_⟩
  rw [Around.under_plainId plain_eq_loop _]
  exact list_lt_loop l b xs ys n n2 dd dd2 sl sl2 xs.size 0 (Nat.zero_add _).symm (Nat.zero_le _) prog w A R _ ⟨hl, hb, r, hq, hR⟩
end
theorem ltAt_list {A : Around} {s : Shared} {l b : Addr} {o o2 : Obj} {xs ys : Array Value} {n n2 : Nat} {r : Bool} (h1 : s.heap.get? l = some o) (c1 : o.cls = .type "list") (d1 : o.data = .seq xs n) (h2 : s.heap.get? b = some o2) (c2 : o2.cls = .type "list") (d2 : o2.data = .seq ys n2) (hu : A.units < cLine) (h : LexAt A.in1 s xs.toList ys.toList r) : LtAt A s (.ref l) (.ref b) r := fun prog w E Q q => by
  obtain ⟨cls, dd, data, sl⟩ := o
  obtain ⟨cls2, dd2, data2, sl2⟩ := o2
  simp only at c1 d1 c2 d2
  subst c1 d1 c2 d2
  exact richCompare_meets_room (op := .Lt) ⟨_, h1, rfl⟩ ⟨_, h2, rfl⟩ PySem.F.slot_list_lt PySem.F.entry_list_lt (PySem.F.args_list_lt_2 _ _) (list_lt_lex l b xs ys n n2 dd dd2 sl sl2)
    ⟨h1, h2, r, h, show Value.bool r ≠ Value.notImplemented ∧ Q (.bool r) s from ⟨(fun x => nomatch x), q⟩⟩ hu
theorem lexAt_reads {A : Around} {s : Shared} {m : Nat} (hu : A.units + m + 1 < cLine) (hit : ∀ (x y : PyData) (a b : Value) (as bs : List Addr) (r : Bool), x.depth ≤ m → Reads s.heap a x as → Reads s.heap b y bs → x.canLay0 = true → y.canLay0 = true → ltX x y = some r → LtAt A s a b r) :
    ∀ (xs ys : List PyData) (vs ws : List Value) (as bs : List Addr) (r : Bool), PyData.depthAll xs ≤ m → ReadsAll s.heap vs xs as → ReadsAll s.heap ws ys bs → PyData.canLayAll0 xs = true → PyData.canLayAll0 ys = true → ltXs xs ys = some r → LexAt A s vs ws r := by
  intro xs
  induction xs with
  | nil =>
    intro ys vs ws as bs r _ h1 h2 _ _ e
    cases h1
    cases ys with
    | nil => cases h2; rw [ltXs] at e; cases e; rfl
    | cons y ys => cases h2; rw [ltXs] at e; cases e; rfl
  | cons x xs ih =>
    intro ys vs ws as bs r hm h1 h2 c1 c2 e
    cases h1 with
    | cons rx rxs =>
      cases ys with
      | nil => cases h2; rw [ltXs] at e; cases e; rfl
      | cons y ys =>
        cases h2 with
        | cons ry rys =>
          have c1' : x.canLay0 = true ∧ PyData.canLayAll0 xs = true := by simpa [PyData.canLayAll0] using c1
          have c2' : y.canLay0 = true ∧ PyData.canLayAll0 ys = true := by simpa [PyData.canLayAll0] using c2
          have hd : max x.depth (PyData.depthAll xs) ≤ m := by rw [PyData.depthAll] at hm; exact hm
          have m1 := Nat.le_trans (Nat.le_max_left x.depth (PyData.depthAll xs)) hd
          have m2 := Nat.le_trans (Nat.le_max_right x.depth (PyData.depthAll xs)) hd
          rw [ltXs] at e
          refine ⟨PyData.eqv x y, SeqAt.eqAt_reads x y A s _ _ _ _ rx ry c1'.1 c2'.1 (by have := Nat.min_le_left x.depth y.depth; omega), fun q => ?_, fun q => ?_⟩
          · rw [if_pos q] at e
            exact ih ys _ _ _ _ r m2 rxs rys c1'.2 c2'.2 e
          · rw [if_neg (by rw [q]; exact Bool.false_ne_true)] at e
            exact hit x y _ _ _ _ r m1 rx ry c1'.1 c2'.1 e
theorem ltAt_reads : ∀ (n : Nat) (da db : PyData) (A : Around) (s : Shared) (a b : Value) (as bs : List Addr) (r : Bool), da.depth ≤ n → Reads s.heap a da as → Reads s.heap b db bs → da.canLay0 = true → db.canLay0 = true → A.units + n + 1 < cLine → ltX da db = some r → LtAt A s a b r := by
  intro n
  induction n with
  | zero =>
    intro da db A s a b as bs r hd ra rb ca cb hu e
    cases da with
    | int i =>
      cases db with
      | int j =>
        cases ra; cases rb
        rw [ltX] at e
        cases e
        exact fun prog w E Q q => HT.rcLt_int A s i _ j _ prog w E Q q
      | _ => simp [ltX] at e
    | tuple xs =>
      rw [PyData.depth] at hd
      omega
    | list xs =>
      rw [PyData.depth] at hd
      omega
    | _ => simp [ltX] at e
  | succ n ih =>
    intro da db A s a b as bs r hd ra rb ca cb hu e
    cases da with
    | int i =>
      cases db with
      | int j =>
        cases ra; cases rb
        rw [ltX] at e
        cases e
        exact fun prog w E Q q => HT.rcLt_int A s i _ j _ prog w E Q q
      | _ => simp [ltX] at e
    | tuple xs =>
      cases db with
      | tuple ys =>
        rw [PyData.depth] at hd
        rw [ltX] at e
        cases ra with
        | tuple e1 c1 d1 t1 =>
          cases rb with
          | tuple e2 c2 d2 t2 =>
            refine ltAt_tup ⟨_, e1, c1, _, d1⟩ ⟨_, e2, c2, _, d2⟩ (by omega) ?_
            exact lexAt_reads (m := n) (by show A.units + 1 + n + 1 < cLine; omega) (fun x y a b as bs r hx r1 r2 k1 k2 e => ih x y A.in1 s a b as bs r hx r1 r2 k1 k2 (by show A.units + 1 + n + 1 < cLine; omega) e)
              xs ys _ _ _ _ r (by omega) t1 t2 (by simpa [PyData.canLay0] using ca) (by simpa [PyData.canLay0] using cb) e
      | _ => simp [ltX] at e
    | list xs =>
      cases db with
      | list ys =>
        rw [PyData.depth] at hd
        rw [ltX] at e
        cases ra with
        | list e1 c1 d1 t1 =>
          cases rb with
          | list e2 c2 d2 t2 =>
            refine ltAt_list e1 c1 d1 e2 c2 d2 (by omega) ?_
            exact lexAt_reads (m := n) (by show A.units + 1 + n + 1 < cLine; omega) (fun x y a b as bs r hx r1 r2 k1 k2 e => ih x y A.in1 s a b as bs r hx r1 r2 k1 k2 (by show A.units + 1 + n + 1 < cLine; omega) e)
              xs ys _ _ _ _ r (by omega) t1 t2 (by simpa [PyData.canLay0] using ca) (by simpa [PyData.canLay0] using cb) e
      | _ => simp [ltX] at e
    | _ => simp [ltX] at e
def ltD2 (x y : PyData) : Option PyData := if SeqAt.shaped x = true ∧ SeqAt.shaped y = true ∧ x.depth ≤ 60 then ob (ltX x y) fun r => some (.bool r) else none
theorem d_lt2 {X : Cx} {k : Nat} (hr : Room k X.A) : OpD X (compareOp .Lt) ltD2 := by
  intro pins s σ H x y v u Q I rx ry ⟨S, dx, dy, d, m, h1, h2, e, q⟩
  unfold ltD2 at e
  split at e
  · rename_i hc
    obtain ⟨as, q1⟩ := h1.reads I (SeqAt.canLay_of_shaped hc.1) rx
    obtain ⟨bs, q2⟩ := h2.reads I (SeqAt.canLay_of_shaped hc.2.1) ry
    obtain ⟨r, e1, e⟩ := ob_some e
    cases e
    have hu := hr.units
    exact ltAt_reads 60 dx dy X.A s v u as bs r hc.2.2 q1 q2 (SeqAt.canLay_of_shaped hc.1) (SeqAt.canLay_of_shaped hc.2.1) (by omega) e1 X.prog X.w X.xe _ (fin_bl I (q _ H (Same.refl H) (.bool r)) rfl)
  · cases e
end L2
namespace L2
open PySem PySem.Spec PyProof.Rows PySem.W
/-! ### sorted, of data -/
/-- a run of the asking tree, by a given answer -/
def runC {α : Type} (lt : Nat → Nat → Option Bool) : KasT α → Option α
  | .ret a => some a
  | .ask i j k => ob (lt i j) fun b => runC lt (k b)
section
variable {prog : Program} {w : World} {A : Around} {E : Value → Shared → Prop} {s : Shared}
end
end L2
namespace L2
open PySem PySem.Spec PyProof.Rows PySem.W
def ltAtD (ds : List PyData) (i j : Nat) : Option Bool := match ds[i]?, ds[j]? with
  | some x, some y => ltX x y
  | _, _ => none
/-- the kind of a key: 0 a tuple that begins with an int, 1 one that begins with a tuple, 2 an int -/
def keyD : PyData → Nat
  | .tuple (.int _ :: _) => 0
  | .tuple (.tuple _ :: _) => 1
  | .int _ => 2
  | _ => 3
def pickD (ds : List PyData) (p : Array Nat) : Option PyData := if (p.toList.all fun i => decide (i < ds.length)) = true ∧ p.toList.length ≤ 1000 then some (.list (p.toList.map fun i => ds.getD i .none)) else none
def sortOk (k : Nat) (ds : List PyData) : Bool := (ds.all fun d => keyD d == k) && (decide (2 ≤ ds.length) && (decide (ds.length < 64) && (PyData.canLayAll0 ds && decide (PyData.depthAll ds ≤ 50))))
def sortedD : List PyData → Option PyData
  | [.list ds] => if ds.length < 2 then some (.list ds) else if sortOk 0 ds = true ∨ sortOk 1 ds = true then ob (runC (ltAtD ds) (kas_sort ds.length)) fun p => pickD ds p else none
  | _ => none
section
variable {prog : Program} {w : World} {A : Around} {s : Shared}
end
end L2
namespace L2
open PySem PySem.Spec PyProof.Rows PySem.W
section
variable {h h' : Heap}
end
theorem getD_some {α : Type} {xs : List α} {i : Nat} {x d : α} (e : xs[i]? = some x) : xs.getD i d = x := by rw [List.getD_eq_getElem?_getD, e]; rfl
end L2
namespace L2
open PySem PySem.Spec PyProof.Rows
/-! ### a name of the module's top that holds plain data -/
end L2
namespace L2
open PySem
end L2
namespace L2
open PySem PySem.Spec PyProof.Rows
/-! ### evaluation, and sizes -/
theorem ob_s {α β : Type} (x : α) (f : α → Option β) : ob (some x) f = f x := rfl
theorem vr_z (o : Option PyData) (ρ : Rho) : vr 0 (o :: ρ) = o := rfl
theorem vr_s (n : Nat) (o : Option PyData) (ρ : Rho) : vr (n + 1) (o :: ρ) = vr n ρ := rfl
theorem atI0 {α : Type} (x : α) (xs : List α) : atI (x :: xs) 0 = some x := by simp [atI, ixN]
theorem atI_succ {α : Type} (x : α) (xs : List α) (k : Nat) : atI (x :: xs) ((k : Int) + 1) = atI xs (k : Int) := by
  unfold atI ixN
  have h1 : (0 : Int) ≤ (k : Int) + 1 := by omega
  have h2 : (0 : Int) ≤ (k : Int) := by omega
  rw [if_pos h1, if_pos h2]
  by_cases h : (k : Int) < xs.length
  · have h' : (k : Int) + 1 < ((x :: xs).length : Int) := by rw [List.length_cons]; omega
    rw [if_pos h, if_pos h']
    have e1 : ((k : Int) + 1).toNat = k + 1 := by omega
    have e2 : (k : Int).toNat = k := by omega
    rw [e1, e2]
    rfl
  · have h' : ¬ (k : Int) + 1 < ((x :: xs).length : Int) := by rw [List.length_cons]; omega
    rw [if_neg h, if_neg h']
    rfl
theorem atI1 {α : Type} (x y : α) (xs : List α) : atI (x :: y :: xs) 1 = some y := (atI_succ x (y :: xs) 0).trans (atI0 y xs)
theorem atI2 {α : Type} (x y z : α) (xs : List α) : atI (x :: y :: z :: xs) 2 = some z := (atI_succ x (y :: z :: xs) 1).trans (atI1 y z xs)
theorem atI3 {α : Type} (x y z a : α) (xs : List α) : atI (x :: y :: z :: a :: xs) 3 = some a := (atI_succ x (y :: z :: a :: xs) 2).trans (atI2 y z a xs)
theorem atI4 {α : Type} (x y z a b : α) (xs : List α) : atI (x :: y :: z :: a :: b :: xs) 4 = some b := (atI_succ x (y :: z :: a :: b :: xs) 3).trans (atI3 y z a b xs)
theorem atI5 {α : Type} (x y z a b c : α) (xs : List α) : atI (x :: y :: z :: a :: b :: c :: xs) 5 = some c := (atI_succ x (y :: z :: a :: b :: c :: xs) 4).trans (atI4 y z a b c xs)
theorem mulD_ok {i j : Int} (h : IntMulOk i j) : mulD (.int i) (.int j) = some (.int (i * j)) := by
  show (if IntMulOk i j then some (PyData.int (i * j)) else none) = _
  rw [if_pos h]
/-- the size of an int -/
def Bd (n : Nat) (i : Int) : Prop := Builtin.Int.intBits i ≤ n
theorem Bd.ok {n m : Nat} {i j : Int} (h : Bd n i) (g : Bd m j) (e : n + m ≤ 134217728 := by decide) : IntMulOk i j := IntMulOk.of_le h g e
theorem Bd.mul {n m : Nat} {i j : Int} (h : Bd n i) (g : Bd m j) : Bd (n + m) (i * j) := intBits_mul_le h g
theorem Bd.sub {n m : Nat} {i j : Int} (h : Bd n i) (g : Bd m j) : Bd (max n m + 1) (i - j) := intBits_sub_le h g
theorem Bd.neg {n : Nat} {i : Int} (h : Bd n i) : Bd n (-i) := intBits_neg_le h
theorem Bd.mono {n m : Nat} {i : Int} (h : Bd n i) (e : n ≤ m := by decide) : Bd m i := Nat.le_trans h e
theorem Bd.of {n : Nat} {i : Int} (h : i.natAbs < 2 ^ n) : Bd n i := intBits_le_iff.mpr h
theorem natLit (n : Nat) : ((no_index (OfNat.ofNat n) : Nat) : Int) = (OfNat.ofNat n : Int) := rfl
theorem eqD_int (i j : Int) : eqD (.int i) (.int j) = some (.bool (i == j)) := rfl
theorem neD_int (i j : Int) : neD (.int i) (.int j) = some (.bool (!(i == j))) := rfl
theorem pow_a : powD (.int 7919) (.int 8) = some (.int (7919 ^ 8)) := rfl
theorem pow_b : powD (.int 10) (.int 30) = some (.int (10 ^ 30)) := rfl
theorem mod_pos (i : Int) {j : Int} (h : 0 < j) : modD (.int i) (.int j) = some (.int (i % j)) := by
  show (if 0 < j then some (PyData.int (i % j)) else none) = _
  rw [if_pos h]
theorem fdiv_pos (i : Int) {j : Int} (h : 0 < j) (h2 : j < 1073741824) : fdivD (.int i) (.int j) = some (.int (i / j)) := by
  show (if CDiv i j then some (PyData.int (i / j)) else none) = _
  rw [if_pos ⟨h, h2⟩]
/-! evaluation, head first: what stands behind is not looked at ahead of time -/
def bindO (o : Option Out) (w : Rho → Option Out) : Option Out := match o with | some (.nx ρ') => w ρ' | o => o
theorem seqO_b (u w : Rho → Option Out) (ρ : Rho) : seqO u w ρ = bindO (u ρ) w := by
  unfold seqO ob bindO
  cases u ρ with
  | none => rfl
  | some o => cases o <;> rfl
theorem bindO_nx (ρ : Rho) (w : Rho → Option Out) : bindO (some (.nx ρ)) w = w ρ := rfl
theorem bindO_rt (d : PyData) (w : Rho → Option Out) : bindO (some (.rt d)) w = some (.rt d) := rfl
theorem bindO_bk (ρ : Rho) (w : Rho → Option Out) : bindO (some (.bk ρ)) w = some (.bk ρ) := rfl
theorem bindO_ct (ρ : Rho) (w : Rho → Option Out) : bindO (some (.ct ρ)) w = some (.ct ρ) := rfl
def ifO {α : Type} (b : Option Bool) (u w : Rho → Option α) (ρ : Rho) : Option α := match b with | some true => u ρ | some false => w ρ | none => none
theorem ifO_t {α : Type} (u w : Rho → Option α) (ρ : Rho) : ifO (some true) u w ρ = u ρ := rfl
theorem ifO_f {α : Type} (u w : Rho → Option α) (ρ : Rho) : ifO (some false) u w ρ = w ρ := rfl
theorem sIf_b (p : Rho → Option Bool) (u w : Rho → Option Out) (ρ : Rho) : sIf p u w ρ = ifO (p ρ) u w ρ := by
  unfold sIf ob ifO
  cases p ρ with
  | none => rfl
  | some b => cases b <;> rfl
theorem vIf_b (p : Rho → Option Bool) (u w : Rho → Option PyData) (ρ : Rho) : vIf p u w ρ = ifO (p ρ) u w ρ := by
  unfold vIf ob ifO
  cases p ρ with
  | none => rfl
  | some b => cases b <;> rfl
theorem tA_b (p q : Rho → Option Bool) (ρ : Rho) : tA p q ρ = ifO (p ρ) q (fun _ => some false) ρ := by
  unfold tA ob ifO
  cases p ρ with
  | none => rfl
  | some b => cases b <;> rfl
theorem tO_b (p q : Rho → Option Bool) (ρ : Rho) : tO p q ρ = ifO (p ρ) (fun _ => some true) q ρ := by
  unfold tO ob ifO
  cases p ρ with
  | none => rfl
  | some b => cases b <;> rfl
theorem vA_b (f g : Rho → Option PyData) (ρ : Rho) : vA f g ρ = ifO (ob (f ρ) boolD) g (fun _ => some (.bool false)) ρ := by
  unfold vA ob ifO
  cases f ρ with
  | none => rfl
  | some x =>
    dsimp only
    cases boolD x with
    | none => rfl
    | some b => cases b <;> rfl
theorem vO_b (f g : Rho → Option PyData) (ρ : Rho) : vO f g ρ = ifO (ob (f ρ) boolD) (fun _ => some (.bool true)) g ρ := by
  unfold vO ob ifO
  cases f ρ with
  | none => rfl
  | some x =>
    dsimp only
    cases boolD x with
    | none => rfl
    | some b => cases b <;> rfl
def setO (o : Option PyData) (i : Nat) (ρ : Rho) : Option Out := match o with | some d => some (.nx (ρ.set i (some d))) | none => none
theorem sSet_b (i : Nat) (f : Rho → Option PyData) (ρ : Rho) : sSet i f ρ = setO (f ρ) i ρ := by
  unfold sSet ob setO
  cases f ρ <;> rfl
theorem setO_s (d : PyData) (i : Nat) (ρ : Rho) : setO (some d) i ρ = some (.nx (ρ.set i (some d))) := rfl
def binO (a b : Option PyData) (g : PyData → PyData → Option PyData) : Option PyData := match a, b with | some x, some y => g x y | _, _ => none
theorem ev2_b (fa fb : Rho → Option PyData) (g : PyData → PyData → Option PyData) (ρ : Rho) : ev2 fa fb g ρ = binO (fa ρ) (fb ρ) g := by
  unfold ev2 ob binO
  cases fa ρ <;> cases fb ρ <;> rfl
theorem binO_s (x y : PyData) (g : PyData → PyData → Option PyData) : binO (some x) (some y) g = g x y := rfl
def consO (a : Option PyData) (b : Option (List PyData)) : Option (List PyData) := match a, b with | some x, some xs => some (x :: xs) | _, _ => none
theorem aC_b (fa : Rho → Option PyData) (fs : Rho → Option (List PyData)) (ρ : Rho) : aC fa fs ρ = consO (fa ρ) (fs ρ) := by
  unfold aC ob consO
  cases fa ρ <;> cases fs ρ <;> rfl
theorem consO_s (x : PyData) (xs : List PyData) : consO (some x) (some xs) = some (x :: xs) := rfl
def callO (n : Nat) (a : Option (List PyData)) (h : List PyData → Option PyData) : Option PyData := match a with | some ds => if ds.length = n then h ds else none | none => none
theorem evC_b (n : Nat) (fs : Rho → Option (List PyData)) (h : List PyData → Option PyData) (ρ : Rho) : evC n fs h ρ = callO n (fs ρ) h := by
  unfold evC ob callO
  cases fs ρ <;> rfl
theorem callO_s (n : Nat) (ds : List PyData) (h : List PyData → Option PyData) : callO n (some ds) h = if ds.length = n then h ds else none := rfl
def compO (b : Option Bool) (tt : Rho → Option Bool) (te : Rho → Option PyData) (ρ : Rho) (d : PyData) (ds : List PyData) : Option (List PyData) := match b with | some true => consO (te (ρ ++ [some d])) (compD tt te ρ ds) | some false => compD tt te ρ ds | none => none
theorem compD_c (tt : Rho → Option Bool) (te : Rho → Option PyData) (ρ : Rho) (d : PyData) (ds : List PyData) : compD tt te ρ (d :: ds) = compO (tt (ρ ++ [some d])) tt te ρ d ds := by
  rw [compD]
  unfold ob compO consO
  cases tt (ρ ++ [some d]) with
  | none => rfl
  | some b =>
    cases b with
    | false => rfl
    | true =>
      dsimp only [if_true]
      rw [if_pos rfl]
      cases te (ρ ++ [some d]) <;> cases compD tt te ρ ds <;> rfl
theorem compD_n (tt : Rho → Option Bool) (te : Rho → Option PyData) (ρ : Rho) : compD tt te ρ [] = some [] := rfl
theorem compO_t (tt : Rho → Option Bool) (te : Rho → Option PyData) (ρ : Rho) (d : PyData) (ds : List PyData) : compO (some true) tt te ρ d ds = consO (te (ρ ++ [some d])) (compD tt te ρ ds) := rfl
theorem compO_f (tt : Rho → Option Bool) (te : Rho → Option PyData) (ρ : Rho) (d : PyData) (ds : List PyData) : compO (some false) tt te ρ d ds = compD tt te ρ ds := rfl
def listO (a : Option (List PyData)) : Option PyData := match a with | some ys => some (.list ys) | none => none
def comRO (a : Option (List PyData)) (n : Nat) (tt : Rho → Option Bool) (te : Rho → Option PyData) (ρ : Rho) : Option PyData := match a with | some ds => if ρ.length = n ∧ ds.length ≤ 1000 then listO (compD tt te ρ ds) else none | none => none
theorem compR_b (n : Nat) (fi : Rho → Option (List PyData)) (tt : Rho → Option Bool) (te : Rho → Option PyData) (ρ : Rho) : compR n fi tt te ρ = comRO (fi ρ) n tt te ρ := by
  unfold compR ob comRO listO
  cases fi ρ with
  | none => rfl
  | some ds =>
    dsimp only
    split
    · cases compD tt te ρ ds <;> rfl
    · rfl
theorem comRO_s (ds : List PyData) (n : Nat) (tt : Rho → Option Bool) (te : Rho → Option PyData) (ρ : Rho) : comRO (some ds) n tt te ρ = if ρ.length = n ∧ ds.length ≤ 1000 then listO (compD tt te ρ ds) else none := rfl
theorem listO_s (ds : List PyData) : listO (some ds) = some (.list ds) := rfl
def forI (a : Option (List PyData)) (g : PyData → Rho → Option Rho) (u : Rho → Option Out) (ρ : Rho) : Option Out := match a with | some ds => forD g u ds ρ | none => none
theorem sFor_b (fi : Rho → Option (List PyData)) (g : PyData → Rho → Option Rho) (u : Rho → Option Out) (ρ : Rho) : sFor fi g u ρ = forI (fi ρ) g u ρ := by
  unfold sFor ob forI
  cases fi ρ <;> rfl
theorem forI_s (ds : List PyData) (g : PyData → Rho → Option Rho) (u : Rho → Option Out) (ρ : Rho) : forI (some ds) g u ρ = forD g u ds ρ := rfl
def forO (o : Option Out) (g : PyData → Rho → Option Rho) (u : Rho → Option Out) (ds : List PyData) : Option Out := match o with
  | some (.nx ρ') => forD g u ds ρ'
  | some (.ct ρ') => forD g u ds ρ'
  | some (.bk ρ') => some (.nx ρ')
  | some (.rt r) => some (.rt r)
  | none => none
theorem forD_c (g : PyData → Rho → Option Rho) (u : Rho → Option Out) (d : PyData) (ds : List PyData) (ρ : Rho) : forD g u (d :: ds) ρ = forO (ob (g d ρ) u) g u ds := by
  rw [forD]
  unfold ob forO
  cases g d ρ with
  | none => rfl
  | some ρ1 =>
    dsimp only
    cases u ρ1 with
    | none => rfl
    | some o => cases o <;> rfl
theorem forD_n (g : PyData → Rho → Option Rho) (u : Rho → Option Out) (ρ : Rho) : forD g u [] ρ = some (.nx ρ) := rfl
theorem forO_nx (ρ : Rho) (g : PyData → Rho → Option Rho) (u : Rho → Option Out) (ds : List PyData) : forO (some (.nx ρ)) g u ds = forD g u ds ρ := rfl
theorem forO_ct (ρ : Rho) (g : PyData → Rho → Option Rho) (u : Rho → Option Out) (ds : List PyData) : forO (some (.ct ρ)) g u ds = forD g u ds ρ := rfl
theorem forO_bk (ρ : Rho) (g : PyData → Rho → Option Rho) (u : Rho → Option Out) (ds : List PyData) : forO (some (.bk ρ)) g u ds = some (.nx ρ) := rfl
theorem forO_rt (d : PyData) (g : PyData → Rho → Option Rho) (u : Rho → Option Out) (ds : List PyData) : forO (some (.rt d)) g u ds = some (.rt d) := rfl
def nxO (o : Option Rho) : Option Out := match o with | some ρ => some (.nx ρ) | none => none
def asgO (o : Option PyData) (g : PyData → Rho → Option Rho) (ρ : Rho) : Option Out := match o with | some d => nxO (g d ρ) | none => none
theorem sAsg_b (f : Rho → Option PyData) (g : PyData → Rho → Option Rho) (ρ : Rho) : sAsg f g ρ = asgO (f ρ) g ρ := by
  unfold sAsg ob asgO nxO
  cases f ρ with
  | none => rfl
  | some d => dsimp only; cases g d ρ <;> rfl
theorem asgO_s (d : PyData) (g : PyData → Rho → Option Rho) (ρ : Rho) : asgO (some d) g ρ = nxO (g d ρ) := rfl
theorem nxO_s (ρ : Rho) : nxO (some ρ) = some (.nx ρ) := rfl
def retO (o : Option PyData) : Option Out := match o with | some d => some (.rt d) | none => none
theorem sRet_b (f : Rho → Option PyData) (ρ : Rho) : sRet f ρ = retO (f ρ) := by
  unfold sRet ob retO
  cases f ρ <;> rfl
theorem retO_s (d : PyData) : retO (some d) = some (.rt d) := rfl
theorem gsN_n (ρ : Rho) : gsN [] ρ = some ρ := rfl
theorem gsC_c (g1 : PyData → Rho → Option Rho) (g2 : List PyData → Rho → Option Rho) (d : PyData) (r : List PyData) (ρ : Rho) : gsC g1 g2 (d :: r) ρ = ob (g1 d ρ) (g2 r) := rfl
theorem unpD_t (n : Nat) (g : List PyData → Rho → Option Rho) (ds : List PyData) (ρ : Rho) : unpD n g (.tuple ds) ρ = if ds.length = n then g ds ρ else none := rfl
theorem seqD_l (ds : List PyData) : seqD (.list ds) = some ds := rfl
theorem seqD_t (ds : List PyData) : seqD (.tuple ds) = some ds := rfl
theorem ixD_l (ds : List PyData) (i : Int) : ixD (.list ds) (.int i) = atI ds i := rfl
theorem ixD_t (ds : List PyData) (i : Int) : ixD (.tuple ds) (.int i) = atI ds i := rfl
theorem lenD_l (ds : List PyData) : lenD [.list ds] = some (.int ds.length) := rfl
theorem lenD_t (ds : List PyData) : lenD [.tuple ds] = some (.int ds.length) := rfl
theorem tupleD_l (ds : List PyData) : tupleD [.list ds] = some (.tuple ds) := rfl
theorem tupleD_t (ds : List PyData) : tupleD [.tuple ds] = some (.tuple ds) := rfl
theorem listD_l (ds : List PyData) : listD [.list ds] = some (.list ds) := rfl
theorem listD_t (ds : List PyData) : listD [.tuple ds] = some (.list ds) := rfl
theorem boolD_b (b : Bool) : boolD (.bool b) = some b := rfl
theorem outD_r (d : PyData) : outD (.rt d) = some d := rfl
theorem outD_n (ρ : Rho) : outD (.nx ρ) = some .none := rfl
theorem addD_i (i j : Int) : add2D (.int i) (.int j) = some (.int (i + j)) := rfl
def takO (b : Bool) (o : Option PyData) (i : Nat) (ρ : Rho) : Option Out := match b, o with | true, some d => some (.nx (ρ.set i (some d))) | _, _ => none
theorem sTake_b (i : Nat) (f : Rho → Option PyData) (ρ : Rho) : sTake i f ρ = takO (decide (i < ρ.length)) (f ρ) i ρ := by
  unfold sTake ob takO
  by_cases h : i < ρ.length
  · rw [if_pos h, decide_eq_true h]
    cases f ρ <;> rfl
  · rw [if_neg h, decide_eq_false h]
theorem takO_t (d : PyData) (i : Nat) (ρ : Rho) : takO true (some d) i ρ = some (.nx (ρ.set i (some d))) := rfl
def flaO (o : Option PyData) : Option PyData := match o with | some d => if flat d = true then some d else none | none => none
theorem flatF_b (f : Rho → Option PyData) (ρ : Rho) : flatF f ρ = flaO (f ρ) := by
  unfold flatF ob flaO
  cases f ρ <;> rfl
theorem flaO_s (d : PyData) : flaO (some d) = if flat d = true then some d else none := rfl
def flgO (o : Option PyData) : Option PyData := match o with | some d => if flatO d = true then some d else none | none => none
theorem flatG_b (f : Rho → Option PyData) (ρ : Rho) : flatG f ρ = flgO (f ρ) := by
  unfold flatG ob flgO
  cases f ρ <;> rfl
theorem flgO_s (d : PyData) : flgO (some d) = if flatO d = true then some d else none := rfl
def appO (l d : Option PyData) (i : Nat) (ρ : Rho) : Option Out := match l, d with | some x, some y => setO (appD x y) i ρ | _, _ => none
theorem sApp_b (i : Nat) (f : Rho → Option PyData) (ρ : Rho) : sApp i f ρ = appO (vr i ρ) (f ρ) i ρ := by
  unfold sApp ob appO setO
  cases vr i ρ with
  | none => rfl
  | some x =>
    cases f ρ with
    | none => rfl
    | some y => dsimp only; cases appD x y <;> rfl
theorem appO_s (x y : PyData) (i : Nat) (ρ : Rho) : appO (some x) (some y) i ρ = setO (appD x y) i ρ := rfl
theorem appD_l (ds : List PyData) (d : PyData) : appD (.list ds) d = if ds.length < 1000 then some (.list (ds ++ [d])) else none := rfl
def clrO (l : Option PyData) (i : Nat) (ρ : Rho) : Option Out := match l with | some (.list _) => some (.nx (ρ.set i (some (.list [])))) | _ => none
theorem sClr_b (i : Nat) (ρ : Rho) : sClr i ρ = clrO (vr i ρ) i ρ := by
  unfold sClr ob clrO
  cases vr i ρ with
  | none => rfl
  | some x => cases x <;> rfl
theorem clrO_s (ds : List PyData) (i : Nat) (ρ : Rho) : clrO (some (.list ds)) i ρ = some (.nx (ρ.set i (some (.list [])))) := rfl
theorem outF_r (d : PyData) : outF (.rt d) = some d := rfl
theorem isD_n (x : PyData) : isD x .none = some (.bool (isNone x)) := by cases x <;> rfl
theorem isnD_n (x : PyData) : isnD x .none = some (.bool (!isNone x)) := by cases x <;> rfl
theorem isD_b (b c : Bool) : isD (.bool b) (.bool c) = some (.bool (b == c)) := rfl
theorem isnD_b (b c : Bool) : isnD (.bool b) (.bool c) = some (.bool (!(b == c))) := rfl
def sliO (a : Option PyData) (l h : Option (Option Int)) : Option PyData := match a, l, h with | some x, some l, some h => sliD x l h | _, _, _ => none
theorem evS_b (fa : Rho → Option PyData) (fl fh : Rho → Option (Option Int)) (ρ : Rho) : evS fa fl fh ρ = sliO (fa ρ) (fl ρ) (fh ρ) := by
  unfold evS ob sliO
  cases fa ρ <;> cases fl ρ <;> cases fh ρ <;> rfl
theorem sliO_s (x : PyData) (l h : Option Int) : sliO (some x) (some l) (some h) = sliD x l h := rfl
def prtO (a : Option PyData) : Option (Option Int) := match a with | some (.int i) => some (some i) | _ => none
theorem oS_b (f : Rho → Option PyData) (ρ : Rho) : oS f ρ = prtO (f ρ) := by
  unfold oS ob prtO
  cases f ρ with
  | none => rfl
  | some d => cases d <;> rfl
theorem prtO_s (i : Int) : prtO (some (.int i)) = some (some i) := rfl
theorem subD_i (i j : Int) : subD (.int i) (.int j) = some (.int (i - j)) := rfl
theorem negD_i (i : Int) : negD (.int i) = some (.int (-i)) := rfl
theorem ltD2_i (i j : Int) : ltD2 (.int i) (.int j) = some (.bool (decide (i < j))) := by
  show (if _ then ob (ltX (.int i) (.int j)) _ else none) = _
  rw [if_pos ⟨rfl, rfl, Nat.zero_le 60⟩, ltX]
  rfl
theorem leD_i (i j : Int) : leD (.int i) (.int j) = some (.bool (decide (i ≤ j))) := rfl
theorem gtD_i (i j : Int) : gtD (.int i) (.int j) = some (.bool (decide (j < i))) := rfl
theorem geD_i (i j : Int) : geD (.int i) (.int j) = some (.bool (decide (j ≤ i))) := rfl
theorem isiT_t (T : String) (ds : List PyData) : isiT T (.tuple ds) = (T == "tuple" || T == "object") := rfl
theorem isiT_l (T : String) (ds : List PyData) : isiT T (.list ds) = (T == "list" || T == "object") := rfl
theorem isiT_i (T : String) (i : Int) : isiT T (.int i) = (T == "int" || T == "object") := rfl
theorem isiT_b (T : String) (b : Bool) : isiT T (.bool b) = (T == "bool" || T == "int" || T == "object") := rfl
theorem isiT_s (T : String) (x : Str) : isiT T (.str x) = (T == "str" || T == "object") := rfl
theorem isiT_n (T : String) : isiT T .none = (T == "NoneType" || T == "object") := rfl
theorem rng1D_i (j : Int) : rng1D [.int j] = if -1000 ≤ j ∧ j ≤ 1000 then some (rngL 0 j.toNat) else none := rfl
theorem rng2D_i (i j : Int) : rng2D [.int i, .int j] = if (-1000 ≤ i ∧ i ≤ 1000) ∧ (-1000 ≤ j ∧ j ≤ 1000) then some (rngL i (j - i).toNat) else none := rfl
/-- three numbers -/
def S3 (a b c : Int) : PyData := .tuple [.int a, .int b, .int c]
end L2
namespace L2
open PySem PySem.Spec PyProof.Rows
/-! ### more ways in which one's own list is changed; x += e -/
section
variable {X : Cx} {G : Gm} {M M' Mb L : List Nat} {fr : Fr} {a b c : Expr} {es : List Expr} {f fk g : Rho → Option PyData} {pos : Pos} {u : Rho → Option Out}
theorem DenL.set {K : PySem.W.Frag} {H : Hp} {S : Av} : ∀ {vs : List V} {ds : List PyData} {v : V} {d : PyData} (j : Nat), DenL K H S vs ds → Den K H S v d → DenL K H S (vs.set j v) (ds.set j d)
  | _, _, _, _, _, .nil, _ => .nil
  | _, _, _, _, 0, .cons _ t, q => .cons q t
  | _, _, _, _, j + 1, .cons h t, q => .cons h (t.set j q)
theorem DenL.dropLast {K : PySem.W.Frag} {H : Hp} {S : Av} : ∀ {vs : List V} {ds : List PyData}, DenL K H S vs ds → DenL K H S vs.dropLast ds.dropLast
  | _, _, .nil => .nil
  | _, _, .cons h .nil => .nil
  | _, _, .cons h (.cons h2 t) => .cons h (DenL.dropLast (.cons h2 t))
/-- xs[k] = e -/
def setD : PyData → PyData → PyData → Option PyData
  | .list ds, .int k, d => ob (ixN ds.length k) fun j => some (.list (ds.set j d))
  | _, _, _ => none
def sPut (i : Nat) (fk f : Rho → Option PyData) : Rho → Option Out := fun ρ => ob (f ρ) fun d => ob (vr i ρ) fun l => ob (fk ρ) fun k => ob (setD l k d) fun l' => some (.nx (ρ.set i (some l')))
/-- y = xs.pop() -/
def popD : PyData → Option (PyData × PyData)
  | .list ds => ob (ds[ds.length - 1]?) fun d => some (d, .list ds.dropLast)
  | _ => none
def sPop (i j : Nat) : Rho → Option Out := fun ρ => ob (vr i ρ) fun l => ob (popD l) fun r => some (.nx ((ρ.set i (some r.2)).set j (some r.1)))
theorem popD_some {l : PyData} {r : PyData × PyData} (e : popD l = some r) : ∃ ds d, l = .list ds ∧ ds[ds.length - 1]? = some d ∧ r = (d, .list ds.dropLast) := by
  unfold popD at e
  split at e
  · obtain ⟨d, e1, e⟩ := ob_some e
    cases e
    exact ⟨_, d, rfl, e1, rfl⟩
  · cases e
theorem pds_pop (i j : Nat) {x y : Str} {px py apos cpos : Pos} (hv : Vis X.env.scope x) (hM : Flt M i) (hL : i ∉ L) (hj : j ∉ M) (hN2 : X.N.Nodup) (hy : Loc X.env.scope y) (hN : X.N[i]? = some x := by rfl) (hjN : X.N[j]? = some y := by rfl) (hd : (x == ("__debug__" : Str)) = false := by decide +kernel) (hcd : (x == ("__classdict__" : Str)) = false := by decide +kernel)
    (hf : X.fn y = true ∨ X.env.scope.names.lookup y = some .local := by first | exact .inl rfl | exact .inr rfl | assumption)
    (hbase : attributeBase (.Name x px) "pop" X.env (eval (.Name x px) X.env) = eval (.Name x px) X.env := by rfl)
    (hline : (apos.endLine == cpos.line) = true := by rfl) (hsw : swapsWith (.Call (.Attribute (.Name x px) "pop" apos) [] [] cpos) (some (.Name y py)) pos.line X.env = pure false := by rfl) :
    PDS X G M L M Mb fr (.Assign [.Name y py] (.Call (.Attribute (.Name x px) "pop" apos) [] [] cpos) pos) (sPop i j) :=
  (ps_set hN2 hjN hy (pe_bm0 PySem.F.plainAttrs_list PySem.F.slot_list_pop PySem.F.type_list_pop mt_pop (pe_own i hv hN hd hcd) hbase hline) hsw hf).weak fun D σ H ⟨S, ρ, o, os, e, q⟩ => by
    obtain ⟨l, e1, e⟩ := ob_some e
    obtain ⟨r, e2, e⟩ := ob_some e
    cases e
    obtain ⟨ds, d, rfl, ed, rfl⟩ := popD_some e2
    obtain ⟨pp, a1, b1, c1, n1, w1, _⟩ := os.own i hM _ (vr_some e1)
    cases b1 with
    | @lst xs _ h t =>
      obtain ⟨v, hv1, dv⟩ := t.get ed
      refine ⟨_, a1, .inl ⟨rfl, _, SqL.of h⟩, pp, xs, v, rfl, rfl, h, by rw [t.length]; exact hv1, ?_⟩
      have os2 := os.write hM hL (vr_some e1) a1 (d := .list ds.dropLast) (o := .lst xs.dropLast) rfl (.lst upd_same ((DenL.dropLast t).off os.ds.1 (Off.upd c1)))
      exact q _ _ _ (os2.set (dv.off os.ds.1 (Off.upd c1)) hj)
/-- y = xs.pop(k) -/
def popAtD : PyData → PyData → Option (PyData × PyData)
  | .list ds, .int k => ob (if -1000 ≤ k ∧ k ≤ 1000 then seqIndex? k ds.length else none) fun n => ob (ds[n]?) fun d => some (d, .list (ds.eraseIdx n))
  | _, _ => none
def sPopAt (i j : Nat) (fk : Rho → Option PyData) : Rho → Option Out := fun ρ => ob (vr i ρ) fun l => ob (fk ρ) fun k => ob (popAtD l k) fun r => some (.nx ((ρ.set i (some r.2)).set j (some r.1)))
/-- x += e, x -= e, of ints -/
def sAug (i : Nat) (f : Rho → Option PyData) (h : Int → Int → Int) : Rho → Option Out := fun ρ => ob (vr i ρ) fun x => ob (f ρ) fun y => ob (iiD (fun a b => some (.int (h a b))) x y) fun z => some (.nx (ρ.set i (some z)))
end
end L2
namespace L2
open PySem
/-! evaluation of these, head first -/
def putO (d l k : Option PyData) (i : Nat) (ρ : Rho) : Option Out := match d, l, k with | some d, some l, some k => setO (setD l k d) i ρ | _, _, _ => none
theorem sPut_b (i : Nat) (fk f : Rho → Option PyData) (ρ : Rho) : sPut i fk f ρ = putO (f ρ) (vr i ρ) (fk ρ) i ρ := by
  unfold sPut ob putO setO
  cases f ρ with
  | none => rfl
  | some d =>
    cases vr i ρ with
    | none => rfl
    | some l =>
      cases fk ρ with
      | none => rfl
      | some k => dsimp only; cases setD l k d <;> rfl
theorem putO_s (d l k : PyData) (i : Nat) (ρ : Rho) : putO (some d) (some l) (some k) i ρ = setO (setD l k d) i ρ := rfl
theorem setD_l (ds : List PyData) (k : Int) (d : PyData) : setD (.list ds) (.int k) d = ob (ixN ds.length k) fun j => some (.list (ds.set j d)) := rfl
def popO (r : Option (PyData × PyData)) (i j : Nat) (ρ : Rho) : Option Out := match r with | some r => some (.nx ((ρ.set i (some r.2)).set j (some r.1))) | none => none
theorem sPop_b (i j : Nat) (ρ : Rho) : sPop i j ρ = popO (ob (vr i ρ) popD) i j ρ := by
  unfold sPop ob popO
  cases vr i ρ with
  | none => rfl
  | some l => dsimp only; cases popD l <;> rfl
def popA (l k : Option PyData) : Option (PyData × PyData) := match l, k with | some l, some k => popAtD l k | _, _ => none
theorem sPopAt_b (i j : Nat) (fk : Rho → Option PyData) (ρ : Rho) : sPopAt i j fk ρ = popO (popA (vr i ρ) (fk ρ)) i j ρ := by
  unfold sPopAt ob popO popA
  cases vr i ρ with
  | none => rfl
  | some l =>
    cases fk ρ with
    | none => rfl
    | some k => dsimp only; cases popAtD l k <;> rfl
theorem popO_s (r : PyData × PyData) (i j : Nat) (ρ : Rho) : popO (some r) i j ρ = some (.nx ((ρ.set i (some r.2)).set j (some r.1))) := rfl
theorem popA_s (l k : PyData) : popA (some l) (some k) = popAtD l k := rfl
def augO (x y : Option PyData) (h : Int → Int → Int) (i : Nat) (ρ : Rho) : Option Out := match x, y with | some x, some y => setO (iiD (fun a b => some (.int (h a b))) x y) i ρ | _, _ => none
theorem sAug_b (i : Nat) (f : Rho → Option PyData) (h : Int → Int → Int) (ρ : Rho) : sAug i f h ρ = augO (vr i ρ) (f ρ) h i ρ := by
  unfold sAug ob augO setO
  cases vr i ρ with
  | none => rfl
  | some x =>
    cases f ρ with
    | none => rfl
    | some y => dsimp only; cases iiD (fun a b => some (PyData.int (h a b))) x y <;> rfl
theorem augO_i (a b : Int) (h : Int → Int → Int) (i : Nat) (ρ : Rho) : augO (some (.int a)) (some (.int b)) h i ρ = some (.nx (ρ.set i (some (.int (h a b))))) := rfl
end L2
namespace L2
open PySem PySem.Spec PyProof.Rows
/-! ### abs, max, min of written arguments (ints) -/
section
variable {X : Cx}
def absD : List PyData → Option PyData
  | [.int i] => some (.int (if i < 0 then -i else i))
  | _ => none
theorem absD_i (i : Int) : absD [.int i] = some (.int (if i < 0 then -i else i)) := rfl
end
end L2
namespace L2
open PySem PySem.Spec PyProof.Rows
/-! ### a op b op c -/
def evCh (fa fb fc : Rho → Option PyData) (g g' : PyData → PyData → Option PyData) : Rho → Option PyData := fun ρ => ob (fa ρ) fun x => ob (fb ρ) fun y => ob (g x y) fun z => ob (boolD z) fun k => if k = true then ob (fc ρ) fun w => g' y w else some (.bool false)
section
variable {X : Cx} {M : List Nat} {a b c : Expr} {fa fb fc : Rho → Option PyData} {pos : Pos} {op op' : CmpOp} {g g' : PyData → PyData → Option PyData}
end
/-! evaluation -/
def chO (y : Option PyData) (k : Option PyData) (fc : Rho → Option PyData) (g' : PyData → PyData → Option PyData) (ρ : Rho) : Option PyData := match y, k with
  | some y, some (.bool true) => ob (fc ρ) (g' y)
  | some _, some (.bool false) => some (.bool false)
  | _, _ => none
theorem evCh_b (fa fb fc : Rho → Option PyData) (g g' : PyData → PyData → Option PyData) (ρ : Rho) : evCh fa fb fc g g' ρ = chO (fb ρ) (binO (fa ρ) (fb ρ) g) fc g' ρ := by
  unfold evCh ob chO binO boolD
  cases fa ρ with
  | none => cases fb ρ <;> rfl
  | some x =>
    cases fb ρ with
    | none => rfl
    | some y =>
      dsimp only
      cases g x y with
      | none => rfl
      | some z =>
        cases z with
        | bool k => cases k <;> rfl
        | _ => rfl
theorem chO_t (y : PyData) (fc : Rho → Option PyData) (g' : PyData → PyData → Option PyData) (ρ : Rho) : chO (some y) (some (.bool true)) fc g' ρ = ob (fc ρ) (g' y) := rfl
theorem chO_f (y : PyData) (fc : Rho → Option PyData) (g' : PyData → PyData → Option PyData) (ρ : Rho) : chO (some y) (some (.bool false)) fc g' ρ = some (.bool false) := rfl
end L2
namespace L2
open PySem PySem.Spec PyProof.Rows
/-! ### a op b op c op d, as a test -/
section
variable {X : Cx} {M : List Nat} {a b c d : Expr} {fa fb fc fd : Rho → Option PyData} {ta tb tc td : TE} {pos : Pos} {op1 op2 op3 : CmpOp} {g1 g2 g3 : PyData → PyData → Option PyData}
end
/-! evaluation: the first two comparisons hold -/
end L2
namespace L2
open PySem PySem.Spec PyProof.Rows
/-! ### xs.index(e), list + list, xs.extend(new), xs.pop() and xs.pop(k) as statements, int(truth) -/
section
variable {X : Cx} {G : Gm} {M M' Mb L : List Nat} {fr : Fr} {a b c : Expr} {es : List Expr} {f fk g : Rho → Option PyData} {pos : Pos} {u : Rho → Option Out}
/-! #### + -/
def add3D (x y : PyData) : Option PyData := match x, y with
  | .int i, .int j => some (.int (i + j))
  | .list ds, .list es => if ds.length + es.length ≤ 1000 then some (.list (ds ++ es)) else none
  | x, y => add2D x y
def rCatL (K : PySem.W.Frag) : R2 := fun x y H Q => ∃ l b xs zs, x = .ref l ∧ y = .ref b ∧ SqL K H l xs ∧ SqL K H b zs ∧ xs.length + zs.length ≤ sizeLine ∧ ∀ p, H p = none → Q (.ref p) (upd H p (.lst (xs ++ zs)))
theorem op_catL : OpR X (binaryOp .Add) (rCatL X.K) := by
  intro pins s σ H x y v u Q I rx ry h
  obtain ⟨l, b, xs, zs, rfl, rfl, hH, hB, hz, q⟩ := h
  cases rx
  cases ry
  obtain ⟨its, r, ⟨⟨cls, dd, data, sl⟩, n, g1, g2, _, g3⟩, _⟩ := I.list hH
  obtain ⟨its2, r2, ⟨⟨cls2, dd2, data2, sl2⟩, n2, k1, k2, _, k3⟩, _⟩ := I.list hB
  simp only at g2 g3 k2 k3
  subst g2 g3 k2 k3
  have ea : its.toArray ++ its2.toArray = (its ++ its2).toArray := by simp
  have l1 := r.length
  have l2 := r2.length
  refine concat_meets ⟨_, g1, rfl⟩ ⟨_, k1, rfl⟩ noFill_list_add seq_list_add PySem.F.slot_list_add PySem.F.entry_list_add (PySem.F.args_list_add_2 _ _) (list_addW l b its.toArray its2.toArray n n2 dd dd2 sl sl2 (by rw [List.size_toArray, List.size_toArray]; omega)) ⟨g1, k1, ?_⟩
  rw [ea]
  exact ⟨.ref _, _, I.lnew (t' := s.toks) (r.append r2) (by rw [List.length_append]; omega), rfl, q _ I.fresh⟩
theorem d_catL : OpD X (binaryOp .Add) (fun x y => match x, y with | .list ds, .list es => if ds.length + es.length ≤ 1000 then some (.list (ds ++ es)) else none | _, _ => none) := by
  refine opD_of op_catL fun x y dx dy d H S Q m h1 h2 e q => ?_
  split at e
  · split at e
    · rename_i ds es hc
      cases e
      cases h1 with
      | list a1 t1 =>
        cases h2 with
        | list a2 t2 =>
          exact ⟨_, _, _, _, rfl, rfl, a1.sq, a2.sq, by rw [t1.length, t2.length]; exact Nat.le_of_lt (small1000 hc), fun p hp => q _ _ (Same.lay hp) (.list (SqLS.new upd_same (m.free hp)) ((t1.append t2).same (Same.lay hp)))⟩
    · cases e
  · cases e
theorem d_add3 : OpD X (binaryOp .Add) add3D := by
  intro pins s σ H x y v u Q I rx ry h
  obtain ⟨S, dx, dy, d, m, h1, h2, e, q⟩ := h
  unfold add3D at e
  split at e
  · exact d_add2 pins s σ H x y v u Q I rx ry ⟨S, _, _, d, m, h1, h2, e, q⟩
  · exact d_catL pins s σ H x y v u Q I rx ry ⟨S, _, _, d, m, h1, h2, e, q⟩
  · exact d_add2 pins s σ H x y v u Q I rx ry ⟨S, _, _, d, m, h1, h2, e, q⟩
theorem add3D_i (i j : Int) : add3D (.int i) (.int j) = some (.int (i + j)) := rfl
/-! #### int(truth) -/
def toIntD : List PyData → Option PyData
  | [.int i] => some (.int i)
  | [.bool k] => some (.int (if k then 1 else 0))
  | _ => none
/-! #### statements -/
def sPopS (i : Nat) : Rho → Option Out := fun ρ => ob (vr i ρ) fun l => ob (popD l) fun r => some (.nx (ρ.set i (some r.2)))
def sPopAtS (i : Nat) (fk : Rho → Option PyData) : Rho → Option Out := fun ρ => ob (vr i ρ) fun l => ob (fk ρ) fun k => ob (popAtD l k) fun r => some (.nx (ρ.set i (some r.2)))
/-- xs.extend(e), e a new list -/
def extD (l e : PyData) : Option PyData := match l, e with
  | .list ds, .list es => if ds.length + es.length ≤ 1000 then some (.list (ds ++ es)) else none
  | _, _ => none
def sExt (i : Nat) (f : Rho → Option PyData) : Rho → Option Out := fun ρ => ob (vr i ρ) fun l => ob (f ρ) fun k => ob (extD l k) fun r => some (.nx (ρ.set i (some r)))
theorem extD_some {l e r : PyData} (h : extD l e = some r) : ∃ ds es, l = .list ds ∧ e = .list es ∧ ds.length + es.length ≤ 1000 ∧ r = .list (ds ++ es) := by
  unfold extD at h
  split at h
  · split at h
    · cases h; exact ⟨_, _, rfl, rfl, by assumption, rfl⟩
    · cases h
  · cases h
theorem pa_one {te : TE} (he : PE X a te) (hs : starEach [a] X.env = (false, eval a X.env) :: starEach [] X.env := by rfl) : PA X [a] (fun σ H Q => te σ H fun v H1 => Q [v] H1) := by
  refine (pa_cons he pa_nil hs).weak fun σ H Q q => ?_
  exact q
theorem pds_ext (i : Nat) {x : Str} {px apos cpos : Pos} (hv : Vis X.env.scope x) (hM : Flt M i) (hL : i ∉ L) (he : PF X M a f) (hN : X.N[i]? = some x := by rfl) (hd : (x == ("__debug__" : Str)) = false := by decide +kernel) (hcd : (x == ("__classdict__" : Str)) = false := by decide +kernel)
    (hbase : attributeBase (.Name x px) "extend" X.env (eval (.Name x px) X.env) = eval (.Name x px) X.env := by rfl)
    (hfew : ((backTo cpos (starEach [a] X.env)).all (fun x => !x.1) && (backToKw cpos (keywordEach [] X.env)).all (fun x => x.1.isSome)
      && decide ([a].length + ([] : List Keyword).length + (if ([] : List Keyword).isEmpty then 0 else 1) < 30)) = true := by rfl)
    (hline : (apos.endLine == cpos.line) = true := by rfl) (hs : starEach [a] X.env = (false, eval a X.env) :: starEach [] X.env := by rfl) (hplain : (backTo cpos (starEach [] X.env)).any (·.1) = false := by rfl)
    (hsw : swapsWith (.Call (.Attribute (.Name x px) "extend" apos) [a] [] cpos) none pos.line X.env = pure false := by rfl) :
    PDS X G M L M Mb fr (.Expr (.Call (.Attribute (.Name x px) "extend" apos) [a] [] cpos) pos) (sExt i f) :=
  (ps_expr (pe_bm PySem.F.plainAttrs_list PySem.F.slot_list_extend PySem.F.type_list_extend mt_extend (pe_own i hv hN hd hcd) (pa_one he hs) hbase hfew hline hs hplain) hsw).weak fun D σ H ⟨S, ρ, o, os, e, q⟩ => by
    obtain ⟨l, e1, e⟩ := ob_some e
    obtain ⟨k, e2, e⟩ := ob_some e
    obtain ⟨r, e3, e⟩ := ob_some e
    cases e
    obtain ⟨ds, es, rfl, rfl, hz, rfl⟩ := extD_some e3
    obtain ⟨pp, a1, b1, c1, n1, w1, _⟩ := os.own i hM _ (vr_some e1)
    cases b1 with
    | @lst xs _ h t =>
      refine ⟨_, a1, .inl ⟨rfl, _, SqL.of h⟩, S, ρ, _, os.ds, e2, fun p H2 g2 hn ow => ?_⟩
      cases ow with
      | @lst zs _ h2 t2 =>
        have os2 := os.same g2
        refine ⟨pp, p, xs, zs, rfl, rfl, g2 _ _ h, h2, by rw [t.length, t2.length]; exact Nat.le_of_lt (small1000 hz), ?_⟩
        exact q _ _ _ (os2.write hM hL (vr_some e1) a1 (d := .list (ds ++ es)) (o := .lst (xs ++ zs)) rfl (.lst upd_same (((t.same g2).append (t2.sub fun a _ z => .inl z)).off os2.ds.1 (Off.upd c1))))
end
/-! evaluation -/
def popS (r : Option (PyData × PyData)) (i : Nat) (ρ : Rho) : Option Out := match r with | some r => some (.nx (ρ.set i (some r.2))) | none => none
theorem sPopS_b (i : Nat) (ρ : Rho) : sPopS i ρ = popS (ob (vr i ρ) popD) i ρ := by
  unfold sPopS ob popS
  cases vr i ρ with
  | none => rfl
  | some l => dsimp only; cases popD l <;> rfl
theorem popS_s (r : PyData × PyData) (i : Nat) (ρ : Rho) : popS (some r) i ρ = some (.nx (ρ.set i (some r.2))) := rfl
theorem sPopAtS_b (i : Nat) (fk : Rho → Option PyData) (ρ : Rho) : sPopAtS i fk ρ = popS (popA (vr i ρ) (fk ρ)) i ρ := by
  unfold sPopAtS ob popS popA
  cases vr i ρ with
  | none => rfl
  | some l =>
    cases fk ρ with
    | none => rfl
    | some k => dsimp only; cases popAtD l k <;> rfl
def extO (l k : Option PyData) (i : Nat) (ρ : Rho) : Option Out := match l, k with | some l, some k => setO (extD l k) i ρ | _, _ => none
theorem sExt_b (i : Nat) (f : Rho → Option PyData) (ρ : Rho) : sExt i f ρ = extO (vr i ρ) (f ρ) i ρ := by
  unfold sExt ob extO setO
  cases vr i ρ with
  | none => rfl
  | some l =>
    cases f ρ with
    | none => rfl
    | some k => dsimp only; cases extD l k <;> rfl
theorem extO_s (l k : PyData) (i : Nat) (ρ : Rho) : extO (some l) (some k) i ρ = setO (extD l k) i ρ := rfl
theorem toIntD_b (k : Bool) : toIntD [.bool k] = some (.int (if k then 1 else 0)) := rfl
end L2
namespace L2
open PySem PySem.Spec PyProof.Rows
/-! ### enumerate(xs) of a list or a tuple, walked by a target of two -/
section
variable {prog : Program} {w : World} {A : Around} {E : Value → Shared → Prop} {s : Shared}
theorem nx_tup_item {it t : Addr} {i : Nat} {items : Array Value} {x : Value} {Q : Value → Shared → Prop} (hit : s.heap.IsTupleIter it t i) (ht : s.heap.IsTuple t items) (hx : items[i]? = some x)
    (hQ : ∀ h', h'.IsTupleIter it t (i + 1) → Heap.SameBut it s.heap h' → Q x { s with heap := h' }) : wpAny (model prog w) A (Builtin.SmallTypes.nextOf (.ref it)) Q E s := by
  obtain ⟨o, ho, hc, hd⟩ := id hit
  obtain ⟨ol, hol, _, nl, hdl⟩ := ht
  unfold Builtin.SmallTypes.nextOf
  refine wpAny_bind (wpAny_callSpecial?_slot (name := Str.ofString "__next__") hit.typeIs F.slot_tuple_iterator_next (wpAny_call_entry F.slot_tuple_iterator_next hit.typeIs F.entry_tuple_iterator_next ?_ (F.args_tuple_iterator_next_1 _)))
  refine (wpAny_bind (wpAny_field ho hd (x := .ref t) rfl ?_) : wpAny _ _ (field (.ref it) 0 >>= _) _ _ s)
  refine (id ?_ : wpAny _ _ (if (Value.ref t == Value.none) = true then _ else _) _ _ s)
  rw [if_neg (fun z => Bool.false_ne_true z : ¬ ((Value.ref t == Value.none) = true))]
  refine (wpAny_bind (wpAny_field ho hd (x := .int i 0) rfl ?_) : wpAny _ _ (field (.ref it) 1 >>= _) _ _ s)
  refine (wpAny_bind (wpAny_seqItems hol hdl ?_) : wpAny _ _ (seqItems? (.ref t) >>= _) _ _ s)
  simp only [hx, Int.toNat_natCast]
  refine wpAny_bind (wpAny_setField ho hd (by simp) (wpAny_pure ⟨x, rfl, wpAny_pure (hQ _ ⟨_, Heap.get?_update_self _ ho (Obj.isFreed_of_fields (Obj.data_mapFields hd _)), (Obj.cls_mapFields ..).trans hc, by rw [Obj.data_mapFields hd]; simp [rawInt]⟩ (Heap.SameBut.update ..))⟩))
theorem nx_tup_end {it t : Addr} {i : Nat} {items : Array Value} {Q : Value → Shared → Prop} (hh : A.handled = none) (hit : s.heap.IsTupleIter it t i) (ht : s.heap.IsTuple t items) (hx : items[i]? = none)
    (hE : ∀ h' e, Heap.ExtBut it s.heap h' → (∃ o, h'.get? e = some o ∧ o.cls = .type "StopIteration") → E (.ref e) { s with heap := h' }) : wpAny (model prog w) A (Builtin.SmallTypes.nextOf (.ref it)) Q E s := by
  obtain ⟨o, ho, hc, hd⟩ := id hit
  obtain ⟨ol, hol, _, nl, hdl⟩ := ht
  unfold Builtin.SmallTypes.nextOf
  refine wpAny_bind (wpAny_callSpecial?_slot (name := Str.ofString "__next__") hit.typeIs F.slot_tuple_iterator_next (wpAny_call_entry F.slot_tuple_iterator_next hit.typeIs F.entry_tuple_iterator_next ?_ (F.args_tuple_iterator_next_1 _)))
  refine (wpAny_bind (wpAny_field ho hd (x := .ref t) rfl ?_) : wpAny _ _ (field (.ref it) 0 >>= _) _ _ s)
  refine (id ?_ : wpAny _ _ (if (Value.ref t == Value.none) = true then _ else _) _ _ s)
  rw [if_neg (fun z => Bool.false_ne_true z : ¬ ((Value.ref t == Value.none) = true))]
  refine (wpAny_bind (wpAny_field ho hd (x := .int i 0) rfl ?_) : wpAny _ _ (field (.ref it) 1 >>= _) _ _ s)
  refine (wpAny_bind (wpAny_seqItems hol hdl ?_) : wpAny _ _ (seqItems? (.ref t) >>= _) _ _ s)
  simp only [hx, Int.toNat_natCast]
  refine wpAny_bind (wpAny_rule (wpAny_bind (wpAny_setField ho hd (by simp) (wpAny_bind (?_ : wpAny _ _ (newExc (.type "StopIteration") []) _ _ _)))))
  simp only [newExc, newTuple]
  refine wpAny_bind (wpAny_newObj_type (wpAny_bind (m := firstArgMember _ _) (wpAny_of_eq (a := Value.none) (by first | rfl | (simp only [firstArgMember]; rfl)) (wpAny_newObj_type ?_ (by size_fits)))) (by size_fits))
  simp only [raiseNew]
  refine wpAny_bind (wpAny_handled ?_)
  first | rw [show A.in1.handled = none from hh] | rw [hh]
  exact wpAny_bind (wpAny_pure (wpAny_throw (hE _ _ (((Heap.SameBut.update ..).extBut.push _).push _) ⟨_, Heap.get?_push_size _ rfl, rfl⟩)))
end
theorem draws_tuple {prog : Program} {w : World} {A : Around} (hh : A.handled = none) (it l : Addr) (hne : l ≠ it) (items : Array Value) :
    Draws prog w A it [it, l] items.size (fun i v => items[i]? = some v) (fun i h => h.IsTupleIter it l i ∧ h.IsTuple l items) where
  live := fun _ _ ⟨⟨o, ho, _⟩, _⟩ => ⟨o, ho⟩
  frame := fun _ _ _ ⟨a, b⟩ hk => ⟨a.at fun o e => hk it (by simp) o e, let ⟨o, ho, r⟩ := b; ⟨o, hk l (by simp) o ho, r⟩⟩
  item := fun i s Q E hi ⟨a, b⟩ hQ => nx_tup_item a b (x := items[i]) (by simp [hi]) fun h' a' hs' => hQ _ h' s.toks (by simp [hi]) ⟨a', b.extBut hs'.extBut hne⟩ hs'
  done := fun s Q E ⟨a, b⟩ hE => nx_tup_end hh a b (by simp) hE
section
variable {X : Cx} {pins : List (Addr × Obj)} {σ : St} {H : Hp} {s : Shared}
end
/-- the list (b: or tuple) at a -/
def SqB (K : PySem.W.Frag) (H : Hp) (b : Bool) (a : Addr) (xs : List V) : Prop := if b = true then SqT K H a xs else SqL K H a xs
def ItB (h : Heap) (b : Bool) (it a : Addr) (i : Nat) : Prop := if b = true then h.IsTupleIter it a i else h.IsListIter it a i
section
variable {X : Cx} {pins : List (Addr × Obj)} {σ : St} {H : Hp} {s : Shared}
theorem SqB.draws {b : Bool} {a e it : Addr} {i : Nat} {xs : List V} {old : Value} (I : Inv X pins σ H s) (hh : X.A.handled = none) (hq : SqB X.K H b a xs) (he : IsEnum s.heap e it i old) (hi : ItB s.heap b it a i) :
    ∃ (its : List Value) (St' : Nat → Heap → Prop), Vals xs its ∧ e ≠ it ∧ e ∉ [it, a] ∧ St' i s.heap ∧ Draws X.prog X.w X.A.in1 it [it, a] its.length (fun i v => its[i]? = some v) St' ∧ (∀ j h, St' j h → ItB h b it a j) := by
  have hh1 : X.A.in1.handled = none := hh
  cases b with
  | true =>
    have hq : SqT X.K H a xs := hq
    have hi : s.heap.IsTupleIter it a i := hi
    obtain ⟨its, rv, p, hz⟩ := I.tuple hq
    have p : s.heap.IsTuple a its.toArray := p
    obtain ⟨o1, e1, c1, d1⟩ := id hi
    obtain ⟨o2, e2, c2, n2, d2⟩ := id p
    have n1 : e ≠ it := fun z => by rw [z] at he; rw [he] at e1; cases e1; exact absurd (show Value.type "enumerate" = Value.type "tuple_iterator" from c1) (by decide)
    have n2 : a ≠ it := fun z => by rw [z] at e2; rw [e2] at e1; cases e1; rw [c1] at c2; exact absurd c2 (by decide)
    have n3 : e ≠ a := fun z => by rw [z] at he; rw [he] at e2; cases e2; exact absurd (show Value.type "enumerate" = Value.type "tuple" from c2) (by decide)
    refine ⟨its, fun j h => h.IsTupleIter it a j ∧ h.IsTuple a its.toArray, rv, n1, by simp [n1, n3], ⟨hi, p⟩, ?_, fun j h q => q.1⟩
    have := draws_tuple (prog := X.prog) (w := X.w) hh1 it a n2 its.toArray
    simpa using this
  | false =>
    have hq : SqL X.K H a xs := hq
    have hi : s.heap.IsListIter it a i := hi
    obtain ⟨its, rv, p0, hz⟩ := I.list hq
    have p := p0.isList
    obtain ⟨o1, e1, c1, d1⟩ := id hi
    obtain ⟨o2, e2, c2, n2, d2⟩ := id p
    have n1 : e ≠ it := fun z => by rw [z] at he; rw [he] at e1; cases e1; exact absurd (show Value.type "enumerate" = Value.type "list_iterator" from c1) (by decide)
    have n2 : a ≠ it := fun z => by rw [z] at e2; rw [e2] at e1; cases e1; rw [c1] at c2; exact absurd c2 (by decide)
    have n3 : e ≠ a := fun z => by rw [z] at he; rw [he] at e2; cases e2; exact absurd (show Value.type "enumerate" = Value.type "list" from c2) (by decide)
    refine ⟨its, fun j h => h.IsListIter it a j ∧ h.IsList a its.toArray, rv, n1, by simp [n1, n3], ⟨hi, p⟩, ?_, fun j h q => q.1⟩
    have := Draws.list (prog := X.prog) (w := X.w) hh1 it a n2 its.toArray
    simpa using this
theorem SqB.inj {b : Bool} {a : Addr} {xs ys : List V} (I : Inv X pins σ H s) (h1 : SqB X.K H b a xs) (h2 : SqB X.K H b a ys) : xs = ys := by
  cases b with
  | true => exact I.tuple_inj h1 h2
  | false => exact I.list_inj h1 h2
theorem ItB.but {h h' : Heap} {b : Bool} {it a e : Addr} {i : Nat} (q : ItB h b it a i) (n : it ≠ e) (hs : ∀ c o, c ≠ e → h.get? c = some o → h'.get? c = some o) : ItB h' b it a i := by
  cases b with
  | true => obtain ⟨o, ho, r⟩ := (show h.IsTupleIter it a i from q); exact (show h'.IsTupleIter it a i from ⟨o, hs _ o n ho, r⟩)
  | false => obtain ⟨o, ho, r⟩ := (show h.IsListIter it a i from q); exact (show h'.IsListIter it a i from ⟨o, hs _ o n ho, r⟩)
theorem ItB.obj {h : Heap} {b : Bool} {it a : Addr} {i : Nat} (q : ItB h b it a i) : ∃ o, h.get? it = some o ∧ ∀ v, o.data ≠ .cell v := by
  cases b with
  | true => obtain ⟨o, ho, c, d⟩ := (show h.IsTupleIter it a i from q); exact ⟨o, ho, fun v z => by rw [d] at z; cases z⟩
  | false => obtain ⟨o, ho, c, d⟩ := (show h.IsListIter it a i from q); exact ⟨o, ho, fun v z => by rw [d] at z; cases z⟩
end
end L2
namespace L2
open PySem PySem.Spec PyProof.Rows
section
variable {X : Cx} {pins : List (Addr × Obj)} {σ : St} {H : Hp} {s : Shared}
end
section
variable {X : Cx} {M : List Nat} {a : Expr} {es : List Expr} {f : Rho → Option PyData} {pos : Pos}
/-- (0, x0), (1, x1), .. -/
def enL : Nat → List PyData → List PyData
  | _, [] => []
  | n, d :: ds => .tuple [.int (n : Nat), d] :: enL (n + 1) ds
theorem SqB.same {K : PySem.W.Frag} {H H' : Hp} {b : Bool} {l : Addr} {xs : List V} (e : Same H H') (h : SqB K H b l xs) : SqB K H' b l xs := by
  cases b with
  | true => exact e.sqT h
  | false => exact e.seq h
def enumD : PyData → Option (List PyData)
  | .list ds => some (enL 0 ds)
  | .tuple ds => some (enL 0 ds)
  | _ => none
theorem enumD_l (ds : List PyData) : enumD (.list ds) = some (enL 0 ds) := rfl
theorem enumD_t (ds : List PyData) : enumD (.tuple ds) = some (enL 0 ds) := rfl
theorem enL_n (n : Nat) : enL n [] = [] := rfl
theorem enL_c (n : Nat) (d : PyData) (ds : List PyData) : enL n (d :: ds) = .tuple [.int (n : Nat), d] :: enL (n + 1) ds := rfl
/-! evaluation of a comprehension with a target of several names -/
def comTO (o : Option Rho) (k : Nat) (g : PyData → Rho → Option Rho) (tt : Rho → Option Bool) (te : Rho → Option PyData) (ρ : Rho) (ds : List PyData) : Option (List PyData) := match o with
  | some ρ1 => (match tt ρ1 with | some true => consO (te ρ1) (compT k g tt te ρ ds) | some false => compT k g tt te ρ ds | none => none)
  | none => none
theorem compT_c (k : Nat) (g : PyData → Rho → Option Rho) (tt : Rho → Option Bool) (te : Rho → Option PyData) (ρ : Rho) (d : PyData) (ds : List PyData) : compT k g tt te ρ (d :: ds) = comTO (g d (ρ ++ List.replicate k none)) k g tt te ρ ds := by
  rw [compT]
  unfold ob comTO consO
  cases g d (ρ ++ List.replicate k none) with
  | none => rfl
  | some ρ1 =>
    dsimp only
    cases tt ρ1 with
    | none => rfl
    | some b =>
      cases b with
      | false => rfl
      | true => cases te ρ1 <;> cases compT k g tt te ρ ds <;> rfl
theorem compT_n (k : Nat) (g : PyData → Rho → Option Rho) (tt : Rho → Option Bool) (te : Rho → Option PyData) (ρ : Rho) : compT k g tt te ρ [] = some [] := rfl
def comTI (b : Option Bool) (y : Option PyData) (r : Option (List PyData)) : Option (List PyData) := match b with | some true => consO y r | some false => r | none => none
theorem comTO_s (ρ1 : Rho) (k : Nat) (g : PyData → Rho → Option Rho) (tt : Rho → Option Bool) (te : Rho → Option PyData) (ρ : Rho) (ds : List PyData) : comTO (some ρ1) k g tt te ρ ds = comTI (tt ρ1) (te ρ1) (compT k g tt te ρ ds) := by
  unfold comTO comTI
  rfl
theorem comTI_t (y : Option PyData) (r : Option (List PyData)) : comTI (some true) y r = consO y r := rfl
theorem comTI_f (y : Option PyData) (r : Option (List PyData)) : comTI (some false) y r = r := rfl
def comGO (a : Option (List PyData)) (n k : Nat) (g : PyData → Rho → Option Rho) (tt : Rho → Option Bool) (te : Rho → Option PyData) (ρ : Rho) : Option PyData := match a with | some ds => if ρ.length = n ∧ ds.length ≤ 1000 then listO (compT k g tt te ρ ds) else none | none => none
theorem compG_b (n k : Nat) (fi : Rho → Option (List PyData)) (g : PyData → Rho → Option Rho) (tt : Rho → Option Bool) (te : Rho → Option PyData) (ρ : Rho) : compG n k fi g tt te ρ = comGO (fi ρ) n k g tt te ρ := by
  unfold compG ob comGO listO
  cases fi ρ with
  | none => rfl
  | some ds =>
    dsimp only
    split
    · cases compT k g tt te ρ ds <;> rfl
    · rfl
theorem comGO_s (ds : List PyData) (n k : Nat) (g : PyData → Rho → Option Rho) (tt : Rho → Option Bool) (te : Rho → Option PyData) (ρ : Rho) : comGO (some ds) n k g tt te ρ = if ρ.length = n ∧ ds.length ≤ 1000 then listO (compT k g tt te ρ ds) else none := rfl
end
end L2
namespace L2
open PySem PySem.Spec PyProof.Rows
/-! ### dicts whose keys are tuples (of ints, of tuples of ints) -/
def k1Of : PyData → Option (Int ⊕ List Int)
  | .int i => some (.inl i)
  | .tuple ds => ob (intsOf ds) fun js => some (.inr js)
  | _ => none
def k1sOf : List PyData → Option K2
  | [] => some []
  | d :: ds => ob (k1Of d) fun k => ob (k1sOf ds) fun ks => some (k :: ks)
def k2Of : PyData → Option K2
  | .tuple ds => k1sOf ds
  | _ => none
def kxOf : PyData → Option KX
  | .int i => some (.inl i)
  | d => ob (k2Of d) fun ks => some (.inr ks)
/-- all keys are of the kind of this one -/
def kOk (kvs : List (PyData × PyData)) (k : KX) : Bool := kvs.all fun p => isIntD p.1 == kxI k
def findD (kvs : List (PyData × PyData)) (ks : KX) : Option PyData := (kvs.find? fun p => PyData.eqv p.1 (kxD ks)).map (·.2)
def putD (kvs : List (PyData × PyData)) (ks : KX) (v : PyData) : List (PyData × PyData) :=
  if (findD kvs ks).isSome = true then kvs.map (fun p => if PyData.eqv p.1 (kxD ks) = true then (p.1, v) else p) else kvs ++ [(kxD ks, v)]
section
variable {K : PySem.W.Frag} {H : Hp} {S : Av}
end
section
variable {K : PySem.W.Frag} {H : Hp} {S : Av}
end
section
variable {X : Cx} {pins : List (Addr × Obj)} {σ : St} {H : Hp} {s : Shared} {S : Av}
end
/-! #### what is done with them -/
def dputD (d k v : PyData) : Option PyData := match d with
  | .dict kvs => ob (kxOf k) fun ks => if kOk kvs ks = true ∧ kvs.length < 1000 then some (.dict (putD kvs ks v)) else none
  | _ => none
section
variable {X : Cx} {pins : List (Addr × Obj)} {σ : St} {H : Hp} {s : Shared} {S : Av} {A : Around} {E : Value → Shared → Prop} {a : Addr} {kvs : List (KX × Addr × V)} {ep : Nat} {ds : List PyData} {ks : KX} {y x v : V} {u r : Value} {d dx : PyData}
end
end L2
namespace L2
open PySem PySem.Spec PyProof.Rows
/-! ### the keys of a dict, walked -/
section
variable {prog : Program} {w : World} {A : Around} {E : Value → Shared → Prop} {s : Shared}
end
/-- the keys of the dict at a -/
def Itd (a : Addr) (kvs : List (KX × Addr × V)) (ep : Nat) : It :=
  ⟨fun i H => H a = some (DctO a kvs ep) ∧ i < kvs.length, fun i H x H' => H' = H ∧ ∃ p, kvs[i]? = some p ∧ x = kxV p.1 p.2.1, fun i H => H a = some (DctO a kvs ep) ∧ kvs.length ≤ i⟩
section
variable {X : Cx} {M : List Nat} {a : Expr} {f : Rho → Option PyData}
theorem IsIt.dct {K : PySem.W.Frag} {H : Hp} {S : Av} {l : Addr} {kvs : List (KX × Addr × V)} {ep : Nat} (h : H l = some (DctO l kvs ep)) (k : DenL K H S (kvs.map fun p => kxV p.1 p.2.1) (kvs.map fun p => kxD p.1)) : IsIt K S (Itd l kvs ep) H (kvs.map fun p => kxD p.1) where
  go := fun i H' e hi => ⟨e _ _ h, by rwa [List.length_map] at hi⟩
  yld := fun i H' x H2 e ⟨e2, p, hp, ex⟩ => ⟨by rw [e2]; exact Same.refl _, fun d hd S' w => by
    obtain ⟨v, h1, h2⟩ := k.get hd
    rw [List.getElem?_map, hp] at h1
    cases h1
    rw [ex]
    exact w _ _ h2⟩
  stop := fun H' e => ⟨e _ _ h, by rw [List.length_map]; exact Nat.le_refl _⟩
end
end L2
namespace L2
open PySem PySem.Spec PyProof.Rows
/-! ### dicts in expressions and statements -/
section
variable {X : Cx} {G : Gm} {M M' Mb L : List Nat} {fr : Fr} {a b c : Expr} {es : List Expr} {f fk fx g fa fb : Rho → Option PyData} {pos : Pos} {u : Rho → Option Out}
/-! #### {} -/
/-! #### d.get(k, x) -/
def ev3 (f g h : Rho → Option PyData) (r : PyData → PyData → PyData → Option PyData) : Rho → Option PyData := fun ρ => ob (f ρ) fun x => ob (g ρ) fun y => ob (h ρ) fun z => r x y z
/-! #### d[k] = v -/
def sDput (i : Nat) (fk f : Rho → Option PyData) : Rho → Option Out := fun ρ => ob (f ρ) fun d => ob (vr i ρ) fun l => ob (fk ρ) fun k => ob (dputD l k d) fun l' => some (.nx (ρ.set i (some l')))
end
end L2
namespace L2
open PySem PySem.Spec PyProof.Rows
/-! ### raise, where nothing is claimed of it -/
section
variable {X : Cx} {G : Gm} {M M' Mb L : List Nat} {fr : Fr} {a b c : Expr} {es : List Expr} {f fk g : Rho → Option PyData} {pos : Pos} {u : Rho → Option Out}
def sNo : Rho → Option Out := fun _ => none
end
/-! ### t.index(e) -/
end L2
namespace L2
open PySem PySem.Spec PyProof.Rows
/-! ### new things with new lists within -/
def isLst : PyData → Bool
  | .list _ => true
  | _ => false
def vC (f : Rho → Option PyData) (fs : Rho → Option (List PyData)) : Rho → Option (List PyData) := fun ρ => ob (f ρ) fun d => ob (fs ρ) fun ds => if isLst d = true then some (d :: ds) else none
theorem Kids.length {K : PySem.W.Frag} {H : Hp} {S : Av} {qs : List Addr} {ds : List PyData} (h : Kids K H S qs ds) : qs.length = ds.length := by
  induction h with
  | nil => rfl
  | cons _ _ _ _ r => rw [List.length_cons, List.length_cons, r]
/-- the child at a place -/
theorem Kids.get {K : PySem.W.Frag} {H : Hp} {S : Av} {qs : List Addr} {ds : List PyData} {i : Nat} {d : PyData} (h : Kids K H S qs ds) (e : ds[i]? = some d) : ∃ q xs es, qs[i]? = some q ∧ d = .list es ∧ H q = some (.lst xs) ∧ DenL K H S xs es := by
  induction h generalizing i with
  | nil => cases List.getElem?_nil.symm.trans e
  | cons h t _ _ r =>
    cases i with
    | zero => cases e; exact ⟨_, _, _, rfl, rfl, h, t⟩
    | succ i => exact r e
theorem flat_lst {d : PyData} (h : isLst d = true) : flat d = false := by
  unfold isLst at h
  split at h
  · rfl
  · cases h
theorem Mx.get {K : PySem.W.Frag} {H : Hp} {S : Av} {qs : List Addr} {vs : List V} {ds : List PyData} {i : Nat} {d : PyData} (h : Mx K H S qs vs ds) (e : ds[i]? = some d) (hl : isLst d = true) : ∃ q xs es, q ∈ qs ∧ vs[i]? = some (.ref q) ∧ d = .list es ∧ H q = some (.lst xs) ∧ DenL K H S xs es := by
  induction h generalizing i with
  | nil => cases List.getElem?_nil.symm.trans e
  | kid h t _ _ r =>
    cases i with
    | zero => cases e; exact ⟨_, _, _, .head _, rfl, rfl, h, t⟩
    | succ i =>
      obtain ⟨q, xs, es, h1, h2⟩ := r e
      exact ⟨q, xs, es, .tail _ h1, h2⟩
  | flt a f _ r =>
    cases i with
    | zero => cases e; rw [flat_lst hl] at f; cases f
    | succ i => exact r e
theorem Mx.put {K : PySem.W.Frag} {H : Hp} {S : Av} {q : Addr} {xs : List V} {es : List PyData} (m : Dm S H) (hq : S q) (t : DenL K (L2.upd H q (.lst xs)) S xs es) {qs : List Addr} {vs : List V} {ds : List PyData} {i : Nat} {d : PyData} (h : Mx K H S qs vs ds) (e : vs[i]? = some (.ref q)) (hl : isLst d = true) (e2 : ds[i]? = some d) : Mx K (L2.upd H q (.lst xs)) S qs vs (ds.set i (.list es)) := by
  have off : Off S H (L2.upd H q (.lst xs)) := fun b u z e => by rw [upd_ne (fun y => z (by rw [y]; exact hq))]; exact e
  induction h generalizing i with
  | nil => cases List.getElem?_nil.symm.trans e
  | kid h t' n r ih =>
    cases i with
    | zero => cases e; exact .kid upd_same t n (r.upd m hq n)
    | succ i =>
      obtain ⟨q2, _, _, m2, h2, _⟩ := r.get e2 hl
      cases (show some (V.ref q) = some (.ref q2) from e.symm.trans h2)
      refine .kid ?_ (t'.off m off) n (ih e e2)
      rw [upd_ne (fun z => n (by rw [z]; exact m2))]; exact h
  | flt a f r ih =>
    cases i with
    | zero => cases e2; rw [flat_lst hl] at f; cases f
    | succ i => exact .flt (a.off m off) f (ih e e2)
/-- the child at a place is changed -/
theorem Kids.put {K : PySem.W.Frag} {H : Hp} {S : Av} {q : Addr} {xs : List V} {es : List PyData} (m : Dm S H) (hq : S q) (t : DenL K (L2.upd H q (.lst xs)) S xs es) {qs : List Addr} {ds : List PyData} {i : Nat} (h : Kids K H S qs ds) (e : qs[i]? = some q) : Kids K (L2.upd H q (.lst xs)) S qs (ds.set i (.list es)) := by
  induction h generalizing i with
  | nil => cases List.getElem?_nil.symm.trans e
  | cons h t' n r ih =>
    cases i with
    | zero => cases e; exact .cons upd_same t n (r.upd m hq n)
    | succ i =>
      refine .cons ?_ (t'.off m fun b u z e => by rw [upd_ne (fun y => z (by rw [y]; exact hq))]; exact e) n (ih e)
      rw [upd_ne (fun z => n (by rw [z]; exact List.mem_of_getElem? e))]; exact h
section
variable {X : Cx} {G : Gm} {M M' Mb L : List Nat} {fr : Fr} {a b c : Expr} {es : List Expr} {f fk g : Rho → Option PyData} {pos : Pos} {u : Rho → Option Out} {fs : Rho → Option (List PyData)}
def sTakeD (i : Nat) (f : Rho → Option PyData) : Rho → Option Out := fun ρ => if i < ρ.length ∧ ρ.length ≤ 1000 then ob (f ρ) fun d => some (.nx (ρ.set i (some d))) else none
/-- the promise of a def that hands back a new thing with new lists within -/
def spD (K : PySem.W.Frag) (n : Nat) (f : List PyData → Option PyData) : Sp := fun vs H Q _ => ∃ S ds d, Dm S H ∧ DenL K H S vs ds ∧ ds.length = n ∧ f ds = some d ∧ ∀ p fp H', Same H H' → (∀ q ∈ fp, H q = none) → DeepO K H' (insL S fp) fp p d → Q (.ref p) H'
theorem FunG.deep {P : Program} {w : World} {K : PySem.W.Frag} {mg : Str → Option Value} {base : Heap} {x qual : Str} {st : Stmt} {f : Addr} {fd : FuncData} {N ps : List Str} {k n : Nat} {u : Rho → Option Out} {M' : List Nat} (F : FunG K x qual st f fd) (S : FnScope N ps (defScope st)) (hn : ps.length = n)
    (hbody : ∀ (cdv : Value) (A : Around) (outer : List Env) (s : Shared) (H : Hp) (E : XK), Room k (A.deeper (envOfC qual (defScope st) s.heap.objs.size f cdv)) → ∀ G : Gm,
      PDSs (cxOf CX0 P w K mg base N qual (defScope st) f cdv A outer s H E).nox G [] [] M' [] .dp (defBody st) u) :
    FnOk P w K mg base CX0 (k + 1) f fd ps (spD K n fun ds => ob (u (rho0 N.length ds)) outF) := by
  refine F.ok S (fun vs H Q E h => ?_) (fun cdv A outer s H vs Q E hr h => ?_)
  · obtain ⟨_, ds, d, _, h1, h2, _⟩ := h
    rw [h1.length, h2, hn]
  · obtain ⟨Sv, ds, d, m, h1, h2, e, q⟩ := h
    obtain ⟨o, e1, e⟩ := ob_some e
    refine ⟨_, hbody cdv A outer s H E hr (G0 H Sv), Sv, rho0 N.length ds, o, OwnS.start m h1 N, e1, ?_⟩
    cases o with
    | rt r => cases e; exact fun p fp H' g n o => q p fp H' g (fun r hr => (n r hr).1) o
    | nx ρ => cases e
    | bk ρ => cases e
    | ct ρ => cases e
theorem Fun.deep {P : Program} {w : World} {K : PySem.W.Frag} {mg : Str → Option Value} {base : Heap} {x qual : Str} {st : Stmt} {f : Addr} {fd : FuncData} {N ps : List Str} {k n : Nat} {u : Rho → Option Out} {M' : List Nat} (F : Fun K x qual st f fd) (S : FnScope N ps (defScope st)) (hn : ps.length = n)
    (hbody : ∀ (cdv : Value) (A : Around) (outer : List Env) (s : Shared) (H : Hp) (E : XK), Room k (A.deeper (envOfC qual (defScope st) s.heap.objs.size f cdv)) → ∀ G : Gm,
      PDSs (cxOf CX0 P w K mg base N qual (defScope st) f cdv A outer s H E).nox G [] [] M' [] .dp (defBody st) u) :
    FnOk P w K mg base CX0 (k + 1) f fd ps (spD K n fun ds => ob (u (rho0 N.length ds)) outF) :=
  F.g.deep S hn hbody
structure KnownD (P : Program) (w : World) (K : PySem.W.Frag) (mg : Str → Option Value) (base : Heap) (x : Str) (n k : Nat) (h : List PyData → Option PyData) : Prop where
  ex : ∃ (f : Addr) (fd : FuncData) (ps : List Str), FnOk P w K mg base CX0 k f fd ps (spD K n h) ∧ mg x = some (.ref f) ∧ PySem.W.keepIn K (.ref f) = true ∧ Binds K fd ps []
theorem KnownD.known {P : Program} {w : World} {K : PySem.W.Frag} {mg : Str → Option Value} {base : Heap} {x : Str} {n k : Nat} {h : List PyData → Option PyData} (F : KnownD P w K mg base x n k h) : Known P w K mg base x n k h := by
  obtain ⟨f, fd, ps, F, m, kp, b⟩ := F.ex
  exact ⟨f, fd, ps, F.imp fun vs H Q E ⟨S, ds, d, m, h1, h2, e, q⟩ => ⟨S, ds, d, m, h1, h2, e, fun p fp H' g n o => q _ H' g (o.den (fun r hr => m.free (n r hr)) fun a _ z => .inl z)⟩, m, kp, b⟩
/-! #### the lists within are changed -/
def kidOf : PyData → PyData → Option Nat
  | .tuple ds, .int k => ixN ds.length k
  | .list ds, .int k => ixN ds.length k
  | _, _ => none
def kidAt : PyData → Nat → Option PyData
  | .tuple ds, j => ds[j]?
  | .list ds, j => ds[j]?
  | _, _ => none
def kidSet : PyData → Nat → PyData → PyData
  | .tuple ds, j, l => .tuple (ds.set j l)
  | .list ds, j, l => .list (ds.set j l)
  | d, _, _ => d
theorem DeepF.same {K : PySem.W.Frag} {H H' : Hp} {S : Av} {σ : St} {ρ : Rho} {F : Nat → List Addr} (e : Same H H') (f : DeepF K G M H S σ ρ F) : DeepF K G M H' S σ ρ F :=
  ⟨fun i hi d q => let ⟨p, a, b, c⟩ := f.own i hi d q; ⟨p, a, b.same e, c⟩, f.disj, f.flat⟩
theorem atI_map {qs : List Addr} {j : Nat} {k : Int} {q : Addr} {n : Nat} (h : n = qs.length) (e : ixN n k = some j) (e' : qs[j]? = some q) : atI (qs.map V.ref) k = some (.ref q) := by
  unfold atI
  rw [List.length_map, ← h, e]
  show (qs.map V.ref)[j]? = _
  rw [List.getElem?_map, e']; rfl
theorem DeepO.kid {K : PySem.W.Frag} {H : Hp} {S : Av} {fp : List Addr} {p : Addr} {d0 l : PyData} {j : Nat} (b : DeepO K H S fp p d0) (e : kidAt d0 j = some l) (hk : isLst l = true) : ∃ q xs es, q ∈ fp ∧ l = .list es ∧ H q = some (.lst xs) ∧ DenL K H S xs es ∧
    (∀ k, kidOf d0 (.int k) = some j → ∀ Q : VK, Q (.ref q) H → (rIxL K (.ref p) (.int k) H Q ∨ rIxT K (.ref p) (.int k) H Q)) ∧
    ∀ H2, Same H H2 → ∀ xs' es', S q → Dm S H2 → DenL K (L2.upd H2 q (.lst xs')) S xs' es' → DeepO K (L2.upd H2 q (.lst xs')) S fp p (kidSet d0 j (.list es')) := by
  cases b with
  | @tpl _ qs vs ds h t =>
    obtain ⟨q, xs, es, h1, hv, rfl, h2, h3⟩ := t.get (show ds[j]? = some l from e) hk
    refine ⟨q, xs, es, h1, rfl, h2, h3, fun k hk Q hQ => .inr ⟨p, _, k, _, rfl, rfl, .inl (.inl h), ?_, hQ⟩, fun H2 g xs' es' hS m t' => ?_⟩
    · have hk : ixN ds.length k = some j := hk
      unfold atI
      rw [t.length, hk]
      exact hv
    exact .tpl (by rw [upd_ne (fun z => m.tup (.inl (g _ _ h)) (by rw [z]; exact hS))]; exact g _ _ h) (Mx.put m hS t' (t.same g) hv hk e)
  | @lst _ qs ds h n t =>
    obtain ⟨q, xs, es, h1, rfl, h2, h3⟩ := t.get (show ds[j]? = some l from e)
    have hm := List.mem_of_getElem? h1
    refine ⟨q, xs, es, .tail _ hm, rfl, h2, h3, fun k hk Q hQ => .inl ⟨p, _, k, _, rfl, rfl, SqL.of h, atI_map t.length.symm hk h1, hQ⟩, fun H2 g xs' es' hS m t' => ?_⟩
    exact .lst (by rw [upd_ne (fun z => n (by rw [z]; exact hm))]; exact g _ _ h) n (Kids.put m hS t' (t.same g) h1)
  | dct h k v n t => cases e
def sKApp (i : Nat) (fk f : Rho → Option PyData) : Rho → Option Out := fun ρ => ob (vr i ρ) fun c => ob (fk ρ) fun k => ob (kidOf c k) fun j => ob (kidAt c j) fun l => ob (f ρ) fun d => ob (appD l d) fun l' => some (.nx (ρ.set i (some (kidSet c j l'))))
def sKClr (i : Nat) (fk : Rho → Option PyData) : Rho → Option Out := fun ρ => ob (vr i ρ) fun c => ob (fk ρ) fun k => ob (kidOf c k) fun j => ob (kidAt c j) fun l => if isLst l = true then some (.nx (ρ.set i (some (kidSet c j (.list []))))) else none
end
end L2
namespace L2
open PySem PySem.Spec PyProof.Rows
/-! ### calls that leave the last parameters to their defaults -/
def dfl (h : List PyData → Option PyData) (dds : List PyData) : List PyData → Option PyData := fun ds => h (ds ++ dds)
theorem dfl_b (h : List PyData → Option PyData) (dds ds : List PyData) : dfl h dds ds = h (ds ++ dds) := rfl
structure KnownX (P : Program) (w : World) (K : PySem.W.Frag) (mg : Str → Option Value) (base : Heap) (x : Str) (n k : Nat) (h : List PyData → Option PyData) (dds : List PyData) : Prop where
  ex : ∃ (f : Addr) (fd : FuncData) (ps : List Str) (us : List Value) (dvs : List V), FnOk P w K mg base CX0 k f fd ps (spF K n h) ∧ mg x = some (.ref f) ∧ PySem.W.keepIn K (.ref f) = true ∧ Binds K fd ps us ∧ Vals dvs us ∧ ∀ (H : Hp) (S : Av), DenL K H S dvs dds
structure KnownNX (P : Program) (w : World) (K : PySem.W.Frag) (mg : Str → Option Value) (base : Heap) (x : Str) (n k : Nat) (h : List PyData → Option PyData) (dds : List PyData) : Prop where
  ex : ∃ (f : Addr) (fd : FuncData) (ps : List Str) (us : List Value) (dvs : List V), FnOk P w K mg base CX0 k f fd ps (spN K n h) ∧ mg x = some (.ref f) ∧ PySem.W.keepIn K (.ref f) = true ∧ Binds K fd ps us ∧ Vals dvs us ∧ ∀ (H : Hp) (S : Av), DenL K H S dvs dds
theorem KnownNX.known {P : Program} {w : World} {K : PySem.W.Frag} {mg : Str → Option Value} {base : Heap} {x : Str} {n k : Nat} {h : List PyData → Option PyData} {dds : List PyData} (F : KnownNX P w K mg base x n k h dds) : KnownX P w K mg base x n k h dds := by
  obtain ⟨f, fd, ps, us, dvs, F, m, kp, b, v, t⟩ := F.ex
  exact ⟨f, fd, ps, us, dvs, F.imp fun vs H Q E ⟨S, ds, d, m, h1, h2, e, q⟩ => ⟨S, ds, d, m, h1, h2, e, fun p H' g n o => q _ H' g (o.den (m.free n) fun a _ z => .inl z)⟩, m, kp, b, v, t⟩
section
variable {X : Cx} {M : List Nat} {a : Expr} {es : List Expr} {pos : Pos}
end
end L2
namespace L2
open PySem PySem.Spec PyProof.Rows
/-! ### zip(xs, ys) of two lists, walked by a target of two -/
section
variable {X : Cx} {pins : List (Addr × Obj)} {σ : St} {H : Hp} {s : Shared}
end
/-- the pair of the two lists' things at turn i -/
def Itz (K : PySem.W.Frag) (a b : Addr) : It :=
  ⟨fun i H => ∃ xs ys x y, SqL K H a xs ∧ SqL K H b ys ∧ xs[i]? = some x ∧ ys[i]? = some y,
   fun i H v H' => ∃ p x y, H p = none ∧ v = .ref p ∧ H' = upd H p (.tup [x, y]) ∧ (∀ xs, SqL K H a xs → xs[i]? = some x) ∧ ∀ ys, SqL K H b ys → ys[i]? = some y,
   fun i H => ∃ xs ys, SqL K H a xs ∧ SqL K H b ys ∧ (xs[i]? = none ∨ ys[i]? = none)⟩
section
variable {X : Cx} {M : List Nat} {a b : Expr} {es : List Expr} {f fa fb : Rho → Option PyData} {pos : Pos}
/-- (x0, y0), (x1, y1), .. -/
def zpL : List PyData → List PyData → List PyData
  | d :: ds, e :: es => .tuple [d, e] :: zpL ds es
  | _, _ => []
theorem zpL_get : ∀ (ds es : List PyData) (i : Nat) (d : PyData), (zpL ds es)[i]? = some d → ∃ x y, ds[i]? = some x ∧ es[i]? = some y ∧ d = .tuple [x, y]
  | [], _, _, _, h => by simp [zpL] at h
  | _ :: _, [], _, _, h => by simp [zpL] at h
  | x :: ds, y :: es, 0, d, h => by simp [zpL] at h; exact ⟨x, y, rfl, rfl, h.symm⟩
  | x :: ds, y :: es, i + 1, d, h => by
    obtain ⟨x', y', h1, h2, h3⟩ := zpL_get ds es i d (by simpa [zpL] using h)
    exact ⟨x', y', by simpa using h1, by simpa using h2, h3⟩
theorem zpL_end : ∀ (ds es : List PyData), ds[(zpL ds es).length]? = none ∨ es[(zpL ds es).length]? = none
  | [], _ => .inl rfl
  | _ :: _, [] => .inr rfl
  | x :: ds, y :: es => by
    rcases zpL_end ds es with h | h
    · left; simpa [zpL] using h
    · right; simpa [zpL] using h
theorem IsIt.zip {K : PySem.W.Frag} {H : Hp} {S : Av} {l m : Addr} {xs ys : List V} {ds es : List PyData} (h : SqL K H l xs) (t : DenL K H S xs ds) (h' : SqL K H m ys) (t' : DenL K H S ys es) : IsIt K S (Itz K l m) H (zpL ds es) where
  go := fun i H' e hi => by
    obtain ⟨d, hd⟩ : ∃ d, (zpL ds es)[i]? = some d := ⟨_, List.getElem?_eq_getElem hi⟩
    obtain ⟨x, y, h1, h2, _⟩ := zpL_get ds es i d hd
    obtain ⟨v, h3, _⟩ := t.get h1
    obtain ⟨w, h4, _⟩ := t'.get h2
    exact ⟨xs, ys, v, w, e.seq h, e.seq h', h3, h4⟩
  yld := fun i H' x H2 e ⟨p, y1, y2, hp, ex, e2, q1, q2⟩ => by
    subst ex e2
    refine ⟨Same.lay hp, fun d hd S' w => ?_⟩
    obtain ⟨d1, d2, h1, h2, rfl⟩ := zpL_get ds es i d hd
    obtain ⟨v1, h3, r1⟩ := t.get h1
    obtain ⟨v2, h4, r2⟩ := t'.get h2
    have e3 := q1 xs (e.seq h)
    have e4 := q2 ys (e.seq h')
    rw [h3] at e3
    rw [h4] at e4
    cases e3
    cases e4
    exact .tuple (SqT.of upd_same) (.cons (w _ _ r1) (.cons (w _ _ r2) .nil))
  stop := fun H' e => ⟨xs, ys, e.seq h, e.seq h', by
    have a := t.length
    have b := t'.length
    rcases zpL_end ds es with z | z
    · left; rw [List.getElem?_eq_none_iff] at z ⊢; omega
    · right; rw [List.getElem?_eq_none_iff] at z ⊢; omega⟩
def zipD : PyData → PyData → Option (List PyData)
  | .list ds, .list es => some (zpL ds es)
  | _, _ => none
def evI2 (fa fb : Rho → Option PyData) (g : PyData → PyData → Option (List PyData)) (ρ : Rho) : Option (List PyData) := ob (fa ρ) fun x => ob (fb ρ) fun y => g x y
theorem zipD_ll (ds es : List PyData) : zipD (.list ds) (.list es) = some (zpL ds es) := rfl
theorem zpL_c (d e : PyData) (ds es : List PyData) : zpL (d :: ds) (e :: es) = .tuple [d, e] :: zpL ds es := rfl
theorem zpL_nl (es : List PyData) : zpL [] es = [] := by cases es <;> rfl
theorem zpL_nr (ds : List PyData) : zpL ds [] = [] := by cases ds <;> rfl
end
end L2
namespace L2
open PySem PySem.Spec PyProof.Rows
/-! ### T.index(e), T a constant tuple of the module -/
section
variable {X : Cx} {G : Gm} {M M' Mb L : List Nat} {fr : Fr} {a b c : Expr} {es : List Expr} {f fk g : Rho → Option PyData} {pos : Pos} {u : Rho → Option Out}
end
end L2
namespace L2
open PySem PySem.Spec PyProof.Rows
/-! ### greater than, of data: ints, tuples of such -/
mutual
def gtX : PyData → PyData → Option Bool
  | .int i, .int j => some (decide (i > j))
  | .tuple xs, .tuple ys => gtXs xs ys
  | _, _ => none
def gtXs : List PyData → List PyData → Option Bool
  | [], [] => some false
  | [], _ :: _ => some false
  | _ :: _, [] => some true
  | x :: xs, y :: ys => if PyData.eqv x y = true then gtXs xs ys else gtX x y
end
section
open PySem.SeqAt
open PySem.AutoSeq1 (wpAny_loadPart')
open PySem.MeetsSeq PySem.MeetsSeq2 PySem.MeetsSeq3
end
end L2
namespace L2
open PySem PySem.Spec PyProof.Rows
/-! ### min, max: of two, of a list, with a default; ints and tuples of such -/
section
variable {prog : Program} {w : World} {A : Around} {R : Result → Shared → Prop} {it : Addr} {fp wr : List Addr} {n : Nat} {P : Nat → Value → Prop} {St : Nat → Heap → Prop} {h0 : Heap}
end
section
variable {s : Shared} {prog : Program} {w : World} {A : Around} {E : Value → Shared → Prop}
end
section
variable {prog : Program} {w : World} {A : Around} {R : Result → Shared → Prop} {it : Addr} {fp wr : List Addr} {n : Nat} {P : Nat → Value → Prop} {St : Nat → Heap → Prop} {h0 : Heap}
end
section
variable {s : Shared} {prog : Program} {w : World} {A : Around} {E : Value → Shared → Prop}
end
section
variable {X : Cx}
def minT2D : List PyData → Option PyData
  | [x, y] => if SeqAt.shaped x = true ∧ SeqAt.shaped y = true ∧ y.depth ≤ 50 then ob (ltX y x) fun r => some (if r = true then y else x) else none
  | _ => none
def maxT2D : List PyData → Option PyData
  | [x, y] => if SeqAt.shaped x = true ∧ SeqAt.shaped y = true ∧ y.depth ≤ 50 then ob (gtX y x) fun r => some (if r = true then y else x) else none
  | _ => none
theorem minT2D_c (x y : PyData) : minT2D [x, y] = if SeqAt.shaped x = true ∧ SeqAt.shaped y = true ∧ y.depth ≤ 50 then ob (ltX y x) fun r => some (if r = true then y else x) else none := rfl
theorem maxT2D_c (x y : PyData) : maxT2D [x, y] = if SeqAt.shaped x = true ∧ SeqAt.shaped y = true ∧ y.depth ≤ 50 then ob (gtX y x) fun r => some (if r = true then y else x) else none := rfl
theorem minT2D_i (i j : Int) : minT2D [.int i, .int j] = some (.int (if j < i then j else i)) := by
  have c : SeqAt.shaped (.int i) = true ∧ SeqAt.shaped (.int j) = true ∧ (PyData.int j).depth ≤ 50 := ⟨rfl, rfl, Nat.zero_le _⟩
  rw [minT2D_c, if_pos c, ltX]
  by_cases h : j < i
  · rw [if_pos h, decide_eq_true h]; rfl
  · rw [if_neg h, decide_eq_false h]; rfl
theorem maxT2D_i (i j : Int) : maxT2D [.int i, .int j] = some (.int (if j > i then j else i)) := by
  have c : SeqAt.shaped (.int i) = true ∧ SeqAt.shaped (.int j) = true ∧ (PyData.int j).depth ≤ 50 := ⟨rfl, rfl, Nat.zero_le _⟩
  rw [maxT2D_c, if_pos c, gtX]
  by_cases h : j > i
  · rw [if_pos h, decide_eq_true h]; rfl
  · rw [if_neg h, decide_eq_false h]; rfl
end
end L2
namespace L2
open PySem PySem.Spec PyProof.Rows
theorem Vals.back : ∀ {vs : List V} {us : List Value} {i : Nat} {u : Value}, Vals vs us → us[i]? = some u → ∃ v, vs[i]? = some v ∧ RelV v u
  | _, _, _, _, .nil, h => by simp at h
  | _, _, 0, _, .cons r _, h => by cases h; exact ⟨_, rfl, r⟩
  | _, _, i + 1, _, .cons _ t, h => by
    obtain ⟨v, hv, r⟩ := Vals.back t (i := i) (by simpa using h)
    exact ⟨v, by simpa using hv, r⟩
theorem DenL.back {K : PySem.W.Frag} {H : Hp} {S : Av} : ∀ {vs : List V} {ds : List PyData} {i : Nat} {v : V}, DenL K H S vs ds → vs[i]? = some v → ∃ d, ds[i]? = some d ∧ Den K H S v d
  | _, _, _, _, .nil, h => by simp at h
  | _, _, 0, _, .cons r _, h => by cases h; exact ⟨_, rfl, r⟩
  | _, _, i + 1, _, .cons _ t, h => by
    obtain ⟨v, hv, r⟩ := DenL.back t (i := i) (by simpa using h)
    exact ⟨v, by simpa using hv, r⟩
end L2
namespace L2
open PySem PySem.Spec PyProof.Rows
/-! ### min of one list -/
section
variable {s : Shared} {prog : Program} {w : World} {A : Around} {E : Value → Shared → Prop}
end
section
variable {X : Cx}
end
end L2
namespace L2
open PySem PySem.Spec PyProof.Rows
/-! ### max of one list -/
section
variable {s : Shared} {prog : Program} {w : World} {A : Around} {E : Value → Shared → Prop}
end
section
variable {X : Cx}
end
end L2
namespace L2
open PySem PySem.Spec PyProof.Rows
/-! ### range(a, b, c) -/
section
variable {X : Cx} {tg a b c : Expr} {pos : Pos}
end
end L2
namespace L2
open PySem PySem.Spec PyProof.Rows
/-! ### d.items(), walked by a target of two -/
section
variable {prog : Program} {w : World} {A : Around} {E : Value → Shared → Prop} {s : Shared}
end
section
variable {X : Cx} {M : List Nat} {a : Expr} {f : Rho → Option PyData} {ts : List Expr} {kk : Nat} {tp apos cpos : Pos}
end
end L2
namespace L2
open PySem PySem.Spec PyProof.Rows
/-! ### {k: v}, k an int -/
section
variable {X : Cx} {M : List Nat} {a b : Expr} {f fk : Rho → Option PyData} {pos : Pos}
end
end L2
namespace L2
open PySem PySem.Spec PyProof.Rows
/-! ### dict(xs), xs a list of pairs -/
theorem Is2.grow {h h' : Heap} {ks : K2} {a : Addr} (x : Is2 h ks a) (k : ∀ b o, h.get? b = some o → h'.get? b = some o) : Is2 h' ks a := let ⟨as, r⟩ := x; ⟨as, Reads.keeps k r⟩
section
variable {prog : Program} {w : World} {A : Around} {E : Value → Shared → Prop} {s : Shared} {D : Addr} {kvs : List (KX × Addr × V)} {ep : Nat} {ks : KX} {b : Addr} {v : V} {key r : Value} {h0 : Heap}
end
theorem DctAt.but {h h' : Heap} {D : Addr} {kvs : List (KX × Addr × V)} {ep : Nat} (d : DctAt D kvs ep h) (k : ∀ o, h.get? D = some o → h'.get? D = some o) : DctAt D kvs ep h' :=
  ⟨d.1, d.2.1, d.2.2.imp (fun ⟨xs, r, o, es, g1, g2⟩ => ⟨xs, r, o, es, k o g1, g2⟩) fun ⟨xs, r, o, es, g1, g2⟩ => ⟨xs, r, o, es, k o g1, g2⟩⟩
section
variable {prog : Program} {w : World} {A : Around} {R : Result → Shared → Prop} {it D : Addr} {fp wr : List Addr} {Pv : Nat → Value → Prop} {St : Nat → Heap → Prop} {h0 : Heap}
end
end L2
namespace L2
open PySem PySem.Spec PyProof.Rows
section
variable {prog : Program} {w : World} {A : Around} {E : Value → Shared → Prop} {s : Shared}
end
section
variable {K : PySem.W.Frag} {H : Hp} {S : Av}
end
section
variable {X : Cx} {pins : List (Addr × Obj)} {σ : St} {H : Hp} {s : Shared} {S : Av}
end
end L2
namespace L2
open PySem PySem.Spec PyProof.Rows
/-! ### xs.insert(k, v), k from 0 to the length -/
theorem Vals.takes : ∀ {vs : List V} {us : List Value} (k : Nat), Vals vs us → Vals (vs.take k) (us.take k)
  | _, _, 0, _ => by rw [List.take_zero, List.take_zero]; exact .nil
  | _, _, _ + 1, .nil => .nil
  | _, _, k + 1, .cons r t => .cons r (Vals.takes k t)
section
variable {X : Cx} {G : Gm} {M Mb L : List Nat} {fr : Fr} {a b : Expr} {f fk : Rho → Option PyData} {pos : Pos} {K : PySem.W.Frag} {H : Hp} {S : Av}
theorem DenL.takes : ∀ {vs : List V} {ds : List PyData} (k : Nat), DenL K H S vs ds → DenL K H S (vs.take k) (ds.take k)
  | _, _, 0, _ => by rw [List.take_zero, List.take_zero]; exact .nil
  | _, _, _ + 1, .nil => .nil
  | _, _, k + 1, .cons r t => .cons r (DenL.takes k t)
end
end L2
namespace L2
open PySem PySem.Spec PyProof.Rows
section
variable {X : Cx} {G : Gm} {M M' Mb L : List Nat} {a : Expr} {f : Rho → Option PyData} {pos tp : Pos}
end
end L2
namespace L2
open PySem PySem.Spec PyProof.Rows
/-! ### the truth of what is no truth -/
section
variable {X : Cx} {M : List Nat} {a : Expr} {f : Rho → Option PyData}
end
end L2
namespace L2
open PySem PySem.Spec PyProof.Rows
/-! ### a built-in called with one thing and one keyword -/
section
variable {X : Cx} {M : List Nat} {a b : Expr} {fa fb : Rho → Option PyData} {pos : Pos}
end

section
variable {s : Shared} {prog : Program} {w : World} {A : Around} {E : Value → Shared → Prop}
end
section
variable {X : Cx}
end

section
variable {s : Shared} {prog : Program} {w : World} {A : Around} {E : Value → Shared → Prop}
end
section
variable {X : Cx}
end
end L2
namespace L2
open PySem
/-! ### evaluation of what has come later -/
theorem sTakeD_b (i : Nat) (f : Rho → Option PyData) (ρ : Rho) : sTakeD i f ρ = takO (decide (i < ρ.length ∧ ρ.length ≤ 1000)) (f ρ) i ρ := by
  unfold sTakeD ob takO
  by_cases h : i < ρ.length ∧ ρ.length ≤ 1000
  · rw [if_pos h, decide_eq_true h]
    cases f ρ <;> rfl
  · rw [if_neg h, decide_eq_false h]
def vcO (a : Option PyData) (b : Option (List PyData)) : Option (List PyData) := match a, b with | some x, some xs => if isLst x = true then some (x :: xs) else none | _, _ => none
theorem vC_b (f : Rho → Option PyData) (fs : Rho → Option (List PyData)) (ρ : Rho) : vC f fs ρ = vcO (f ρ) (fs ρ) := by
  unfold vC ob vcO
  cases f ρ <;> cases fs ρ <;> rfl
theorem vcO_s (ds es : List PyData) : vcO (some (.list ds)) (some es) = some (.list ds :: es) := rfl
def bi2O (a b : Option PyData) (g : PyData → PyData → Option (List PyData)) : Option (List PyData) := match a, b with | some x, some y => g x y | _, _ => none
theorem evI2_b (fa fb : Rho → Option PyData) (g : PyData → PyData → Option (List PyData)) (ρ : Rho) : evI2 fa fb g ρ = bi2O (fa ρ) (fb ρ) g := by
  unfold evI2 ob bi2O
  cases fa ρ <;> cases fb ρ <;> rfl
theorem bi2O_s (x y : PyData) (g : PyData → PyData → Option (List PyData)) : bi2O (some x) (some y) g = g x y := rfl
def kapO (c k d : Option PyData) (i : Nat) (ρ : Rho) : Option Out := match c, k, d with
  | some c, some k, some d => ob (kidOf c k) fun j => ob (kidAt c j) fun l => ob (appD l d) fun l' => some (.nx (ρ.set i (some (kidSet c j l'))))
  | _, _, _ => none
theorem sKApp_b (i : Nat) (fk f : Rho → Option PyData) (ρ : Rho) : sKApp i fk f ρ = kapO (vr i ρ) (fk ρ) (f ρ) i ρ := by
  unfold sKApp kapO
  cases vr i ρ with
  | none => rfl
  | some c =>
    cases fk ρ with
    | none => rfl
    | some k =>
      cases f ρ with
      | some d => rfl
      | none =>
        show ob (kidOf c k) _ = none
        cases kidOf c k with
        | none => rfl
        | some j =>
          show ob (kidAt c j) _ = none
          cases kidAt c j <;> rfl
def kclO (c k : Option PyData) (i : Nat) (ρ : Rho) : Option Out := match c, k with
  | some c, some k => ob (kidOf c k) fun j => ob (kidAt c j) fun l => if isLst l = true then some (.nx (ρ.set i (some (kidSet c j (.list []))))) else none
  | _, _ => none
theorem sKClr_b (i : Nat) (fk : Rho → Option PyData) (ρ : Rho) : sKClr i fk ρ = kclO (vr i ρ) (fk ρ) i ρ := by
  unfold sKClr kclO
  cases vr i ρ with
  | none => rfl
  | some c => cases fk ρ <;> rfl
def nxdO (o : Option PyData) (i : Nat) (ρ : Rho) : Option Out := match o with | some l => some (.nx (ρ.set i (some l))) | none => none
theorem nxdO_s (l : PyData) (i : Nat) (ρ : Rho) : nxdO (some l) i ρ = some (.nx (ρ.set i (some l))) := rfl
def dpO (d l k : Option PyData) (i : Nat) (ρ : Rho) : Option Out := match d, l, k with | some d, some l, some k => nxdO (dputD l k d) i ρ | _, _, _ => none
theorem dpO_s (d l k : PyData) (i : Nat) (ρ : Rho) : dpO (some d) (some l) (some k) i ρ = nxdO (dputD l k d) i ρ := rfl
theorem sDput_b (i : Nat) (fk f : Rho → Option PyData) (ρ : Rho) : sDput i fk f ρ = dpO (f ρ) (vr i ρ) (fk ρ) i ρ := by
  unfold sDput dpO ob
  cases f ρ with
  | none => rfl
  | some d =>
    cases vr i ρ with
    | none => rfl
    | some l =>
      cases fk ρ with
      | none => rfl
      | some k =>
        dsimp only
        unfold nxdO
        cases dputD l k d <;> rfl
def triO (a b c : Option PyData) (r : PyData → PyData → PyData → Option PyData) : Option PyData := match a, b, c with | some x, some y, some z => r x y z | _, _, _ => none
theorem triO_s (x y z : PyData) (r : PyData → PyData → PyData → Option PyData) : triO (some x) (some y) (some z) r = r x y z := rfl
theorem ev3_b (f g h : Rho → Option PyData) (r : PyData → PyData → PyData → Option PyData) (ρ : Rho) : ev3 f g h r ρ = triO (f ρ) (g ρ) (h ρ) r := by
  unfold ev3 triO ob
  cases f ρ <;> cases g ρ <;> cases h ρ <;> rfl
theorem kapO_t0 (a b : List PyData) (d : PyData) (i : Nat) (ρ : Rho) : kapO (some (.tuple [.list a, .list b])) (some (.int 0)) (some d) i ρ = if a.length < 1000 then some (.nx (ρ.set i (some (.tuple [.list (a ++ [d]), .list b])))) else none := by
  show ob (appD (.list a) d) _ = _
  rw [appD_l]
  split <;> rfl
theorem kapO_t1 (a b : List PyData) (d : PyData) (i : Nat) (ρ : Rho) : kapO (some (.tuple [.list a, .list b])) (some (.int 1)) (some d) i ρ = if b.length < 1000 then some (.nx (ρ.set i (some (.tuple [.list a, .list (b ++ [d])])))) else none := by
  show ob (appD (.list b) d) _ = _
  rw [appD_l]
  split <;> rfl
theorem kclO_t0 (a b : List PyData) (i : Nat) (ρ : Rho) : kclO (some (.tuple [.list a, .list b])) (some (.int 0)) i ρ = some (.nx (ρ.set i (some (.tuple [.list [], .list b])))) := rfl
theorem kclO_t1 (a b : List PyData) (i : Nat) (ρ : Rho) : kclO (some (.tuple [.list a, .list b])) (some (.int 1)) i ρ = some (.nx (ρ.set i (some (.tuple [.list a, .list []])))) := rfl
end L2
namespace L2
open PySem PySem.Spec PyProof.Rows
/-! ### [new list for ..]: a list of new lists -/
theorem Kids.snoc {K : PySem.W.Frag} {H : Hp} {S : Av} {p : Addr} {xs : List V} {es : List PyData} (h : H p = some (.lst xs)) (t : DenL K H S xs es) {qs : List Addr} {ds : List PyData} (n : p ∉ qs) (k : Kids K H S qs ds) : Kids K H S (qs ++ [p]) (ds ++ [.list es]) := by
  induction k with
  | nil => exact .cons h t (fun z => nomatch z) .nil
  | cons h' t' n' _ r => exact .cons h' t' (fun z => (List.mem_append.mp z).elim n' fun z => n (by rw [List.mem_singleton.mp z]; exact .head _)) (r fun z => n (.tail _ z))
section
variable {X : Cx} {G : Gm} {M M' Mb L : List Nat} {fr : Fr} {f : Rho → Option PyData} {p : Rho → Option Bool} {pos : Pos}
variable {elt iter tg : Expr} {ifs : List Expr} {x : Str} {N' : List Str} {px : Pos} {sc : Scope} {n k : Nat} {fi : Rho → Option (List PyData)} {g : PyData → Rho → Option Rho}
end
end L2
namespace L2
open PySem PySem.Spec PyProof.Rows
/-! ### dicts whose values are one's own lists -/
section
variable {K : PySem.W.Frag} {G : Gm} {M L : List Nat} {H H' : Hp} {S : Av} {σ : St} {ρ : Rho} {d : PyData}
/-- a new list is kept apart, too -/
theorem OwnS.more (h : OwnS K G M L H S σ ρ) {q : Addr} (hn : H q = none) (e : Same H H') (hq : ∃ o, H' q = some o ∧ isMut o = true) : OwnS K G M L H' (insA S q) σ ρ := by
  have sub : ∀ a, H a ≠ none → insA S q a → S a := fun a ha z => by
    rcases z with z | rfl
    · exact z
    · exact absurd hn ha
  obtain ⟨F, f⟩ := h.deep
  refine ⟨⟨(h.ds.1.same e).ins hq, h.ds.2.1, fun j d' hj w => let ⟨v, a, b⟩ := h.ds.2.2 j d' hj w; ⟨v, a, (b.sub sub).same e⟩⟩, fun a z => .inl (h.s0 a z), h.h0.trans e, fun j hj d' w => ?_, h.apart, fun a z => ?_, h.lkd, F, fun j hj d' w => ?_, f.disj, f.flat⟩
  · obtain ⟨p, a, b, c, n⟩ := h.own j hj d' w
    exact ⟨p, a, (b.sub sub).same e, .inl c, n⟩
  · rcases z with z | rfl
    · exact h.bnd a z
    · exact .inr (.inl (h.h0.free hn))
  · obtain ⟨p, a, b, c⟩ := f.own j hj d' w
    exact ⟨p, a, (b.sub sub).same e, fun r hr => ⟨.inl (c r hr).1, (c r hr).2⟩⟩
end
/-! #### the value at a key, itself -/
/-! #### d[k] = [], d[k].append(v) -/
section
variable {X : Cx} {G : Gm} {M M' Mb L : List Nat} {fr : Fr} {a b : Expr} {f fk : Rho → Option PyData} {pos lp : Pos}
end
end L2
namespace L2
open PySem PySem.Spec PyProof.Rows
/-! ### d.setdefault(k, []).append(v) with tuples as keys, the lists within one's own -/
section
variable {P : Program} {w : World} {T : Type} [DecidableEq T] {knd : HeapKind P w T} {A : Around} {E : Value → Shared → Prop} {s : Shared} {d a : Addr} {k : T} {xs : List (T × Addr × Value)} {z : Value} {Q : Value → Shared → Prop}
end
section
variable {X : Cx} {pins : List (Addr × Obj)} {σ : St} {H : Hp} {s : Shared} {S : Av} {a : Addr} {kvs : List (KX × Addr × V)} {ep : Nat} {ds : List PyData} {ks : K2} {x y : V} {u r : Value} {A : Around} {E : Value → Shared → Prop}
end
section
variable {X : Cx} {G : Gm} {M M' Mb L : List Nat} {fr : Fr} {a b : Expr} {f fk : Rho → Option PyData} {pos lp : Pos}
end
end L2
namespace L2
open PySem PySem.Spec PyProof.Rows
/-! ### len of a dict whose keys are ints -/
end L2
namespace L2
open PySem PySem.Spec PyProof.Rows
/-! ### a def's names, decided at once; a def as it stands in K -/
def scB (N P G : List Str) (sc : Scope) : Bool :=
  decide (sc.kind = .function) && (decide (sc.isCoroutine = false) && (decide (sc.isGenerator = false) && (decide N.Nodup && (decide (N.take P.length = P) && (P.all (locB sc) && (sc.names.all (fun y => decide (y.2 ≠ .free)) && (N.all (fun x => visB sc x && locB sc x) && (G.all (glB sc) && N.all fun x => !(x == ("__debug__" : Str)) && !(x == ("__classdict__" : Str))))))))))
structure ScOk (N P G : List Str) (sc : Scope) : Prop where
  fs : FnScope N P sc
  nm : ∀ x ∈ N, visB sc x = true ∧ locB sc x = true
  gb : ∀ x ∈ G, glB sc x = true
  db : ∀ x ∈ N, (x == ("__debug__" : Str)) = false ∧ (x == ("__classdict__" : Str)) = false
theorem scmk {N P G : List Str} {sc : Scope} (h : scB N P G sc = true) : ScOk N P G sc := by
  unfold scB at h
  simp only [Bool.and_eq_true, decide_eq_true_eq, List.all_eq_true, Bool.not_eq_true'] at h
  obtain ⟨h1, h2, h3, h4, h5, h6, h7, h8, h9, h10⟩ := h
  exact ⟨⟨h1, h2, h3, h4, h5, fun x hx => loc_fn (h6 x hx), h7⟩, h8, h9, h10⟩
section
variable {N P G : List Str} {sc : Scope} {x : Str}
theorem ScOk.vis (S : ScOk N P G sc) (i : Nat) (e : N[i]? = some x) : Vis sc x := vis_fn (S.nm x (List.mem_of_getElem? e)).1
theorem ScOk.loc (S : ScOk N P G sc) (i : Nat) (e : N[i]? = some x) : Loc sc x := loc_fn (S.nm x (List.mem_of_getElem? e)).2
theorem ScOk.gl {X : Cx} (S : ScOk N P G sc) (i : Nat) (e : G[i]? = some x) (hs : X.env.scope = sc) : Gl X x := gl_fn sc hs (S.gb x (List.mem_of_getElem? e))
end
section
variable {X : Cx} {G : Gm} {P Gn : List Str} {M L : List Nat} {x : Str} {pos : Pos} {a b c d : Expr} {fa fb fc fd : Rho → Option PyData}
/-- a name is read, a name is stored: by what is known of the def's names -/
theorem pd_v (A : ScOk X.N P Gn X.env.scope) (i : Nat) (e : X.N[i]? = some x := by rfl) (hM : i ∉ M := by decide) : PD X M (.Name x pos) (vr i) := pd_var i (A.vis i e) hM e (A.db x (List.mem_of_getElem? e)).1 (A.db x (List.mem_of_getElem? e)).2
/-- one, two, three written items -/
theorem pda1 (ha : PD X M a fa) (ea : starEach [a] X.env = (false, eval a X.env) :: starEach [] X.env := by rfl) : PDA X M [a] (aC fa aN) := pda_cons ha pda_nil ea
theorem pda2 (ha : PD X M a fa) (hb : PD X M b fb) (ea : starEach [a, b] X.env = (false, eval a X.env) :: starEach [b] X.env := by rfl) (eb : starEach [b] X.env = (false, eval b X.env) :: starEach [] X.env := by rfl) : PDA X M [a, b] (aC fa (aC fb aN)) := pda_cons ha (pda1 hb eb) ea
theorem pda3 (ha : PD X M a fa) (hb : PD X M b fb) (hc : PD X M c fc) (ea : starEach [a, b, c] X.env = (false, eval a X.env) :: starEach [b, c] X.env := by rfl) (eb : starEach [b, c] X.env = (false, eval b X.env) :: starEach [c] X.env := by rfl) (ec : starEach [c] X.env = (false, eval c X.env) :: starEach [] X.env := by rfl) : PDA X M [a, b, c] (aC fa (aC fb (aC fc aN))) := pda_cons ha (pda2 hb hc eb ec) ea
end
def FnK (K : PySem.W.Frag) (n : Str) (st : Stmt) : Prop := ∃ (f : Addr) (fd : FuncData), PySem.W.nsIn K mainGlobals n = some (some (.ref f)) ∧ Fun K n n st f fd
theorem FnK.of {K : PySem.W.Frag} {n : Str} {st : Stmt} {f : Addr} {oc : Value} {od an : Option Addr} {osl : Array (Option Value)} {kV doc pm cdv ct : Value} (a : PySem.W.nsIn K mainGlobals n = some (some (.ref f))) (l : K.lookup f = some ⟨oc, od, .func (PySem.W.fnOf n n (defArgs st) (defBody st) (defScope st) .none kV doc pm an cdv ct), osl⟩)
    (c : PySem.W.codeIn K cdv n = true) (k : PySem.W.keepIn K (.ref f) = true) : FnK K n st := ⟨f, _, a, fun_mk l c k⟩
end L2
namespace L2
open PySem PySem.Spec PyProof.Rows
/-! ### an exception on its way keeps its dict -/
theorem dict_mapFields (f : Array Value → Array Value) (o : Obj) : (Obj.mapFields f o).dict = o.dict := by
  obtain ⟨c, d, dt, sl⟩ := o
  cases dt <;> rfl
/-- the record at e: its class, its args, its dict, its traceback T, whose frame in flight is fl -/
structure TrD (h B : Heap) (e : Addr) (cls a0 : Value) (dd : Option Addr) (fl : Value) : Prop where
  ex : ∃ o fs T p ts, h.get? e = some o ∧ o.data = .fields fs ∧ o.cls = cls ∧ o.dict = dd ∧ fs[0]? = some a0 ∧ fs[1]? = some (.ref T) ∧ T ≠ e ∧ B.get? T = none ∧ h.get? T = some p ∧ p.data = .fields ts ∧ ts[3]? = some fl
section
variable {h g B : Heap} {l : List Env} {e x : Addr} {o : Obj} {fs : Array Value} {i : Nat} {v : Value}
/-- what a change of a record's field leaves -/
theorem putF_ne (hb : x ≠ e) : (h.update e (Obj.mapFields (·.setIfInBounds i v))).get? x = h.get? x := Heap.get?_update_other _ _ (Ne.symm hb)
theorem putF_at (he : h.get? e = some o) (hd : o.data = .fields fs) : ∃ o', (h.update e (Obj.mapFields (·.setIfInBounds i v))).get? e = some o' ∧ o'.data = .fields (fs.setIfInBounds i v) ∧ o'.cls = o.cls ∧ o'.dict = o.dict :=
  ⟨_, Heap.get?_update_self _ he (Obj.isFreed_of_fields (Obj.data_mapFields hd _)), Obj.data_mapFields hd _, Obj.cls_mapFields _ _, dict_mapFields _ _⟩
theorem putF_up (he : h.get? e = some o) (hd : o.data = .fields fs) : h.UpToSlots (h.update e (Obj.mapFields (·.setIfInBounds i v))) := fun b ob hb nf => by
  have nb : b ≠ e := fun z => by
    rw [z, he] at hb
    cases hb
    exact nf _ hd
  exact ⟨ob.slots, by rw [putF_ne nb]; exact hb⟩
theorem putF_base (hB : B.StaysIn h) (hn : B.get? e = none) : B.StaysIn (h.update e (Obj.mapFields (·.setIfInBounds i v))) := fun b ob hb => by
  rw [putF_ne fun z => by rw [z, hn] at hb; cases hb]
  exact hB b ob hb
theorem up_frames (u : h.UpToSlots g) (F : h.FunFrames B l) : g.FunFrames B l := F.of_keeps fun b ob hb nf => by
  obtain ⟨sl, z⟩ := u b ob hb nf
  exact ⟨_, z, rfl⟩
end
section
variable {M : Model} {A : Around} {E : Value → Shared → Prop} {s : Shared} {B : Heap} {env : Env} {outer : List Env} {L e : Addr} {cls a0 fl : Value} {dd : Option Addr} {Q : Unit → Shared → Prop}
/-- a new entry of the traceback, put ahead -/
theorem entry_put {o : Obj} {fs : Array Value} {hd : Value} {nx : Bool} (fr : A.frames = some (env :: outer)) (F : s.heap.FunFrames B (env :: outer)) (hf : env.frame = some L) (he : s.heap.get? e = some o) (hB : B.StaysIn s.heap) (hn : B.get? e = none) (ho : o.data = .fields fs) (hz : 1 < fs.size) (h0 : fs[0]? = some a0)
    (k : ∀ h', B.StaysIn h' → h'.FunFrames B (env :: outer) → TrD h' B e o.cls a0 o.dict (rawInt L) → s.heap.UpToSlots h' → Q () { s with heap := h' }) :
    wpAny M A (do let a ← frameOf env; let pl ← entryPlaceOf L nx; let b ← EntryCells.newEntry hd a .none (rawInt L) .none pl; setField (.ref e) 1 b) Q E s := by
  refine wpAny_bind (wpAny_frameOf_fun fr F hf fun g sl => wpAny_bind (wpAny_entryPlaceOf fun pl hpl => ?_))
  have nf : e ∉ (env :: outer).filterMap (·.frame) := fun z => by
    obtain ⟨_, o', y, n⟩ := F.mem z
    rw [he] at y
    cases y
    exact n _ ho
  have e1 : g.get? e = some o := (sl.2.1 e nf).trans he
  have b1 : B.StaysIn g := fun b ob y => (sl.2.1 b fun z => by rw [(F.mem z).1] at y; cases y).trans (hB b ob y)
  have u1 : s.heap.UpToSlots g := fun b ob y _ => sl.2.2 b ob y
  unfold EntryCells.newEntry newFields
  refine wpAny_bind (wpAny_newObj_type ?_ (hpl.sizeOk5 _ _ _ _ _))
  generalize hp : (Obj.mk (Value.type "traceback") none (Data.fields ([hd, Value.ref L, Value.none, rawInt L, Value.none] ++ (if pl.isEmpty = true then List.replicate 6 Value.none else pl)).toArray) #[]) = p
  have t1 : ∃ ts, p.data = .fields ts ∧ ts[3]? = some (rawInt L) := ⟨_, by rw [← hp], by rw [List.getElem?_toArray]; rfl⟩
  obtain ⟨ts, pd, p3⟩ := t1
  have e2 : (g.push p).get? e = some o := Heap.get?_push_of_some _ e1
  have eT : (g.push p).get? g.objs.size = some p := Heap.get?_push_size g (by rw [← hp]; rfl)
  have nT : g.objs.size ≠ e := Nat.ne_of_gt (Heap.lt_size e1)
  have k2 : ∀ b ob, g.get? b = some ob → (g.push p).get? b = some ob := fun b ob y => Heap.get?_push_of_some _ y
  refine wpAny_setField e2 ho hz ?_
  obtain ⟨o', a1, a2, a3, a4⟩ := putF_at (i := 1) (v := .ref g.objs.size) e2 ho
  have u2 : s.heap.UpToSlots ((g.push p).update e (Obj.mapFields (·.setIfInBounds 1 (.ref g.objs.size)))) := (u1.trans (.of_keeps k2)).trans (putF_up e2 ho)
  refine k _ (putF_base (fun b ob y => k2 b ob (b1 b ob y)) hn) (up_frames u2 F) ⟨o', _, g.objs.size, p, ts, a1, a2, a3, a4, ?_, ?_, nT, b1.fresh, ?_, pd, p3⟩ u2
  · rw [Array.getElem?_setIfInBounds_ne (by decide)]; exact h0
  · rw [Array.getElem?_setIfInBounds_self, if_pos hz]
  · rw [putF_ne nT]; exact eT
/-- noted for the first time -/
theorem note_first {o : Obj} {fs : Array Value} (fr : A.frames = some (env :: outer)) (F : s.heap.FunFrames B (env :: outer)) (hf : env.frame = some L) (he : s.heap.get? e = some o) (hB : B.StaysIn s.heap) (hn : B.get? e = none) (ho : o.data = .fields fs) (h1 : fs[1]? = some .none) (h0 : fs[0]? = some a0)
    (k : ∀ h', B.StaysIn h' → h'.FunFrames B (env :: outer) → TrD h' B e o.cls a0 o.dict (rawInt L) → s.heap.UpToSlots h' → Q () { s with heap := h' }) : wpAny M A (noteFrame (.ref e) env) Q E s := by
  unfold noteFrame
  simp only [hf]
  refine wpAny_bind (wpAny_field he ho h1 ?_)
  rw [if_neg (by decide)]
  exact entry_put fr F hf he hB hn ho (Array.getElem?_eq_some_iff.mp h1).1 h0 k
/-- .. and again, further out -/
theorem note_on (fr : A.frames = some (env :: outer)) (F : s.heap.FunFrames B (env :: outer)) (hf : env.frame = some L) (t : TrD s.heap B e cls a0 dd .none) (hB : B.StaysIn s.heap) (hn : B.get? e = none)
    (k : ∀ h', B.StaysIn h' → h'.FunFrames B (env :: outer) → TrD h' B e cls a0 dd (rawInt L) → s.heap.UpToSlots h' → Q () { s with heap := h' }) : wpAny M A (noteFrame (.ref e) env) Q E s := by
  obtain ⟨o, fs, T, p, ts, he, ho, rfl, rfl, h0, h1, nT, bT, hT, hp, h3⟩ := t.ex
  unfold noteFrame
  simp only [hf]
  refine wpAny_bind (wpAny_field he ho h1 ?_)
  rw [if_pos (show (Value.ref T != Value.none) = true by simp)]
  refine wpAny_bind (wpAny_field hT hp h3 ?_)
  rw [if_neg (show ¬ (Value.none == rawInt L) = true by simp [rawInt])]
  refine wpAny_bind (wpAny_setField hT hp (Array.getElem?_eq_some_iff.mp h3).1 ?_)
  have u := putF_up (i := 3) (v := .none) hT hp
  exact entry_put fr (up_frames u F) hf (by rw [putF_ne nT.symm]; exact he) (putF_base hB bT) hn ho (Array.getElem?_eq_some_iff.mp h1).1 h0 fun h' x1 x2 x3 x4 => k h' x1 x2 x3 (u.trans x4)
/-- it flies no more here -/
theorem flight_none {l : List Env} (Fl : s.heap.FunFrames B l) (t : TrD s.heap B e cls a0 dd fl) (hB : B.StaysIn s.heap)
    (k : ∀ h', B.StaysIn h' → h'.FunFrames B l → TrD h' B e cls a0 dd .none → s.heap.UpToSlots h' → Q () { s with heap := h' }) : wpAny M A (setFlight (.ref e) none) Q E s := by
  obtain ⟨o, fs, T, p, ts, he, ho, rfl, rfl, h0, h1, nT, bT, hT, hp, h3⟩ := t.ex
  have z3 := (Array.getElem?_eq_some_iff.mp h3).1
  unfold setFlight
  refine wpAny_bind (wpAny_field he ho h1 ?_)
  rw [if_pos (show (Value.ref T != Value.none) = true by simp)]
  refine wpAny_setField hT hp z3 ?_
  have u := putF_up (i := 3) (v := .none) hT hp
  obtain ⟨p', b1, b2, _, _⟩ := putF_at (i := 3) (v := .none) hT hp
  exact k _ (putF_base hB bT) (up_frames u Fl) ⟨o, fs, T, p', _, by rw [putF_ne nT.symm]; exact he, ho, rfl, rfl, h0, h1, nT, bT, b1, b2, by rw [Array.getElem?_setIfInBounds_self, if_pos z3]⟩ u
end
/-- on its way, the frames l still ahead; noted in the frame of L -/
def FlyD (B : Heap) (l : List Env) (e : Addr) (cls a0 : Value) (dd : Option Addr) (h : Heap) : Prop := B.StaysIn h ∧ B.get? e = none ∧ h.FunFrames B l ∧ TrD h B e cls a0 dd .none
def HldD (B : Heap) (l : List Env) (e : Addr) (cls a0 : Value) (dd : Option Addr) (L : Addr) (h : Heap) : Prop := B.StaysIn h ∧ B.get? e = none ∧ h.FunFrames B l ∧ TrD h B e cls a0 dd (rawInt L)
theorem FlyD.first {B h : Heap} {l : List Env} {e : Addr} {cls a0 : Value} {dd : Option Addr} (x : FlyD B l e cls a0 dd h) : ∃ o fs, h.get? e = some o ∧ o.cls = cls ∧ o.data = .fields fs ∧ o.dict = dd := by
  obtain ⟨o, fs, _, _, _, he, ho, h1, h2, _⟩ := x.2.2.2.ex
  exact ⟨o, fs, he, h1, ho, h2⟩
section
variable {M : Model} {A : Around} {E : Value → Shared → Prop} {s : Shared} {B : Heap} {env : Env} {outer : List Env} {L e : Addr} {cls a0 : Value} {dd : Option Addr} {Q : Unit → Shared → Prop}
theorem leave_first {o : Obj} {fs : Array Value} (fr : A.frames = some (env :: outer)) (F : s.heap.FunFrames B (env :: outer)) (hf : env.frame = some L) (he : s.heap.get? e = some o) (hB : B.StaysIn s.heap) (hn : B.get? e = none) (ho : o.data = .fields fs) (h1 : fs[1]? = some .none) (h0 : fs[0]? = some a0)
    (k : ∀ h', FlyD B outer e o.cls a0 o.dict h' → s.heap.UpToSlots h' → Q () { s with heap := h' }) : wpAny M A (leaving env (.ref e)) Q E s := by
  unfold leaving
  refine wpAny_bind (note_first fr F hf he hB hn ho h1 h0 fun h' x1 x2 x3 x4 => flight_none x2 x3 x1 fun h2 y1 y2 y3 y4 => k h2 ⟨y1, hn, ?_, y3⟩ (x4.trans y4))
  obtain ⟨_, _, z⟩ := y2
  exact z
theorem leave_on (fr : A.frames = some (env :: outer)) (hf : env.frame = some L) (x : FlyD B (env :: outer) e cls a0 dd s.heap) (k : ∀ h', FlyD B outer e cls a0 dd h' → s.heap.UpToSlots h' → Q () { s with heap := h' }) : wpAny M A (leaving env (.ref e)) Q E s := by
  unfold leaving
  refine wpAny_bind (note_on fr x.2.2.1 hf x.2.2.2 x.1 x.2.1 fun h' x1 x2 x3 x4 => flight_none x2 x3 x1 fun h2 y1 y2 y3 y4 => k h2 ⟨y1, x.2.1, ?_, y3⟩ (x4.trans y4))
  obtain ⟨_, _, z⟩ := y2
  exact z
/-- noted in this frame already -/
theorem note_held {l : List Env} (hf : env.frame = some L) (x : HldD B l e cls a0 dd L s.heap) (k : Q () s) : wpAny M A (noteFrame (.ref e) env) Q E s := by
  obtain ⟨o, fs, T, p, ts, he, ho, _, _, h0, h1, nT, bT, hT, hp, h3⟩ := x.2.2.2.ex
  unfold noteFrame
  simp only [hf]
  refine wpAny_bind (wpAny_field he ho h1 ?_)
  rw [if_pos (show (Value.ref T != Value.none) = true by simp)]
  refine wpAny_bind (wpAny_field hT hp h3 ?_)
  rw [if_pos (show (rawInt L == rawInt L) = true by simp)]
  exact wpAny_pure k
theorem leave_held (hf : env.frame = some L) (x : HldD B (env :: outer) e cls a0 dd L s.heap) (k : ∀ h', FlyD B outer e cls a0 dd h' → s.heap.UpToSlots h' → Q () { s with heap := h' }) : wpAny M A (leaving env (.ref e)) Q E s := by
  unfold leaving
  refine wpAny_bind (note_held hf x (flight_none x.2.2.1 x.2.2.2 x.1 fun h2 y1 y2 y3 y4 => k h2 ⟨y1, x.2.1, ?_, y3⟩ y4))
  obtain ⟨_, _, z⟩ := y2
  exact z
end
end L2
namespace L2
open PySem PySem.Spec PyProof.Rows
/-! ### exceptions on their way: l the frames that they have still ahead, g the heap ahead of the call, B what stays -/
structure Fly (l : List Env) (H H' : Hp) (g h B : Heap) (a : Addr) (cls : Value) (t : Addr) (dd : Option Addr) : Prop where
  fl : FlyD B l a cls (.ref t) dd h
  trk : ∀ b u, H' b = some u → ∀ o, h.get? b = some o → B.get? b = some o
  old : ∀ b o, g.get? b = some o → H b = none → b ∉ frs l → B.get? b = some o
  dom : ∀ b o, g.get? b = some o → b ∉ frs l → ∃ o', B.get? b = some o'
  un : Un (frs l) [] H H' g h
def CX1 (P : Program) (w : World) : CXT := fun outer H s E e s' => ∃ a H' cls t B dd, e = .ref a ∧ s'.os = s.os ∧ AllBare s'.gens ∧ HOk P w H' s'.heap ∧ Fly outer H H' s.heap s'.heap B a cls t dd ∧ E cls dd H'
theorem ObjOk.ex {P : Program} {w : World} {H : Hp} {h : Heap} {a : Addr} {o : HO} (x : ObjOk P w H h a o) : ∃ ob, h.get? a = some ob := by
  cases o with
  | lst xs => obtain ⟨_, _, _, _, e⟩ := x; exact ⟨_, e⟩
  | tup xs => obtain ⟨_, _, _, _, e, _⟩ := x; exact ⟨_, e⟩
  | dK kvs => obtain ⟨_, _, _, _, o, _, _, e, _⟩ := x; exact ⟨_, e⟩
  | dT kvs => obtain ⟨_, _, _, _, o, _, _, e, _⟩ := x; exact ⟨_, e⟩
  | set S n => obtain ⟨o, _, _, _, e, _⟩ := x; exact ⟨_, e⟩
  | ins C dx fs => obtain ⟨_, _, _, e, _⟩ := x; exact ⟨_, e⟩
  | own y => obtain ⟨_, e⟩ := x; exact ⟨_, e⟩
  | xd fs => obtain ⟨_, ⟨_, _, _, e, _⟩, _⟩ := x; exact ⟨_, e⟩
  | rng lo hi => obtain ⟨_, _, _, e⟩ := x; exact ⟨_, e⟩
  | frz ob u => exact ⟨_, x.1⟩
  | tbl ps => exact ⟨_, (show h.get? a = some _ from x)⟩
  | met f y => exact ⟨_, (show h.get? a = some _ from x)⟩
  | ext φ => exact x.2.1
section
variable {P : Program} {w : World} {l l' : List Env} {H H' : Hp} {g h h' B : Heap} {a t : Addr} {cls : Value} {dd : Option Addr}
theorem Fly.hok (F : Fly l H H' g h B a cls t dd) (k : HOk P w H' h) (fl' : FlyD B l' a cls (.ref t) dd h') : HOk P w H' h' := fun b u e =>
  (k b u e).stay (fun c v hc q => by
    have : H' c ≠ none := by
      rcases hc with z | z
      · rw [z, e]; exact fun y => nomatch y
      · rw [z]; exact fun y => nomatch y
    obtain ⟨u', hu⟩ := Option.ne_none_iff_exists'.mp this
    exact fl'.1 _ _ (F.trk c u' hu v q)) (fun _ q => q) fun _ _ q => q
theorem Fly.step (F : Fly l H H' g h B a cls t dd) (k : HOk P w H' h) (fl' : FlyD B l a cls (.ref t) dd h') (up : h.UpToSlots h') : Fly l H H' g h' B a cls t dd where
  fl := fl'
  trk := fun b u e o q => by
    obtain ⟨o1, h1⟩ : ∃ o1, h.get? b = some o1 := (k b u e).ex
    have h2 := F.trk b u e o1 h1
    have h3 := fl'.1 _ _ h2
    rw [q] at h3
    cases h3
    exact h2
  old := F.old
  dom := F.dom
  un := {
    keep := fun b o e n hb _ => fl'.1 _ _ (F.old b o e n hb)
    slot := fun b o e n hb hx => by
      obtain ⟨sl, e1⟩ := F.un.slot b o e n hb hx
      obtain ⟨_, o', e2, nf⟩ := F.fl.2.2.1.mem hb
      rw [e1] at e2
      cases e2
      obtain ⟨sl', e3⟩ := up b _ e1 nf
      exact ⟨sl', e3⟩
    free := F.un.free
    there := fun b o e _ => by
      by_cases hb : b ∈ frs l
      · obtain ⟨_, o', e2, nf⟩ := F.fl.2.2.1.mem hb
        obtain ⟨sl', e3⟩ := up b _ e2 nf
        exact ⟨_, e3⟩
      · obtain ⟨o', e'⟩ := F.dom b o e hb
        exact ⟨o', fl'.1 _ _ e'⟩
    tups := F.un.tups
    frzs := F.un.frzs
    tbls := F.un.tbls }
end
abbrev exO (C : Addr) (od : Option Addr) (t : Addr) : Obj := { cls := .ref C, dict := od, data := .fields #[.ref t, .none, .none, .none, .bool false, .none] }
/-- what it tells, where it tells something -/
def DxD (K : PySem.W.Frag) (H : Hp) (dd : Option Addr) (y : PyData) : Prop := y = .none ∨ ∃ n d dx v, y = .tuple [.str n, d] ∧ flat d = true ∧ dd = some dx ∧ H dx = some (.xd [(n, v)]) ∧ Den K H (fun _ => False) v d
theorem DxD.same {K : PySem.W.Frag} {H H' : Hp} {dd : Option Addr} {y : PyData} (e : Same H H') (h : DxD K H dd y) : DxD K H' dd y := by
  rcases h with h | ⟨n, d, dx, v, h1, h2, h3, h4, h5⟩
  · exact .inl h
  · exact .inr ⟨n, d, dx, v, h1, h2, h3, e _ _ h4, h5.same e⟩
/-- an exception in the frame of X: made here, or come from a call; what is known of the state -/
def XMade (X : Cx) (pins : List (Addr × Obj)) (G : Gm) (M L : List Nat) (ρ : Rho) (a C : Addr) (y : PyData) (s' : Shared) : Prop :=
  ∃ σ H S od t, Inv X pins σ H s' ∧ OwnS X.K G M L H S σ ρ ∧ DxD X.K H od y ∧ H a = none ∧ (X.ex = [] → X.s₀.heap.get? a = none) ∧ s'.heap.get? a = some (exO C od t)
def XCame (X : Cx) (pins : List (Addr × Obj)) (G : Gm) (M L : List Nat) (ρ : Rho) (a C : Addr) (y : PyData) (s' : Shared) : Prop :=
  ∃ σ H S s1 H' B t dd, DxD X.K H' dd y ∧ Inv X pins σ H s1 ∧ OwnS X.K G M L H S σ ρ ∧ Same H H' ∧ s'.os = s1.os ∧ AllBare s'.gens ∧ HOk X.prog X.w H' s'.heap ∧ Fly X.stack H H' s1.heap s'.heap B a (.ref C) t dd
/-- made here or come from a call, and noted in this frame, behind a loop -/
def XHeld (X : Cx) (pins : List (Addr × Obj)) (G : Gm) (M L : List Nat) (ρ : Rho) (a C : Addr) (y : PyData) (s' : Shared) : Prop :=
  ∃ s2 B t dd h', ((∃ σ H S, Inv X pins σ H s2 ∧ OwnS X.K G M L H S σ ρ ∧ DxD X.K H dd y ∧ H a = none ∧ (X.ex = [] → X.s₀.heap.get? a = none) ∧ s2.heap.get? a = some (exO C dd t) ∧ B = PySem.W.hideAll s2.heap (a :: frs X.stack)) ∨
    ∃ σ H S s1 H', DxD X.K H' dd y ∧ Inv X pins σ H s1 ∧ OwnS X.K G M L H S σ ρ ∧ Same H H' ∧ s2.os = s1.os ∧ AllBare s2.gens ∧ HOk X.prog X.w H' s2.heap ∧ Fly X.stack H H' s1.heap s2.heap B a (.ref C) t dd) ∧
    s' = { s2 with heap := h' } ∧ HldD B X.stack a (.ref C) (.ref t) dd X.env.locals h' ∧ s2.heap.UpToSlots h'
/-- the class that has a name -/
def XCls (K : PySem.W.Frag) (c : Str) (C : Addr) : Prop := PySem.W.nsIn K mainGlobals c = some (some (.ref C)) ∧ xcB K C = true
def XAt (X : Cx) (o : Bool) (pins : List (Addr × Obj)) (G : Gm) (M L : List Nat) (x : PyData) (ρ : Rho) (e : Value) (s' : Shared) : Prop :=
  ∃ a c C y, e = .ref a ∧ x = excD c y ∧ XCls X.K c C ∧ ((o = false ∧ (XMade X pins G M L ρ a C y s' ∨ XHeld X pins G M L ρ a C y s')) ∨ XCame X pins G M L ρ a C y s')
def PDXs (X : Cx) (o : Bool) (G : Gm) (M L Mx : List Nat) (st : List Stmt) (w : Rho → Option (PyData × Rho)) : Prop :=
  ∀ (pins : List (Addr × Obj)) (s : Shared) (σ : St) (H : Hp) (S : Av) (ρ ρ' : Rho) (x : PyData), Inv X pins σ H s → OwnS X.K G M L H S σ ρ → w ρ = some (x, ρ') →
    wpAny (model X.prog X.w) X.A (execs st X.env) (fun _ _ => False) (XAt X o pins G Mx L x ρ') s
section
variable {X : Cx} {pins : List (Addr × Obj)} {σ : St} {H H' : Hp} {s s' : Shared} {G : Gm} {S : Av}
theorem Inv.stkLoc (I : Inv X pins σ H s) {b : Addr} {o : Obj} (e : X.s₀.heap.get? b = some o) (h : b ∉ X.fs) : b ∉ frs X.stack := fun z => by
  rcases List.mem_cons.mp (I.stkSub b z) with y | y
  · exact absurd (Heap.lt_size e) (by rw [y]; exact Nat.not_lt.mpr I.ok.above)
  · exact h y
theorem made_tail {a C t : Addr} {od : Option Addr} {h' : Heap} (I : Inv X pins σ H s) (hHa : H a = none) (hs0 : X.s₀.heap.get? a = none) (hst : X.stack = X.env :: X.outer) (hfr : X.env.frame = some X.env.locals) (hex : X.ex = [])
    (x1 : FlyD (PySem.W.hideAll s.heap (a :: frs X.stack)) X.outer a (.ref C) (.ref t) od h') (x4 : s.heap.UpToSlots h') : HOk X.prog X.w H h' ∧ Fly X.outer X.H₀ H X.s₀.heap h' (PySem.W.hideAll s.heap (a :: frs X.stack)) a (.ref C) t od := by
  have noex : ∀ b, b ∉ X.ex := fun b z => by rw [hex] at z; cases z
  have hin : ∀ env ∈ X.env :: X.outer, ∀ b, env.frame = some b → b ∈ a :: frs X.stack := fun env he b hb => by
    rw [hst]; exact .tail _ (List.mem_filterMap.mpr ⟨env, he, hb⟩)
  have hF : s.heap.FunFrames X.base (X.env :: X.outer) := by have := I.stack; rw [hst] at this; exact this
  have fr : X.A.frames = some (X.env :: X.outer) := by rw [I.ok.frames, hst]
  have hBn : (PySem.W.hideAll s.heap (a :: frs X.stack)).get? a = none := PySem.W.hideAll_none _ (.head _)
  have hB : ∀ b o, s.heap.get? b = some o → b ≠ a → b ∉ frs X.stack → (PySem.W.hideAll s.heap (a :: frs X.stack)).get? b = some o := fun b o q na n => PySem.W.hideAll_get _ q fun z => by
    rcases List.mem_cons.mp z with z | z
    · exact na z
    · exact n z
  have na : ∀ {b : Addr} {u : HO}, H b = some u → b ≠ a := fun e z => by rw [z, hHa] at e; cases e
  have n0 : ∀ {b : Addr} {o : Obj}, X.s₀.heap.get? b = some o → b ≠ a := fun e z => by rw [z, hs0] at e; cases e
  have trk : ∀ b u, H b = some u → ∀ o, s.heap.get? b = some o → (PySem.W.hideAll s.heap (a :: frs X.stack)).get? b = some o := fun b u e o q => hB b o q (na e) fun z => by rw [I.stkFree b z] at e; cases e
  have old : ∀ b o, X.s₀.heap.get? b = some o → X.H₀ b = none → b ∉ frs X.outer → (PySem.W.hideAll s.heap (a :: frs X.stack)).get? b = some o := fun b o e n hb =>
    hB b o (I.base.keep b o e n hb (noex b)) (n0 e) (I.stkLoc e hb)
  have dom : ∀ b o, X.s₀.heap.get? b = some o → b ∉ frs X.outer → ∃ o', (PySem.W.hideAll s.heap (a :: frs X.stack)).get? b = some o' := fun b o e hb => by
    obtain ⟨o', e'⟩ := I.base.there b o e (noex b)
    exact ⟨o', hB b o' e' (n0 e) (I.stkLoc e hb)⟩
  have frm : ∀ b o, s.heap.get? b = some o → b ∈ frs X.stack → ∃ sl, h'.get? b = some { o with slots := sl } := fun b o e hb => by
    obtain ⟨_, o', e2, nf⟩ := hF.mem (show b ∈ (X.env :: X.outer).filterMap (·.frame) from by rw [← hst]; exact hb)
    rw [e] at e2
    cases e2
    exact x4 b o e nf
  have hsub : ∀ b ∈ frs X.outer, b ∈ frs X.stack := fun b hb => by rw [hst]; show b ∈ (X.env :: X.outer).filterMap (·.frame); rw [List.filterMap_cons, hfr]; exact .tail _ hb
  refine ⟨fun b u e => (I.hok b u e).stay (fun c v hc q => ?_) (fun _ q => q) fun _ _ q => q, ⟨x1, fun b u e o q => ?_, old, dom, ?_⟩⟩
  · have : H c ≠ none := by
      rcases hc with z | z
      · rw [z, e]; exact fun y => nomatch y
      · rw [z]; exact fun y => nomatch y
    obtain ⟨u', hu⟩ := Option.ne_none_iff_exists'.mp this
    exact x1.1 _ _ (trk c u' hu v q)
  · obtain ⟨o1, h1⟩ := (I.hok b u e).ex
    have h2 := trk b u e o1 h1
    have h3 := x1.1 _ _ h2
    rw [q] at h3
    cases h3
    exact h2
  · exact {
            keep := fun b o e n hb _ => x1.1 _ _ (old b o e n hb)
            slot := fun b o e n hb _ => by
              obtain ⟨sl, e1⟩ := I.base.slot b o e n hb (noex b)
              obtain ⟨sl', e2⟩ := frm b _ e1 (hsub b hb)
              exact ⟨sl', e2⟩
            free := fun b o e n _ => I.base.free b o e n (noex b)
            there := fun b o e _ => by
              obtain ⟨o', e'⟩ := I.base.there b o e (noex b)
              by_cases hb : b ∈ frs X.stack
              · obtain ⟨sl, e2⟩ := frm b o' e' hb
                exact ⟨_, e2⟩
              · exact ⟨o', x1.1 _ _ (hB b o' e' (n0 e) hb)⟩
            tups := I.base.tups
            frzs := I.base.frzs
            tbls := I.base.tbls }
/-- it leaves the frame in which it was made -/
theorem leave_made {E : Value → Shared → Prop} {Q : Unit → Shared → Prop} {a C t : Addr} {od : Option Addr} (I : Inv X pins σ H s) (hHa : H a = none) (hs0 : X.s₀.heap.get? a = none) (ha : s.heap.get? a = some (exO C od t)) (hst : X.stack = X.env :: X.outer) (hfr : X.env.frame = some X.env.locals) (hex : X.ex = [])
    (hq : ∀ h', HOk X.prog X.w H h' → Fly X.outer X.H₀ H X.s₀.heap h' (PySem.W.hideAll s.heap (a :: frs X.stack)) a (.ref C) t od → Q () { s with heap := h' }) : wpAny (model X.prog X.w) X.A (leaving X.env (.ref a)) Q E s := by
  have noex : ∀ b, b ∉ X.ex := fun b z => by rw [hex] at z; cases z
  have hin : ∀ env ∈ X.env :: X.outer, ∀ b, env.frame = some b → b ∈ a :: frs X.stack := fun env he b hb => by
    rw [hst]; exact .tail _ (List.mem_filterMap.mpr ⟨env, he, hb⟩)
  have hF : s.heap.FunFrames X.base (X.env :: X.outer) := by have := I.stack; rw [hst] at this; exact this
  have fr : X.A.frames = some (X.env :: X.outer) := by rw [I.ok.frames, hst]
  have hBn : (PySem.W.hideAll s.heap (a :: frs X.stack)).get? a = none := PySem.W.hideAll_none _ (.head _)
  refine leave_first (a0 := .ref t) fr (PySem.W.funFrames_hide hF hin) hfr ha (fun b o q => PySem.W.of_hideAll _ q) hBn rfl rfl rfl fun h' x1 x4 => ?_
  obtain ⟨k1, k2⟩ := made_tail I hHa hs0 hst hfr hex x1 x4
  exact hq h' k1 k2
theorem came_tail {B : Heap} {a t : Addr} {cls : Value} {dd : Option Addr} {h' : Heap} (I : Inv X pins σ H s) (ok : HOk X.prog X.w H' s'.heap) (F : Fly X.stack H H' s.heap s'.heap B a cls t dd) (hst : X.stack = X.env :: X.outer) (hfr : X.env.frame = some X.env.locals) (hex : X.ex = [])
    (x1 : FlyD B X.outer a cls (.ref t) dd h') (up : s'.heap.UpToSlots h') : HOk X.prog X.w H' h' ∧ Fly X.outer X.H₀ H' X.s₀.heap h' B a cls t dd := by
  have noex : ∀ b, b ∉ X.ex := fun b z => by rw [hex] at z; cases z
  have fr : X.A.frames = some (X.env :: X.outer) := by rw [I.ok.frames, hst]
  have fl : FlyD B (X.env :: X.outer) a cls (.ref t) dd s'.heap := by have := F.fl; rw [hst] at this; exact this
  have hok := F.hok ok x1
  have hsub : ∀ b ∈ frs X.outer, b ∈ frs X.stack := fun b hb => by rw [hst]; show b ∈ (X.env :: X.outer).filterMap (·.frame); rw [List.filterMap_cons, hfr]; exact .tail _ hb
  have old : ∀ b o, X.s₀.heap.get? b = some o → X.H₀ b = none → b ∉ frs X.outer → B.get? b = some o := fun b o e n hb => F.old b o (I.base.keep b o e n hb (noex b)) (I.base.free b o e n (noex b)) (I.stkLoc e hb)
  have dom : ∀ b o, X.s₀.heap.get? b = some o → b ∉ frs X.outer → ∃ o', B.get? b = some o' := fun b o e hb => by
    obtain ⟨o', e'⟩ := I.base.there b o e (noex b)
    exact F.dom b o' e' (I.stkLoc e hb)
  have frm : ∀ b o, s'.heap.get? b = some o → b ∈ frs X.stack → ∃ sl, h'.get? b = some { o with slots := sl } := fun b o e hb => by
    obtain ⟨_, o', e2, nf⟩ := F.fl.2.2.1.mem hb
    rw [e] at e2
    cases e2
    exact up b o e nf
  refine ⟨hok, ⟨x1, fun b u e o q => ?_, old, dom, ?_⟩⟩
  · obtain ⟨o1, h1⟩ := (ok b u e).ex
    have h2 := F.trk b u e o1 h1
    have h3 := x1.1 _ _ h2
    rw [q] at h3
    cases h3
    exact h2
  · exact {
            keep := fun b o e n hb _ => x1.1 _ _ (old b o e n hb)
            slot := fun b o e n hb _ => by
              obtain ⟨sl, e1⟩ := I.base.slot b o e n hb (noex b)
              obtain ⟨sl1, e2⟩ := F.un.slot b _ e1 (I.base.free b o e n (noex b)) (hsub b hb) (by simp)
              obtain ⟨sl', e3⟩ := frm b _ e2 (hsub b hb)
              exact ⟨sl', e3⟩
            free := fun b o e n _ => by
              obtain ⟨o', e'⟩ := I.base.there b o e (noex b)
              exact F.un.free b o' e' (I.base.free b o e n (noex b)) (by simp)
            there := fun b o e _ => by
              obtain ⟨o', e'⟩ := I.base.there b o e (noex b)
              obtain ⟨o2, e2⟩ := F.un.there b o' e' (by simp)
              by_cases hb : b ∈ frs X.stack
              · obtain ⟨sl, e3⟩ := frm b o2 e2 hb
                exact ⟨_, e3⟩
              · obtain ⟨o3, e3⟩ := F.dom b o' e' hb
                exact ⟨o3, x1.1 _ _ e3⟩
            tups := fun b xs e => F.un.tups b xs (I.base.tups b xs e)
            frzs := fun b o u e => F.un.frzs b o u (I.base.frzs b o u e)
            tbls := fun b ps e => by
              obtain ⟨m1, e1⟩ := I.base.tbls b ps e
              obtain ⟨m2, e2⟩ := F.un.tbls b _ e1
              exact ⟨m1 ++ m2, by rw [e2, Array.append_assoc]⟩ }
/-- it came from a call and leaves this frame, too -/
theorem leave_came {E : Value → Shared → Prop} {Q : Unit → Shared → Prop} {B : Heap} {a t : Addr} {cls : Value} {dd : Option Addr} (I : Inv X pins σ H s) (ok : HOk X.prog X.w H' s'.heap) (F : Fly X.stack H H' s.heap s'.heap B a cls t dd) (hst : X.stack = X.env :: X.outer) (hfr : X.env.frame = some X.env.locals) (hex : X.ex = [])
    (hq : ∀ h', HOk X.prog X.w H' h' → Fly X.outer X.H₀ H' X.s₀.heap h' B a cls t dd → Q () { s' with heap := h' }) : wpAny (model X.prog X.w) X.A (leaving X.env (.ref a)) Q E s' := by
  have noex : ∀ b, b ∉ X.ex := fun b z => by rw [hex] at z; cases z
  have fr : X.A.frames = some (X.env :: X.outer) := by rw [I.ok.frames, hst]
  have fl : FlyD B (X.env :: X.outer) a cls (.ref t) dd s'.heap := by have := F.fl; rw [hst] at this; exact this
  refine leave_on fr hfr fl fun h' x1 up => ?_
  obtain ⟨k1, k2⟩ := came_tail I ok F hst hfr hex x1 up
  exact hq h' k1 k2
end
end L2
namespace L2
open PySem PySem.Spec PyProof.Rows
/-! ### statements and defs that raise -/
/-- the promise of a def that raises -/
def spX (K : PySem.W.Frag) (n : Nat) (f : List PyData → Option PyData) : Sp := fun vs H _ E => ∃ S ds x, Dm S H ∧ DenL K H S vs ds ∧ ds.length = n ∧ f ds = some x ∧ ∀ c C y dd H', x = excD c y → XCls K c C → DxD K H' dd y → Same H H' → E (.ref C) dd H'
section
variable {X : Cx} {G : Gm} {M M1 M' Mb L Mx : List Nat} {fr : Fr} {a c : Expr} {es : List Expr} {fs : Rho → Option (List PyData)} {p : Rho → Option Bool} {pos : Pos} {s1 : Stmt} {ss st1 st2 : List Stmt} {u : Rho → Option Out} {w w1 w2 : Rho → Option (PyData × Rho)} {x : Str} {o : Bool}
/-- some are given out of hand, ahead -/
theorem XAt.drop {pins : List (Addr × Obj)} {d : PyData} {ρ : Rho} {e : Value} {s' : Shared} (h1 : subB Mx M = true) (h2 : subB L Mx = true) (q : XAt X o pins G M L d ρ e s') : XAt X o pins G Mx L d ρ e s' := by
  obtain ⟨a, c, C, y, rfl, rfl, hC, q⟩ := q
  refine ⟨a, c, C, y, rfl, rfl, hC, ?_⟩
  rcases q with ⟨ho, ⟨σ, H, S, od, t, I, os, m⟩ | ⟨s2, B, t, dd, h', q, r⟩⟩ | ⟨σ, H, S, s1, H', B, t, dd, dx, I, os, g, r⟩
  · obtain ⟨S', os'⟩ := os.frz (subM_of h1) fun i hi _ => sub_of h2 i hi
    exact .inl ⟨ho, .inl ⟨σ, H, S', od, t, I, os', m⟩⟩
  · refine .inl ⟨ho, .inr ⟨s2, B, t, dd, h', ?_, r⟩⟩
    rcases q with ⟨σ, H, S, I, os, m⟩ | ⟨σ, H, S, s1, H', dx, I, os, m⟩
    · obtain ⟨S', os'⟩ := os.frz (subM_of h1) fun i hi _ => sub_of h2 i hi
      exact .inl ⟨σ, H, S', I, os', m⟩
    · obtain ⟨S', os'⟩ := os.frz (subM_of h1) fun i hi _ => sub_of h2 i hi
      exact .inr ⟨σ, H, S', s1, H', dx, I, os', m⟩
  · obtain ⟨S', os'⟩ := os.frz (subM_of h1) fun i hi _ => sub_of h2 i hi
    exact .inr ⟨σ, H, S', s1, H', B, t, dd, dx, I, os', g, r⟩
end
section
variable {P : Program} {w : World} {K : PySem.W.Frag} {mg : Str → Option Value} {base : Heap}
def xOut (w : Rho → Option (PyData × Rho)) (n : Nat) (ds : List PyData) : Option PyData := ob (w (rho0 n ds)) fun r => some r.1
theorem FunG.raises {x qual : Str} {st : Stmt} {f : Addr} {fd : FuncData} {N ps : List Str} {k n : Nat} {wx : Rho → Option (PyData × Rho)} {Mx : List Nat} (F : FunG K x qual st f fd) (S : FnScope N ps (defScope st)) (hn : ps.length = n)
    (hbody : ∀ (cdv : Value) (A : Around) (outer : List Env) (s : Shared) (H : Hp) (E : XK), Room k (A.deeper (envOfC qual (defScope st) s.heap.objs.size f cdv)) → ∀ G : Gm,
      PDXs (cxOf CX0 P w K mg base N qual (defScope st) f cdv A outer s H E).nox false G [] [] Mx (defBody st) wx) :
    FnOk P w K mg base (CX1 P w) (k + 1) f fd ps (spX K n (xOut wx N.length)) := by
  obtain ⟨oc, dV, od, kV, doc, pm, an, cdv, ct, osl, rfl, lk, hcd⟩ := F.ex
  refine fn_of lk hcd S (fun vs H Q E h => ?_) fun A outer s H vs Q E hr h => ?_
  · obtain ⟨_, ds, _, _, h1, h2, _⟩ := h
    rw [h1.length, h2, hn]
  · obtain ⟨Sv, ds, x, m, h1, h2, e, q⟩ := h
    obtain ⟨⟨d, ρ'⟩, e1, e⟩ := ob_some e
    cases e
    refine ⟨fun _ σ' H' => σ' = start N vs ∧ H' = H, fun pins s1 σ' H' D I h => ?_, rfl, rfl⟩
    obtain ⟨rfl, rfl⟩ := h
    refine wpAny_mono (hbody cdv A outer s H' E hr (G0 H' Sv) pins s1 _ H' Sv _ ρ' _ (I.wish _) (OwnS.start m h1 N) e1) (fun _ _ z => z.elim) fun ev s' hx => ?_
    obtain ⟨a, c', C', y, rfl, hd, hC', hx⟩ := hx
    show wpAny _ _ (leaving _ _) _ _ _
    rcases hx with ⟨_, ⟨σ2, H2, S2, od, t, I2, os2, dx, hHa, hs0, ha⟩ | ⟨s2, B, t, dd, h2, hx, rfl, hld, up⟩⟩ | ⟨σ2, H2, S2, s2, H3, B, t, dd, dx, I2, os2, g, os', bare, ok, fl⟩
    · have I3 : Inv (cxOf (CX1 P w) P w K mg base N qual (defScope st) f cdv A outer s H' E) pins σ2 H2 s' := I2.unwish.wish _
      refine leave_made I3 hHa (hs0 rfl) ha rfl rfl rfl fun h' ok fl => ?_
      exact ⟨a, H2, .ref C', t, _, od, rfl, I3.os, I3.bare, ok, fl, q c' C' y od H2 hd hC' dx os2.h0⟩
    · rcases hx with ⟨σ2, H2, S2, I2, os2, dx, hHa, hs0, ha, rfl⟩ | ⟨σ2, H2, S2, s1', H3, dx, I2, os2, g, os', bare, ok, fl⟩
      · have I3 : Inv (cxOf (CX1 P w) P w K mg base N qual (defScope st) f cdv A outer s H' E) pins σ2 H2 s2 := I2.unwish.wish _
        refine leave_held rfl hld fun h3 x1 x4 => ?_
        obtain ⟨ok, fl⟩ := made_tail I3 hHa (hs0 rfl) rfl rfl rfl x1 (up.trans x4)
        exact ⟨a, H2, .ref C', t, _, dd, rfl, I3.os, I3.bare, ok, fl, q c' C' y dd H2 hd hC' dx os2.h0⟩
      · have I3 : Inv (cxOf (CX1 P w) P w K mg base N qual (defScope st) f cdv A outer s H' E) pins σ2 H2 s1' := I2.unwish.wish _
        refine leave_held rfl hld fun h3 x1 x4 => ?_
        obtain ⟨ok', fl'⟩ := came_tail I3 ok fl rfl rfl rfl x1 (up.trans x4)
        exact ⟨a, H3, .ref C', t, B, dd, rfl, os'.trans I3.os, bare, ok', fl', q c' C' y dd H3 hd hC' dx (os2.h0.trans g)⟩
    · have I3 : Inv (cxOf (CX1 P w) P w K mg base N qual (defScope st) f cdv A outer s H' E) pins σ2 H2 s2 := I2.unwish.wish _
      refine leave_came I3 ok fl rfl rfl rfl fun h' ok' fl' => ?_
      exact ⟨a, H3, .ref C', t, B, dd, rfl, os'.trans I3.os, bare, ok', fl', q c' C' y dd H3 hd hC' dx (os2.h0.trans g)⟩
theorem Fun.raises {x qual : Str} {st : Stmt} {f : Addr} {fd : FuncData} {N ps : List Str} {k n : Nat} {wx : Rho → Option (PyData × Rho)} {Mx : List Nat} (F : Fun K x qual st f fd) (S : FnScope N ps (defScope st)) (hn : ps.length = n)
    (hbody : ∀ (cdv : Value) (A : Around) (outer : List Env) (s : Shared) (H : Hp) (E : XK), Room k (A.deeper (envOfC qual (defScope st) s.heap.objs.size f cdv)) → ∀ G : Gm,
      PDXs (cxOf CX0 P w K mg base N qual (defScope st) f cdv A outer s H E).nox false G [] [] Mx (defBody st) wx) :
    FnOk P w K mg base (CX1 P w) (k + 1) f fd ps (spX K n (xOut wx N.length)) := F.g.raises S hn hbody
end
end L2
namespace L2
open PySem PySem.Spec PyProof.Rows
/-! ### try .. except C as e -/
section
variable {X : Cx} {pins : List (Addr × Obj)} {σ : St} {H H' : Hp} {s s' : Shared} {G : Gm} {S : Av} {M L : List Nat} {ρ : Rho}
theorem OwnS.del {i : Nat} (h : OwnS X.K G M L H S σ ρ) (hM : Out0 M i) : OwnS X.K G M L H S (σ.set i none) (ρ.set i none) := by
  have back : ∀ {j : Nat} {d : PyData}, (ρ.set i none)[j]? = some (some d) → j ≠ i ∧ ρ[j]? = some (some d) := fun {j d} e => by
    by_cases hj : i = j
    · subst hj
      rw [List.getElem?_set] at e
      split at e
      · split at e <;> cases e
      · exact absurd rfl ‹_›
    · rw [List.getElem?_set_ne hj] at e
      exact ⟨Ne.symm hj, e⟩
  have fwd : ∀ {j : Nat}, j ≠ i → (σ.set i none)[j]? = σ[j]? := fun {j} hj => List.getElem?_set_ne (Ne.symm hj)
  have keep : ∀ {j : Nat}, j ∈ M → j ≠ i := fun {j} hj z => hM.1 (z ▸ hj)
  have has : ∀ {j : Nat}, Has (ρ.set i none) j → Has ρ j := fun {j} ⟨d, e⟩ => ⟨d, (back e).2⟩
  obtain ⟨ds, s0, h0, own, apart, bnd, lkd, F, ⟨d1, d2, d3⟩⟩ := h
  refine ⟨⟨ds.1, by rw [List.length_set, List.length_set]; exact ds.2.1, fun j d n e => ?_⟩, s0, h0, fun j hj d e => ?_, fun j hj k hk d e p e1 e2 e3 e4 => ?_, bnd, fun j hj => ?_, F, fun j hj d e => ?_, fun j hj k hk a1 a2 => d2 j hj k hk (has a1) (has a2), fun j hj k hk a1 a2 p e => ?_⟩
  · obtain ⟨nj, e⟩ := back e
    rw [fwd nj]
    exact ds.2.2 j d n e
  · obtain ⟨nj, e⟩ := back e
    rw [fwd nj]
    exact own j hj d e
  · obtain ⟨n1, e1⟩ := back e1
    obtain ⟨n2, e2⟩ := back e2
    rw [fwd n1] at e3
    rw [fwd n2] at e4
    exact apart j hj k hk d e p e1 e2 e3 e4
  · obtain ⟨a1, a2⟩ := lkd j hj
    exact ⟨a1, by rw [List.getElem?_set_ne (Ne.symm (keep a1.1))]; exact a2⟩
  · obtain ⟨nj, e⟩ := back e
    rw [fwd nj]
    exact d1 j hj d e
  · rw [fwd (keep hj.1)] at e
    exact d3 j hj k hk (has a1) (has a2) p e
/-- an untracked new object is tracked from now on -/
theorem Inv.trackO {a : Addr} {o : HO} (I : Inv X pins σ H s) (new : ObjOk X.prog X.w (upd H a o) s.heap a o) (hH : H a = none) (h0 : X.s₀.heap.get? a = none) (hL : a ≠ X.env.locals) (hc : ∀ x c, X.env.cells.lookup x = some c → c ≠ a) (hp : ∀ p ∈ X.pn ++ pins, p.1 ≠ a) :
    Inv X pins σ (upd H a o) s := by
  refine ⟨I.ok, I.os, I.bare, ⟨I.base.keep, I.base.slot, fun b ob e n hx => ?_, I.base.there, fun b xs e => ?_, fun b ob u e => ?_, fun b ps e => ?_⟩, I.loc, I.cell, ?_, fun x c e => ?_, fun p q => ?_, fun b u e => ?_, I.len⟩
  · rw [upd_ne (fun z => by rw [z, h0] at e; cases e)]
    exact I.base.free b ob e n hx
  · have := I.base.tups b xs e
    rw [upd_ne (ne_of_none this hH)]; exact this
  · have := I.base.frzs b ob u e
    rw [upd_ne (ne_of_none this hH)]; exact this
  · obtain ⟨more, this⟩ := I.base.tbls b ps e
    exact ⟨more, by rw [upd_ne (ne_of_none this hH)]; exact this⟩
  · rw [upd_ne (Ne.symm hL)]; exact I.free
  · rw [upd_ne (hc x c e)]; exact I.freeC x c e
  · obtain ⟨e, n, r⟩ := I.pin p q
    exact ⟨e, by rw [upd_ne (hp p q)]; exact n, r⟩
  · by_cases hb : b = a
    · subst hb
      rw [upd_same] at e
      cases e
      exact new
    · rw [upd_ne hb] at e
      exact (I.hok b u e).stay (fun c v _ q => q) (fun c q => by rw [upd_ne (ne_of_none q hH)]; exact q) fun c xs q => by rw [upd_ne (ne_of_none q hH)]; exact q
end
/-- what K knows of a class that is named behind except -/
def catB (K : PySem.W.Frag) (Cc : Addr) : Bool := (PySem.W.typeIn K (.ref Cc) == some (.type "type")) && (PySem.W.clsIn K Cc).isSome && (PySem.W.mroIn K Cc (.type "BaseException") == some true)
section
variable {X : Cx} {G : Gm} {M M' Mb L Mx : List Nat} {fr : Fr} {u uh : Rho → Option Out} {w : Rho → Option (PyData × Rho)}
end
end L2
namespace L2
open PySem PySem.Spec PyProof.Rows
/-! ### the classes of one's own, by their names; isinstance of an exception -/
def bTs : List String := ["ValueError"]
def adr (mg : Str → Option Value) (c : Str) : Addr := match mg c with
  | some (.ref C) => C
  | _ => 0
structure XTab (K : PySem.W.Frag) (mg : Str → Option Value) (XS : List (Str × List Str)) : Prop where
  nm : ∀ c ∈ XS, mg c.1 = some (.ref (adr mg c.1))
  ns : ∀ c ∈ XS, PySem.W.nsIn K mainGlobals c.1 = some (some (.ref (adr mg c.1)))
  xc : ∀ c ∈ XS, xcB K (adr mg c.1) = true
  cat : ∀ c ∈ XS, catB K (adr mg c.1) = true
  kit : ∀ c ∈ XS, ∀ d ∈ XS, PySem.W.kitOne K (.ref (adr mg c.1)) (.ref (adr mg d.1)) = some (c.2.contains d.1)
  mro : ∀ c ∈ XS, ∀ d ∈ XS, PySem.W.mroIn K (adr mg c.1) (.ref (adr mg d.1)) = some (c.2.contains d.1)
  blt : ∀ c ∈ XS, ∀ T ∈ bTs, PySem.W.kitOne K (.ref (adr mg c.1)) (.type T) = some (c.2.contains (Str.ofString T))
section
variable {X : Cx} {XS : List (Str × List Str)} {ns : List Str} {n : Str} {M : List Nat} {a b : Expr} {es : List Expr} {fa : Rho → Option PyData} {pos p1 : Pos}
end
/-! ### calls within an except suite: loop-free defs -/
structure RoomM (k : Nat) (A : Around) : Prop where
  dp : A.depth + 3 * k + 5 < recursionLimit
  un : A.units + 16 * k + 200 < cLine
theorem Room.m {k : Nat} {A : Around} (r : Room k A) (e : Option Value) : RoomM k (A.mark e) := ⟨r.dp, r.un⟩
theorem RoomM.mono {j k : Nat} {A : Around} (r : RoomM k A) (h : j ≤ k) : RoomM j A := ⟨by have := r.dp; omega, by have := r.un; omega⟩
structure FnOkM (P : Program) (w : World) (K : PySem.W.Frag) (mg : Str → Option Value) (base : Heap) (k : Nat) (f : Addr) (fd : FuncData) (ps : List Str) (sp : Sp) : Prop where
  len : ∀ vs H Q E, sp vs H Q E → vs.length = ps.length
  run : ∀ (A : Around) (outer : List Env) (s : Shared) (H : Hp) (args : Args) (us : List Value) (vs : List V) (Q : VK) (E : XK), RoomM k A → Env0 P w K mg base A outer s H → BindsTo s fd args (ps.zip us) → Vals vs us → sp vs H Q E →
    codeAny (model P w) A (.call (.ref f) args) (CR CX0 outer P w H s Q E) s
structure KnownM (P : Program) (w : World) (K : PySem.W.Frag) (mg : Str → Option Value) (base : Heap) (x : Str) (n k : Nat) (h : List PyData → Option PyData) : Prop where
  ex : ∃ (f : Addr) (fd : FuncData) (ps : List Str), FnOkM P w K mg base k f fd ps (spF K n h) ∧ mg x = some (.ref f) ∧ PySem.W.keepIn K (.ref f) = true ∧ Binds K fd ps []
section
variable {P : Program} {w : World} {K : PySem.W.Frag} {mg : Str → Option Value} {base : Heap}
end
section
variable {X : Cx} {M : List Nat} {a : Expr} {es : List Expr} {pos : Pos}
end
end L2
namespace L2
open PySem PySem.Spec PyProof.Rows
/-! ### what the generated rows want -/
def vBM : List Value := [.type "ValueError", .type "Exception", .type "BaseException", .type "object"]
def excNm (K : PySem.W.Frag) (c : Str) : Bool := match PySem.W.nsIn K mainGlobals c with
  | some (some (.ref C)) => PySem.W.excIn K C vBM "ValueError.__new__"
  | _ => false
section
variable {K : PySem.W.Frag} {mg : Str → Option Value} {XS : List (Str × List Str)} {c cn : Str} {cs : List Str}
theorem XTab.has (h : (XS.any fun p => p.1 == c) = true) : ∃ p ∈ XS, p.1 = c := by
  obtain ⟨p, hp, e⟩ := List.any_eq_true.mp h
  exact ⟨p, hp, beq_iff_eq.mp e⟩
theorem XTab.exc1 (T : XTab K mg XS) (h : (XS.any fun p => p.1 == c) = true) (e : excNm K c = true) : PySem.W.excIn K (adr mg c) vBM "ValueError.__new__" = true := by
  obtain ⟨p, hp, rfl⟩ := XTab.has h
  unfold excNm at e
  rw [T.ns p hp] at e
  exact e
end
section
variable {X : Cx} {G : Gm} {M Mb L : List Nat} {fr : Fr} {a : Expr} {f : Rho → Option PyData} {pos : Pos}
end
/-- list + list, a new list -/
def catL : PyData → PyData → Option PyData
  | .list ds, .list es => if ds.length + es.length ≤ 1000 then some (.list (ds ++ es)) else none
  | _, _ => none
/-! evaluation -/
end L2
namespace L2
open PySem PySem.Spec PyProof.Rows
/-! ### defaults: things with new lists within; defs that raise -/
structure KnownDX (P : Program) (w : World) (K : PySem.W.Frag) (mg : Str → Option Value) (base : Heap) (x : Str) (n k : Nat) (h : List PyData → Option PyData) (dds : List PyData) : Prop where
  ex : ∃ (f : Addr) (fd : FuncData) (ps : List Str) (us : List Value) (dvs : List V), FnOk P w K mg base CX0 k f fd ps (spD K n h) ∧ mg x = some (.ref f) ∧ PySem.W.keepIn K (.ref f) = true ∧ Binds K fd ps us ∧ Vals dvs us ∧ ∀ (H : Hp) (S : Av), DenL K H S dvs dds
theorem KnownDX.known {P : Program} {w : World} {K : PySem.W.Frag} {mg : Str → Option Value} {base : Heap} {x : Str} {n k : Nat} {h : List PyData → Option PyData} {dds : List PyData} (F : KnownDX P w K mg base x n k h dds) : KnownX P w K mg base x n k h dds := by
  obtain ⟨f, fd, ps, us, dvs, F, m, kp, b, v, t⟩ := F.ex
  exact ⟨f, fd, ps, us, dvs, F.imp fun vs H Q E ⟨S, ds, d, m, h1, h2, e, q⟩ => ⟨S, ds, d, m, h1, h2, e, fun p fp H' g n o => q _ H' g (o.den (fun r hr => m.free (n r hr)) fun a _ z => .inl z)⟩, m, kp, b, v, t⟩
section
variable {X : Cx} {G : Gm} {M M1 M' Mb L Mx : List Nat} {fr : Fr} {a c : Expr} {es : List Expr} {fs : Rho → Option (List PyData)} {pos : Pos} {x : Str} {o : Bool}
end
end L2
namespace L2
open PySem PySem.Spec PyProof.Rows
/-! ### plain classes of one's own: making, isinstance, methods -/
section
variable {X : Cx} {CS : List (Str × List Str)} {n : Str} {M : List Nat} {a b o e : Expr} {es : List Expr} {f fa fo : Rho → Option PyData} {fs : Rho → Option (List PyData)} {pos p1 p2 apos : Pos}
end
/-- a method as it stands in K -/
def MthK (K : PySem.W.Frag) (c m qual : Str) (st : Stmt) : Prop := ∃ (C f : Addr) (fd : FuncData), PySem.W.nsIn K mainGlobals c = some (some (.ref C)) ∧ Meth K C m f ∧ Fun K m qual st f fd
theorem MthK.of {K : PySem.W.Frag} {c m qual : Str} {st : Stmt} {C f : Addr} {oc : Value} {od an : Option Addr} {osl : Array (Option Value)} {kV doc pm cdv ct : Value} (a : PySem.W.nsIn K mainGlobals c = some (some (.ref C))) (g : PySem.W.findIn K (.ref C) m = some (some (.ref f))) (i : PySem.W.isFn K (.ref f) = true)
    (l : K.lookup f = some ⟨oc, od, .func (PySem.W.fnOf m qual (defArgs st) (defBody st) (defScope st) .none kV doc pm an cdv ct), osl⟩) (d : PySem.W.codeIn K cdv qual = true) (k : PySem.W.keepIn K (.ref f) = true) : MthK K c m qual st := ⟨C, f, _, a, ⟨g, i, k⟩, fun_mk l d k⟩
end L2
namespace L2
open PySem PySem.Spec PyProof.Rows
/-! ### exceptions whose class has an __init__ of its own -/
abbrev tuO (l : List Value) : Obj := { cls := .type "tuple", data := .seq l.toArray }
section
variable {prog : Program} {w : World} {A : Around} {E : Value → Shared → Prop} {s : Shared} {K : PySem.W.Frag} {C : Addr} {env : Env}
end
section
variable {prog : Program} {w : World} {A : Around} {E : Value → Shared → Prop} {h : Heap} {g : Array GenState} {d : Drawn} {t : Nat} {os : OsState}
variable {nm q : Str} {C N : Addr} {bs bm bmB : List Value} {hdct : Bool} {sn : List Str} {sub : List Value} {ab : Bool} {col : Option Bool} {dd : Option Addr} {k0 k1 k2 k3 k5 : Option Value} {B newId initId : String}
end
/-- the classes above, own ones, then the built-in ones -/
def tailV : List Value → Bool
  | .ref _ :: r => tailV r
  | l => l == [.type "ValueError", .type "Exception", .type "BaseException", .type "object"]
theorem refuse_tailV (self : Value) : ∀ {l : List Value}, tailV l = true → refuseLoop self "__setattr__" l = pure ()
  | .ref c :: r, e => by rw [refuseLoop_ref]; exact refuse_tailV self (l := r) e
  | [], e => by cases e
  | .none :: _, e | .bool _ :: _, e | .int _ _ :: _, e | .str _ _ :: _, e | .type _ :: _, e => by
    rw [beq_iff_eq.mp (show (_ == _) = true from e)]
    exact PySem.F.store_ValueError.passes self
  | .float _ _ :: _, e => by cases e
  | .builtin _ :: _, e => by cases e
section
variable {prog : Program} {w : World} {A : Around} {E : Value → Shared → Prop} {h : Heap} {g : Array GenState} {d : Drawn} {tk0 : Nat} {os : OsState} {K : PySem.W.Frag} {C x t : Addr} {name : Str} {v : Value} {cd : ClassData}
theorem exc_store_run {tk : Tok} {Q : Fin → Shared → Prop} (X : K.In h) (hcd : PySem.W.clsIn K C = some cd) (htl : tailV cd.mro = true) (hhd : cd.hasDict = true) (hnn : PySem.W.findIn K (.ref C) name = some none) (hx : h.get? x = some (exO C none t))
    (hq : ∀ h' tk', h'.get? x = some (exO C (some h.objs.size) t) → h'.Ns1 h.objs.size (fun y => if y = name then some v else none) → (∀ b o, b ≠ x → h.get? b = some o → h'.get? b = some o) → Q (.done (.ret .none)) ⟨h', g, d, tk', os⟩) :
    wpAny (model prog w) A (Builtin.«object.__setattr__» ⟨[.ref x, .str name tk, v], []⟩) Q E ⟨h, g, d, tk0, os⟩ := by
  have L1 : PySem.W.Looks (model prog w) h (typeOf (.ref x)) (.ref C) := (PySem.W.Looks.ld hx).andThen .now
  have L2 : PySem.W.Looks (model prog w) h (mroOf (.ref C)) cd.mro := (PySem.W.looks_clsIn X hcd).andThen .now
  have L3 := PySem.W.looks_findIn (M := model prog w) X hnn
  rw [PySem.W.osa_eq, refuse_eq]
  refine wpAny_bind (wpAny_bind (L1.here (wpAny_bind (L2.here ?_))))
  rw [refuse_tailV _ htl]
  refine wpAny_pure (wpAny_bind (L1.here (wpAny_bind (L3.here ?_))))
  repeat (first | with_reducible refine wpAny_loadPart_at hx ?_ | wp_step)
  obtain ⟨oc, od, sl, hC⟩ : ∃ oc od sl, h.get? C = some ⟨oc, od, .cls cd, sl⟩ := by
    unfold PySem.W.clsIn at hcd
    split at hcd
    · rename_i c' d' cd' sl' ho
      cases hcd
      exact ⟨_, _, _, X _ _ ho⟩
    · cases hcd
  refine wpAny_load hC (wpAny_pure ?_)
  rw [hhd, if_neg (by decide)]
  show wpAny _ _ (alloc _ >>= _) _ _ _
  refine wpAny_bind (wpAny_alloc' ?_)
  have hx1 : (h.push PySem.W.emptyDict).get? x = some (exO C none t) := Heap.get?_push_of_some _ hx
  have nx : x ≠ h.objs.size := Nat.ne_of_lt (Heap.lt_size hx)
  refine wpAny_bind (wpAny_update' hx1 (wpAny_pure ?_))
  generalize hU : ((h.push PySem.W.emptyDict).update x fun o => { cls := o.cls, dict := some h.objs.size, data := o.data, slots := o.slots }) = U
  have u1 : U.get? h.objs.size = some PySem.W.emptyDict := by rw [← hU]; exact (Heap.get?_update_ne _ _ _ _ nx.symm).trans (Heap.get?_push_at rfl rfl)
  have u2 : U.get? x = some (exO C (some h.objs.size) t) := by rw [← hU]; exact Heap.get?_update_self _ hx1 rfl
  have u3 : ∀ b o, b ≠ x → h.get? b = some o → U.get? b = some o := fun b o hb e => by rw [← hU]; exact (Heap.get?_update_ne _ _ _ _ hb).trans (Heap.get?_push_of_some _ e)
  have hnd : U.Ns h.objs.size (fun _ => none) := ⟨_, #[], _, u1, rfl, fun e he => absurd he (by simp), fun _ => rfl⟩
  show wpAny _ _ (Builtin.ObjectAttr.storeInDict h.objs.size (.str name tk) name v) _ _ _
  unfold Builtin.ObjectAttr.storeInDict Builtin.ObjectAttr.newKeyGuard
  refine wpAny_bind (wpAny_pure (wpAny_bind (wpAny_nsSet1 (Heap.Ns1.of_empty hnd) fun h' hn' hs => ?_)))
  obtain ⟨oD, esD, epD, hoD, hdD, hcD⟩ := hn'.count (Within.cons name v Within.nil)
  refine wpAny_bind (wpAny_lookBehind hoD (by rw [hdD]; exact pastItsLine_dict (Nat.le_trans hcD (by rw [List.length_cons, List.length_nil, sizeLine_eq]; omega))) ?_)
  wp_walk
  exact hq h' _ ((hs.2 x nx).trans u2) hn' fun b o hb e => (hs.2 b (Nat.ne_of_lt (Heap.lt_size e))).trans (u3 b o hb e)
theorem exc_store {Q : Unit → Shared → Prop} (X : K.In h) (hsa : PySem.W.findIn K (.ref C) "__setattr__" = some (some (.builtin "object.__setattr__"))) (hmo : PySem.W.mroIn K C (.type "object") = some true) (hcd : PySem.W.clsIn K C = some cd) (htl : tailV cd.mro = true) (hhd : cd.hasDict = true) (hnn : PySem.W.findIn K (.ref C) name = some none) (hx : h.get? x = some (exO C none t))
    (hq : ∀ h' tk', h'.get? x = some (exO C (some h.objs.size) t) → h'.Ns1 h.objs.size (fun y => if y = name then some v else none) → (∀ b o, b ≠ x → h.get? b = some o → h'.get? b = some o) → Q () ⟨h', g, d, tk', os⟩) :
    wpAny (model prog w) A (setAttr (.ref x) name v) Q E ⟨h, g, d, tk0, os⟩ := by
  have L1 : PySem.W.Looks (model prog w) h (typeOf (.ref x)) (.ref C) := (PySem.W.Looks.ld hx).andThen .now
  have L2 := PySem.W.looks_findIn (M := model prog w) X hsa
  have SV := PySem.F.store_ValueError
  have f3 := SV.slot.bind (.ref x)
  have sub : PySem.W.Looks (model prog w) h (isInstance (.ref x) (.type "object")) true := L1.andThen (PySem.W.looks_mroIn X hmo)
  unfold setAttr callSpecial? specialOf
  repeat (any_goals (first | assumption | with_reducible refine PySem.W.Looks.at (by assumption) ?_ | wp_step))
  refine codeAny_call_builtin SV.slot.plain SV.entry (@PySem.W.check_slot (model prog w) _ _ _ "object.__setattr__" "object" "__setattr__" (.ref x) [_, v] [] _ SV.kind SV.split sub (SV.args _ _ v) ?_)
  refine exc_store_run X hcd htl hhd hnn hx fun h' tk' a b c => ?_
  repeat (any_goals (first | assumption | wp_step))
  exact hq h' tk' a b c
end
section
variable {prog : Program} {w : World} {A : Around} {E : Value → Shared → Prop} {h : Heap} {g : Array GenState} {d : Drawn} {tk0 : Nat} {os : OsState} {C x t : Addr} {v : Value}
variable {nm q : Str} {N : Addr} {bs bm bmB : List Value} {hdct : Bool} {sn : List Str} {sub : List Value} {ab : Bool} {col : Option Bool} {dd : Option Addr} {k0 k1 k2 k3 k5 : Option Value} {B newId initId : String}
theorem exc_again (F : ExcBaseFacts B newId initId bmB) (T : OwnTail h bmB bm) {Q : Value → Shared → Prop} (hC : h.get? C = some (excClassObj nm q C N bs bm hdct sn sub ab col dd k0 k1 k2 k3 k5 newId)) (hx : h.get? x = some (exO C none t))
    (hq : ∀ h', h'.get? x = some (exO C none h.objs.size) → h'.get? h.objs.size = some (tuO [v]) → (∀ b o, b ≠ x → h.get? b = some o → h'.get? b = some o) → Q .none ⟨h', g, d, tk0, os⟩) :
    wpAny (model prog w) A (call (.builtin initId) [.ref x, v]) Q E ⟨h, g, d, tk0, os⟩ := by
  have nx : x ≠ h.objs.size := Nat.ne_of_lt (Heap.lt_size hx)
  refine wpAny_call (codeAny_call_builtin F.init.plain F.initEntry (wpAny_check_init_subT F T hC hx rfl ?_))
  wp_walk
  refine hq _ ?_ ?_ fun b o hb e => ?_
  · exact Heap.get?_update_self _ (Heap.get?_push_of_some _ hx) rfl
  · exact (Heap.get?_update_ne _ _ _ _ nx.symm).trans (Heap.get?_push_at rfl rfl)
  · exact (Heap.get?_update_ne _ _ _ _ hb).trans (Heap.get?_push_of_some _ e)
end
end L2
namespace L2
open PySem PySem.Spec PyProof.Rows
/-! ### an __init__ of two rows: Base.__init__(self, f'..{x!r}'); self.n = x -/
def exiIn (K : PySem.W.Frag) (D f : Addr) : Bool := match K.lookup D with
  | some ⟨.type "type", _, .cls k, z⟩ => (match k.mro, z.toList with
    | .ref D' :: l, [_, _, _, _, some (.builtin i), _] => D' == D && (i == "ValueError.__new__" && (!k.hasDel && (PySem.W.tailIn K vBM l && (PySem.W.nsOkIn K k.ns && PySem.W.nsIn K k.ns "__init__" == some (some (.ref f))))))
    | _, _ => false)
  | _ => false
theorem ns_some {K : PySem.W.Frag} {h : Heap} {N : Addr} {m : Str → Option Value} {n : Str} {v : Value} (X : K.In h) (G : h.Ns N m) (e : PySem.W.nsIn K N n = some (some v)) : m n = some v := by
  obtain ⟨o, es, ep, h1, h2, _, h3⟩ := G
  unfold PySem.W.nsIn at e
  split at e
  case h_2 => cases e
  rename_i q
  have z := (X _ _ q).symm.trans h1
  cases z; cases h2
  split at e
  · rename_i en he
    cases e; rw [← h3]
    unfold nsFind findBy; rw [← Array.find?_toList, he]; rfl
  · split at e <;> cases e
theorem exi_obj {K : PySem.W.Frag} {h : Heap} {C fI : Addr} (X : K.In h) (q : exiIn K C fI = true) :
    ∃ bm N nm qn bs hd sn sub ab col dd k0 k1 k2 k3 k5 mN, h.get? C = some (excClassObj nm qn C N bs bm hd sn sub ab col dd k0 k1 k2 k3 k5 "ValueError.__new__") ∧ h.Ns N mN ∧ mN "__init__" = some (.ref fI) ∧ OwnTail h vBM bm := by
  unfold exiIn at q
  split at q
  case h_2 => cases q
  rename_i dd cd sl lk; split at q
  case h_2 => cases q
  rename_i C' bm k0 k1 k2 k3 n k5 em es
  simp only [Bool.and_eq_true, beq_iff_eq, Bool.not_eq_true'] at q
  obtain ⟨c1, c2, hdel, c4, c5, c6⟩ := q
  obtain ⟨nm, bs, mro, ns, qn, hd, sn, sub, ab, col, del⟩ := cd
  obtain ⟨l⟩ := sl
  subst c1 c2
  dsimp only at em es c5 c6 hdel; subst em es hdel
  exact ⟨bm, ns, nm, qn, bs, hd, sn, sub, ab, col, dd, k0, k1, k2, k3, k5, _, X _ _ lk, .of_isNs (PySem.W.isNs_of_in X c5), ns_some X (.of_isNs (PySem.W.isNs_of_in X c5)) c6, PySem.W.tail_of_in X c4⟩
/-- what can be told in a text -/
def shOk (d : PyData) : Bool := (match d with | .int _ => true | .tuple _ => true | .list _ => true | _ => false) && (d.showable && (d.canLay0 && (!d.hasDict && (decide (d.depth ≤ 63) && decide (d.shown.length ≤ 100000)))))
section
variable {X : Cx} {pins : List (Addr × Obj)} {σ : St} {H : Hp} {s : Shared} {S : Av} {k : Nat} {E : Value → Shared → Prop}
theorem repr_den {v : V} {u : Value} {d : PyData} {Q : Value → Shared → Prop} (hr : Room k X.A) (I : Inv X pins σ H s) (dv : Den X.K H S v d) (rv : RelV v u) (hs : shOk d = true) (h : ∀ y tk s', Inv X pins σ H s' → y.length ≤ 100000 → Q (.str y tk) s') :
    wpAny (model X.prog X.w) X.A (pyReprObj u) Q E s := by
  unfold shOk at hs
  simp only [Bool.and_eq_true, Bool.not_eq_true', decide_eq_true_eq] at hs
  obtain ⟨h0, h1, h2, h3, h4, h5⟩ := hs
  have big : d.shown.length ≤ sizeLine := by rw [sizeLine_eq]; omega
  have ref : ∀ a, u = .ref a → wpAny (model X.prog X.w) X.A (pyReprObj u) Q E s := fun a e => by
    subst e
    obtain ⟨as, rd⟩ := dv.reads I h2 rv
    exact pyReprObj_of_reads rd h1 (fun z => by rw [h3] at z; cases z) hr.gd (by have := hr.units; omega) (fun _ _ e => e) (fun h' u' tk hk => h _ _ _ (I.kept hk) h5) big
  cases dv with
  | int i =>
    obtain ⟨t, e⟩ := (show ∃ t, u = Value.int i t from rv)
    subst e
    refine pyReprObj_int ?_ (h _ _ _ (I.tok _) h5)
    rw [PyData.showable] at h1
    exact of_decide_eq_true h1
  | list a b => exact ref _ rv
  | tuple a b => exact ref _ rv
  | _ => cases h0
theorem ev_fstr {c x : Str} {i j : Nat} {p1 p2 p3 pos : Pos} {v : V} {d : PyData} {Q : Value → Shared → Prop} (hr : Room k X.A) (I : Inv X pins σ H s) (hi : X.N[i]? = some x) (hv : Vis X.env.scope x) (e : σ[i]? = some (some v)) (dv : Den X.K H S v d) (hs : shOk d = true) (hc : c.length ≤ 1000)
    (hd : (x == ("__debug__" : Str)) = false) (hcd : (x == ("__classdict__" : Str)) = false) (h : ∀ y tk s', Inv X pins σ H s' → Q (.str y tk) s') :
    wpAny (model X.prog X.w) X.A (eval (.JoinedStr [.Constant (.str c) j p1, .FormattedValue (.Name x p2) 114 none p3] pos) X.env) Q X.xe s := by
  refine wpAny_JoinedStr ?_
  show wpAny _ _ (eval (.Constant (.str c) j p1) X.env) _ _ _
  have l0 : (Str.empty ++ c).length = c.length := by rw [strLen_append]; show 0 + _ = _; omega
  refine Calls.Constant_str ⟨c, _, rfl, by rw [l0, sizeLine_eq]; omega, ?_⟩
  show wpAny _ _ (eval (.FormattedValue (.Name x p2) 114 none p3) X.env) _ _ _
  refine wpAny_FormattedValue_repr (thn (pe_var hi hv hd hcd pins _ σ H (fun y H1 => y = v ∧ H1 = H) (I.tok _) ⟨v, e, rfl, rfl⟩) fun u s1 ⟨v', H1, I1, rv, e1, e2⟩ => ?_)
  subst e1 e2
  refine repr_den hr I1 dv rv hs fun y tk s2 I2 hy => ?_
  have l1 : (Str.empty ++ c ++ y).length ≤ sizeLine := by rw [strLen_append, l0, sizeLine_eq]; omega
  exact wpAny_formatField_str ⟨y, _, rfl, l1, l1, h _ _ _ (I2.tok _)⟩ ⟨y, _, rfl, l1, l1, h _ _ _ ((I2.tok _).tok _)⟩ (by rw [sizeLine_eq]; omega)
end
/-- what K must know -/
structure IniK (K : PySem.W.Frag) (mg : Str → Option Value) (n bn : Str) (C SE f : Addr) : Prop where
  exi : exiIn K C f = true
  sa : PySem.W.findIn K (.ref C) "__setattr__" = some (some (.builtin "object.__setattr__"))
  cd : ∃ cd, PySem.W.clsIn K C = some cd ∧ tailV cd.mro = true ∧ cd.hasDict = true
  nn : PySem.W.findIn K (.ref C) n = some none
  xc : xcB K C = true
  seM : mg bn = some (.ref SE)
  seR : PySem.W.readsIn K SE (.type "type") = true
  seG : PySem.W.specialIn K (.ref SE) "__getattribute__" = some (some (.builtin "type.__getattribute__"))
  seF : PySem.W.findCls K (.ref SE) (.type "type") "__init__" = some (.val (.builtin "ValueError.__init__"))
abbrev exH (e C : Addr) (od : Option Addr) (t : Addr) : HO := .ext fun h => h.get? e = some (exO C od t)
theorem exH_ok {P : Program} {w : World} {H : Hp} {h : Heap} {e C t : Addr} {od : Option Addr} (a : h.get? e = some (exO C od t)) : ObjOk P w H h e (exH e C od t) := ⟨a, ⟨_, a⟩, fun _ _ x k => k _ x⟩
section
variable {X : Cx} {pins : List (Addr × Obj)} {σ : St} {H : Hp} {s : Shared} {S : Av} {k : Nat} {n bn c : Str} {C SE f e t : Addr} {j : Nat} {p1 p2 ap q1 q2 q3 q4 cp ep r1 r2 r3 r4 : Pos} {v : V} {d : PyData}
theorem ini_say {Q : Flow → Shared → Prop} {pl : Sem Bool} (Z : IniK X.K X.mg n bn C SE f) (hr : Room k X.A) (I : Inv X pins σ H s) (h0 : X.N[0]? = some ("self" : Str)) (h1 : X.N[1]? = some n) (v0 : Vis X.env.scope "self") (v1 : Vis X.env.scope n) (hg : Gl X bn) (e0 : σ[0]? = some (some (.ref e))) (e1 : σ[1]? = some (some v)) (he : H e = some (exH e C none t)) (dv : Den X.K H S v d) (hs : shOk d = true) (hc : c.length ≤ 1000)
    (hd : (n == ("__debug__" : Str)) = false) (hcd : (n == ("__classdict__" : Str)) = false) (hbd : (bn == ("__debug__" : Str)) = false)
    (h : ∀ t' s', Inv X pins σ (upd H e (exH e C none t')) s' → Q .next s')
    (ht : eval (.Call (.Attribute (.Name bn p1) "__init__" ap) [.Name "self" p2, .JoinedStr [.Constant (.str c) j q1, .FormattedValue (.Name n q2) 114 none q3] q4] [] cp) X.env = (do
      let ov ← eval (.Name bn p1) X.env
      standAt ap.atName
      let (f, first) ← holding [ov] (getMethod ov "__init__" pl)
      callWith cp f first (backTo cp (starEach [.Name "self" p2, .JoinedStr [.Constant (.str c) j q1, .FormattedValue (.Name n q2) 114 none q3] q4] X.env)) (backToKw cp (keywordEach [] X.env))) := by rfl)
    (hsw : swapsWith (.Call (.Attribute (.Name bn p1) "__init__" ap) [.Name "self" p2, .JoinedStr [.Constant (.str c) j q1, .FormattedValue (.Name n q2) 114 none q3] q4] [] cp) none ep.line X.env = pure false := by rfl) :
    wpAny (model X.prog X.w) X.A (exec (.Expr (.Call (.Attribute (.Name bn p1) "__init__" ap) [.Name "self" p2, .JoinedStr [.Constant (.str c) j q1, .FormattedValue (.Name n q2) 114 none q3] q4] [] cp) ep) X.env) Q X.xe s := by
  refine wpAny_Expr_any ?_ I.quiet hsw
  refine PySem.W.methodCall_KW (pl := pl) (ld_glob I hg Z.seM ?_ hbd) ht
  refine PySem.W.method_cls I.kIn Z.seG (PySem.W.cls_value I.kIn Z.seR Z.seF rfl ?_)
  refine PyProof.Rows.callWith_builtin1 ?_ rfl rfl
  have ha : PA X [.Name "self" p2, .JoinedStr [.Constant (.str c) j q1, .FormattedValue (.Name n q2) 114 none q3] q4] (fun σ' H' Q' => σ' = σ ∧ H' = H ∧ ∀ y, Q' [.ref e, .str y] H) := by
    refine (pa_cons (te := fun σ' H' Q' => σ' = σ ∧ H' = H ∧ Q' (.ref e) H) (fun pins' s' σ' H' Q' I' hq => ?_) (pa_cons (te := fun σ' H' Q' => σ' = σ ∧ H' = H ∧ ∀ y, Q' (.str y) H) (fun pins' s' σ' H' Q' I' hq => ?_) pa_nil rfl) rfl).weak fun σ' H' Q' hq => ?_
    · obtain ⟨rfl, rfl, hq⟩ := hq
      exact pe_var h0 v0 (by decide +kernel) (by decide +kernel) pins' s' _ _ Q' I' ⟨_, e0, hq⟩
    · obtain ⟨rfl, rfl, hq⟩ := hq
      exact ev_fstr hr I' h1 v1 e1 dv hs hc hd hcd fun y tk s2 I2 => ⟨.str y, _, I2, ⟨_, rfl⟩, hq y⟩
    · obtain ⟨rfl, rfl, hq⟩ := hq
      exact ⟨rfl, rfl, rfl, rfl, fun y => hq y⟩
  refine thn (ha cp pins _ σ H (fun vs H1 => ∃ y, vs = [.ref e, .str y] ∧ H1 = H) (I.tok _) ⟨rfl, rfl, fun y => ⟨y, rfl, rfl⟩⟩) fun us s1 ⟨vs, H1, I1, r, y, ev, eh⟩ => ?_
  subst ev eh
  obtain ⟨u1, u2, rfl, ru1, ru2⟩ := r.two
  cases (show u1 = Value.ref e from ru1)
  obtain ⟨bm, N, nm, qn, bs, hd', sn, sub, ab, col, dd, k0, k1, k2, k3, k5, mN, hC, hN, hni, TL⟩ := exi_obj I1.mod.kin Z.exi
  obtain ⟨hh, g, dr, tk, os⟩ := s1
  have hx : hh.get? e = some (exO C none t) := (I1.hok e _ he).1
  refine exc_again PySem.F.excBase_ValueError (TL.keeps I1.bk) (I1.bk _ _ hC) hx fun h' a1 a2 a3 => h hh.objs.size _ ?_
  exact I1.write (t' := tk) (by rw [he]; exact True.intro) (.inl rfl) (fun b u hb q => a3 b u hb q) ⟨_, a1⟩ (exH_ok a1)
theorem ini_put {Q : Flow → Shared → Prop} (Z : IniK X.K X.mg n bn C SE f) (I : Inv X pins σ H s) (h0 : X.N[0]? = some ("self" : Str)) (h1 : X.N[1]? = some n) (v0 : Vis X.env.scope "self") (v1 : Vis X.env.scope n) (e0 : σ[0]? = some (some (.ref e))) (e1 : σ[1]? = some (some v)) (he : H e = some (exH e C none t))
    (hd : (n == ("__debug__" : Str)) = false) (hcd : (n == ("__classdict__" : Str)) = false) (hex : X.ex = []) (h : ∀ dx s', H dx = none → Inv X pins σ (upd (upd H e (exH e C (some dx) t)) dx (.xd [(n, v)])) s' → Q .next s')
    (hsw : swapsWith (.Name n r3) (some (.Attribute (.Name "self" r1) n r2)) r4.line X.env = pure false := by rfl) :
    wpAny (model X.prog X.w) X.A (exec (.Assign [.Attribute (.Name "self" r1) n r2] (.Name n r3) r4) X.env) Q X.xe s := by
  refine plainObj_wpAny_Assign_Attribute (thn (pe_var h1 v1 hd hcd pins s σ H (fun y H1 => y = v ∧ H1 = H) I ⟨v, e1, rfl, rfl⟩) fun u s1 ⟨v', H1, I1, rv, ev, eh⟩ => thn (pe_var h0 v0 (by decide +kernel) (by decide +kernel) pins s1 σ H1 (fun y H2 => y = .ref e ∧ H2 = H1) I1 ⟨_, e0, rfl, rfl⟩) fun ov s2 ⟨x, H2, I2, rx, ex, eh2⟩ => ?_) hsw
  subst ev eh ex eh2
  cases (show ov = Value.ref e from rx)
  obtain ⟨hh, g, dr, tk, os⟩ := s2
  obtain ⟨cd, c1, c2, c3⟩ := Z.cd
  have hx : hh.get? e = some (exO C none t) := (I2.hok e _ he).1
  have hd0 : H2 hh.objs.size = none := I2.hok.fresh (Nat.le_refl _)
  have nd : hh.objs.size ≠ e := Nat.ne_of_gt (Heap.lt_size hx)
  refine exc_store I2.kIn Z.sa (xcK_of Z.xc).mo c1 c2 c3 Z.nn hx fun h' tk' a1 a2 a3 => h hh.objs.size _ hd0 ?_
  have I3 : Inv X pins σ (upd H2 e (exH e C (some hh.objs.size) t)) ⟨h', g, dr, tk', os⟩ := I2.write (t' := tk') (by rw [he]; exact True.intro) (.inl rfl) (fun b u hb q => a3 b u hb q) ⟨_, a1⟩ (exH_ok a1)
  refine I3.trackO ⟨_, a2, fun y => ?_⟩ (by rw [upd_ne nd]; exact hd0) ?_ (Nat.ne_of_gt I2.lt) (fun y c' ec z => ?_) fun p hp z => ?_
  · by_cases q : y = n
    · subst q
      rw [if_pos rfl, show List.lookup y [(y, v')] = some v' from by simp [List.lookup]]
      exact rv
    · rw [if_neg q, show List.lookup y [(n, v')] = none from by simp [List.lookup, beq_eq_false_iff_ne.mpr q]]
      exact True.intro
  · cases z : X.s₀.heap.get? hh.objs.size with
    | none => rfl
    | some o =>
      obtain ⟨o', y⟩ := I2.base.there _ o z (by rw [hex]; simp)
      exact absurd (Heap.lt_size y) (Nat.lt_irrefl _)
  · obtain ⟨w', o', ho', _⟩ := I2.cell y c' ec
    rw [z] at ho'
    exact absurd (Heap.lt_size ho') (Nat.lt_irrefl _)
  · have y := (I2.pin p hp).1
    rw [z] at y
    exact absurd (Heap.lt_size y) (Nat.lt_irrefl _)
end
end L2
namespace L2
open PySem PySem.Spec PyProof.Rows
/-! ### the call of the __init__, and raise -/
def spI (K : PySem.W.Frag) (n : Str) (C : Addr) : Sp := fun vs H Q _ => ∃ e t v S d, vs = [.ref e, v] ∧ H e = some (exH e C none t) ∧ Den K H S v d ∧ shOk d = true ∧ ∀ H' dx t', (∀ b o, b ≠ e → H b = some o → H' b = some o) → H' e = some (exH e C (some dx) t') → H' dx = some (.xd [(n, v)]) → Q .non H'
section
variable {P : Program} {w : World} {K : PySem.W.Frag} {mg : Str → Option Value} {base : Heap}
theorem ini_ok {pl : Env → Sem Bool} {qual n bn c : Str} {st : Stmt} {f C SE : Addr} {fd : FuncData} {j : Nat} {p1 p2 ap q1 q2 q3 q4 cp ep r1 r2 r3 r4 : Pos} (F : Fun K "__init__" qual st f fd) (S : FnScope ["self", n] ["self", n] (defScope st)) (Z : IniK K mg n bn C SE f) (hvs : visB (defScope st) "self" = true) (hvn : visB (defScope st) n = true) (hgl : glB (defScope st) bn = true) (hc : c.length ≤ 1000)
    (hd : (n == ("__debug__" : Str)) = false) (hcd : (n == ("__classdict__" : Str)) = false) (hbd : (bn == ("__debug__" : Str)) = false)
    (hb : defBody st = [.Expr (.Call (.Attribute (.Name bn p1) "__init__" ap) [.Name "self" p2, .JoinedStr [.Constant (.str c) j q1, .FormattedValue (.Name n q2) 114 none q3] q4] [] cp) ep, .Assign [.Attribute (.Name "self" r1) n r2] (.Name n r3) r4])
    (ht : ∀ env : Env, eval (.Call (.Attribute (.Name bn p1) "__init__" ap) [.Name "self" p2, .JoinedStr [.Constant (.str c) j q1, .FormattedValue (.Name n q2) 114 none q3] q4] [] cp) env = (do
      let ov ← eval (.Name bn p1) env
      standAt ap.atName
      let (f, first) ← holding [ov] (getMethod ov "__init__" (pl env))
      callWith cp f first (backTo cp (starEach [.Name "self" p2, .JoinedStr [.Constant (.str c) j q1, .FormattedValue (.Name n q2) 114 none q3] q4] env)) (backToKw cp (keywordEach [] env)))) :
    FnOk P w K mg base CX0 1 f fd ["self", n] (spI K n C) := by
  refine F.ok (k := 0) S (fun vs H Q E h => ?_) fun cdv A outer s H vs Q E hr h => ?_
  · obtain ⟨_, _, _, _, _, rfl, _⟩ := h
    rfl
  obtain ⟨e, t, v, Sv, d, rfl, he, dv, hs, q⟩ := h
  refine ⟨fun D σ' H' => σ' = start ["self", n] [.ref e, v] ∧ H' = H ∧ ∀ H2, Q .non H2 → D.nx σ' H2, fun pins s1 σ1 H1 D I ht => ?_, rfl, rfl, fun H2 z => z⟩
  obtain ⟨rfl, rfl, hq⟩ := ht
  rw [hb]
  have e0 : (start ["self", n] [.ref e, v])[0]? = some (some (.ref e)) := rfl
  have e1 : (start ["self", n] [.ref e, v])[1]? = some (some v) := rfl
  refine wpAny_execs_cons (ini_say (Q := fun f s' => _) Z hr I rfl rfl (vis_fn hvs) (vis_fn hvn) (gl_fn _ rfl hgl) e0 e1 he dv hs hc hd hcd hbd (fun t' s2 I2 => ?_) (ht _))
  refine wpAny_execs_cons (ini_put (Q := fun f s' => _) Z I2 rfl rfl (vis_fn hvs) (vis_fn hvn) e0 e1 upd_same hd hcd rfl fun dx s3 hdx I3 => ?_)
  have nd : e ≠ dx := fun z => by rw [← z, upd_same] at hdx; cases hdx
  have hdx0 : H1 dx = none := by rw [upd_ne nd.symm] at hdx; exact hdx
  refine wpAny_execs_nil ⟨_, _, I3, hq _ (q _ dx t' (fun b o nb z => ?_) (by rw [upd_ne nd]; exact upd_same) upd_same)⟩
  rw [upd_ne (ne_of_none z hdx0), upd_ne nb, upd_ne nb]
  exact z
end
structure KnownI (P : Program) (w : World) (K : PySem.W.Frag) (mg : Str → Option Value) (base : Heap) (x n : Str) (k : Nat) : Prop where
  ex : ∃ (bn : Str) (C SE f : Addr) (fd : FuncData), IniK K mg n bn C SE f ∧ mg x = some (.ref C) ∧ XCls K x C ∧ PySem.W.keepIn K (.ref C) = true ∧ PySem.W.typeIn K (.ref C) = some (.type "type") ∧ PySem.W.isFn K (.ref f) = true ∧ FnOk P w K mg base CX0 k f fd ["self", n] (spI K n C) ∧ Binds K fd ["self", n] []
section
variable {X : Cx} {G : Gm} {M L : List Nat} {a : Expr} {fa : Rho → Option PyData} {x n : Str} {pos np cpos : Pos} {k k' : Nat}
end
end L2
namespace L2
open PySem PySem.Spec PyProof.Rows
section
variable {prog : Program} {w : World} {A : Around} {E : Value → Shared → Prop} {s : Shared} {K : PySem.W.Frag} {x C dx : Addr} {o : Obj} {fs : Array Value} {mA : Str → Option Value} {n : Str} {v : Value} {cd : ClassData}
end
/-! ### what the generated rows want of such a class -/
def iniB (K : PySem.W.Frag) (n : Str) (C SE f : Addr) : Bool :=
  exiIn K C f && ((PySem.W.findIn K (.ref C) "__setattr__" == some (some (.builtin "object.__setattr__"))) && (((PySem.W.clsIn K C).any fun cd => tailV cd.mro && cd.hasDict) && ((PySem.W.findIn K (.ref C) n == some none) && (xcB K C && (PySem.W.readsIn K SE (.type "type") && ((PySem.W.specialIn K (.ref SE) "__getattribute__" == some (some (.builtin "type.__getattribute__"))) &&
  ((match PySem.W.findCls K (.ref SE) (.type "type") "__init__" with | some (.val (.builtin i)) => i == "ValueError.__init__" | _ => false) && (PySem.W.keepIn K (.ref C) && ((PySem.W.typeIn K (.ref C) == some (.type "type")) && PySem.W.isFn K (.ref f))))))))))
def IniF (K : PySem.W.Frag) (x n bn qual : Str) (st : Stmt) : Prop := ∃ (C SE f : Addr) (fd : FuncData), PySem.W.nsIn K mainGlobals x = some (some (.ref C)) ∧ PySem.W.nsIn K mainGlobals bn = some (some (.ref SE)) ∧ iniB K n C SE f = true ∧ Fun K "__init__" qual st f fd
theorem IniF.of {K : PySem.W.Frag} {x n bn qual : Str} {st : Stmt} {C SE f : Addr} {oc : Value} {od an : Option Addr} {osl : Array (Option Value)} {kV doc pm cdv ct : Value} (a : PySem.W.nsIn K mainGlobals x = some (some (.ref C))) (b : PySem.W.nsIn K mainGlobals bn = some (some (.ref SE))) (_g : PySem.W.findIn K (.ref C) "__init__" = some (some (.ref f)))
    (l : K.lookup f = some ⟨oc, od, .func (PySem.W.fnOf "__init__" qual (defArgs st) (defBody st) (defScope st) .none kV doc pm an cdv ct), osl⟩) (d : PySem.W.codeIn K cdv qual = true) (k : PySem.W.keepIn K (.ref f) = true) (i : iniB K n C SE f = true) : IniF K x n bn qual st := ⟨C, SE, f, _, a, b, i, fun_mk l d k⟩
theorem IniF.known {P : Program} {w : World} {K : PySem.W.Frag} {mg : Str → Option Value} {base h : Heap} {pl : Env → Sem Bool} {x n bn qual c : Str} {st : Stmt} {j : Nat} {p1 p2 ap q1 q2 q3 q4 cp ep r1 r2 r3 r4 : Pos} (X : K.In h) (G : h.Ns mainGlobals mg) (A : ScOk ["self", n] ["self", n] [bn] (defScope st))
    (hc : c.length ≤ 1000) (hd : (n == ("__debug__" : Str)) = false) (hcd : (n == ("__classdict__" : Str)) = false) (hbd : (bn == ("__debug__" : Str)) = false)
    (hb : defBody st = [.Expr (.Call (.Attribute (.Name bn p1) "__init__" ap) [.Name "self" p2, .JoinedStr [.Constant (.str c) j q1, .FormattedValue (.Name n q2) 114 none q3] q4] [] cp) ep, .Assign [.Attribute (.Name "self" r1) n r2] (.Name n r3) r4])
    (ht : ∀ env : Env, eval (.Call (.Attribute (.Name bn p1) "__init__" ap) [.Name "self" p2, .JoinedStr [.Constant (.str c) j q1, .FormattedValue (.Name n q2) 114 none q3] q4] [] cp) env = (do
      let ov ← eval (.Name bn p1) env
      standAt ap.atName
      let (f, first) ← holding [ov] (getMethod ov "__init__" (pl env))
      callWith cp f first (backTo cp (starEach [.Name "self" p2, .JoinedStr [.Constant (.str c) j q1, .FormattedValue (.Name n q2) 114 none q3] q4] env)) (backToKw cp (keywordEach [] env))))
    (hbi : ∀ {f : Addr} {fd : FuncData}, Fun K "__init__" qual st f fd → Binds K fd ["self", n] []) (F : IniF K x n bn qual st) : KnownI P w K mg base x n 1 := by
  obtain ⟨C, SE, f, fd, a, b, i, F⟩ := F
  unfold iniB at i
  simp only [Bool.and_eq_true, beq_iff_eq] at i
  obtain ⟨i1, i2, i3, i4, i5, i6, i7, i8, i9, i10, i11⟩ := i
  obtain ⟨cd, c1, c2⟩ := PySem.W.any_some i3
  rw [Bool.and_eq_true] at c2
  have Z : IniK K mg n bn C SE f := ⟨i1, i2, ⟨cd, c1, c2.1, c2.2⟩, i4, i5, PySem.W.mg_of X G b, i6, i7, by
    split at i8
    · rename_i y hy
      rw [hy, beq_iff_eq.mp i8]
    · cases i8⟩
  exact ⟨bn, C, SE, f, fd, Z, PySem.W.mg_of X G a, ⟨a, i5⟩, i9, i10, i11, ini_ok F A.fs Z (A.nm _ (.head _)).1 (A.nm _ (.tail _ (.head _))).1 (A.gb _ (.head _)) hc hd hcd hbd hb ht, hbi F⟩
/-! what can be told: three whole numbers, one -/
/-! == and != within an except suite -/
end L2
namespace L2
open PySem PySem.Spec PyProof.Rows
/-! ### list(range(n)) -/
end L2
namespace L2
open PySem PySem.Spec PyProof.Rows
/-! ### xs.count(e); a part of a list as a new list -/
section
variable {X : Cx} {M : List Nat} {a b : Expr} {f g : Rho → Option PyData} {pos : Pos}
end
end L2
namespace L2
open PySem PySem.Spec PyProof.Rows
/-! ### exceptions out of loops, and from within expressions -/
section
variable {X : Cx} {G G1 : Gm} {M L : List Nat} {fr : Fr} {o : Bool} {pins pl : List (Addr × Obj)} {d : PyData} {ρ : Rho} {e : Value} {s' : Shared}
theorem XAt.un (bs : Same G.H0 G1.H0) (eS : G1.S0 = G.S0) (eL : G1.lk = G.lk) (q : XAt X o (pins ++ pl) G1 M L d ρ e s') : XAt X o pins G M L d ρ e s' := by
  obtain ⟨a, c, C, y, rfl, rfl, hC, q⟩ := q
  refine ⟨a, c, C, y, rfl, rfl, hC, ?_⟩
  rcases q with ⟨ho, ⟨σ, H, S, od, t, I, os, m⟩ | ⟨s2, B, t, dd, h', q, r⟩⟩ | ⟨σ, H, S, s1, H', B, t, dd, dx, I, os, g, r⟩
  · exact .inl ⟨ho, .inl ⟨σ, H, S, od, t, I.unpinned, os.unbase bs eS eL, m⟩⟩
  · refine .inl ⟨ho, .inr ⟨s2, B, t, dd, h', ?_, r⟩⟩
    rcases q with ⟨σ, H, S, I, os, m⟩ | ⟨σ, H, S, s1, H', dx, I, os, m⟩
    · exact .inl ⟨σ, H, S, I.unpinned, os.unbase bs eS eL, m⟩
    · exact .inr ⟨σ, H, S, s1, H', dx, I.unpinned, os.unbase bs eS eL, m⟩
  · exact .inr ⟨σ, H, S, s1, H', B, t, dd, dx, I.unpinned, os.unbase bs eS eL, g, r⟩
end
section
variable {X : Cx} {G : Gm} {M L Mx : List Nat} {fr : Fr} {o : Bool} {u : Rho → Option Out} {w : Rho → Option (PyData × Rho)} {a b : Expr} {es : List Expr} {fa : Rho → Option PyData} {pos : Pos}
/-! an expression that raises -/
theorem Known.at {P : Program} {w : World} {K : PySem.W.Frag} {mg : Str → Option Value} {base : Heap} {x : Str} {n k : Nat} {h : List PyData → Option PyData} (F : Known P w K mg base x n k h) : ∃ f, mg x = some (.ref f) ∧ PySem.W.keepIn K (.ref f) = true := let ⟨f, _, _, _, m, kp, _⟩ := F.ex; ⟨f, m, kp⟩
end
end L2
namespace L2
open PySem PySem.Spec PyProof.Rows
/-! ### enumerate(zip(xs, ys)) of two lists: the zip is drawn from by the enumerate, so its own tuple may be handed out or not -/
abbrev zpO (f0 : Value) (b : Bool) (ti to : Addr) : Obj := { cls := .type "zip", dict := none, data := .fields #[f0, .bool b, .bool false, .ref ti, .ref to], slots := #[] }
def Zs (h : Heap) (z ti to : Addr) : Prop := ∃ f0 b, h.get? z = some (zpO f0 b ti to) ∧ (f0 = .none ∨ ∃ T : Int, f0 = rawInt T)
def Zw (h : Heap) (z ti to : Addr) : Prop := ∃ f0 b, h.get? z = some (zpO f0 b ti to)
theorem Zs.w {h : Heap} {z ti to : Addr} (q : Zs h z ti to) : Zw h z ti to := let ⟨f, b, e, _⟩ := q; ⟨f, b, e⟩
section
variable {prog : Program} {w : World} {A : Around} {E : Value → Shared → Prop} {s : Shared}
end
section
variable {prog : Program} {w : World} {A : Around} {E : Value → Shared → Prop} {s : Shared}
end
section
variable {X : Cx} {M : List Nat} {a b : Expr} {f fa fb : Rho → Option PyData} {pos : Pos}
end
end L2
namespace L2
open PySem PySem.Spec PyProof.Rows
/-! ### a def that changes a list which is handed to it -/
/-- the things that are handed over: the one at place i is the list p itself -/
inductive DenU (K : PySem.W.Frag) (H : Hp) (S : Av) (p : Addr) : Nat → List V → List PyData → Prop
  | here {vs : List V} {d : PyData} {ds : List PyData} : DenL K H S vs ds → DenU K H S p 0 (.ref p :: vs) (d :: ds)
  | there {i : Nat} {v : V} {d : PyData} {vs : List V} {ds : List PyData} : Den K H S v d → DenU K H S p i vs ds → DenU K H S p (i + 1) (v :: vs) (d :: ds)
section
variable {K : PySem.W.Frag} {H H' : Hp} {S : Av} {p : Addr} {i : Nat} {vs : List V} {ds : List PyData}
theorem DenU.length (h : DenU K H S p i vs ds) : vs.length = ds.length := by
  induction h with
  | here t => rw [List.length_cons, List.length_cons, t.length]
  | there a t ih => rw [List.length_cons, List.length_cons, ih]
theorem DenU.same (e : Same H H') (h : DenU K H S p i vs ds) : DenU K H' S p i vs ds := by
  induction h with
  | here t => exact .here (t.same e)
  | there a t ih => exact .there (a.same e) ih
theorem DenU.at (h : DenU K H S p i vs ds) : vs[i]? = some (.ref p) := by
  induction h with
  | here t => rfl
  | there a t ih => exact ih
theorem DenU.off (h : DenU K H S p i vs ds) : ∀ (j : Nat) (d : PyData), j ≠ i → ds[j]? = some d → ∃ v, vs[j]? = some v ∧ Den K H S v d := by
  induction h with
  | here t =>
    intro j d n e
    cases j with
    | zero => exact absurd rfl n
    | succ j => exact t.get e
  | there a t ih =>
    intro j d n e
    cases j with
    | zero => cases e; exact ⟨_, rfl, a⟩
    | succ j => exact ih j d (fun z => n (by rw [z])) e
end
/-! #### statements that keep the list's name -/
section
variable {X : Cx} {G : Gm} {i0 : Nat} {a b c : Expr} {es : List Expr} {f g : Rho → Option PyData} {p : Rho → Option Bool} {pos : Pos} {s1 : Stmt} {ss st1 st2 : List Stmt} {u w : Rho → Option Out}
end
section
variable {P : Program} {w : World} {K : PySem.W.Frag} {mg : Str → Option Value} {base : Heap}
end
section
variable {X : Cx} {G : Gm} {M M' Mb L : List Nat} {fr : Fr} {a b c : Expr} {es : List Expr} {f g : Rho → Option PyData} {fs : Rho → Option (List PyData)} {pos : Pos}
end
theorem KnownM.known {P : Program} {w : World} {K : PySem.W.Frag} {mg : Str → Option Value} {base : Heap} {x : Str} {n k : Nat} {h : List PyData → Option PyData} (F : KnownM P w K mg base x n k h) : Known P w K mg base x n k h := by
  obtain ⟨f, fd, ps, F, m, kp, b⟩ := F.ex
  exact ⟨f, fd, ps, ⟨F.len, fun A outer s H args us vs Q E hr => F.run A outer s H args us vs Q E ⟨hr.dp, hr.un⟩⟩, m, kp, b⟩
section
variable {X : Cx} {G : Gm} {M L Mb : List Nat} {fr : Fr} {a b : Expr} {fa fb : Rho → Option PyData} {pos sp : Pos}
end
end L2
namespace L2
open PySem PySem.Spec PyProof.Rows
/-! ### an exception that a handler without a name takes; one that comes out of a comparison -/
section
variable {X : Cx} {o : Bool} {G : Gm} {M L : List Nat} {a b : Expr} {pos : Pos} {w : Rho → Option (PyData × Rho)}
end
section
variable {X : Cx} {G : Gm} {M M' Mb L Mx : List Nat} {fr : Fr} {u uh : Rho → Option Out} {w : Rho → Option (PyData × Rho)}
end
end L2
namespace L2
open PySem PySem.Spec PyProof.Rows
/-! ### list(reversed(xs)) of a list -/
section
variable {prog : Program} {w : World} {A : Around} {E : Value → Shared → Prop} {s : Shared}
end
end L2
namespace L2
open PySem PySem.Spec PyProof.Rows
/-! ### a tuple of new lists, of what is flat, made while other things are one's own -/
section
variable {K : PySem.W.Frag} {H : Hp} {S S' : Av}
end
section
variable {X : Cx} {G : Gm} {M L Mb : List Nat} {fr : Fr} {a : Expr} {f : Rho → Option PyData} {pos : Pos}
end
end L2
namespace L2
open PySem PySem.Spec PyProof.Rows
/-! ### new tuples that hold new lists and flat things; a list handed over for good -/
section
variable {X : Cx} {G : Gm} {M M' Mb L : List Nat} {a b : Expr} {es : List Expr} {f : Rho → Option PyData} {pos tp : Pos} {fs : Rho → Option (List PyData)}
end
section
variable {P : Program} {w : World} {K : PySem.W.Frag} {mg : Str → Option Value} {base : Heap}
end
section
variable {X : Cx} {M : List Nat} {a : Expr} {f : Rho → Option PyData} {pos : Pos}
end
end L2
namespace L2
open PySem PySem.Spec PyProof.Rows
/-! ### a row that is told in two ways; a new pair taken apart -/
section
variable {X : Cx} {G : Gm} {M M' Mb L : List Nat} {fr : Fr} {a : Expr} {s1 : Stmt} {ss : List Stmt} {u w : Rho → Option Out} {f : Rho → Option PyData} {pos tp : Pos}
theorem pdss_any : PDSs X G M L M' Mb fr ss sNo := fun pins s σ H D I ⟨S, ρ, o, os, e, q⟩ => by cases e
end
end L2
namespace L2
open PySem PySem.Spec PyProof.Rows
/-! ### a new list of new tuples, which hold new lists and flat things: taken, walked, its lists changed, forgotten -/
inductive Wk (K : PySem.W.Frag) (H : Hp) : List Addr → List V → List PyData → Prop
  | nil : Wk K H [] [] []
  | kid {q : Addr} {xs : List V} {es : List PyData} {qs : List Addr} {vs : List V} {ds : List PyData} : H q = some (.lst xs) → DenL K H (fun _ => False) xs es → flatL es = true → q ∉ qs → Wk K H qs vs ds → Wk K H (q :: qs) (.ref q :: vs) (.list es :: ds)
  | flt {v : V} {d : PyData} {qs : List Addr} {vs : List V} {ds : List PyData} : Den K H (fun _ => False) v d → flat d = true → Wk K H qs vs ds → Wk K H qs (v :: vs) (d :: ds)
inductive Wl (K : PySem.W.Frag) (H : Hp) : List Addr → List V → List PyData → Prop
  | nil : Wl K H [] [] []
  | cons {t : Addr} {ws : List V} {es : List PyData} {qs rs : List Addr} {vs : List V} {ds : List PyData} : H t = some (.tup ws) → Wk K H qs ws es → (∀ q ∈ qs, q ∉ rs) → Wl K H rs vs ds → Wl K H (qs ++ rs) (.ref t :: vs) (.tuple es :: ds)
def mutA (H : Hp) (q : Addr) : Prop := ∃ o, H q = some o ∧ isMut o = true
section
variable {K : PySem.W.Frag} {H H' : Hp} {S : Av} {qs rs : List Addr} {vs ws : List V} {ds es : List PyData} {q : Addr} {o : HO}
theorem flatUpd {v : V} {d : PyData} (m : mutA H q) (f : flat d = true) (h : Den K H (fun _ => False) v d) : Den K (upd H q o) (fun _ => False) v d :=
  ((h.flat (S' := fun a => a = q) f).off (fun a ha => by rw [ha]; exact m) fun b u n e => by rw [upd_ne n]; exact e).flat f
theorem flatUpdL (m : mutA H q) (f : flatL ds = true) (h : DenL K H (fun _ => False) vs ds) : DenL K (upd H q o) (fun _ => False) vs ds :=
  ((h.flat (S' := fun a => a = q) f).off (fun a ha => by rw [ha]; exact m) fun b u n e => by rw [upd_ne n]; exact e).flat f
theorem Wk.same (e : Same H H') (h : Wk K H qs vs ds) : Wk K H' qs vs ds := by
  induction h with
  | nil => exact .nil
  | kid h t f n _ r => exact .kid (e _ _ h) (t.same e) f n r
  | flt a f _ r => exact .flt (a.same e) f r
theorem Wk.mut (h : Wk K H qs vs ds) (q : Addr) (hq : q ∈ qs) : mutA H q := by
  induction h with
  | nil => exact nomatch hq
  | kid h t f n _ r => exact (List.mem_cons.mp hq).elim (fun e => by rw [e]; exact ⟨_, h, rfl⟩) r
  | flt a f _ r => exact r hq
theorem Wk.den (n : ∀ q ∈ qs, ¬ S q) (h : Wk K H qs vs ds) : DenL K H S vs ds := by
  induction h with
  | nil => exact .nil
  | kid h t f _ _ r => exact .cons (.list (SqLS.new h (n _ (.head _))) (t.flat f)) (r fun q hq => n q (.tail _ hq))
  | flt a f _ r => exact .cons (a.flat f) (r n)
theorem Wk.upd (m : mutA H q) (n : q ∉ qs) (h : Wk K H qs vs ds) : Wk K (upd H q o) qs vs ds := by
  induction h with
  | nil => exact .nil
  | kid h t f n' _ r => exact .kid (by rw [upd_ne (fun z => n (by rw [z]; exact .head _))]; exact h) (flatUpdL m f t) f n' (r fun z => n (.tail _ z))
  | flt a f _ r => exact .flt (flatUpd m f a) f (r n)
theorem Wk.append (h : Wk K H qs vs ds) (k : Wk K H rs ws es) (n : ∀ q ∈ qs, q ∉ rs) : Wk K H (qs ++ rs) (vs ++ ws) (ds ++ es) := by
  induction h with
  | nil => exact k
  | kid h t f n' _ r => exact .kid h t f (fun z => (List.mem_append.mp z).elim n' (n _ (.head _))) (r fun q hq => n q (.tail _ hq))
  | flt a f _ r => exact .flt a f (r n)
theorem Wk.length (h : Wk K H qs vs ds) : vs.length = ds.length := by
  induction h with
  | nil => rfl
  | kid _ _ _ _ _ r => rw [List.length_cons, List.length_cons, r]
  | flt _ _ _ r => rw [List.length_cons, List.length_cons, r]
theorem Wl.same (e : Same H H') (h : Wl K H qs vs ds) : Wl K H' qs vs ds := by
  induction h with
  | nil => exact .nil
  | cons h m n _ r => exact .cons (e _ _ h) (m.same e) n r
theorem Wl.mut (h : Wl K H qs vs ds) (q : Addr) (hq : q ∈ qs) : mutA H q := by
  induction h with
  | nil => exact nomatch hq
  | cons h m n _ r => exact (List.mem_append.mp hq).elim (m.mut q) r
theorem Wl.den (n : ∀ q ∈ qs, ¬ S q) (h : Wl K H qs vs ds) : DenL K H S vs ds := by
  induction h with
  | nil => exact .nil
  | cons h m _ _ r => exact .cons (.tuple (.inl (.inl h)) (m.den fun q hq => n q (List.mem_append_left _ hq))) (r fun q hq => n q (List.mem_append_right _ hq))
theorem tup_ne {t : Addr} {xs : List V} (m : mutA H q) (h : H t = some (.tup xs)) : t ≠ q := fun z => by
  obtain ⟨o, e, w⟩ := m
  rw [z, e] at h
  cases h
  cases w
theorem Wl.upd (m : mutA H q) (n : q ∉ qs) (h : Wl K H qs vs ds) : Wl K (upd H q o) qs vs ds := by
  induction h with
  | nil => exact .nil
  | cons h k n' _ r => exact .cons (by rw [upd_ne (tup_ne m h)]; exact h) (k.upd m fun z => n (List.mem_append_left _ z)) n' (r fun z => n (List.mem_append_right _ z))
theorem Wl.append (h : Wl K H qs vs ds) (k : Wl K H rs ws es) (n : ∀ q ∈ qs, q ∉ rs) : Wl K H (qs ++ rs) (vs ++ ws) (ds ++ es) := by
  induction h with
  | nil => exact k
  | cons h m n' _ r =>
    rw [List.append_assoc]
    exact .cons h m (fun q hq z => (List.mem_append.mp z).elim (n' q hq) (n q (List.mem_append_left _ hq))) (r fun q hq => n q (List.mem_append_right _ hq))
theorem Wl.length (h : Wl K H qs vs ds) : vs.length = ds.length := by
  induction h with
  | nil => rfl
  | cons _ _ _ _ r => rw [List.length_cons, List.length_cons, r]
end
/-- the new thing -/
def NwQ (K : PySem.W.Frag) (H : Hp) (d : PyData) (Q : VK) : Prop := ∀ p qs xs ds H', d = .list ds → Same H H' → H p = none → (∀ q ∈ qs, H q = none) → p ∉ qs → H' p = some (.lst xs) → Wl K H' qs xs ds → Q (.ref p) H'
theorem NwQ.mono {K : PySem.W.Frag} {H H1 : Hp} {d : PyData} {Q : VK} (g : Same H H1) (h : NwQ K H d Q) : NwQ K H1 d Q := fun p qs xs ds H' e s n nq np hp w => h p qs xs ds H' e (g.trans s) (g.free n) (fun q hq => g.free (nq q hq)) np hp w
def tNw (K : PySem.W.Frag) (M : List Nat) (f : Rho → Option PyData) : TE := fun σ H Q => ∃ S ρ d, DenS K H S M σ ρ ∧ f ρ = some d ∧ NwQ K H d Q
def PNw (X : Cx) (M : List Nat) (e : Expr) (f : Rho → Option PyData) : Prop := PE X e (tNw X.K M f)
/-- an item of such a tuple -/
def tKx (K : PySem.W.Frag) (M : List Nat) (f : Rho → Option PyData) : TE := fun σ H Q => ∃ S ρ d, DenS K H S M σ ρ ∧ f ρ = some d ∧ ∀ v qs H', Same H H' → (∀ q ∈ qs, H q = none) → Wk K H' qs [v] [d] → Q v H'
def PKx (X : Cx) (M : List Nat) (e : Expr) (f : Rho → Option PyData) : Prop := PE X e (tKx X.K M f)
def tKA (K : PySem.W.Frag) (M : List Nat) (fs : Rho → Option (List PyData)) : TA := fun σ H Q => ∃ S ρ ds, DenS K H S M σ ρ ∧ fs ρ = some ds ∧ ∀ vs qs H', Same H H' → (∀ q ∈ qs, H q = none) → Wk K H' qs vs ds → Q vs H'
def PKA (X : Cx) (M : List Nat) (es : List Expr) (fs : Rho → Option (List PyData)) : Prop := PA X es (tKA X.K M fs)
section
variable {X : Cx} {M : List Nat} {a b c : Expr} {es : List Expr} {f g fa fb : Rho → Option PyData} {p : Rho → Option Bool} {pos tp : Pos} {fs : Rho → Option (List PyData)}
theorem pk_list (h : PF X M a f) : PKx X M a (flatG f) := h.weak fun σ H Q ⟨S, ρ, d, hs, e, q⟩ => by
  obtain ⟨d', e1, e⟩ := ob_some e
  split at e
  · rename_i hf
    cases e
    refine ⟨S, ρ, d, hs, e1, fun p H' g n o => ?_⟩
    cases o with
    | lst h t => exact q _ [p] H' g (fun r hr => by rw [List.mem_singleton.mp hr]; exact n) (.kid h (t.flat hf) hf (fun z => nomatch z) .nil)
    | dct h k t => cases hf
  · cases e
theorem pk_flat (h : PD X M a f) : PKx X M a (flatF f) := h.weak fun σ H Q ⟨S, ρ, d, hs, e, q⟩ => by
  obtain ⟨d', e1, e⟩ := ob_some e
  split at e
  · rename_i hf
    cases e
    exact ⟨S, ρ, d, hs, e1, fun v H' g dv => q v [] H' g (fun r hr => nomatch hr) (.flt (dv.flat hf) hf .nil)⟩
  · cases e
theorem pk_if (hc : PDT X M c p) (ha : PKx X M a fa) (hb : PKx X M b fb) : PKx X M (.IfExp c a b pos) (vIf p fa fb) :=
  (pe_ifExp hc ha hb).weak fun σ H Q ⟨S, ρ, d, hs, e, w⟩ => by
    obtain ⟨x, e1, e⟩ := ob_some e
    refine ⟨S, ρ, x, hs, e1, fun H1 g1 => ?_⟩
    cases x with
    | true => exact iteT ⟨S, ρ, d, hs.same g1, e, fun v qs H2 g2 n k => w v qs H2 (g1.trans g2) (fun q hq => g1.free (n q hq)) k⟩
    | false => exact iteF ⟨S, ρ, d, hs.same g1, e, fun v qs H2 g2 n k => w v qs H2 (g1.trans g2) (fun q hq => g1.free (n q hq)) k⟩
theorem pka_nil : PKA X M [] aN := pa_nil.weak fun σ H Q ⟨S, _, d, _, e, q⟩ => by cases e; exact q [] [] H (Same.refl H) (fun _ h => nomatch h) .nil
theorem mem_free {K : PySem.W.Frag} {H : Hp} {qs : List Addr} {vs : List V} {ds : List PyData} {q : Addr} (w : Wk K H qs vs ds) (hq : q ∈ qs) (n : H q = none) : False := by
  obtain ⟨o, e, _⟩ := w.mut q hq
  rw [n] at e; cases e
theorem pka_cons (ha : PKx X M a f) (hr : PKA X M es fs) (hs : starEach (a :: es) X.env = (false, eval a X.env) :: starEach es X.env := by rfl) : PKA X M (a :: es) (aC f fs) :=
  (pa_cons ha hr hs).weak fun σ H Q ⟨S, ρ, ds, hs, e, q⟩ => by
    obtain ⟨d, e1, e⟩ := ob_some e
    obtain ⟨ds', e2, e⟩ := ob_some e
    cases e
    refine ⟨S, ρ, d, hs, e1, fun v qs H1 g1 n1 k1 => ⟨S, ρ, ds', hs.same g1, e2, fun vs rs H2 g2 n2 k2 => ?_⟩⟩
    exact q (v :: vs) (qs ++ rs) H2 (g1.trans g2) (fun r hr => (List.mem_append.mp hr).elim (n1 r) fun z => g1.free (n2 r z)) ((k1.same g2).append k2 fun r hr z => mem_free k1 hr (n2 r z))
/-- [(a, b)] -/
theorem pn_one {x1} (h : PKA X M es fs) (hs : starEach [.Tuple es x1 tp] X.env = (false, eval (.Tuple es x1 tp) X.env) :: starEach [] X.env := by rfl) : PNw X M (.List [.Tuple es x1 tp] pos) (evA (aC (evA fs tupD) aN) lstD) :=
  (pe_lst (pa_cons (pe_tup h) pa_nil hs)).weak fun σ H Q ⟨S, ρ, d, hs, e, q⟩ => by
    obtain ⟨ds, e1, e⟩ := ob_some e
    obtain ⟨hz, rfl⟩ := lstD_some e
    obtain ⟨t, e2, e1⟩ := ob_some e1
    cases e1
    obtain ⟨es, e3, e2⟩ := ob_some e2
    obtain ⟨hz2, rfl⟩ := tupD_some e2
    refine ⟨S, ρ, es, hs, e3, fun vs qs H1 g1 n1 k1 => ⟨Nat.le_of_lt (small1000 (by rw [k1.length]; exact hz2)), fun t ht => ⟨Nat.le_of_lt (small1000 (show 1 ≤ 1000 by decide)), fun p hp => ?_⟩⟩⟩
    have g2 : Same H1 (upd (upd H1 t (.tup vs)) p (.lst [.ref t])) := (Same.lay ht).lay' hp
    have hnp : H1 p = none := (Same.lay (o := .tup vs) ht).free hp
    refine q p (qs ++ []) [.ref t] [.tuple es] _ rfl (g1.trans g2) (g1.free hnp) (fun r hr => ?_) (fun z => ?_) upd_same (.cons (Same.lay hp _ _ upd_same) (k1.same g2) (fun r _ z => nomatch z) .nil)
    · rw [List.append_nil] at hr; exact n1 r hr
    · rw [List.append_nil] at z; exact mem_free k1 z hnp
/-- a + b -/
theorem pn_cat (ha : PNw X M a fa) (hb : PNw X M b fb) : PNw X M (.BinOp a .Add b pos) (ev2 fa fb catL) :=
  (pe_op op_catL ha hb).weak fun σ H Q ⟨S, ρ, d, hs, e, q⟩ => by
    obtain ⟨x, e1, e⟩ := ob_some e
    obtain ⟨y, e2, e⟩ := ob_some e
    refine ⟨S, ρ, x, hs, e1, fun p1 qs1 xs1 ds1 H1 r1 g1 n1 nq1 np1 h1 w1 => ⟨S, ρ, y, hs.same g1, e2, fun p2 qs2 xs2 ds2 H2 r2 g2 n2 nq2 np2 h2 w2 => ?_⟩⟩
    subst r1 r2
    unfold catL at e
    dsimp only at e
    split at e
    · rename_i hc
      cases e
      refine ⟨p1, p2, xs1, xs2, rfl, rfl, SqL.of (g2 _ _ h1), SqL.of h2, by rw [w1.length, w2.length]; exact Nat.le_of_lt (small1000 hc), fun p hp => ?_⟩
      have dj : ∀ r ∈ qs1, r ∉ qs2 := fun r hr z => by
        obtain ⟨o, e, _⟩ := w1.mut r hr
        rw [nq2 r z] at e; cases e
      have w := (w1.same g2).append w2 dj
      refine q p (qs1 ++ qs2) _ _ _ rfl ((g1.trans g2).lay' hp) ((g1.trans g2).free hp) (fun r hr => (List.mem_append.mp hr).elim (nq1 r) fun z => g1.free (nq2 r z)) (fun z => ?_) upd_same (w.same (Same.lay hp))
      obtain ⟨o, e, _⟩ := w.mut p z
      rw [hp] at e; cases e
    · cases e
end
/-! a def that hands such a thing back -/
def spNw (K : PySem.W.Frag) (n : Nat) (f : List PyData → Option PyData) : Sp := fun vs H Q _ => ∃ S ds d, Dm S H ∧ DenL K H S vs ds ∧ ds.length = n ∧ f ds = some d ∧ NwQ K H d Q
structure KnownNw (P : Program) (w : World) (K : PySem.W.Frag) (mg : Str → Option Value) (base : Heap) (x : Str) (n k : Nat) (h : List PyData → Option PyData) : Prop where
  ex : ∃ (f : Addr) (fd : FuncData) (ps : List Str), FnOk P w K mg base CX0 k f fd ps (spNw K n h) ∧ mg x = some (.ref f) ∧ PySem.W.keepIn K (.ref f) = true ∧ Binds K fd ps []
def isLs (h : List PyData → Option PyData) : List PyData → Option PyData := fun ds => ob (h ds) fun d => if isLst d = true then some d else none
def tNs (K : PySem.W.Frag) (f : Rho → Option PyData) : TS := fun D σ H => ∃ S ρ d, DenS K H S [] σ ρ ∧ f ρ = some d ∧ NwQ K H d D.rt
def PNs (X : Cx) (ss : List Stmt) (f : Rho → Option PyData) : Prop := PSs X ss (tNs X.K f)
section
variable {X : Cx} {M : List Nat} {a c : Expr} {es : List Expr} {f g : Rho → Option PyData} {p : Rho → Option Bool} {pos : Pos} {fs : Rho → Option (List PyData)} {b1 rest : List Stmt}
theorem pns_none : PNs X rest (fun _ => none) := fun pins s σ H D I ⟨S, ρ, d, hs, e, q⟩ => nomatch e
theorem pns_ret (h : PNw X [] a f) : PNs X [.Return (some a) pos] f := (pss_one (ps_ret h)).weak fun D σ H z => z
theorem pns_if (hc : PDT X [] c p) (h1 : PNs X b1 f) (h2 : PNs X rest g) : PNs X (.If c b1 [] pos :: rest) (vIf p f g) :=
  (pss_cons (ps_if hc h1 pss_nil) h2).weak fun D σ H ⟨S, ρ, d, hs, e, q⟩ => by
    obtain ⟨x, e1, e⟩ := ob_some e
    refine ⟨S, ρ, x, hs, e1, fun H1 g1 => ?_⟩
    cases x with
    | true => exact iteT ⟨S, ρ, d, hs.same g1, e, q.mono g1⟩
    | false => exact iteF (show tNs X.K g D σ H1 from ⟨S, ρ, d, hs.same g1, e, q.mono g1⟩)
theorem pn_known {x : Str} {p : Pos} {n k k' : Nat} {h : List PyData → Option PyData} (F : KnownNw X.prog X.w X.K X.mg X.base x n k h) (hr : Room k' X.A) (hk : k ≤ k') (hg : Gl X x) (ha : PDA X M (a :: es) fs) (hl : (a :: es).length = n)
    (hdb : (x == ("__debug__" : Str)) = false := by decide +kernel) (he : starEach (a :: es) X.env = (false, eval a X.env) :: starEach es X.env := by rfl) (hpl : (backTo pos (starEach es X.env)).any (·.1) = false := by rfl) :
    PNw X M (.Call (.Name x p) (a :: es) [] pos) (evC n fs h) := by
  obtain ⟨f, fd, ps, F, m, kp, b⟩ := F.ex
  refine (pe_call F (hr.mono hk) hg m kp b .nil pass0 ha hdb he hpl).weak fun σ H Q ⟨S, ρ, d, hs, e, q⟩ => ?_
  obtain ⟨ds, e1, e⟩ := ob_some e
  have e : (if ds.length = n then h ds else none) = some d := e
  split at e
  · rename_i hn
    exact ⟨S, ρ, ds, hs, e1, fun vs H1 g1 d1 => ⟨S, ds, d, hs.1.same g1, by rw [List.append_nil]; exact d1, hn, e, q.mono g1⟩⟩
  · cases e
end
section
variable {P : Program} {w : World} {K : PySem.W.Frag} {mg : Str → Option Value} {base : Heap} {x : Str}
theorem KnownNw.known {n k : Nat} {h : List PyData → Option PyData} (F : KnownNw P w K mg base x n k h) : Known P w K mg base x n k (isLs h) := by
  obtain ⟨f, fd, ps, F, m, kp, b⟩ := F.ex
  refine ⟨f, fd, ps, F.imp fun vs H Q E ⟨S, ds, d, m, h1, h2, e, q⟩ => ?_, m, kp, b⟩
  obtain ⟨d', e1, e⟩ := ob_some e
  split at e
  · cases e
    exact ⟨S, ds, d, m, h1, h2, e1, fun p qs xs es H' r g n nq np hp w => q _ H' g (by rw [r]; exact .list (SqLS.new hp (m.free n)) (w.den fun z hz => m.free (nq z hz)))⟩
  · cases e
theorem Fun.nw {qual : Str} {st : Stmt} {f : Addr} {fd : FuncData} {N ps : List Str} {k n : Nat} {u : Rho → Option PyData} (F : Fun K x qual st f fd) (S : FnScope N ps (defScope st)) (hn : ps.length = n)
    (hbody : ∀ (cdv : Value) (A : Around) (outer : List Env) (s : Shared) (H : Hp) (E : XK), Room k (A.deeper (envOfC qual (defScope st) s.heap.objs.size f cdv)) → PNs (cxOf CX0 P w K mg base N qual (defScope st) f cdv A outer s H E).nox (defBody st) u) :
    FnOk P w K mg base CX0 (k + 1) f fd ps (spNw K n fun ds => u (rho0 N.length ds)) := by
  refine F.g.ok S (fun vs H Q E h => ?_) (fun cdv A outer s H vs Q E hr h => ?_)
  · obtain ⟨_, ds, d, _, h1, h2, _⟩ := h
    rw [h1.length, h2, hn]
  · obtain ⟨Sv, ds, d, m, h1, h2, e, q⟩ := h
    exact ⟨_, hbody cdv A outer s H E hr, Sv, rho0 N.length ds, d, (OwnS.start m h1 N).ds, e, q⟩
end
end L2
namespace L2
open PySem PySem.Spec PyProof.Rows
/-! ### x = a new list of tuples; a look at it; for y in x: a look, y[1].append(..); x.append(..): and both are forgotten -/
def row1 (n j : Nat) (d : PyData) : Rho := (List.replicate n none).set j (some d)
def wrOk (p1 p2 : Rho → Option Bool) (n j : Nat) : PyData → Bool
  | .tuple [s, .list es] => decide (p1 (row1 n j (.tuple [s, .list es])) = some false) && decide (p2 (row1 n j (.tuple [s, .list es])) = some true) && decide (es.length < 900)
  | .tuple [s, l] => decide (p1 (row1 n j (.tuple [s, l])) = some false) && decide (p2 (row1 n j (.tuple [s, l])) = some false)
  | _ => false
def wreckO (i j : Nat) (f : Rho → Option PyData) (p0 p1 p2 : Rho → Option Bool) (u : Rho → Option Out) : Rho → Option Out := fun ρ => ob (f ρ) fun d => match d with
  | .list ds => if i < ρ.length ∧ j < ρ.length ∧ p0 (ρ.set i (some (.list ds))) = some false ∧ ds.all (wrOk p1 p2 ρ.length j) = true ∧ ds.length < 900 then u ((ρ.set i none).set j none) else none
  | _ => none
section
variable {K : PySem.W.Frag} {G : Gm} {H H' : Hp} {S : Av} {σ : St} {ρ : Rho} {q : Addr} {o : HO}
theorem OwnS.mk0 (ds : DenS K H S [] σ ρ) (s0 : ∀ a, G.S0 a → S a) (h0 : Same G.H0 H) (bnd : ∀ a, S a → G.S0 a ∨ G.H0 a = none) : OwnS K G [] [] H S σ ρ :=
  ⟨ds, s0, h0, (fun i hi => nomatch hi.1), (fun i hi => nomatch hi.1), (fun a z => (bnd a z).imp id .inl), (fun i hi => nomatch hi), (fun _ => []), (fun i hi => nomatch hi.1), (fun i hi => nomatch hi.1), (fun i hi => nomatch hi.1)⟩
theorem OwnS.bnd0 (h : OwnS K G [] [] H S σ ρ) (a : Addr) (z : S a) : G.S0 a ∨ G.H0 a = none := by
  rcases h.bnd a z with y | y | ⟨i, hi, _⟩
  · exact .inl y
  · exact .inr y
  · exact nomatch hi
theorem OwnS.upd0 (h : OwnS K G [] [] H S σ ρ) (hq : S q) (hn : G.H0 q = none) (hm : isMut o = true) : OwnS K G [] [] (upd H q o) S σ ρ :=
  .mk0 ⟨h.ds.1.upd hm, h.ds.2.1, fun i d hi e => let ⟨v, a, b⟩ := h.ds.2.2 i d hi e; ⟨v, a, b.off h.ds.1 (Off.upd hq)⟩⟩ h.s0 (fun a u e => by
    have ne : a ≠ q := fun z => by rw [z, hn] at e; cases e
    rw [upd_ne ne]
    exact h.h0 a u e) h.bnd0
theorem OwnS.sig {j : Nat} {v : V} (h : OwnS K G [] [] H S σ ρ) (hj : ∀ d, ρ[j]? ≠ some (some d)) : OwnS K G [] [] H S (σ.set j (some v)) ρ :=
  .mk0 ⟨h.ds.1, by rw [List.length_set]; exact h.ds.2.1, fun i d hi e => by
    have ne : j ≠ i := fun z => hj d (by rw [z]; exact e)
    rw [get_set_ne ne]
    exact h.ds.2.2 i d hi e⟩ h.s0 h.h0 h.bnd0
theorem denRow {j n : Nat} {v : V} {d : PyData} (hl : σ.length = n) (hj : j < n) (hv : σ[j]? = some (some v)) (h : Den K H (fun _ => False) v d) : DenS K H (fun _ => False) [] σ (row1 n j d) := by
  refine ⟨fun a z => z.elim, by unfold row1; rw [List.length_set, List.length_replicate]; exact hl, fun i e hi q => ?_⟩
  unfold row1 at q
  by_cases hij : j = i
  · subst hij
    rw [List.getElem?_set_self (by rw [List.length_replicate]; exact hj)] at q
    cases q
    exact ⟨v, hv, h⟩
  · rw [get_set_ne hij, List.getElem?_replicate] at q
    split at q <;> cases q
end
theorem wrOk_inv {p1 p2 : Rho → Option Bool} {n j : Nat} {d : PyData} (h : wrOk p1 p2 n j d = true) : ∃ s l, d = .tuple [s, l] ∧ p1 (row1 n j d) = some false ∧ ((∃ es, l = .list es ∧ p2 (row1 n j d) = some true ∧ es.length < 900) ∨ (isLst l = false ∧ p2 (row1 n j d) = some false)) := by
  unfold wrOk at h
  split at h
  · rename_i s es
    rw [Bool.and_eq_true, Bool.and_eq_true] at h
    exact ⟨s, .list es, rfl, of_decide_eq_true h.1.1, .inl ⟨es, rfl, of_decide_eq_true h.1.2, of_decide_eq_true h.2⟩⟩
  · rename_i s l hl
    rw [Bool.and_eq_true] at h
    refine ⟨s, l, rfl, of_decide_eq_true h.1, .inr ⟨?_, of_decide_eq_true h.2⟩⟩
    cases l with
    | list es => exact absurd rfl (hl es)
    | _ => rfl
  · cases h
section
variable {X : Cx} {G : Gm} {M' Mb : List Nat} {fr : Fr} {a b c0 c1 c2 v7 v8 : Expr} {f f7 f8 : Rho → Option PyData} {p0 p1 p2 : Rho → Option Bool} {b0 b1 rest : List Stmt} {u : Rho → Option Out} {q1 q2 q3 q5 q6 q7 q8 px py pz pw py2 sp ap cp ap2 cp2 : Pos}
theorem pds_wreck (i j : Nat) {x y : Str} (hp : PassesOwn (model X.prog X.w) X.A X.env X.xe) (hc : X.calm = true) (hN : X.N.Nodup) (hlx : Loc X.env.scope x) (hly : Loc X.env.scope y) (hvx : Vis X.env.scope x) (hvy : Vis X.env.scope y) (hij : i ≠ j)
    (ha : PNw X [] a f) (hc0 : PDT X [] c0 p0) (hc1 : PDT X [] c1 p1) (hc2 : PDT X [] c2 p2) (hb : PD X [] b (kd (.int 1))) (h7 : PD X [] v7 (kd (.int 7))) (h8 : PD X [] v8 f8) (hr8 : ∀ n, ∃ d, f8 (List.replicate n none) = some d) (hrest : PDSs X G [] [] M' Mb fr rest u)
    (hi : X.N[i]? = some x := by rfl) (hj : X.N[j]? = some y := by rfl) (hfx : X.fn x = true ∨ X.env.scope.names.lookup x = some .local := by first | exact .inl rfl | exact .inr rfl) (hfy : X.fn y = true ∨ X.env.scope.names.lookup y = some .local := by first | exact .inl rfl | exact .inr rfl)
    (hs1 : swapsWith a (some (.Name x px)) q1.line X.env = pure false := by rfl)
    (hs : ∀ v, foldedSetIterable (.Name x pw) X.env v = pure v := by intro _; rfl)
    (hdx : (x == ("__debug__" : Str)) = false := by decide +kernel) (hcx : (x == ("__classdict__" : Str)) = false := by decide +kernel) (hdy : (y == ("__debug__" : Str)) = false := by decide +kernel) (hcy : (y == ("__classdict__" : Str)) = false := by decide +kernel)
    (hpx : PlainIx b := by intro _ _; rfl)
    (hbase : attributeBase (.Subscript (.Name y py2) b sp) "append" X.env (eval (.Subscript (.Name y py2) b sp) X.env) = eval (.Subscript (.Name y py2) b sp) X.env := by rfl)
    (hfew : ((backTo cp (starEach [v7] X.env)).all (fun x => !x.1) && (backToKw cp (keywordEach [] X.env)).all (fun x => x.1.isSome)
      && decide ([v7].length + ([] : List Keyword).length + (if ([] : List Keyword).isEmpty then 0 else 1) < 30)) = true := by rfl)
    (hline : (ap.endLine == cp.line) = true := by rfl) (hst : starEach [v7] X.env = (false, eval v7 X.env) :: starEach [] X.env := by rfl) (hplain : (backTo cp (starEach [] X.env)).any (·.1) = false := by rfl)
    (hsw : swapsWith (.Call (.Attribute (.Subscript (.Name y py2) b sp) "append" ap) [v7] [] cp) none q6.line X.env = pure false := by rfl)
    (hbase2 : attributeBase (.Name x pz) "append" X.env (eval (.Name x pz) X.env) = eval (.Name x pz) X.env := by rfl)
    (hfew2 : ((backTo cp2 (starEach [v8] X.env)).all (fun x => !x.1) && (backToKw cp2 (keywordEach [] X.env)).all (fun x => x.1.isSome)
      && decide ([v8].length + ([] : List Keyword).length + (if ([] : List Keyword).isEmpty then 0 else 1) < 30)) = true := by rfl)
    (hline2 : (ap2.endLine == cp2.line) = true := by rfl) (hst2 : starEach [v8] X.env = (false, eval v8 X.env) :: starEach [] X.env := by rfl) (hplain2 : (backTo cp2 (starEach [] X.env)).any (·.1) = false := by rfl)
    (hsw2 : swapsWith (.Call (.Attribute (.Name x pz) "append" ap2) [v8] [] cp2) none q8.line X.env = pure false := by rfl) :
    PDSs X G [] [] M' Mb fr (.Assign [.Name x px] a q1 :: .If c0 b0 [] q2 :: .For (.Name y py) (.Name x pw) [.If c1 b1 [] q5, .If c2 [.Expr (.Call (.Attribute (.Subscript (.Name y py2) b sp) "append" ap) [v7] [] cp) q6] [] q7] [] q3 :: .Expr (.Call (.Attribute (.Name x pz) "append" ap2) [v8] [] cp2) q8 :: rest) (wreckO i j f p0 p1 p2 u) := by
  have nev : ∀ ss : List Stmt, PSs X ss tNever := fun ss pins s σ H D I z => z.elim
  have hix := ps_expr (pos := q6) (pe_bm PySem.F.plainAttrs_list PySem.F.slot_list_append PySem.F.type_list_append mt_append (pe_ix (r := rIxT X.K) ix_tup (pe_own j hvy hj hdy hcy) hb hpx) (pda_cons h7 pda_nil hst) hbase hfew hline hst hplain) hsw
  have hap := ps_expr (pos := q8) (pe_bm PySem.F.plainAttrs_list PySem.F.slot_list_append PySem.F.type_list_append mt_append (pe_own i hvx hi hdx hcx) (pda_cons h8 pda_nil hst2) hbase2 hfew2 hline2 hst2 hplain2) hsw2
  refine (pss_cons (ps_set hN hi hlx ha hs1 hfx) (pss_cons (ps_if hc0 (nev b0) pss_nil) (pss_cons (ps_for hp hc (pi_seq (pe_own i hvx hi hdx hcx)) (pg_name hN hj hly hfy) (pss_cons (ps_if hc1 (nev b1) pss_nil) (pss_one (ps_if hc2 (pss_one hix) pss_nil))) hs) (pss_cons hap hrest)))).weak fun D σ H ⟨S, ρ, o, os, e, q⟩ => ?_
  obtain ⟨d, e1, e⟩ := ob_some e
  split at e
  rotate_left
  · cases e
  rename_i ds
  split at e
  rotate_left
  · cases e
  rename_i hh
  obtain ⟨hil, hjl, e0, hall, hlen⟩ := hh
  refine ⟨S, ρ, _, os.ds, e1, fun p qs xs ds' H1 r1 g1 n1 nq1 np1 h1 w1 => ?_⟩
  cases r1
  have hsl : σ.length = ρ.length := os.ds.2.1
  have gi : (σ.set i (some (V.ref p)))[i]? = some (some (.ref p)) := List.getElem?_set_self (by omega)
  have dn : Den X.K H1 G.S0 (.ref p) (.list ds) := .list (SqLS.new h1 fun z => os.ds.1.free n1 (os.s0 p z)) (w1.den fun r hr z => os.ds.1.free (nq1 r hr) (os.s0 r z))
  refine ⟨G.S0, ρ.set i (some (.list ds)), false, (os.den.same g1).set dn i, e0, fun H2 g2 => iteF ?_⟩
  refine ⟨_, gi, p, rfl, .inl ⟨⟨xs, SqL.of (g2 _ _ h1)⟩, ?_⟩⟩
  have w2 := w1.same g2
  have hxl : xs.length = ds.length := w2.length
  -- the state without both names
  let S1 : Av := fun a => S a ∨ a ∈ p :: qs
  have hne : ∀ a, H a ≠ none → S1 a → S a := fun a ha z => z.elim id fun y => absurd ((List.mem_cons.mp y).elim (fun z => by rw [z]; exact n1) (nq1 a)) ha
  have g12 := g1.trans g2
  have fre : ∀ r ∈ p :: qs, H r = none := fun r hr => (List.mem_cons.mp hr).elim (fun z => by rw [z]; exact n1) (nq1 r)
  have os1 : OwnS X.K G [] [] H2 S1 (σ.set i (some (.ref p))) ((ρ.set i none).set j none) := by
    refine .mk0 ⟨fun a z => ?_, by rw [List.length_set, List.length_set, List.length_set]; exact hsl, fun k d hk eq => ?_⟩ (fun a z => .inl (os.s0 a z)) (os.h0.trans g12) fun a z => ?_
    · rcases z with z | z
      · obtain ⟨o, e, m⟩ := os.ds.1 a z
        exact ⟨o, g12 _ _ e, m⟩
      · rcases List.mem_cons.mp z with z | z
        · exact ⟨_, by rw [z]; exact g2 _ _ h1, rfl⟩
        · exact w2.mut a z
    · have nj : j ≠ k := fun z => by
        rw [← z, List.getElem?_set_self (by rw [List.length_set]; exact hjl)] at eq
        cases eq
      rw [get_set_ne nj] at eq
      have ni : i ≠ k := fun z => by
        rw [← z, List.getElem?_set_self hil] at eq
        cases eq
      rw [get_set_ne ni] at eq ⊢
      obtain ⟨v, a, b⟩ := os.ds.2.2 k d hk eq
      exact ⟨v, a, (b.sub hne).same g12⟩
    · rcases z with z | z
      · exact os.bnd0 a z
      · exact .inr (os.h0.free (fre a z))
  have hj0 : ∀ d, ((ρ.set i none).set j none)[j]? ≠ some (some d) := fun d z => by
    rw [List.getElem?_set_self (by rw [List.length_set]; exact hjl)] at z
    cases z
  have hG : ∀ r ∈ p :: qs, S1 r ∧ G.H0 r = none := fun r hr => ⟨.inr hr, os.h0.free (fre r hr)⟩
  generalize hρ0 : (ρ.set i none).set j none = ρ0 at *
  have hρl : ρ0.length = ρ.length := by rw [← hρ0, List.length_set, List.length_set]
  clear_value S1
  refine ⟨fun k m σ' H' => m = ds.length - k ∧ k ≤ ds.length ∧ ∃ rs, (∀ r ∈ rs, r ∈ qs) ∧ OwnS X.K G [] [] H' S1 σ' ρ0 ∧ σ'[i]? = some (some (.ref p)) ∧ H' p = some (.lst xs) ∧ Wl X.K H' rs (xs.drop k) (ds.drop k), ⟨ds.length, by simp, Nat.zero_le _, qs, fun r h => h, os1, gi, g2 _ _ h1, w2⟩, ?_⟩
  rintro k m σ' H' ⟨rfl, hk, rs, hrs, os', gi', hp', w'⟩
  by_cases hlt : k < ds.length
  · have hltx : k < xs.length := by omega
    refine .inr ⟨⟨xs, xs[k], SqL.of hp', List.getElem?_eq_getElem hltx⟩, fun σ2 H2 => ∃ rs, (∀ r ∈ rs, r ∈ qs) ∧ OwnS X.K G [] [] H2 S1 σ2 ρ0 ∧ σ2[i]? = some (some (.ref p)) ∧ H2 p = some (.lst xs) ∧ Wl X.K H2 rs (xs.drop (k + 1)) (ds.drop (k + 1)), fun σ2 H2 z => ⟨ds.length - (k + 1), by omega, rfl, hlt, z⟩, ?_⟩
    rintro x' H3 ⟨rfl, hy⟩
    have hx := hy xs (SqL.of hp')
    rw [List.getElem?_eq_getElem hltx] at hx
    cases hx
    rw [List.drop_eq_getElem_cons hlt, List.drop_eq_getElem_cons hltx] at w'
    have hok := List.all_eq_true.mp hall ds[k] (List.getElem_mem hlt)
    generalize ds[k] = dk at hok w'
    generalize xs[k] = xk at w'
    obtain ⟨s, l, rfl, t1, t2⟩ := wrOk_inv hok
    cases w' with
    | @cons t ws _ qs1 rs1 _ _ ht hw hdj hr =>
      -- the name y
      have hsl' : σ'.length = ρ.length := by rw [os'.ds.2.1, hρl]
      have gj : (σ'.set j (some (V.ref t)))[j]? = some (some (.ref t)) := List.getElem?_set_self (by omega)
      have gi2 : (σ'.set j (some (V.ref t)))[i]? = some (some (.ref p)) := by rw [get_set_ne (Ne.symm hij)]; exact gi'
      have os2 := os'.sig (v := .ref t) hj0
      have hsl2 : (σ'.set j (some (V.ref t))).length = ρ.length := by rw [List.length_set]; exact hsl'
      have row : ∀ {H4 : Hp}, Same H3 H4 → DenS X.K H4 (fun _ => False) [] (σ'.set j (some (V.ref t))) (row1 ρ.length j (.tuple [s, l])) := fun g => denRow hsl2 hjl gj (.tuple (.inl (.inl (g _ _ ht))) ((hw.same g).den fun _ _ z => z))
      refine ⟨_, _, false, row (Same.refl _), t1, fun H4 g4 => iteF ?_⟩
      rcases t2 with ⟨es, rfl, t2, hel⟩ | ⟨hl, t2⟩
      · refine ⟨_, _, true, row g4, t2, fun H5 g5 => iteT ?_⟩
        have g35 := g4.trans g5
        refine ⟨_, gj, _, row1 ρ.length j (.tuple [s, .list es]), .int 1, row g35, rfl, fun v1 H6 g6 d6 => ?_⟩
        cases d6.int_inv
        have g36 := g35.trans g6
        have hw6 := hw.same g36
        have ht6 := g36 _ _ ht
        -- the list within
        obtain ⟨v0, q0, ys, qs0, e_ws, e_qs, hq0, dq0, fq0, nq0⟩ : ∃ v0 q0 ys qs0, ws = [v0, .ref q0] ∧ (∀ r ∈ q0 :: qs0, r ∈ qs1) ∧ H6 q0 = some (.lst ys) ∧ DenL X.K H6 (fun _ => False) ys es ∧ flatL es = true ∧ q0 ∈ qs1 := by
          cases hw6 with
          | @kid qa xa ea qsa vsa dsa h1 h2 h3 h4 h5 =>
            cases h5 with
            | @kid qb xb eb qsb vsb dsb k1 k2 k3 k4 k5 => cases k5; exact ⟨_, qb, xb, [], rfl, fun r hr => .tail _ hr, k1, k2, k3, .tail _ (.head _)⟩
            | flt k1 k2 k3 => cases k2
          | flt h1 h2 h5 =>
            cases h5 with
            | @kid qb xb eb qsb vsb dsb k1 k2 k3 k4 k5 => cases k5; exact ⟨_, qb, xb, [], rfl, fun r hr => hr, k1, k2, k3, .head _⟩
            | flt k1 k2 k3 => cases k2
        subst e_ws
        refine ⟨t, _, 1, .ref q0, rfl, rfl, .inl (.inl ht6), rfl, .inl ⟨rfl, _, SqL.of hq0⟩, fun _ => False, row1 ρ.length j (.tuple [s, .list es]), [.int 7], row g36, rfl, fun vs H7 g7 dl => ?_⟩
        obtain ⟨v, rfl, dv⟩ := dl.inv1
        have g37 := g36.trans g7
        have hq7 := g7 _ _ hq0
        refine ⟨q0, ys, v, rfl, rfl, hq7, Nat.lt_of_lt_of_le (by rw [dq0.length]; omega) (Nat.le_of_lt (small1000 (Nat.le_refl 1000))), ?_⟩
        have hqin : q0 ∈ qs := hrs q0 (List.mem_append_left _ nq0)
        have hGq := hG q0 (.tail _ hqin)
        have m0 : mutA H7 q0 := ⟨_, hq7, rfl⟩
        refine ⟨rs1, fun r hr => hrs r (List.mem_append_right _ hr), (os2.same g37).upd0 hGq.1 hGq.2 rfl, gi2, ?_, (hr.same g37).upd m0 (hdj q0 nq0)⟩
        rw [upd_ne (fun z => np1 (by rw [z]; exact hqin))]
        exact g37 _ _ hp'
      · refine ⟨_, _, false, row g4, t2, fun H5 g5 => iteF ?_⟩
        have g35 := g4.trans g5
        exact ⟨rs1, fun r hr => hrs r (List.mem_append_right _ hr), os2.same g35, gi2, g35 _ _ hp', hr.same g35⟩
  · have hk' : k = ds.length := by omega
    subst hk'
    refine .inl ⟨⟨xs, SqL.of hp', by omega⟩, ?_⟩
    obtain ⟨d8, e8⟩ := hr8 ρ.length
    have none8 : DenS X.K H' (fun _ => False) [] σ' (List.replicate ρ.length none) := ⟨fun a z => z.elim, by rw [List.length_replicate, os'.ds.2.1, hρl], fun i d hi q => by
      rw [List.getElem?_replicate] at q
      split at q <;> cases q⟩
    refine ⟨_, gi', .inl ⟨rfl, _, SqL.of hp'⟩, fun _ => False, List.replicate ρ.length none, [d8], none8, by show ob (f8 _) _ = _; rw [e8]; rfl, fun vs H4 g4 dl => ?_⟩
    obtain ⟨v, rfl, dv⟩ := dl.inv1
    refine ⟨p, xs, v, rfl, rfl, g4 _ _ hp', Nat.lt_of_lt_of_le (by omega) (Nat.le_of_lt (small1000 (Nat.le_refl 1000))), ?_⟩
    have hGp := hG p (.head _)
    exact ⟨S1, ρ0, o, (os'.same g4).upd0 hGp.1 hGp.2 rfl, e, q⟩
end
end L2
namespace L2
open PySem PySem.W PyProof.Rows
/-! ### the run of the asking tree is a sorted permutation -/
theorem runC_bind {α β : Type} {lt : Nat → Nat → Option Bool} {f : α → KasT β} : ∀ (t : KasT α), runC lt (t.bind f) = ob (runC lt t) fun a => runC lt (f a)
  | .ret _ => rfl
  | .ask i j k => by
    show ob (lt i j) (fun b => runC lt ((k b).bind f)) = ob (ob (lt i j) fun b => runC lt (k b)) _
    cases lt i j with
    | none => rfl
    | some b => exact runC_bind (k b)
structure IOrd (n : Nat) (lt : Nat → Nat → Option Bool) (blt : Nat → Nat → Bool) : Prop where
  ask : ∀ i j, i < n → j < n → lt i j = some (blt i j)
  irr : ∀ i, blt i i = false
  tr : ∀ i j k, blt i j = true → blt j k = true → blt i k = true
  neg : ∀ i j k, blt i k = true → blt i j = true ∨ blt j k = true
def gp (p : Array Nat) (i : Nat) : Nat := p.getD i 0
def PermN (n : Nat) (p : Array Nat) : Prop := p.toList.Perm (List.range n)
def UpTo (blt : Nat → Nat → Bool) (p : Array Nat) (m : Nat) : Prop := ∀ i j, i ≤ j → j < m → blt (gp p j) (gp p i) = false
section
variable {n : Nat} {lt : Nat → Nat → Option Bool} {blt : Nat → Nat → Bool} {p : Array Nat}
theorem PermN.size (h : PermN n p) : p.size = n := by
  have := h.length_eq
  rw [Array.length_toList, List.length_range] at this
  exact this
theorem PermN.inb (h : PermN n p) {i : Nat} (hi : i < n) : gp p i < n := by
  have hs := h.size
  have e : gp p i = p[i]'(by omega) := by simp [gp, Array.getD, hs, hi]
  have hm : p[i]'(by omega) ∈ p.toList := by simp
  have := h.mem_iff.mp hm
  rw [e]
  exact List.mem_range.mp this
theorem gp_of {q : Array Nat} {i j : Nat} (h : q[i]? = p[j]?) : gp q i = gp p j := by
  unfold gp
  simp only [Array.getD_eq_getD_getElem?, h]
theorem IOrd.le_tr (O : IOrd n lt blt) {a b c : Nat} (h1 : blt b a = false) (h2 : blt c b = false) : blt c a = false := by
  cases h : blt c a with
  | false => rfl
  | true =>
    rcases O.neg c b a h with z | z
    · rw [h2] at z; cases z
    · rw [h1] at z; cases z
theorem IOrd.asym (O : IOrd n lt blt) {a b : Nat} (h : blt a b = true) : blt b a = false := by
  cases z : blt b a with
  | false => rfl
  | true =>
    have := O.tr a b a h z
    rw [O.irr] at this
    cases this
theorem place_run (O : IOrd n lt blt) (hp : PermN n p) {k : Nat} (hk : k < n) (hs : UpTo blt p k) : ∀ (f l r : Nat), r - l ≤ f → l ≤ r → r ≤ k → (∀ i, i < l → blt (gp p k) (gp p i) = false) → (∀ i, r ≤ i → i < k → blt (gp p k) (gp p i) = true) →
    ∃ m, runC lt (kas_place p k f l r) = some m ∧ m ≤ k ∧ (∀ i, i < m → blt (gp p k) (gp p i) = false) ∧ (∀ i, m ≤ i → i < k → blt (gp p k) (gp p i) = true) := by
  intro f
  induction f with
  | zero =>
    intro l r h1 h2 h3 h4 h5
    exact ⟨l, rfl, by omega, h4, fun i hi hi2 => h5 i (by omega) hi2⟩
  | succ f ih =>
    intro l r h1 h2 h3 h4 h5
    unfold kas_place
    by_cases hlr : l ≥ r
    · rw [if_pos hlr]
      exact ⟨l, rfl, by omega, h4, fun i hi hi2 => h5 i (by omega) hi2⟩
    · rw [if_neg hlr]
      have hm : (l + r) / 2 < k := by omega
      have ea := O.ask (gp p k) (gp p ((l + r) / 2)) (hp.inb hk) (hp.inb (by omega))
      show ∃ m, ob (lt (gp p k) (gp p ((l + r) / 2))) (fun c => runC lt (if c = true then kas_place p k f l ((l + r) / 2) else kas_place p k f ((l + r) / 2 + 1) r)) = some m ∧ _
      rw [ea]
      cases hb : blt (gp p k) (gp p ((l + r) / 2)) with
      | true =>
        refine ih l ((l + r) / 2) (by omega) (by omega) (by omega) h4 fun i hi hi2 => ?_
        cases z : blt (gp p k) (gp p i) with
        | true => rfl
        | false =>
          have := hs ((l + r) / 2) i hi hi2
          have q := O.le_tr this z
          rw [hb] at q
          cases q
      | false =>
        refine ih ((l + r) / 2 + 1) r (by omega) (by omega) h3 (fun i hi => ?_) h5
        exact O.le_tr (hs i ((l + r) / 2) (by omega) hm) hb
theorem permN_of {q : Array Nat} (h : PermN n p) (hq : q.Perm p) : PermN n q := (Array.perm_iff_toList_perm.mp hq).trans h
theorem gp_bubble {k m : Nat} (hk : k < p.size) (hm : m ≤ k) (i : Nat) : gp (bubble p k (k - m)) i = if i = m then gp p k else if m < i ∧ i ≤ k then gp p (i - 1) else gp p i := by
  have e := getElem?_bubble hk (k - m) (by omega) i
  have hkm : k - (k - m) = m := by omega
  rw [hkm] at e
  by_cases h1 : i = m
  · rw [if_pos h1] at e ⊢; exact gp_of e
  · rw [if_neg h1] at e ⊢
    by_cases h2 : m < i ∧ i ≤ k
    · rw [if_pos h2] at e ⊢; exact gp_of e
    · rw [if_neg h2] at e ⊢; exact gp_of e
theorem gp_rev {i j : Nat} (hj : j ≤ p.size) (k : Nat) : gp (kas_rev p i j) k = if i ≤ k ∧ k < j then gp p (i + j - 1 - k) else gp p k := by
  have e := getElem?_mirror_all (i := i) hj k
  unfold kas_rev
  by_cases h1 : i ≤ k ∧ k < j
  · rw [if_pos h1] at e ⊢; exact gp_of e
  · rw [if_neg h1] at e ⊢; exact gp_of e
theorem permN_rev (h : PermN n p) (i j : Nat) : PermN n (kas_rev p i j) := permN_of h (mirror_perm _ _ _ _)
theorem bin_run (O : IOrd n lt blt) : ∀ (f : Nat) (p : Array Nat) (k : Nat), PermN n p → UpTo blt p k → k + f = n → ∃ p', runC lt (kas_bin f p k) = some p' ∧ PermN n p' ∧ UpTo blt p' n := by
  intro f
  induction f with
  | zero => exact fun p k hp hs e => ⟨p, rfl, hp, by rw [← e]; exact hs⟩
  | succ f ih =>
    intro p k hp hs e
    have hk : k < n := by omega
    obtain ⟨m, e1, h1, h2, h3⟩ := place_run O hp hk hs k 0 k (by omega) (by omega) (by omega) (fun i hi => by omega) (fun i hi hi2 => by omega)
    have hz := hp.size
    obtain ⟨p', e2, h4, h5⟩ := ih (bubble p k (k - m)) (k + 1) (permN_of hp (bubble_perm _ _ _)) (fun i j hij hj => by
      rw [gp_bubble (by omega) h1, gp_bubble (by omega) h1]
      by_cases a1 : j = m
      · rw [if_pos a1]
        by_cases a2 : i = m
        · rw [if_pos a2]; exact O.irr _
        · rw [if_neg a2, if_neg (by omega)]
          exact h2 i (by omega)
      · rw [if_neg a1]
        by_cases a3 : m < j ∧ j ≤ k
        · rw [if_pos a3]
          by_cases a2 : i = m
          · rw [if_pos a2]
            exact O.asym (h3 (j - 1) (by omega) (by omega))
          · rw [if_neg a2]
            by_cases a4 : m < i ∧ i ≤ k
            · rw [if_pos a4]
              exact hs (i - 1) (j - 1) (by omega) (by omega)
            · rw [if_neg a4]
              exact hs i (j - 1) (by omega) (by omega)
        · rw [if_neg a3, if_neg (by omega), if_neg (by omega)]
          exact hs i j hij (by omega)) (by omega)
    refine ⟨p', ?_, h4, h5⟩
    unfold kas_bin
    rw [runC_bind, e1]
    exact e2
theorem asc_run (O : IOrd n lt blt) (hp : PermN n p) : ∀ (f m : Nat), 1 ≤ m → m + f ≤ n → UpTo blt p m → ∃ m', runC lt (kas_asc p f m) = some m' ∧ m ≤ m' ∧ m' ≤ m + f ∧ UpTo blt p m' ∧ (m' < m + f → blt (gp p m') (gp p (m' - 1)) = true) := by
  intro f
  induction f with
  | zero => exact fun m h1 h2 hs => ⟨m, rfl, by omega, by omega, hs, fun z => by omega⟩
  | succ f ih =>
    intro m h1 h2 hs
    have ea := O.ask (gp p m) (gp p (m - 1)) (hp.inb (by omega)) (hp.inb (by omega))
    unfold kas_asc
    show ∃ m', ob (lt (gp p m) (gp p (m - 1))) (fun c => runC lt (if c = true then .ret m else kas_asc p f (m + 1))) = some m' ∧ _
    rw [ea]
    cases hb : blt (gp p m) (gp p (m - 1)) with
    | true => exact ⟨m, rfl, by omega, by omega, hs, fun _ => hb⟩
    | false =>
      obtain ⟨m', e1, h3, h4, h5, h6⟩ := ih (m + 1) (by omega) (by omega) (fun i j hij hj => by
        by_cases hjm : j = m
        · subst hjm
          by_cases hi : i = j
          · subst hi; exact O.irr _
          · exact O.le_tr (hs i (j - 1) (by omega) (by omega)) hb
        · exact hs i j hij (by omega))
      exact ⟨m', e1, by omega, by omega, h5, fun z => h6 (by omega)⟩
def DownTo (blt : Nat → Nat → Bool) (p : Array Nat) (m : Nat) : Prop := ∀ i j, i ≤ j → j < m → blt (gp p i) (gp p j) = false
def EqSeg (blt : Nat → Nat → Bool) (p : Array Nat) (a b : Nat) : Prop := ∀ i j, a ≤ i → i < b → a ≤ j → j < b → blt (gp p i) (gp p j) = false
theorem down_rev (hp : PermN n p) {m a : Nat} (hm : m ≤ n) (ha : a ≤ m) (hd : DownTo blt p m) (hs : EqSeg blt p a m) : DownTo blt (kas_rev p a m) m ∧ ∀ i, i < m → ∃ i', i' < m ∧ gp (kas_rev p a m) i = gp p i' := by
  have hz := hp.size
  refine ⟨fun i j hij hj => ?_, fun i hi => ?_⟩
  · rw [gp_rev (by omega), gp_rev (by omega)]
    by_cases h1 : a ≤ i ∧ i < m
    · rw [if_pos h1, if_pos (by omega)]
      exact hs _ _ (by omega) (by omega) (by omega) (by omega)
    · rw [if_neg h1]
      by_cases h2 : a ≤ j ∧ j < m
      · rw [if_pos h2]; exact hd _ _ (by omega) (by omega)
      · rw [if_neg h2]; exact hd _ _ hij hj
  · rw [gp_rev (by omega)]
    by_cases h1 : a ≤ i ∧ i < m
    · rw [if_pos h1]; exact ⟨_, by omega, rfl⟩
    · rw [if_neg h1]; exact ⟨i, hi, rfl⟩
theorem desc_run (O : IOrd n lt blt) : ∀ (f : Nat) (p : Array Nat) (m q : Nat), PermN n p → m + f ≤ n → q + 1 ≤ m → DownTo blt p m → EqSeg blt p (m - (q + 1)) m →
    ∃ p' m' q', runC lt (kas_desc f p m q) = some (p', m', q') ∧ PermN n p' ∧ m ≤ m' ∧ m' ≤ m + f ∧ q' + 1 ≤ m' ∧ DownTo blt p' m' ∧ EqSeg blt p' (m' - (q' + 1)) m' := by
  intro f
  induction f with
  | zero => exact fun p m q hp _ hq hd hs => ⟨p, m, q, rfl, hp, by omega, by omega, hq, hd, hs⟩
  | succ f ih =>
    intro p m q hp hm hq hd hs
    have hz := hp.size
    have e1 := O.ask (gp p m) (gp p (m - 1)) (hp.inb (by omega)) (hp.inb (by omega))
    have e2 := O.ask (gp p (m - 1)) (gp p m) (hp.inb (by omega)) (hp.inb (by omega))
    unfold kas_desc
    show ∃ p' m' q', ob (lt (gp p m) (gp p (m - 1))) (fun c => runC lt (if c = true then (if q > 0 then kas_desc f (kas_rev p (m - (q + 1)) m) (m + 1) 0 else kas_desc f p (m + 1) 0)
      else .ask (p.getD (m - 1) 0) (p.getD m 0) fun d => if d = true then .ret (p, m, q) else kas_desc f p (m + 1) (q + 1))) = some (p', m', q') ∧ _
    rw [e1]
    cases hb : blt (gp p m) (gp p (m - 1)) with
    | true =>
      have below : ∀ i, i < m → blt (gp p i) (gp p m) = false := fun i hi => O.le_tr (O.asym hb) (hd i (m - 1) (by omega) (by omega))
      show ∃ p' m' q', runC lt (if q > 0 then kas_desc f (kas_rev p (m - (q + 1)) m) (m + 1) 0 else kas_desc f p (m + 1) 0) = some (p', m', q') ∧ _
      by_cases hq0 : q > 0
      · rw [if_pos hq0]
        obtain ⟨d1, d2⟩ := down_rev (blt := blt) hp (m := m) (a := m - (q + 1)) (by omega) (by omega) hd hs
        have gm : gp (kas_rev p (m - (q + 1)) m) m = gp p m := by rw [gp_rev (by omega), if_neg (by omega)]
        obtain ⟨p', m', q', r1, r2, r3, r4, r5, r6, r7⟩ := ih (kas_rev p (m - (q + 1)) m) (m + 1) 0 (permN_rev hp _ _) (by omega) (by omega) (fun i j hij hj => by
          by_cases hjm : j = m
          · subst hjm
            by_cases hi : i = j
            · subst hi; exact O.irr _
            · obtain ⟨i', hi', ei⟩ := d2 i (by omega)
              rw [ei, gm]
              exact below i' hi'
          · exact d1 i j hij (by omega)) (fun i j h1 h2 h3 h4 => by
            have : i = m := by omega
            have : j = m := by omega
            subst i; subst j; exact O.irr _)
        exact ⟨p', m', q', r1, r2, by omega, by omega, r5, r6, r7⟩
      · rw [if_neg hq0]
        obtain ⟨p', m', q', r1, r2, r3, r4, r5, r6, r7⟩ := ih p (m + 1) 0 hp (by omega) (by omega) (fun i j hij hj => by
          by_cases hjm : j = m
          · subst hjm
            by_cases hi : i = j
            · subst hi; exact O.irr _
            · exact below i (by omega)
          · exact hd i j hij (by omega)) (fun i j h1 h2 h3 h4 => by
            have : i = m := by omega
            have : j = m := by omega
            subst i; subst j; exact O.irr _)
        exact ⟨p', m', q', r1, r2, by omega, by omega, r5, r6, r7⟩
    | false =>
      show ∃ p' m' q', ob (lt (gp p (m - 1)) (gp p m)) (fun d => runC lt (if d = true then .ret (p, m, q) else kas_desc f p (m + 1) (q + 1))) = some (p', m', q') ∧ _
      rw [e2]
      cases hd2 : blt (gp p (m - 1)) (gp p m) with
      | true => exact ⟨p, m, q, rfl, hp, by omega, by omega, hq, hd, hs⟩
      | false =>
        obtain ⟨p', m', q', r1, r2, r3, r4, r5, r6, r7⟩ := ih p (m + 1) (q + 1) hp (by omega) (by omega) (fun i j hij hj => by
          by_cases hjm : j = m
          · subst hjm
            by_cases hi : i = j
            · subst hi; exact O.irr _
            · exact O.le_tr hd2 (hd i (j - 1) (by omega) (by omega))
          · exact hd i j hij (by omega)) (fun i j h1 h2 h3 h4 => by
            have s1 : ∀ i, m - (q + 1) ≤ i → i < m → blt (gp p i) (gp p m) = false ∧ blt (gp p m) (gp p i) = false := fun i a b =>
              ⟨O.le_tr hd2 (hs i (m - 1) a b (by omega) (by omega)), O.le_tr (hs (m - 1) i (by omega) (by omega) a b) hb⟩
            by_cases hi : i = m
            · subst hi
              by_cases hj : j = i
              · subst hj; exact O.irr _
              · exact (s1 j (by omega) (by omega)).2
            · by_cases hj : j = m
              · subst hj; exact (s1 i (by omega) (by omega)).1
              · exact hs i j (by omega) (by omega) (by omega) (by omega))
        exact ⟨p', m', q', r1, r2, by omega, by omega, r5, r6, r7⟩
theorem tail3_run (O : IOrd n lt blt) (hp : PermN n p) {m : Nat} (h1 : 1 ≤ m) (h2 : m ≤ n) (hd : DownTo blt p m) : ∃ m' p', runC lt (kas_tail3 m n p) = some (m', p') ∧ PermN n p' ∧ 1 ≤ m' ∧ m' ≤ n ∧ UpTo blt p' m' := by
  have hz := hp.size
  obtain ⟨m', e1, h3, h4, h5, _⟩ := asc_run O (permN_rev hp 0 m) (n - m) m h1 (by omega) (fun i j hij hj => by
    rw [gp_rev (by omega), gp_rev (by omega), if_pos (by omega), if_pos (by omega)]
    exact hd _ _ (by omega) (by omega))
  refine ⟨m', kas_rev p 0 m, ?_, permN_rev hp 0 m, by omega, by omega, h5⟩
  unfold kas_tail3
  rw [runC_bind, e1]
  rfl
theorem descPart_run (O : IOrd n lt blt) (hp : PermN n p) {k : Nat} (h2 : k + 1 ≤ n) (hd : DownTo blt p (k + 1)) : ∃ m' p', runC lt (kas_descPart k n p) = some (m', p') ∧ PermN n p' ∧ 1 ≤ m' ∧ m' ≤ n ∧ UpTo blt p' m' := by
  obtain ⟨p1, m1, q1, e1, r2, r3, r4, r5, r6, r7⟩ := desc_run O (n - (k + 1)) p (k + 1) 0 hp (by omega) (by omega) hd (fun i j a1 a2 a3 a4 => by
    have : i = k := by omega
    have : j = k := by omega
    subst i; subst j; exact O.irr _)
  unfold kas_descPart
  rw [runC_bind, e1]
  show ∃ m' p', runC lt (if q1 > 0 then kas_tail3 m1 n (kas_rev p1 (m1 - (q1 + 1)) m1) else kas_tail3 m1 n p1) = some (m', p') ∧ _
  by_cases hq : q1 > 0
  · rw [if_pos hq]
    exact tail3_run O (permN_rev r2 _ _) (by omega) (by omega) (down_rev r2 (by omega) (by omega) r6 r7).1
  · rw [if_neg hq]
    exact tail3_run O r2 (by omega) (by omega) r6
theorem count_run (O : IOrd n lt blt) (hp : PermN n p) (hn : 1 ≤ n) : ∃ m' p', runC lt (kas_count n p) = some (m', p') ∧ PermN n p' ∧ 1 ≤ m' ∧ m' ≤ n ∧ UpTo blt p' m' := by
  have hz := hp.size
  obtain ⟨m, e1, h3, h4, h5, h6⟩ := asc_run O hp (n - 1) 1 (by omega) (by omega) (fun i j hij hj => by
    have : i = 0 := by omega
    have : j = 0 := by omega
    subst i; subst j; exact O.irr _)
  unfold kas_count
  rw [runC_bind, e1]
  show ∃ m' p', runC lt (if (m == n) = true then .ret (m, p) else if m > 1 then .ask (p.getD 0 0) (p.getD (m - 1) 0) fun c => if c = true then .ret (m, p) else kas_descPart m n (kas_rev p 0 m) else kas_descPart m n p) = some (m', p') ∧ _
  by_cases hmn : m = n
  · rw [if_pos (by simpa using hmn)]
    exact ⟨m, p, rfl, hp, by omega, by omega, h5⟩
  · rw [if_neg (by simpa using hmn)]
    have hb := h6 (by omega)
    by_cases hm1 : m > 1
    · rw [if_pos hm1]
      have ea := O.ask (gp p 0) (gp p (m - 1)) (hp.inb (by omega)) (hp.inb (by omega))
      show ∃ m' p', ob (lt (gp p 0) (gp p (m - 1))) (fun c => runC lt (if c = true then .ret (m, p) else kas_descPart m n (kas_rev p 0 m))) = some (m', p') ∧ _
      rw [ea]
      cases hc : blt (gp p 0) (gp p (m - 1)) with
      | true => exact ⟨m, p, rfl, hp, by omega, by omega, h5⟩
      | false =>
        refine descPart_run O (permN_rev hp 0 m) (by omega) (fun i j hij hj => ?_)
        by_cases hjm : j = m
        · by_cases hi : i = j
          · rw [hi]; exact O.irr _
          · rw [gp_rev (by omega), gp_rev (by omega), if_pos (by omega), if_neg (by omega), hjm]
            exact O.le_tr (O.asym hb) (O.le_tr hc (h5 0 (0 + m - 1 - i) (by omega) (by omega)))
        · rw [gp_rev (by omega), gp_rev (by omega), if_pos (by omega), if_pos (by omega)]
          exact h5 _ _ (by omega) (by omega)
    · rw [if_neg hm1]
      have hm : m = 1 := by omega
      subst hm
      refine descPart_run O hp (by omega) (fun i j hij hj => ?_)
      by_cases hi : i = j
      · rw [hi]; exact O.irr _
      · have e0 : i = 0 := by omega
        have ej : j = 1 := by omega
        rw [e0, ej]
        exact O.asym hb
/-- the whole: a permutation, in order -/
theorem sort_run (O : IOrd n lt blt) (hn : 1 ≤ n) : ∃ p', runC lt (kas_sort n) = some p' ∧ PermN n p' ∧ UpTo blt p' n := by
  obtain ⟨m, p, e1, h1, h2, h3, h4⟩ := count_run O (p := (List.range n).toArray) (show PermN n _ from by unfold PermN; exact List.Perm.refl _) hn
  unfold kas_sort
  rw [runC_bind, e1]
  show ∃ p', runC lt (if m < n then kas_bin (n - max m 1) p (max m 1) else .ret p) = some p' ∧ _
  have hmax : max m 1 = m := by omega
  by_cases hm : m < n
  · rw [if_pos hm, hmax]
    exact bin_run O (n - m) p m h1 h4 (by omega)
  · rw [if_neg hm]
    have : m = n := by omega
    subst this
    exact ⟨p, rfl, h1, h4⟩
end
end L2
namespace L2
open PySem PySem.W PyProof.Rows
/-! ### sorted, of lists of tuples of ints -/
def tI (ns : List Int) : PyData := .tuple (ns.map .int)
theorem lexLt_irr : ∀ xs : List Int, HT.lexLt xs xs = false
  | [] => rfl
  | x :: xs => by rw [HT.lexLt_cons, if_pos rfl]; exact lexLt_irr xs
theorem lexLt_tr : ∀ xs ys zs : List Int, HT.lexLt xs ys = true → HT.lexLt ys zs = true → HT.lexLt xs zs = true
  | [], [], _, h, _ => by cases h
  | [], _ :: _, [], _, h => by cases h
  | [], _ :: _, _ :: _, _, _ => rfl
  | _ :: _, [], _, h, _ => by cases h
  | _ :: _, _ :: _, [], _, h => by cases h
  | x :: xs, y :: ys, z :: zs, h1, h2 => by
    rw [HT.lexLt_cons] at h1 h2 ⊢
    by_cases e1 : x = y
    · rw [if_pos e1] at h1
      by_cases e2 : y = z
      · rw [if_pos e2] at h2
        rw [if_pos (e1.trans e2)]
        exact lexLt_tr xs ys zs h1 h2
      · rw [if_neg e2] at h2
        rw [if_neg (by rw [e1]; exact e2), e1]
        exact h2
    · rw [if_neg e1] at h1
      have h1' := of_decide_eq_true h1
      by_cases e2 : y = z
      · rw [if_neg (by rw [← e2]; exact e1), ← e2]
        exact h1
      · rw [if_neg e2] at h2
        have h2' := of_decide_eq_true h2
        rw [if_neg (by omega)]
        exact decide_eq_true (by omega)
theorem lexLt_neg : ∀ xs ys zs : List Int, HT.lexLt xs zs = true → HT.lexLt xs ys = true ∨ HT.lexLt ys zs = true
  | [], [], zs, h => .inr h
  | [], _ :: _, _, _ => .inl rfl
  | _ :: _, _, [], h => by cases h
  | _ :: _, [], _ :: _, _ => .inr rfl
  | x :: xs, y :: ys, z :: zs, h => by
    rw [HT.lexLt_cons] at h ⊢
    rw [HT.lexLt_cons]
    by_cases e1 : x = z
    · rw [if_pos e1] at h
      subst e1
      by_cases e2 : x = y
      · subst e2
        rw [if_pos rfl, if_pos rfl]
        exact lexLt_neg xs ys zs h
      · rw [if_neg e2, if_neg (fun z => e2 z.symm)]
        by_cases hl : x < y
        · exact .inl (decide_eq_true hl)
        · exact .inr (decide_eq_true (by omega))
    · rw [if_neg e1] at h
      have h' := of_decide_eq_true h
      by_cases e2 : x = y
      · subst e2
        rw [if_neg e1]
        exact .inr h
      · rw [if_neg e2]
        by_cases hl : x < y
        · exact .inl (decide_eq_true hl)
        · right
          rw [if_neg (by omega)]
          exact decide_eq_true (by omega)
theorem lexLt_tot : ∀ xs ys : List Int, HT.lexLt xs ys = false → HT.lexLt ys xs = false → xs = ys
  | [], [], _, _ => rfl
  | [], _ :: _, h, _ => by cases h
  | _ :: _, [], _, h => by cases h
  | x :: xs, y :: ys, h1, h2 => by
    rw [HT.lexLt_cons] at h1 h2
    by_cases e : x = y
    · subst e
      rw [if_pos rfl] at h1 h2
      rw [lexLt_tot xs ys h1 h2]
    · rw [if_neg e] at h1
      rw [if_neg (fun z => e z.symm)] at h2
      have a1 := of_decide_eq_false h1
      have a2 := of_decide_eq_false h2
      omega
theorem ltXs_ints : ∀ xs ys : List Int, ltXs (xs.map .int) (ys.map .int) = some (HT.lexLt xs ys)
  | [], [] => by rw [List.map_nil, ltXs]; rfl
  | [], _ :: _ => by rw [List.map_nil, List.map_cons, ltXs]; rfl
  | _ :: _, [] => by rw [List.map_nil, List.map_cons, ltXs]; rfl
  | x :: xs, y :: ys => by
    rw [List.map_cons, List.map_cons, ltXs, HT.lexLt_cons]
    have e : PyData.eqv (.int x) (.int y) = (x == y) := rfl
    rw [e]
    by_cases h : x = y
    · rw [if_pos (by simpa using h), if_pos h]
      exact ltXs_ints xs ys
    · rw [if_neg (by simpa using h), if_neg h, ltX]
theorem ltX_ints (xs ys : List Int) : ltX (tI xs) (tI ys) = some (HT.lexLt xs ys) := by
  unfold tI
  rw [ltX]
  exact ltXs_ints xs ys
theorem perm_range_map {α : Type} (xs : List α) (d : α) : (List.range xs.length).map (fun i => xs.getD i d) = xs := by
  apply List.ext_getElem
  · simp
  · intro i h1 h2
    simp [List.getD_eq_getElem?_getD, h2]
/-- what sorted tells of tuples of ints: they themselves, in order -/
theorem sortedD_ints {nss : List (List Int)} (hok : sortOk 0 (nss.map tI) = true) : ∃ mss : List (List Int), sortedD [.list (nss.map tI)] = some (.list (mss.map tI)) ∧ mss.Perm nss ∧ mss.Pairwise (fun a b => HT.lexLt b a = false) := by
  have hn : 2 ≤ nss.length ∧ nss.length < 64 := by
    unfold sortOk at hok
    simp only [Bool.and_eq_true, decide_eq_true_eq, List.length_map] at hok
    exact ⟨hok.2.1, hok.2.2.1⟩
  have O : IOrd nss.length (ltAtD (nss.map tI)) (fun i j => HT.lexLt (nss.getD i []) (nss.getD j [])) := by
    refine ⟨fun i j hi hj => ?_, fun i => lexLt_irr _, fun i j k => lexLt_tr _ _ _, fun i j k => lexLt_neg _ _ _⟩
    unfold ltAtD
    rw [List.getElem?_map, List.getElem?_map, List.getElem?_eq_getElem hi, List.getElem?_eq_getElem hj]
    show ltX (tI nss[i]) (tI nss[j]) = _
    rw [ltX_ints, getD_some (List.getElem?_eq_getElem hi), getD_some (List.getElem?_eq_getElem hj)]
  obtain ⟨p, e1, hp, hs⟩ := sort_run O (by omega)
  have hin : ∀ i ∈ p.toList, i < nss.length := fun i hi => List.mem_range.mp (hp.mem_iff.mp hi)
  refine ⟨p.toList.map fun i => nss.getD i [], ?_, ?_, ?_⟩
  · show (if (nss.map tI).length < 2 then some (PyData.list (nss.map tI)) else if sortOk 0 (nss.map tI) = true ∨ sortOk 1 (nss.map tI) = true then ob (runC (ltAtD (nss.map tI)) (kas_sort (nss.map tI).length)) fun p => pickD (nss.map tI) p else none) = _
    rw [if_neg (by rw [List.length_map]; omega), if_pos (.inl hok), List.length_map, e1]
    show pickD (nss.map tI) p = _
    unfold pickD
    rw [if_pos ⟨List.all_eq_true.mpr fun i hi => by rw [List.length_map]; exact decide_eq_true (hin i hi), by rw [Array.length_toList, hp.size]; omega⟩]
    congr 2
    rw [List.map_map]
    refine List.map_congr_left fun i hi => ?_
    have hi' := hin i hi
    show (nss.map tI).getD i .none = tI (nss.getD i [])
    rw [getD_some (show (nss.map tI)[i]? = some (tI nss[i]) from by rw [List.getElem?_map, List.getElem?_eq_getElem hi']; rfl), getD_some (List.getElem?_eq_getElem hi')]
  · have := hp.map (fun i => nss.getD i [])
    rw [perm_range_map] at this
    exact this
  · rw [List.pairwise_map, List.pairwise_iff_getElem]
    intro i j hi hj hij
    have hsz := hp.size
    rw [Array.length_toList] at hi hj
    have := hs i j (by omega) (by omega)
    have g1 : gp p i = p.toList[i]'(by rw [Array.length_toList]; exact hi) := by simp [gp, Array.getD, hi]
    have g2 : gp p j = p.toList[j]'(by rw [Array.length_toList]; exact hj) := by simp [gp, Array.getD, hj]
    rw [g1, g2] at this
    exact this
theorem can_ints : ∀ ns : List Int, PyData.canLayAll0 (ns.map .int) = true ∧ PyData.depthAll (ns.map .int) = 0
  | [] => ⟨rfl, rfl⟩
  | n :: ns => by
    obtain ⟨h1, h2⟩ := can_ints ns
    rw [List.map_cons]
    exact ⟨by simp [PyData.canLayAll0, PyData.canLay0, h1], by simp [PyData.depthAll, PyData.depth, h2]⟩
theorem can_tups : ∀ nss : List (List Int), PyData.canLayAll0 (nss.map tI) = true ∧ PyData.depthAll (nss.map tI) ≤ 1
  | [] => ⟨rfl, Nat.zero_le _⟩
  | ns :: nss => by
    obtain ⟨h1, h2⟩ := can_tups nss
    obtain ⟨h3, h4⟩ := can_ints ns
    rw [List.map_cons]
    refine ⟨by simp [PyData.canLayAll0, tI, PyData.canLay0, h1, h3], ?_⟩
    rw [PyData.depthAll, show (tI ns).depth = 1 from by simp [tI, PyData.depth, h4]]
    omega
theorem sortOk_tups {nss : List (List Int)} (h2 : 2 ≤ nss.length) (h64 : nss.length < 64) (hne : ∀ ns ∈ nss, ns ≠ []) : sortOk 0 (nss.map tI) = true := by
  obtain ⟨h3, h4⟩ := can_tups nss
  unfold sortOk
  simp only [Bool.and_eq_true, decide_eq_true_eq, List.length_map]
  refine ⟨List.all_eq_true.mpr fun d hd => ?_, h2, h64, h3, by omega⟩
  obtain ⟨ns, hn, rfl⟩ := List.mem_map.mp hd
  cases ns with
  | nil => exact absurd rfl (hne [] hn)
  | cons n ns => rfl
/-- sorted of fewer than 64 tuples of ints, none of them empty -/
theorem sortedD_tups {nss : List (List Int)} (h64 : nss.length < 64) (hne : ∀ ns ∈ nss, ns ≠ []) : ∃ mss : List (List Int), sortedD [.list (nss.map tI)] = some (.list (mss.map tI)) ∧ mss.Perm nss ∧ mss.Pairwise (fun a b => HT.lexLt b a = false) := by
  by_cases h2 : 2 ≤ nss.length
  · exact sortedD_ints (sortOk_tups h2 h64 hne)
  · refine ⟨nss, ?_, List.Perm.refl _, ?_⟩
    · show (if (nss.map tI).length < 2 then some (PyData.list (nss.map tI)) else _) = _
      rw [if_pos (by rw [List.length_map]; omega)]
    · match nss, h2 with
      | [], _ => exact .nil
      | [a], _ => exact .cons (fun _ z => nomatch z) .nil
      | _ :: _ :: _, h2 => exact absurd (by simp) h2
/-- two lists in order of the same members are one -/
theorem sorted_unique : ∀ {as bs : List (List Int)}, as.Perm bs → as.Pairwise (fun a b => HT.lexLt b a = false) → bs.Pairwise (fun a b => HT.lexLt b a = false) → as = bs
  | [], bs, h, _, _ => (List.nil_perm.mp h).symm
  | a :: as, [], h, _, _ => absurd h (by simp)
  | a :: as, b :: bs, h, h1, h2 => by
    rw [List.pairwise_cons] at h1 h2
    have e : a = b := by
      have ma : a ∈ b :: bs := h.mem_iff.mp (.head _)
      have mb : b ∈ a :: as := h.mem_iff.mpr (.head _)
      rcases List.mem_cons.mp ma with z | z
      · exact z
      · rcases List.mem_cons.mp mb with y | y
        · exact y.symm
        · exact lexLt_tot a b (h2.1 a z) (h1.1 b y)
    subst e
    rw [sorted_unique h.cons_inv h1.2 h2.2]
end L2
-- MARK: what is proved
namespace SF
open PySem L2
variable (P : Program) (w : World) {K : PySem.W.Frag} {mg : Str → Option Value} (base : Heap) {f : Addr} {fd : FuncData}
def top (i : Nat) : Stmt := PySem.Challenge.pw_sheetfold_k36_ends_in_order.main.body.getD i (.Pass ⟨0, 0, 0, 0⟩)
/-! ends_of -/
abbrev s_ends_of : Stmt := top 1
abbrev N_ends_of : List Str := ["paper"]
theorem A_ends_of : ScOk N_ends_of ["paper"] ["ends_of", "isinstance", "list"] (defScope s_ends_of) := scmk (by kernel_rfl)
def u_ends_of (fr : List PyData → Option PyData) : Rho → Option PyData := (vIf (tV (ev2 (ev2 (vr 0) (kd (.int 0)) ixD) (kd (.str "bend")) eqD)) (ev2 (ev2 (evC 1 (aC (ev2 (vr 0) (kd (.int 3)) ixD) aN) fr) (evC 1 (aC (ev2 (vr 0) (kd (.int 4)) ixD) aN) fr) catL) (evC 1 (aC (ev2 (vr 0) (kd (.int 5)) ixD) aN) fr) catL) (evA (aC (evA (aC (flatF (ev2 (vr 0) (kd (.int 0)) ixD)) (aC (vIf (tV (ev1 (ev2 (vr 0) (kd (.int 1)) ixD) (isiD "list"))) (flatG (evA (aC (ev2 (vr 0) (kd (.int 1)) ixD) aN) listD)) (flatF (ev2 (vr 0) (kd (.int 1)) ixD))) aN)) tupD) aN) lstD))
def g_ends_of : Nat → List PyData → Option PyData
  | 0, _ => none
  | n + 1, ds => u_ends_of (g_ends_of n) (rho0 N_ends_of.length ds)
def f_ends_of (ds : List PyData) : Option PyData := g_ends_of 6 ds
theorem ks_ends_of {k : Nat} (hk : 0 ≤ k) {fr : List PyData → Option PyData} (F : Fun K "ends_of" "ends_of" s_ends_of f fd) (m : mg "ends_of" = some (.ref f)) (b : Binds K fd ["paper"] []) (K_ends_of : KnownNw P w K mg base "ends_of" 1 k fr) (z_isinstance : mg "isinstance" = none) (z_list : mg "list" = none) : KnownNw P w K mg base "ends_of" 1 (k + 1) (fun ds => u_ends_of fr (rho0 N_ends_of.length ds)) := by
  refine ⟨f, fd, ["paper"], F.nw (k := k) (u := (u_ends_of fr)) A_ends_of.fs rfl (fun cdv A outer s H E hr => ?_), m, F.kp, b⟩
  exact pns_if (pdt_cmp (d_eq hr) (pd_ix (pd_v A_ends_of 0) pd_int) pd_str (nomark _)) (pns_ret (pn_cat (pn_cat (pn_known K_ends_of hr (Nat.le_refl _) (A_ends_of.gl 0 rfl rfl) (pda1 (pd_ix (pd_v A_ends_of 0) pd_int)) rfl) (pn_known K_ends_of hr (Nat.le_refl _) (A_ends_of.gl 0 rfl rfl) (pda1 (pd_ix (pd_v A_ends_of 0) pd_int)) rfl)) (pn_known K_ends_of hr (Nat.le_refl _) (A_ends_of.gl 0 rfl rfl) (pda1 (pd_ix (pd_v A_ends_of 0) pd_int)) rfl))) (pns_ret (pn_one (pka_cons (pk_flat (pd_ix (pd_v A_ends_of 0) pd_int)) (pka_cons (pk_if (pdt_val (pd_isi (T := "list") (kit_list _) (A_ends_of.gl 1 rfl rfl) z_isinstance (A_ends_of.gl 2 rfl rfl) z_list rfl rfl (pd_ix (pd_v A_ends_of 0) pd_int))) (pk_list (pf_callTy n_list (A_ends_of.gl 2 rfl rfl) z_list rfl (pda1 (pd_ix (pd_v A_ends_of 0) pd_int)))) (pk_flat (pd_ix (pd_v A_ends_of 0) pd_int))) pka_nil))))
theorem kz_ends_of (F : Fun K "ends_of" "ends_of" s_ends_of f fd) (m : mg "ends_of" = some (.ref f)) (b : Binds K fd ["paper"] []) (z_isinstance : mg "isinstance" = none) (z_list : mg "list" = none) : ∀ i, KnownNw P w K mg base "ends_of" 1 (1 + i) (g_ends_of i)
  | 0 => ⟨f, fd, ["paper"], F.nw (k := 0) (u := fun _ => none) A_ends_of.fs rfl (fun _ _ _ _ _ _ _ => pns_none), m, F.kp, b⟩
  | i + 1 => ks_ends_of P w base (Nat.le_trans (by decide) (Nat.le_add_right 1 i)) F m b (kz_ends_of F m b z_isinstance z_list i) z_isinstance z_list
theorem k_ends_of (F : Fun K "ends_of" "ends_of" s_ends_of f fd) (m : mg "ends_of" = some (.ref f)) (b : Binds K fd ["paper"] []) (z_isinstance : mg "isinstance" = none) (z_list : mg "list" = none) : KnownNw P w K mg base "ends_of" 1 7 f_ends_of := kz_ends_of P w base F m b z_isinstance z_list 6
/-! _law_cell -/
abbrev s__law_cell : Stmt := top 3
abbrev N__law_cell : List Str := ["_law_script", "_law_k"]
theorem A__law_cell : ScOk N__law_cell ["_law_script", "_law_k"] ["len"] (defScope s__law_cell) := scmk (by kernel_rfl)
def u__law_cell : Rho → Option Out := (seqO (sIf (tV (ev2 (vr 1) (evA (aC (vr 0) aN) lenD) ltD2)) (sRet (ev2 (vr 0) (vr 1) ixD)) sN) (sRet (kd (.int 0))))
def f__law_cell (ds : List PyData) : Option PyData := ob (u__law_cell (rho0 N__law_cell.length ds)) outD
theorem k__law_cell (F : Fun K "_law_cell" "_law_cell" s__law_cell f fd) (m : mg "_law_cell" = some (.ref f)) (b : Binds K fd ["_law_script", "_law_k"] []) (z_len : mg "len" = none) : Known P w K mg base "_law_cell" 2 1 f__law_cell := by
  refine ⟨f, fd, ["_law_script", "_law_k"], F.pure (k := 0) (u := u__law_cell) (M' := []) A__law_cell.fs rfl (fun cdv A outer s H E hr G => ?_), m, F.kp, b⟩
  exact pds_cons (M1 := []) (pds_if (pdt_cmp (d_lt2 hr) (pd_v A__law_cell 1) (pd_callB b_len (A__law_cell.gl 0 rfl rfl) z_len PySem.boot_len (pda1 (pd_v A__law_cell 0))) (nomark _)) (pds_one (pds_ret (pd_ix (pd_v A__law_cell 0) (pd_v A__law_cell 1)))) pds_nil) (pds_one (pds_ret pd_int))
/-! _law_end -/
abbrev s__law_end : Stmt := top 4
abbrev N__law_end : List Str := ["_law_cell_here", "_law_numbers"]
theorem A__law_end : ScOk N__law_end ["_law_cell_here"] ["range"] (defScope s__law_end) := scmk (by kernel_rfl)
def u__law_end : Rho → Option Out := (seqO (sTake 1 (compR 2 (evR (aC (ev2 (ev2 (vr 0) (kd (.int 4)) fdivD) (kd (.int 5)) modD) aN) rng1D) tT (ev2 (ev2 (vr 0) (ev2 (kd (.int 7)) (ev2 (kd (.int 5)) (vr 2) mulD) add3D) fdivD) (kd (.int 24)) modD))) (seqO (sIf (tV (ev2 (ev2 (vr 0) (kd (.int 4)) modD) (kd (.int 0)) eqD)) (sRet (evA (aC (kd (.str "ring")) (aC (vr 1) aN)) tupD)) sN) (seqO (sIf (tV (ev2 (ev2 (vr 0) (kd (.int 4)) modD) (kd (.int 1)) eqD)) (sRet (evA (aC (kd (.str "clash")) (aC (vr 1) aN)) tupD)) sN) (seqO (sIf (tV (ev2 (ev2 (vr 0) (kd (.int 4)) modD) (kd (.int 2)) eqD)) (sRet (evA (aC (kd (.str "open")) (aC (evA (aC (ev2 (ev2 (kd (.int 2)) (ev2 (vr 0) (kd (.int 9)) modD) mulD) (kd (.int 8)) subD) (aC (ev2 (ev2 (kd (.int 2)) (ev2 (ev2 (vr 0) (kd (.int 9)) fdivD) (kd (.int 9)) modD) mulD) (kd (.int 8)) subD) (aC (ev2 (ev2 (kd (.int 2)) (ev2 (ev2 (vr 0) (kd (.int 81)) fdivD) (kd (.int 9)) modD) mulD) (kd (.int 1)) add3D) aN))) tupD) aN)) tupD)) sN) (sRet (evA (aC (kd (.str "closed")) (aC (compR 2 (evR (aC (ev2 (kd (.int 1)) (ev2 (ev2 (vr 0) (kd (.int 125)) fdivD) (kd (.int 4)) modD) add3D) aN) rng1D) tT (evA (aC (ev2 (ev2 (ev2 (vr 0) (kd (.int 5)) fdivD) (kd (.int 5)) modD) (kd (.int 2)) subD) (aC (vr 2) (aC (ev2 (ev2 (vr 0) (kd (.int 25)) fdivD) (kd (.int 5)) modD) aN))) tupD)) aN)) tupD))))))
def f__law_end (ds : List PyData) : Option PyData := ob (u__law_end (rho0 N__law_end.length ds)) outD
theorem k__law_end (F : Fun K "_law_end" "_law_end" s__law_end f fd) (m : mg "_law_end" = some (.ref f)) (b : Binds K fd ["_law_cell_here"] []) (z_range : mg "range" = none) : Known P w K mg base "_law_end" 1 1 f__law_end := by
  refine ⟨f, fd, ["_law_cell_here"], F.pure (k := 0) (u := u__law_end) (M' := []) A__law_end.fs rfl (fun cdv A outer s H E hr G => ?_), m, F.kp, b⟩
  refine pds_cons (M1 := [1]) ?_ ?_
  exact pds_comp 1 (CompOk.of (k := 1) N__law_end ["_law_cell_here", "_law_numbers", "_law_k"] (defScope s__law_end) rfl rfl rfl (by decide +kernel)) rfl (by decide +kernel) (defScope s__law_end) rfl (by decide +kernel) (by decide) (by decide) (pdi_range1 (A__law_end.gl 0 rfl rfl) z_range (pda1 (pd_op d_mod (pd_op d_fdiv (pd_v A__law_end 0) pd_int) pd_int))) (fun _ _ _ _ _ _ => pdts_nil) (fun _ _ _ _ _ _ => pd_op d_mod (pd_op d_fdiv (pd_var 0 (vis_comp (by decide +kernel)) (by decide)) (pd_op d_add3 pd_int (pd_op d_mul pd_int (pd_var 2 (vis_comp (by decide +kernel)) (by decide))))) pd_int)
  refine pds_cons (M1 := [1]) ?_ ?_
  exact pds_if (pdt_cmp (d_eq hr) (pd_op d_mod (pd_v A__law_end 0) pd_int) pd_int (nomark _)) (pds_one (pds_ret (pd_tup (pda2 pd_str (pd_v A__law_end 1))))) pds_nil
  refine pds_cons (M1 := [1]) ?_ ?_
  exact pds_if (pdt_cmp (d_eq hr) (pd_op d_mod (pd_v A__law_end 0) pd_int) pd_int (nomark _)) (pds_one (pds_ret (pd_tup (pda2 pd_str (pd_v A__law_end 1))))) pds_nil
  exact pds_cons (M1 := [1]) (pds_if (pdt_cmp (d_eq hr) (pd_op d_mod (pd_v A__law_end 0) pd_int) pd_int (nomark _)) (pds_one (pds_ret (pd_tup (pda2 pd_str (pd_tup (pda3 (pd_op d_sub (pd_op d_mul pd_int (pd_op d_mod (pd_v A__law_end 0) pd_int)) pd_int) (pd_op d_sub (pd_op d_mul pd_int (pd_op d_mod (pd_op d_fdiv (pd_v A__law_end 0) pd_int) pd_int)) pd_int) (pd_op d_add3 (pd_op d_mul pd_int (pd_op d_mod (pd_op d_fdiv (pd_v A__law_end 0) pd_int) pd_int)) pd_int))))))) pds_nil) (pds_one (pds_ret (pd_tup (pda2 pd_str (pd_comp (CompOk.of (k := 1) N__law_end ["_law_cell_here", "_law_numbers", "_law_k"] (defScope s__law_end) rfl rfl rfl (by decide +kernel)) rfl (by decide +kernel) (pdi_range1 (A__law_end.gl 0 rfl rfl) z_range (pda1 (pd_op d_add3 pd_int (pd_op d_mod (pd_op d_fdiv (pd_v A__law_end 0) pd_int) pd_int)))) (fun _ _ _ _ _ _ => pdts_nil) (fun _ _ _ _ _ _ => pd_tup (pda3 (pd_op d_sub (pd_op d_mod (pd_op d_fdiv (pd_var 0 (vis_comp (by decide +kernel)) (by decide)) pd_int) pd_int) pd_int) (pd_var 2 (vis_comp (by decide +kernel)) (by decide)) (pd_op d_mod (pd_op d_fdiv (pd_var 0 (vis_comp (by decide +kernel)) (by decide)) pd_int) pd_int))))))))
/-! _law_drawn -/
abbrev s__law_drawn : Stmt := top 5
abbrev N__law_drawn : List Str := ["_law_script", "_law_at", "_law_room", "_law_cell_here", "_law_parts", "_law_i"]
theorem A__law_drawn : ScOk N__law_drawn ["_law_script", "_law_at", "_law_room"] ["_law_cell", "_law_end"] (defScope s__law_drawn) := scmk (by kernel_rfl)
def u__law_drawn (fr : List PyData → Option PyData) : Rho → Option Out := (seqO (sSet 3 (ev2 (ev2 (ev2 (evC 2 (aC (vr 0) (aC (ev2 (vr 1) (kd (.int 61)) modD) aN)) f__law_cell) (kd (.int 48271)) mulD) (kd (.int 1000003)) modD) (ev2 (ev2 (ev2 (kd (.int 7919)) (vr 1) mulD) (vr 1) mulD) (kd (.int 1009)) modD) add3D)) (seqO (sIf (tO (tV (ev2 (vr 2) (kd (.int 0)) eqD)) (tV (ev2 (ev2 (vr 3) (kd (.int 4)) modD) (kd (.int 0)) eqD))) (sRet (evC 1 (aC (ev2 (vr 3) (kd (.int 4)) fdivD) aN) f__law_end)) sN) (seqO (sTake 4 (compR 6 (evI (evA (aC (kd (.int 1)) (aC (kd (.int 2)) (aC (kd (.int 3)) aN))) tupD) seqD) tT (evC 3 (aC (vr 0) (aC (ev2 (ev2 (kd (.int 3)) (vr 1) mulD) (vr 6) add3D) (aC (ev2 (vr 2) (kd (.int 1)) subD) aN))) fr))) (seqO (sSet 5 (ev2 (ev2 (vr 3) (kd (.int 4)) fdivD) (kd (.int 24)) modD)) (sRet (evA (aC (kd (.str "bend")) (aC (vr 5) (aC (ev2 (ev2 (vr 5) (kd (.int 1)) add3D) (ev2 (ev2 (vr 3) (kd (.int 96)) fdivD) (kd (.int 24)) modD) add3D) (aC (ev2 (vr 4) (kd (.int 0)) ixD) (aC (ev2 (vr 4) (kd (.int 1)) ixD) (aC (ev2 (vr 4) (kd (.int 2)) ixD) aN)))))) tupD))))))
def g__law_drawn : Nat → List PyData → Option PyData
  | 0, _ => none
  | n + 1, ds => ob (u__law_drawn (g__law_drawn n) (rho0 N__law_drawn.length ds)) outD
def f__law_drawn (ds : List PyData) : Option PyData := g__law_drawn 6 ds
theorem ks__law_drawn {k : Nat} (hk : 1 ≤ k) {fr : List PyData → Option PyData} (F : Fun K "_law_drawn" "_law_drawn" s__law_drawn f fd) (m : mg "_law_drawn" = some (.ref f)) (b : Binds K fd ["_law_script", "_law_at", "_law_room"] []) (K__law_drawn : Known P w K mg base "_law_drawn" 3 k fr) (K__law_cell : Known P w K mg base "_law_cell" 2 1 f__law_cell) (K__law_end : Known P w K mg base "_law_end" 1 1 f__law_end) : Known P w K mg base "_law_drawn" 3 (k + 1) (fun ds => ob (u__law_drawn fr (rho0 N__law_drawn.length ds)) outD) := by
  refine ⟨f, fd, ["_law_script", "_law_at", "_law_room"], F.pure (M' := []) (k := k) (u := (u__law_drawn fr)) A__law_drawn.fs rfl (fun cdv A outer s H E hr G => ?_), m, F.kp, b⟩
  refine pds_cons (M1 := []) ?_ ?_
  refine pds_set 3 ?_ ?_ ?_ ?_ ?_ ?_ (pd_op d_add3 (pd_op d_mod (pd_op d_mul (pd_known K__law_cell hr (Nat.le_trans (by decide) hk) (A__law_drawn.gl 0 rfl rfl) (pda2 (pd_v A__law_drawn 0) (pd_op d_mod (pd_v A__law_drawn 1) pd_int)) rfl) pd_int) pd_int) (pd_op d_mod (pd_op d_mul (pd_op d_mul pd_int (pd_v A__law_drawn 1)) (pd_v A__law_drawn 1)) pd_int))
  · exact A__law_drawn.fs.nd
  · exact (A__law_drawn.loc 3 rfl)
  · rfl
  · rfl
  · exact .inl rfl
  · decide
  refine pds_cons (M1 := []) (pds_if (PDW.pdt (pdw_or (pdt_cmp (d_eq hr) (pd_v A__law_drawn 2) pd_int (nomark _)) (pdw_or1 (pdt_cmp (d_eq hr) (pd_op d_mod (pd_v A__law_drawn 3) pd_int) pd_int (nomark _))))) (pds_one (pds_ret (pd_known K__law_end hr (Nat.le_trans (by decide) hk) (A__law_drawn.gl 1 rfl rfl) (pda1 (pd_op d_fdiv (pd_v A__law_drawn 3) pd_int)) rfl))) pds_nil) ?_
  refine pds_cons (M1 := [4]) (pds_comp 4 (CompOk.of (k := 1) N__law_drawn ["_law_script", "_law_at", "_law_room", "_law_cell_here", "_law_parts", "_law_i", "_law_k"] (defScope s__law_drawn) rfl rfl rfl (by decide +kernel)) rfl (by decide +kernel) (defScope s__law_drawn) rfl (by decide +kernel) (by decide) (by decide) (pdi_seq (pd_tup (pda3 pd_int pd_int pd_int))) (fun _ _ _ _ _ _ => pdts_nil) (fun _ _ _ _ _ _ => pd_known K__law_drawn hr (Nat.le_refl _) (gl_comp (by decide +kernel)) (pda3 (pd_var 0 (vis_comp (by decide +kernel)) (by decide)) (pd_op d_add3 (pd_op d_mul pd_int (pd_var 1 (vis_comp (by decide +kernel)) (by decide))) (pd_var 6 (vis_comp (by decide +kernel)) (by decide))) (pd_op d_sub (pd_var 2 (vis_comp (by decide +kernel)) (by decide)) pd_int)) rfl)) ?_
  refine pds_cons (M1 := [4]) ?_ (pds_one (pds_ret (pd_tup (pda_cons pd_str (pda_cons (pd_v A__law_drawn 5) (pda_cons (pd_op d_add3 (pd_op d_add3 (pd_v A__law_drawn 5) pd_int) (pd_op d_mod (pd_op d_fdiv (pd_v A__law_drawn 3) pd_int) pd_int)) (pda_cons (pd_ix (pd_v A__law_drawn 4) pd_int) (pda_cons (pd_ix (pd_v A__law_drawn 4) pd_int) (pda_cons (pd_ix (pd_v A__law_drawn 4) pd_int) pda_nil)))))))))
  refine pds_set 5 ?_ ?_ ?_ ?_ ?_ ?_ (pd_op d_mod (pd_op d_fdiv (pd_v A__law_drawn 3) pd_int) pd_int)
  · exact A__law_drawn.fs.nd
  · exact (A__law_drawn.loc 5 rfl)
  · rfl
  · rfl
  · exact .inl rfl
  · decide
theorem kz__law_drawn (F : Fun K "_law_drawn" "_law_drawn" s__law_drawn f fd) (m : mg "_law_drawn" = some (.ref f)) (b : Binds K fd ["_law_script", "_law_at", "_law_room"] []) (K__law_cell : Known P w K mg base "_law_cell" 2 1 f__law_cell) (K__law_end : Known P w K mg base "_law_end" 1 1 f__law_end) : ∀ i, Known P w K mg base "_law_drawn" 3 (2 + i) (g__law_drawn i)
  | 0 => ⟨f, fd, ["_law_script", "_law_at", "_law_room"], F.pure (M' := []) (k := 1) (u := fun _ => none) A__law_drawn.fs rfl (fun _ _ _ _ _ _ _ _ => pdss_any), m, F.kp, b⟩
  | i + 1 => ks__law_drawn P w base (Nat.le_trans (by decide) (Nat.le_add_right 2 i)) F m b (kz__law_drawn F m b K__law_cell K__law_end i) K__law_cell K__law_end
theorem k__law_drawn (F : Fun K "_law_drawn" "_law_drawn" s__law_drawn f fd) (m : mg "_law_drawn" = some (.ref f)) (b : Binds K fd ["_law_script", "_law_at", "_law_room"] []) (K__law_cell : Known P w K mg base "_law_cell" 2 1 f__law_cell) (K__law_end : Known P w K mg base "_law_end" 1 1 f__law_end) : Known P w K mg base "_law_drawn" 3 8 f__law_drawn := kz__law_drawn P w base F m b K__law_cell K__law_end 6
/-! _law_walked -/
abbrev s__law_walked : Stmt := top 6
abbrev N__law_walked : List Str := ["_law_paper", "_law_made", "_law_pile", "_law_one"]
theorem A__law_walked : ScOk N__law_walked ["_law_paper"] ["len"] (defScope s__law_walked) := scmk (by kernel_rfl)
abbrev b__law_walked_0 : Rho → Option Out := (seqO (sPop 2 3) (sIf (tV (ev2 (ev2 (vr 3) (kd (.int 0)) ixD) (kd (.str "bend")) eqD)) (sExt 2 (evA (aC (ev2 (vr 3) (kd (.int 5)) ixD) (aC (ev2 (vr 3) (kd (.int 4)) ixD) (aC (ev2 (vr 3) (kd (.int 3)) ixD) aN))) lstD)) (sApp 1 (vr 3))))
def u__law_walked : Rho → Option Out := (seqO (sTake 1 (evA aN lstD)) (seqO (sTake 2 (evA (aC (vr 0) aN) lstD)) (seqO (sWhile (tV (ev2 (evA (aC (vr 2) aN) lenD) (kd (.int 0)) gtD)) b__law_walked_0) (sRet (vr 1)))))
def f__law_walked (ds : List PyData) : Option PyData := ob (u__law_walked (rho0 N__law_walked.length ds)) outD
theorem k__law_walked (F : Fun K "_law_walked" "_law_walked" s__law_walked f fd) (m : mg "_law_walked" = some (.ref f)) (b : Binds K fd ["_law_paper"] []) (z_len : mg "len" = none) : Known P w K mg base "_law_walked" 1 1 f__law_walked := by
  refine ⟨f, fd, ["_law_paper"], F.pure (k := 0) (u := u__law_walked) (M' := []) A__law_walked.fs rfl (fun cdv A outer s H E hr G => ?_), m, F.kp, b⟩
  refine pds_cons (M1 := [1]) ?_ ?_
  refine pds_setF 1 ?_ ?_ ?_ ?_ ?_ ?_ ?_ (pf_lst pda_nil)
  · exact A__law_walked.fs.nd
  · exact (A__law_walked.loc 1 rfl)
  · rfl
  · rfl
  · exact .inl rfl
  · decide
  · decide
  refine pds_cons (M1 := [2, 1]) ?_ (pds_cons (M1 := [2, 1]) (pds_while PassesOwn.never (pdt_cmp d_gt (pd_callB b_len (A__law_walked.gl 0 rfl rfl) z_len PySem.boot_len (pda1 (pd_v A__law_walked 2))) pd_int (nomark _)) (pds_cons (M1 := [2, 1]) (pds_pop 2 3 (A__law_walked.vis 2 rfl) (by decide) (by decide) (by decide) A__law_walked.fs.nd (A__law_walked.loc 3 rfl)) (pds_one (pds_if (pdt_cmp (d_eq hr) (pd_ix (pd_v A__law_walked 3) pd_int) pd_str (nomark _)) (pds_one (pds_ext 2 (A__law_walked.vis 2 rfl) (by decide) (by decide) (pf_lst (pda3 (pd_ix (pd_v A__law_walked 3) pd_int) (pd_ix (pd_v A__law_walked 3) pd_int) (pd_ix (pd_v A__law_walked 3) pd_int))))) (pds_one (pds_app 1 (A__law_walked.vis 1 rfl) (by decide) (by decide) (pd_v A__law_walked 3))))))) (pds_one (pds_ret (pd_v A__law_walked 1))))
  refine pds_setF 2 ?_ ?_ ?_ ?_ ?_ ?_ ?_ (pf_lst (pda1 (pd_v A__law_walked 0)))
  · exact A__law_walked.fs.nd
  · exact (A__law_walked.loc 2 rfl)
  · rfl
  · rfl
  · exact .inl rfl
  · decide
  · decide
/-! law -/
abbrev s_law : Stmt := top 7
abbrev N_law : List Str := ["_law_script", "_law_paper", "_law_aside", "_law_found", "_law_end_here"]
theorem A_law : ScOk N_law ["_law_script"] ["_law_drawn", "ends_of", "isinstance", "list", "_law_walked", "tuple", "str"] (defScope s_law) := scmk (by kernel_rfl)
def u_law : Rho → Option Out := (seqO (sSet 1 (evC 3 (aC (vr 0) (aC (kd (.int 0)) (aC (kd (.int 4)) aN))) f__law_drawn)) (seqO (sSet 2 (evC 3 (aC (vr 0) (aC (kd (.int 0)) (aC (kd (.int 4)) aN))) f__law_drawn)) (wreckO 3 4 (evC 1 (aC (vr 1) aN) f_ends_of) (tO (tN (tV (ev1 (vr 3) (isiD "list")))) (tV (ev2 (vr 3) (evC 1 (aC (vr 2) aN) f__law_walked) neD))) (tO (tN (tV (ev1 (vr 4) (isiD "tuple")))) (tN (tV (ev1 (ev2 (vr 4) (kd (.int 0)) ixD) (isiD "str"))))) (tV (ev1 (ev2 (vr 4) (kd (.int 1)) ixD) (isiD "list"))) (seqO (sSet 4 (evA (aC (kd (.str "closed")) (aC (evA (aC (evA (aC (kd (.int 0)) (aC (kd (.int 0)) (aC (kd (.int 0)) aN))) tupD) aN) lstD) aN)) tupD)) (sRet (vA (ev2 (vr 1) (vr 2) eqD) (vA (ev2 (evC 1 (aC (vr 4) aN) (isLs f_ends_of)) (evA (aC (vr 4) aN) lstD) eqD) (ev2 (evC 1 (aC (vr 1) aN) (isLs f_ends_of)) (evC 1 (aC (vr 2) aN) f__law_walked) eqD))))))))
def f_law (ds : List PyData) : Option PyData := ob (u_law (rho0 N_law.length ds)) outD
theorem ok_law (F : Fun K "law" "law" s_law f fd) (K__law_drawn : Known P w K mg base "_law_drawn" 3 8 f__law_drawn) (K_ends_of : KnownNw P w K mg base "ends_of" 1 7 f_ends_of) (K__law_walked : Known P w K mg base "_law_walked" 1 1 f__law_walked) (z_isinstance : mg "isinstance" = none) (z_list : mg "list" = none) (z_tuple : mg "tuple" = none) (z_str : mg "str" = none) : FnOk P w K mg base CX0 9 f fd ["_law_script"] (spF K 1 f_law) := by
  refine F.pure (k := 8) (u := u_law) (M' := []) A_law.fs rfl (fun cdv A outer s H E hr G => ?_)
  refine pds_cons (M1 := []) ?_ ?_
  refine pds_set 1 ?_ ?_ ?_ ?_ ?_ ?_ (pd_known K__law_drawn hr (by decide) (A_law.gl 0 rfl rfl) (pda3 (pd_v A_law 0) pd_int pd_int) rfl)
  · exact A_law.fs.nd
  · exact (A_law.loc 1 rfl)
  · rfl
  · rfl
  · exact .inl rfl
  · decide
  refine pds_cons (M1 := []) ?_ ?_
  refine pds_set 2 ?_ ?_ ?_ ?_ ?_ ?_ (pd_known K__law_drawn hr (by decide) (A_law.gl 0 rfl rfl) (pda3 (pd_v A_law 0) pd_int pd_int) rfl)
  · exact A_law.fs.nd
  · exact (A_law.loc 2 rfl)
  · rfl
  · rfl
  · exact .inl rfl
  · decide
  refine pds_wreck 3 4 PassesOwn.never rfl A_law.fs.nd (A_law.loc 3 rfl) (A_law.loc 4 rfl) (A_law.vis 3 rfl) (A_law.vis 4 rfl) (by decide) (pn_known K_ends_of hr (by decide) (A_law.gl 1 rfl rfl) (pda1 (pd_v A_law 1)) rfl) (PDW.pdt (pdw_or (pdt_not (pdt_val (pd_isi (T := "list") (kit_list _) (A_law.gl 2 rfl rfl) z_isinstance (A_law.gl 3 rfl rfl) z_list rfl rfl (pd_v A_law 3)))) (pdw_or1 (pdt_cmp (d_ne hr) (pd_v A_law 3) (pd_known K__law_walked hr (by decide) (A_law.gl 4 rfl rfl) (pda1 (pd_v A_law 2)) rfl) (nomark _))))) (PDW.pdt (pdw_or (pdt_not (pdt_val (pd_isi (T := "tuple") (kit_tuple _) (A_law.gl 2 rfl rfl) z_isinstance (A_law.gl 5 rfl rfl) z_tuple rfl rfl (pd_v A_law 4)))) (pdw_or1 (pdt_not (pdt_val (pd_isi (T := "str") (kit_str _) (A_law.gl 2 rfl rfl) z_isinstance (A_law.gl 6 rfl rfl) z_str rfl rfl (pd_ix (pd_v A_law 4) pd_int))))))) (pdt_val (pd_isi (T := "list") (kit_list _) (A_law.gl 2 rfl rfl) z_isinstance (A_law.gl 3 rfl rfl) z_list rfl rfl (pd_ix (pd_v A_law 4) pd_int))) pd_int pd_int (pd_tup (pda2 pd_str (pd_tup (pda3 pd_int pd_int pd_int)))) (fun _ => ⟨_, rfl⟩) ?_
  refine pds_cons (M1 := []) ?_ (pds_one (pds_ret (pd_and (pd_cmp (d_eq hr) (pd_v A_law 1) (pd_v A_law 2) (nomark _)) (pd_and (pd_cmp (d_eq hr) (pd_known K_ends_of.known hr (by decide) (A_law.gl 1 rfl rfl) (pda1 (pd_v A_law 4)) rfl) (pd_lst (pda1 (pd_v A_law 4))) (nomark _)) (pd_one (pd_cmp (d_eq hr) (pd_known K_ends_of.known hr (by decide) (A_law.gl 1 rfl rfl) (pda1 (pd_v A_law 1)) rfl) (pd_known K__law_walked hr (by decide) (A_law.gl 4 rfl rfl) (pda1 (pd_v A_law 2)) rfl) (nomark _)))))))
  refine pds_set 4 ?_ ?_ ?_ ?_ ?_ ?_ ?_
  · exact A_law.fs.nd
  · exact (A_law.loc 4 rfl)
  · rfl
  · rfl
  · exact .inl rfl
  · decide
  exact pd_tup (pda2 pd_str (pd_lst (pda1 (pd_tup (pda3 pd_int pd_int pd_int)))))
end SF
local macro_rules
  | `(tactic| simp_arith [$ts,*] $[$loc]?) => `(tactic| simp only [L2.rho0, List.map_cons, List.map_nil, List.length_cons, List.length_nil, Nat.reduceAdd, Nat.reduceSub, Nat.zero_add, Nat.sub_self, List.replicate_succ, List.replicate_zero, List.cons_append, List.nil_append, List.append_nil, L2.seqO_b, L2.bindO_nx, L2.bindO_rt, L2.bindO_bk, L2.bindO_ct, L2.ifO_t, L2.ifO_f, L2.sIf_b, L2.vIf_b, L2.tA_b, L2.tO_b, L2.vA_b, L2.vO_b, L2.vN, L2.sSet_b, L2.setO_s, L2.sAsg_b, L2.asgO_s, L2.nxO_s, L2.sRet_b, L2.retO_s, L2.sN, L2.sBk, L2.sCt, L2.tV, L2.tN, L2.tT, L2.ev2_b, L2.binO_s, L2.ev1, L2.vr_z, L2.vr_s, L2.kd, L2.evA, L2.evC_b, L2.callO_s, L2.evC0, L2.aC_b, L2.consO_s, L2.aN, L2.lenD_l, L2.lenD_t, L2.tupD, L2.lstD, L2.tupleD_l, L2.tupleD_t, L2.listD_l, L2.listD_t, L2.addD_i, L2.subD_i, L2.negD_i, L2.fdiv_pos, L2.mod_pos, L2.pow_a, L2.pow_b, L2.eqD_int, L2.neD_int, L2.ltD2_i, L2.leD_i, L2.gtD_i, L2.geD_i, L2.boolD_b, L2.ixD_l, L2.ixD_t, L2.atI0, L2.atI1, L2.atI2, L2.atI3, L2.atI4, L2.atI5, L2.outD_r, L2.outD_n, L2.ob_s, L2.gNm, L2.gsN_n, L2.gsC_c, L2.unpD_t, List.set_cons_zero, List.set_cons_succ, List.set_nil, L2.evI, L2.evR, L2.seqD_l, L2.seqD_t, L2.rng1D_i, L2.rng2D_i, L2.rngL, L2.compR_b, L2.comRO_s, L2.compD_c, L2.compD_n, L2.compO_t, L2.compO_f, L2.listO_s, L2.sFor_b, L2.forI_s, L2.forD_c, L2.forD_n, L2.forO_nx, L2.forO_ct, L2.forO_bk, L2.forO_rt, if_true, if_false, Bool.false_eq_true, Bool.not_true, Bool.not_false, Nat.reduceLeDiff, and_self, and_true, true_and, Int.reduceToNat, Int.reduceAdd, Int.reduceSub, Int.reduceLE, Int.reduceLT, Int.reduceNeg, reduceIte, L2.isiD, L2.isiT_t, L2.isiT_l, L2.isiT_i, L2.isiT_b, L2.isiT_s, L2.isiT_n, String.reduceBEq, L2.natLit, Int.reduceBEq, Bool.true_or, Bool.or_true, Bool.false_or, Bool.or_false, L2.sTake_b, L2.takO_t, L2.flatF_b, L2.flaO_s, L2.flatG_b, L2.flgO_s, L2.sApp_b, L2.appO_s, L2.appD_l, L2.sClr_b, L2.clrO_s, L2.outF_r, L2.dfl_b, L2.isD_n, L2.isnD_n, L2.isD_b, L2.isnD_b, L2.evS_b, L2.sliO_s, L2.oN, L2.oS_b, L2.prtO_s, Nat.reduceLT, decide_true, decide_false, L2.sPut_b, L2.putO_s, L2.setD_l, L2.sPop_b, L2.sPopAt_b, L2.popO_s, L2.popA_s, L2.sAug_b, L2.augO_i, L2.absD_i, L2.maxT2D_i, L2.minT2D_i, L2.sTakeD_b, L2.vC_b, L2.vcO_s, L2.evI2_b, L2.bi2O_s, L2.zipD_ll, L2.zpL_c, L2.zpL_nl, L2.zpL_nr, L2.sKApp_b, L2.sKClr_b, L2.kapO_t0, L2.kapO_t1, L2.kclO_t0, L2.kclO_t1, L2.evCh_b, L2.chO_t, L2.chO_f, L2.add3D_i, L2.toIntD_b, L2.sPopS_b, L2.popS_s, L2.sPopAtS_b, L2.sExt_b, L2.extO_s, L2.enumD_l, L2.enumD_t, L2.enL_n, L2.enL_c, L2.compT_c, L2.compT_n, L2.comTO_s, L2.comTI_t, L2.comTI_f, L2.compG_b, L2.comGO_s, L2.sDput_b, L2.dpO_s, L2.nxdO_s, L2.ev3_b, L2.triO_s, $ts,*] $[$loc]?)
namespace SF
open PySem L2
/-! the law's own helpers -/
def cellV (ns : List Int) (k : Int) : Int := ns.getD k.toNat 0
theorem cell_bd {ns : List Int} (h : ∀ k ∈ ns, Builtin.Int.intBits k ≤ 2 ^ 20) (k : Int) : Bd 1048576 (cellV ns k) := by
  unfold cellV
  by_cases hk : k.toNat < ns.length
  · rw [List.getD_eq_getElem?_getD, List.getElem?_eq_getElem hk]
    exact h _ (List.getElem_mem hk)
  · rw [List.getD_eq_getElem?_getD, List.getElem?_eq_none (by omega)]
    show Builtin.Int.intBits 0 ≤ 1048576
    decide
end SF

namespace SF
open PySem L2
/-! ### spots as data: sorted, in, ==, counted -/
abbrev Sp := Int × Int × Int
def eS (s : Sp) : PyData := .tuple [.int s.1, .int s.2.1, .int s.2.2]
def l3 (s : Sp) : List Int := [s.1, s.2.1, s.2.2]
def b3 : List Int → Sp
  | [a, b, c] => (a, b, c)
  | _ => (0, 0, 0)
theorem b3_l3 (s : Sp) : b3 (l3 s) = s := rfl
theorem l3_inj {a b : Sp} (h : l3 a = l3 b) : a = b := by rw [← b3_l3 a, h, b3_l3]
theorem map_eS (xs : List Sp) : xs.map eS = (xs.map l3).map tI := by rw [List.map_map]; rfl
theorem sorted_eS {xs : List Sp} (h : xs.length < 64) : ∃ ys : List Sp, sortedD [.list (xs.map eS)] = some (.list (ys.map eS)) ∧ ys.Perm xs ∧ (ys.map l3).Pairwise (fun a b => HT.lexLt b a = false) := by
  obtain ⟨mss, e, p, o⟩ := sortedD_tups (nss := xs.map l3) (by rw [List.length_map]; exact h) (by
    intro ns hn
    obtain ⟨x, _, rfl⟩ := List.mem_map.mp hn
    exact fun z => by cases z)
  have back : ∀ m ∈ mss, (l3 ∘ b3) m = id m := fun m hm => by
    obtain ⟨x, _, rfl⟩ := List.mem_map.mp (p.mem_iff.mp hm)
    rfl
  have hm : (mss.map b3).map l3 = mss := by
    rw [List.map_map]
    exact (List.map_congr_left back).trans (List.map_id mss)
  refine ⟨mss.map b3, ?_, ?_, ?_⟩
  · rw [map_eS, e, map_eS, hm]
  · have := p.map b3
    rw [List.map_map] at this
    have e2 : xs.map (b3 ∘ l3) = xs := (List.map_congr_left (fun x _ => rfl)).trans (List.map_id xs)
    rwa [e2] at this
  · rw [hm]; exact o
theorem sorted_same {as bs : List Sp} (p : as.Perm bs) (h1 : (as.map l3).Pairwise (fun a b => HT.lexLt b a = false)) (h2 : (bs.map l3).Pairwise (fun a b => HT.lexLt b a = false)) : as = bs := by
  have := sorted_unique (p.map l3) h1 h2
  have e := congrArg (List.map b3) this
  rw [List.map_map, List.map_map] at e
  have k : ∀ xs : List Sp, xs.map (b3 ∘ l3) = xs := fun xs => (List.map_congr_left (fun x _ => rfl)).trans (List.map_id xs)
  rwa [k, k] at e
theorem eqv_eS (a b : Sp) : PyData.eqv (eS a) (eS b) = decide (a = b) := by
  have : PyData.eqv (eS a) (eS b) = ((a.1 == b.1) && ((a.2.1 == b.2.1) && ((a.2.2 == b.2.2) && true))) := rfl
  rw [this]
  obtain ⟨a1, a2, a3⟩ := a
  obtain ⟨b1, b2, b3⟩ := b
  by_cases h1 : a1 = b1 <;> by_cases h2 : a2 = b2 <;> by_cases h3 : a3 = b3 <;> simp [h1, h2, h3]
theorem can_eS (xs : List Sp) : PyData.canLayAll0 (xs.map eS) = true ∧ PyData.depthAll (xs.map eS) ≤ 1 := by rw [map_eS]; exact can_tups _
theorem inOk_eS (xs : List Sp) (q : Sp) : inOk (xs.map eS) (eS q) = true := by
  unfold inOk
  rw [(can_eS xs).1, Bool.true_and, Bool.and_eq_true]
  exact ⟨rfl, rfl⟩
theorem inL_eS (xs : List Sp) (q : Sp) : inL (xs.map eS) (eS q) = decide (q ∈ xs) := by
  unfold inL
  rw [List.any_map]
  induction xs with
  | nil => rfl
  | cons x xs ih =>
    rw [List.any_cons, ih]
    show (PyData.eqv (eS x) (eS q) || _) = _
    rw [eqv_eS]
    by_cases h : x = q
    · subst h; rw [decide_eq_true rfl, Bool.true_or, decide_eq_true List.mem_cons_self]
    · rw [decide_eq_false h, Bool.false_or]
      by_cases h2 : q ∈ xs
      · rw [decide_eq_true h2, decide_eq_true (List.mem_cons_of_mem _ h2)]
      · rw [decide_eq_false h2, decide_eq_false (by rw [List.mem_cons]; rintro (rfl | z); exact h rfl; exact h2 z)]
theorem inD_eS (xs : List Sp) (q : Sp) : inD (eS q) (.list (xs.map eS)) = some (.bool (decide (q ∈ xs))) := by
  show (if inOk (xs.map eS) (eS q) = true then some (PyData.bool (inL (xs.map eS) (eS q))) else none) = _
  rw [inOk_eS, inL_eS]; rfl
theorem ninD_eS (xs : List Sp) (q : Sp) : ninD (eS q) (.list (xs.map eS)) = some (.bool (!decide (q ∈ xs))) := by
  show (if inOk (xs.map eS) (eS q) = true then some (PyData.bool (!inL (xs.map eS) (eS q))) else none) = _
  rw [inOk_eS, inL_eS]; rfl
theorem shaped_eS (xs : List Sp) : SeqAt.shaped (.list (xs.map eS)) = true := by
  have h := can_eS xs
  have h2 : PyData.depth (.list (xs.map eS)) = PyData.depthAll (xs.map eS) + 1 := rfl
  unfold SeqAt.shaped
  rw [h2, Bool.and_eq_true]
  exact ⟨h.1, decide_eq_true (by omega)⟩
theorem eqvL_eS : ∀ xs ys : List Sp, PyData.eqv (.list (xs.map eS)) (.list (ys.map eS)) = decide (xs = ys)
  | [], [] => rfl
  | [], _ :: _ => rfl
  | _ :: _, [] => rfl
  | x :: xs, y :: ys => by
    have : PyData.eqv (.list ((x :: xs).map eS)) (.list ((y :: ys).map eS)) = (PyData.eqv (eS x) (eS y) && PyData.eqv (.list (xs.map eS)) (.list (ys.map eS))) := rfl
    rw [this, eqv_eS, eqvL_eS, Bool.eq_iff_iff]
    simp
theorem neD_eS (xs ys : List Sp) : neD (.list (xs.map eS)) (.list (ys.map eS)) = some (.bool (!decide (xs = ys))) := by
  unfold neD
  rw [if_pos ⟨shaped_eS _, shaped_eS _⟩, eqvL_eS]
theorem eqD_eS (xs ys : List Sp) : eqD (.list (xs.map eS)) (.list (ys.map eS)) = some (.bool (decide (xs = ys))) := by
  unfold eqD
  rw [if_pos ⟨shaped_eS _, shaped_eS _⟩, eqvL_eS]
/-! loops: what holds of what was walked -/
theorem forD_ind {α : Type} (enc : α → PyData) {g : PyData → Rho → Option Rho} {u : Rho → Option Out} (I : List α → Rho → Prop) (all : List α) (step : ∀ a ∈ all, ∀ done ρ, done.length < all.length → I done ρ → ∃ ρ', ob (g (enc a) ρ) u = some (.nx ρ') ∧ I (done ++ [a]) ρ') :
    ∀ (as done : List α) (ρ : Rho), (∀ a ∈ as, a ∈ all) → done.length + as.length = all.length → I done ρ → ∃ ρ', forD g u (as.map enc) ρ = some (.nx ρ') ∧ I (done ++ as) ρ'
  | [], done, ρ, _, _, h => ⟨ρ, rfl, by rw [List.append_nil]; exact h⟩
  | a :: as, done, ρ, hm, hl, h => by
    rw [List.length_cons] at hl
    obtain ⟨ρ1, e1, h1⟩ := step a (hm a (.head _)) done ρ (by omega) h
    obtain ⟨ρ2, e2, h2⟩ := forD_ind enc I all step as (done ++ [a]) ρ1 (fun x hx => hm x (.tail _ hx)) (by rw [List.length_append, List.length_singleton]; omega) h1
    refine ⟨ρ2, ?_, by rw [List.append_assoc] at h2; exact h2⟩
    rw [List.map_cons, forD_c, e1, forO_nx]
    exact e2
theorem forD_all {α : Type} (enc : α → PyData) {g : PyData → Rho → Option Rho} {u : Rho → Option Out} (I : List α → Rho → Prop) (as : List α) (ρ : Rho) (h : I [] ρ) (step : ∀ a ∈ as, ∀ done ρ, done.length < as.length → I done ρ → ∃ ρ', ob (g (enc a) ρ) u = some (.nx ρ') ∧ I (done ++ [a]) ρ') :
    ∃ ρ', forD g u (as.map enc) ρ = some (.nx ρ') ∧ I as ρ' := by
  obtain ⟨ρ', e, i⟩ := forD_ind enc I as step as [] ρ (fun _ h => h) (by simp) h
  exact ⟨ρ', e, by rwa [List.nil_append] at i⟩
theorem compD_map {α : Type} (enc : α → PyData) {tt : Rho → Option Bool} {te : Rho → Option PyData} {ρ : Rho} (p : α → Bool) (f : α → PyData) : ∀ (as : List α), (∀ a ∈ as, tt (ρ ++ [some (enc a)]) = some (p a)) → (∀ a ∈ as, p a = true → te (ρ ++ [some (enc a)]) = some (f a)) → compD tt te ρ (as.map enc) = some ((as.filter p).map f)
  | [], _, _ => rfl
  | a :: as, h1, h2 => by
    have ih := compD_map enc p f as (fun x hx => h1 x (.tail _ hx)) (fun x hx => h2 x (.tail _ hx))
    rw [List.map_cons, compD_c, h1 a (.head _), List.filter_cons]
    cases e : p a with
    | true => rw [compO_t, h2 a (.head _) e, ih]; rfl
    | false => rw [compO_f, ih]; rfl
theorem compD_map' {α : Type} (enc : α → PyData) {te : Rho → Option PyData} {ρ : Rho} (f : α → PyData) (as : List α) (h2 : ∀ a ∈ as, te (ρ ++ [some (enc a)]) = some (f a)) : compD tT te ρ (as.map enc) = some (as.map f) := by
  have := compD_map enc (tt := tT) (te := te) (ρ := ρ) (fun _ => true) f as (fun _ _ => rfl) (fun a ha _ => h2 a ha)
  rwa [List.filter_eq_self.mpr (fun _ _ => rfl)] at this
/-! sides of a cube, crossings -/
def mid (c : Sp) : Sp := (2 * c.1 + 1, 2 * c.2.1 + 1, 2 * c.2.2 + 1)
def six (s : Sp) : List Sp := [(s.1 + -1, s.2.1, s.2.2), (s.1 + 1, s.2.1, s.2.2), (s.1, s.2.1 + -1, s.2.2), (s.1, s.2.1 + 1, s.2.2), (s.1, s.2.1, s.2.2 + -1), (s.1, s.2.1, s.2.2 + 1)]
def sides (cs : List Sp) : List Sp := cs.flatMap fun c => six (mid c)
def cr (a : Nat) (q s : Sp) : Bool := match a with
  | 0 => decide (s.1 % 2 = 0 ∧ s.1 > q.1 ∧ s.2.1 = q.2.1 ∧ s.2.2 = q.2.2)
  | 1 => decide (s.2.1 % 2 = 0 ∧ s.2.1 > q.2.1 ∧ s.1 = q.1 ∧ s.2.2 = q.2.2)
  | _ => decide (s.2.2 % 2 = 0 ∧ s.2.2 > q.2.2 ∧ s.1 = q.1 ∧ s.2.1 = q.2.1)
/-- just one number is even -/
def Sq (s : Sp) : Prop := (s.1 % 2 = 0 ∧ s.2.1 % 2 = 1 ∧ s.2.2 % 2 = 1) ∨ (s.1 % 2 = 1 ∧ s.2.1 % 2 = 0 ∧ s.2.2 % 2 = 1) ∨ (s.1 % 2 = 1 ∧ s.2.1 % 2 = 1 ∧ s.2.2 % 2 = 0)
end SF

namespace SF
open PySem L2
/-! more of lists -/
theorem atI_last {α : Type} (xs : List α) (v : α) : atI (xs ++ [v]) (-1) = some v := by
  unfold atI ixN
  rw [if_neg (by decide), if_pos (by rw [List.length_append, List.length_singleton]; omega)]
  have e : ((-1 : Int) + ((xs ++ [v]).length : Int)).toNat = xs.length := by
    rw [List.length_append, List.length_singleton]; omega
  show (xs ++ [v])[((-1 : Int) + ((xs ++ [v]).length : Int)).toNat]? = some v
  rw [e, List.getElem?_append_right (Nat.le_refl _)]
  simp
theorem popD_last (xs : List PyData) (v : PyData) : popD (.list (xs ++ [v])) = some (v, .list xs) := by
  show (ob ((xs ++ [v])[(xs ++ [v]).length - 1]?) fun d => some (d, PyData.list (xs ++ [v]).dropLast)) = _
  have e : (xs ++ [v])[(xs ++ [v]).length - 1]? = some v := by
    rw [List.length_append, List.length_singleton, Nat.add_sub_cancel, List.getElem?_append_right (Nat.le_refl _)]
    simp
  rw [e, List.dropLast_concat]
  rfl
theorem eqD_eSp (a b : Sp) : eqD (eS a) (eS b) = some (.bool (decide (a = b))) := by
  unfold eqD
  rw [if_pos ⟨rfl, rfl⟩, eqv_eS]
theorem neD_eSp (a b : Sp) : neD (eS a) (eS b) = some (.bool (!decide (a = b))) := by
  unfold neD
  rw [if_pos ⟨rfl, rfl⟩, eqv_eS]
theorem atI_map {α β : Type} {f : α → β} {xs : List α} {k : Int} {x : α} (h0 : 0 ≤ k) (h : xs[k.toNat]? = some x) : atI (xs.map f) k = some (f x) := by
  have e1 : ((k.toNat : Nat) : Int) = k := by omega
  have := atI_nat (xs := xs.map f) (j := k.toNat) (v := f x) (by rw [List.getElem?_map, h]; rfl)
  rwa [e1] at this
theorem seqIx {i : Int} {n : Nat} (h0 : 0 ≤ i) (h1 : i < (n : Int)) : seqIndex? i n = some i.toNat := by
  show (if (decide (0 ≤ (if i < 0 then i + (n : Int) else i)) && decide ((if i < 0 then i + (n : Int) else i) < (n : Int))) = true then some (if i < 0 then i + (n : Int) else i).toNat else none) = _
  have h : (if i < 0 then i + (n : Int) else i) = i := if_neg (by omega)
  rw [h, if_pos (by simp; omega)]
theorem map_erase {α β : Type} (f : α → β) : ∀ (xs : List α) (n : Nat), (xs.map f).eraseIdx n = (xs.eraseIdx n).map f
  | [], _ => rfl
  | _ :: _, 0 => rfl
  | x :: xs, n + 1 => congrArg (f x :: ·) (map_erase f xs n)
theorem seq_nx {u w : Rho → Option Out} {ρ ρ' : Rho} {r : Option Out} (h : u ρ = some (.nx ρ')) (h2 : w ρ' = r) : seqO u w ρ = r := by rw [seqO_b, h, bindO_nx]; exact h2
/-- a loop by what was walked, which is the list's first part -/
theorem forD_pre {α : Type} (enc : α → PyData) {g : PyData → Rho → Option Rho} {u : Rho → Option Out} (I : List α → Rho → Prop) (all : List α) (ρ : Rho) (h0 : I [] ρ) (step : ∀ a done rest ρ, all = done ++ a :: rest → I done ρ → ∃ ρ', ob (g (enc a) ρ) u = some (.nx ρ') ∧ I (done ++ [a]) ρ') :
    ∃ ρ', forD g u (all.map enc) ρ = some (.nx ρ') ∧ I all ρ' := by
  have key : ∀ (as done : List α) (ρ : Rho), all = done ++ as → I done ρ → ∃ ρ', forD g u (as.map enc) ρ = some (.nx ρ') ∧ I all ρ' := by
    intro as
    induction as with
    | nil => intro done ρ e h; rw [List.append_nil] at e; subst e; exact ⟨ρ, rfl, h⟩
    | cons a as ih =>
      intro done ρ e h
      obtain ⟨ρ1, e1, h1⟩ := step a done as ρ e h
      obtain ⟨ρ2, e2, h2⟩ := ih (done ++ [a]) ρ1 (by rw [e, List.append_assoc]; rfl) h1
      refine ⟨ρ2, ?_, h2⟩
      rw [List.map_cons, forD_c, e1, forO_nx]
      exact e2
  exact key all [] ρ rfl h0
theorem ixe0 (s : Sp) : ixD (eS s) (.int 0) = some (.int s.1) := rfl
theorem ixe1 (s : Sp) : ixD (eS s) (.int 1) = some (.int s.2.1) := rfl
theorem ixe2 (s : Sp) : ixD (eS s) (.int 2) = some (.int s.2.2) := rfl
theorem seqe (s : Sp) : seqD (eS s) = some [.int s.1, .int s.2.1, .int s.2.2] := rfl
theorem enume (s : Sp) : enumD (eS s) = some (enL 0 [.int s.1, .int s.2.1, .int s.2.2]) := rfl
theorem liste (s : Sp) : listD [eS s] = some (.list [.int s.1, .int s.2.1, .int s.2.2]) := rfl
theorem ix0 : ixN 3 0 = some 0 := rfl
theorem ix1 : ixN 3 1 = some 1 := rfl
theorem ix2 : ixN 3 2 = some 2 := rfl
theorem flat_i (i : Int) : flat (.int i) = true := rfl
theorem flat_b (i : Bool) : flat (.bool i) = true := rfl
theorem flat_t3 (a b c : Int) : flat (.tuple [.int a, .int b, .int c]) = true := rfl
theorem flat_eS (s : Sp) : flat (eS s) = true := rfl
theorem flatO_l3 (a b c : Int) : flatO (.list [.int a, .int b, .int c]) = true := rfl
theorem flatO_eS : ∀ xs : List Sp, flatO (.list (xs.map eS)) = true
  | [] => rfl
  | _ :: xs => flatO_eS xs
def BdS (n : Nat) (c : Sp) : Prop := Bd n c.1 ∧ Bd n c.2.1 ∧ Bd n c.2.2
theorem bd2 : Bd 2 2 := Bd.of (by decide)
theorem rngL_map (n : Nat) : rngL 0 n = (List.range n).map fun k => PyData.int (k : Nat) := by
  have : ∀ (n m : Nat), rngL (m : Nat) n = (List.range' m n).map fun k => PyData.int (k : Nat) := by
    intro n
    induction n with
    | zero => intro m; rfl
    | succ n ih =>
      intro m
      rw [rngL, List.range'_succ, List.map_cons, ← ih (m + 1)]
      rfl
  rw [List.range_eq_range']
  exact this n 0
/-! the stack of what stands there an odd number of times -/
def oddStep (os : List Sp) (a : Sp) : List Sp := if os.getLast? = some a then os.dropLast else os ++ [a]
theorem odd_step (os : List Sp) (a : Sp) : (∀ P : Sp → Bool, (oddStep os a).countP P % 2 = (os.countP P + [a].countP P) % 2) ∧ (∀ s ∈ oddStep os a, s ∈ os ∨ s = a) ∧ (oddStep os a).length ≤ os.length + 1 := by
  unfold oddStep
  split
  · rename_i h
    obtain ⟨init, rfl⟩ := List.getLast?_eq_some_iff.mp h
    rw [List.dropLast_concat]
    refine ⟨fun P => ?_, fun s hs => .inl (List.mem_append_left _ hs), by rw [List.length_append]; omega⟩
    rw [List.countP_append]
    omega
  · refine ⟨fun P => by rw [List.countP_append], fun s hs => ?_, by rw [List.length_append]; simp⟩
    rcases List.mem_append.mp hs with q | q
    · exact .inl q
    · exact .inr (by simpa using q)
end SF

namespace SF
open PySem L2
/-! a part of the script; spots that are near; a place in a list by a number -/
theorem cut_eq (ns : List Int) {a b : Nat} : ∃ ms : List Int, sliD (.list (ns.map .int)) (some (a : Int)) (some (b : Int)) = some (.list (ms.map .int)) ∧ ms.length ≤ b - a := by
  refine ⟨(ns.drop (HT.sIx (ns.map PyData.int).length 0 (some (a : Int)))).take (HT.sIx (ns.map PyData.int).length (ns.map PyData.int).length (some (b : Int)) - HT.sIx (ns.map PyData.int).length 0 (some (a : Int))), ?_, ?_⟩
  · show some (PyData.list (cutD (ns.map .int) (some (a : Int)) (some (b : Int)))) = _
    unfold cutD
    rw [← List.map_drop, ← List.map_take]
  · rw [List.length_take, List.length_drop, HT.sIx_nat, HT.sIx_nat, List.length_map]
    omega
def nearS (n : Nat) (c : Sp) : Prop := c.1.natAbs ≤ n ∧ c.2.1.natAbs ≤ n ∧ c.2.2.natAbs ≤ n
theorem near_bd {n : Nat} {c : Sp} (h : nearS n c) (hn : n < 2 ^ 200) : BdS 200 c := ⟨Bd.of (by have := h.1; omega), Bd.of (by have := h.2.1; omega), Bd.of (by have := h.2.2; omega)⟩
theorem emod3 (x : Int) : x % 3 = 0 ∨ x % 3 = 1 ∨ x % 3 = 2 := by omega
theorem emod_at {α : Type} {xs : List α} (x : Int) (h : 0 < xs.length) : ∃ y ∈ xs, xs[(x % (xs.length : Int)).toNat]? = some y := by
  have a1 := Int.emod_nonneg x (b := (xs.length : Int)) (by omega)
  have a2 := Int.emod_lt_of_pos x (b := (xs.length : Int)) (by omega)
  have hlt : (x % (xs.length : Int)).toNat < xs.length := by omega
  exact ⟨xs[(x % (xs.length : Int)).toNat], List.getElem_mem hlt, List.getElem?_eq_getElem hlt⟩
/-- the mixed number of a cell -/
def mixV (c : Int) : Int := c % 10 ^ 30 * 48271 % 2147483647
theorem mix_mul (c : Int) : mulD (.int (c % 10 ^ 30)) (.int 48271) = some (.int (c % 10 ^ 30 * 48271)) := by
  have a1 := Int.emod_nonneg c (b := 10 ^ 30) (by decide)
  have a2 := Int.emod_lt_of_pos c (b := 10 ^ 30) (by decide)
  exact mulD_ok (Bd.ok (n := 110) (m := 16) (Bd.of (by omega)) (Bd.of (by decide)))
/-! loops over the places of a list -/
theorem at_range {α β : Type} (f : α → β) {xs : List α} {k : Nat} (h : k ∈ List.range xs.length) : ∃ x ∈ xs, atI (xs.map f) (k : Int) = some (f x) := by
  have hk := List.mem_range.mp h
  exact ⟨xs[k], List.getElem_mem hk, atI_map (by omega) (by simp [List.getElem?_eq_getElem hk])⟩
end SF

namespace SF
open PySem L2
/-! ### papers as data -/
theorem cell36 (ns : List Int) (k : Int) (hk : 0 ≤ k) : f__law_cell [.list (ns.map .int), .int k] = some (.int (cellV ns k)) := by
  simp only [f__law_cell, u__law_cell]
  simp_arith []
  by_cases h : k < ((ns.map PyData.int).length : Int)
  · have h' : k.toNat < ns.length := by rw [List.length_map] at h; omega
    have e : atI (ns.map PyData.int) k = some (.int (cellV ns k)) := by
      have e1 : ((k.toNat : Nat) : Int) = k := by omega
      have := atI_nat (xs := ns.map PyData.int) (j := k.toNat) (v := .int (cellV ns k)) (by
        rw [List.getElem?_map, List.getElem?_eq_getElem h']
        unfold cellV
        rw [List.getD_eq_getElem?_getD, List.getElem?_eq_getElem h']
        rfl)
      rw [e1] at this
      exact this
    simp_arith [h, e]
  · have e0 : cellV ns k = 0 := by
      unfold cellV
      rw [List.getD_eq_getElem?_getD, List.getElem?_eq_none (by rw [List.length_map] at h; omega)]
      rfl
    simp_arith [h, e0]
inductive Pp where
  | leaf (s : Str) (l : PyData) | bend (i j : Int) (a b c : Pp)
def eT : Pp → PyData
  | .leaf s l => .tuple [.str s, l]
  | .bend i j a b c => .tuple [.str "bend", .int i, .int j, eT a, eT b, eT c]
def ends : Pp → List PyData
  | .leaf s l => [.tuple [.str s, l]]
  | .bend _ _ a b c => ends a ++ ends b ++ ends c
def nds : Pp → Nat
  | .leaf _ _ => 1
  | .bend _ _ a b c => nds a + nds b + nds c + 1
/-- what an end may hold -/
def OkL (l : PyData) : Prop := (∃ es, l = .list es ∧ flatL es = true ∧ es.length ≤ 5) ∨ (isLst l = false ∧ flat l = true)
/-- d: how deep; every end is right, and may be compared -/
inductive Ok : Nat → Pp → Prop
  | leaf {d : Nat} {s : Str} {l : PyData} : eqD (.str s) (.str "bend") = some (.bool false) → OkL l → PyData.canLay0 (.str s) = true → PyData.canLay0 l = true → PyData.depth l ≤ 3 → Ok d (.leaf s l)
  | bend {d : Nat} {i j : Int} {a b c : Pp} : Ok d a → Ok d b → Ok d c → Ok (d + 1) (.bend i j a b c)
theorem pow3 (d : Nat) : 0 < 3 ^ d := Nat.pow_pos (by decide)
theorem Ok.len {d : Nat} {t : Pp} (h : Ok d t) : (ends t).length ≤ 3 ^ d := by
  induction h with
  | leaf => exact pow3 _
  | bend _ _ _ ha hb hc =>
    unfold ends
    rw [List.length_append, List.length_append, Nat.pow_succ]
    omega
theorem Ok.size {d : Nat} {t : Pp} (h : Ok d t) : nds t + 1 ≤ 2 * 3 ^ d := by
  induction h with
  | @leaf d => have := pow3 d; unfold nds; omega
  | bend _ _ _ ha hb hc =>
    unfold nds
    rw [Nat.pow_succ]
    omega
theorem bend36 : eqD (.str "bend") (.str "bend") = some (.bool true) := by kernel_rfl
theorem ix2a (a b : PyData) : ixD (.tuple [a, b]) (.int 0) = some a := rfl
theorem ix2b (a b : PyData) : ixD (.tuple [a, b]) (.int 1) = some b := rfl
theorem ix6a (a b c d e f : PyData) : ixD (.tuple [a, b, c, d, e, f]) (.int 0) = some a := rfl
theorem ix6d (a b c d e f : PyData) : ixD (.tuple [a, b, c, d, e, f]) (.int 3) = some d := rfl
theorem ix6e (a b c d e f : PyData) : ixD (.tuple [a, b, c, d, e, f]) (.int 4) = some e := rfl
theorem ix6f (a b c d e f : PyData) : ixD (.tuple [a, b, c, d, e, f]) (.int 5) = some f := rfl
theorem ends36 : ∀ (n d : Nat) (t : Pp), d < n → d ≤ 5 → Ok d t → g_ends_of n [eT t] = some (.list (ends t))
  | 0, _, _, h, _, _ => absurd h (Nat.not_lt_zero _)
  | n + 1, d, t, hd, h5, ok => by
    cases ok with
    | @leaf _ s l hs hl _ _ _ =>
      have fs : flat (.str s) = true := rfl
      rcases hl with ⟨es, rfl, hf, _⟩ | ⟨hl, hf⟩
      · have fl : flatO (.list es) = true := hf
        simp only [g_ends_of, u_ends_of, eT, ends]
        simp_arith [ix2a, ix2b, hs, fs, fl]
      · have hi : isiT "list" l = false := by cases l <;> first | rfl | cases hl
        simp only [g_ends_of, u_ends_of, eT, ends]
        simp_arith [ix2a, ix2b, hs, fs, hi, hf]
    | @bend d i j a b c ha hb hc =>
      have ea := ends36 n d a (by omega) (by omega) ha
      have eb := ends36 n d b (by omega) (by omega) hb
      have ec := ends36 n d c (by omega) (by omega) hc
      have la := ha.len
      have lb := hb.len
      have lc := hc.len
      have hp : 3 ^ d ≤ 81 := Nat.pow_le_pow_right (by decide) (show d ≤ 4 by omega)
      have c1 : catL (.list (ends a)) (.list (ends b)) = some (.list (ends a ++ ends b)) := by
        unfold catL
        dsimp only
        rw [if_pos (by omega)]
      have c2 : catL (.list (ends a ++ ends b)) (.list (ends c)) = some (.list (ends a ++ ends b ++ ends c)) := by
        unfold catL
        dsimp only
        rw [if_pos (by rw [List.length_append]; omega)]
      simp only [g_ends_of, u_ends_of, eT, ends]
      simp_arith [ix6a, ix6d, ix6e, ix6f, bend36, ea, eb, ec, c1, c2]
/-! ### the pile -/
theorem wh36 {t : Rho → Option Bool} {body : Rho → Option Out} (I : Nat → Rho → Prop) (step : ∀ m ρ, I m ρ → t ρ = some false ∨ (t ρ = some true ∧ ∃ ρ' m', body ρ = some (.nx ρ') ∧ m' < m ∧ I m' ρ')) :
    ∀ (fuel m : Nat) (ρ : Rho), m < fuel → I m ρ → ∃ ρ' m', whileD t body fuel ρ = some (.nx ρ') ∧ I m' ρ' ∧ t ρ' = some false
  | 0, _, _, h, _ => absurd h (Nat.not_lt_zero _)
  | fuel + 1, m, ρ, h, i => by
    rcases step m ρ i with e | ⟨e, ρ1, m1, e1, hm, i1⟩
    · refine ⟨ρ, m, ?_, i, e⟩
      show ob (t ρ) _ = _
      rw [e]; rfl
    · obtain ⟨ρ2, m2, e2, i2, e3⟩ := wh36 I step fuel m1 ρ1 (by omega) i1
      refine ⟨ρ2, m2, ?_, i2, e3⟩
      show ob (t ρ) _ = _
      rw [e, ob_s, if_pos rfl, e1, ob_s]
      exact e2
def sum36 (rs : List Pp) : Nat := rs.foldr (fun t n => nds t + n) 0
theorem nds_pos (t : Pp) : 0 < nds t := by cases t <;> unfold nds <;> omega
theorem sum_len : ∀ rs : List Pp, rs.length ≤ sum36 rs
  | [] => Nat.le_refl _
  | t :: rs => by
    have := sum_len rs
    have := nds_pos t
    show rs.length + 1 ≤ nds t + sum36 rs
    omega
theorem pop36 (xs : List PyData) (x : PyData) : popD (.list (xs ++ [x])) = some (x, .list xs) := by
  unfold popD
  simp
  rfl
theorem walked36 {t : Pp} (ok : Ok 5 t) : f__law_walked [eT t] = some (.list (ends t)) := by
  have hlen := ok.len
  have hsz := ok.size
  have p5 : 3 ^ 5 = 243 := rfl
  rw [p5] at hlen hsz
  obtain ⟨ρ', m', ew, ⟨made, rs, o3, rfl, hok, hall, hm, hle⟩, et⟩ := wh36 (t := tV (ev2 (evA (aC (vr 2) aN) lenD) (kd (.int 0)) gtD)) (body := b__law_walked_0)
    (fun m ρ => ∃ (made : List PyData) (rs : List Pp) (o3 : Option PyData), ρ = [some (eT t), some (.list made), some (.list (rs.reverse.map eT)), o3] ∧ (∀ r ∈ rs, ∃ d, Ok d r) ∧ made ++ rs.flatMap ends = ends t ∧ m = sum36 rs ∧ m ≤ nds t) (by
      rintro m ρ ⟨made, rs, o3, rfl, hok, hall, rfl, hle⟩
      have hl := sum_len rs
      have hml := congrArg List.length hall
      rw [List.length_append] at hml
      cases rs with
      | nil =>
        refine .inl ?_
        have : lenD [.list (([] : List Pp).reverse.map eT)] = some (.int 0) := rfl
        simp_arith [this]
      | cons x rs =>
        refine .inr ⟨?_, ?_⟩
        · have hln : lenD [.list ((x :: rs).reverse.map eT)] = some (.int ((rs.length + 1 : Nat) : Int)) := by rw [lenD_l, List.length_map, List.length_reverse, List.length_cons]
          have hgt : decide ((0 : Int) < ((rs.length + 1 : Nat) : Int)) = true := decide_eq_true (by omega)
          simp_arith [hln, hgt]
        · have hrev : (x :: rs).reverse.map eT = rs.reverse.map eT ++ [eT x] := by rw [List.reverse_cons, List.map_append]; rfl
          have hp := pop36 (rs.reverse.map eT) (eT x)
          have hsum : sum36 (x :: rs) = nds x + sum36 rs := rfl
          rw [List.length_cons] at hl
          obtain ⟨d, hx⟩ := hok x (.head _)
          rw [hrev]
          cases hx with
          | @leaf _ s l hs hl2 _ _ _ =>
            have hz : made.length < 1000 := by omega
            refine ⟨[some (eT t), some (.list (made ++ [eT (.leaf s l)])), some (.list (rs.reverse.map eT)), some (eT (.leaf s l))], sum36 rs, ?_, by rw [hsum]; have := nds_pos (.leaf s l); omega, made ++ [eT (.leaf s l)], rs, _, rfl, fun r hr => hok r (.tail _ hr), by rw [← hall, List.flatMap_cons, List.append_assoc]; rfl, rfl, by rw [hsum] at hle; omega⟩
            simp only [eT] at hp ⊢
            simp_arith [hp, ix2a, hs, hz]
          | @bend d i j a b c ha hb hc =>
            have hex : extD (.list (rs.reverse.map eT)) (.list [eT c, eT b, eT a]) = some (.list ((a :: b :: c :: rs).reverse.map eT)) := by
              have e2 : (a :: b :: c :: rs).reverse.map eT = rs.reverse.map eT ++ [eT c, eT b, eT a] := by simp
              rw [e2]
              unfold extD
              dsimp only
              rw [if_pos (by rw [List.length_map, List.length_reverse]; show rs.length + 3 ≤ 1000; omega)]
            refine ⟨[some (eT t), some (.list made), some (.list ((a :: b :: c :: rs).reverse.map eT)), some (eT (.bend i j a b c))], sum36 (a :: b :: c :: rs), ?_, ?_, made, a :: b :: c :: rs, _, rfl, fun r hr => ?_, ?_, rfl, ?_⟩
            · simp only [eT] at hp ⊢
              simp_arith [hp, ix6a, ix6d, ix6e, ix6f, bend36, hex]
            · rw [hsum]
              show nds a + (nds b + (nds c + sum36 rs)) < nds a + nds b + nds c + 1 + sum36 rs
              omega
            · rcases List.mem_cons.mp hr with rfl | hr
              · exact ⟨_, ha⟩
              · rcases List.mem_cons.mp hr with rfl | hr
                · exact ⟨_, hb⟩
                · rcases List.mem_cons.mp hr with rfl | hr
                  · exact ⟨_, hc⟩
                  · exact hok r (.tail _ hr)
            · rw [← hall]
              simp only [List.flatMap_cons, ends, List.append_assoc]
            · rw [hsum] at hle
              have hb2 : nds (.bend i j a b c) = nds a + nds b + nds c + 1 := rfl
              rw [hb2] at hle
              show nds a + (nds b + (nds c + sum36 rs)) ≤ nds t
              omega) 1000000 (sum36 [t]) [some (eT t), some (.list []), some (.list ([t].reverse.map eT)), none] (by show nds t + 0 < 1000000; omega) ⟨[], [t], none, rfl, fun r hr => ⟨5, by rw [List.mem_singleton.mp hr]; exact ok⟩, by simp, rfl, Nat.le_refl _⟩
  have hrs : rs = [] := by
    cases rs with
    | nil => rfl
    | cons x rs =>
      have hln : lenD [.list ((x :: rs).reverse.map eT)] = some (.int ((rs.length + 1 : Nat) : Int)) := by rw [lenD_l, List.length_map, List.length_reverse, List.length_cons]
      have hgt : decide ((0 : Int) < ((rs.length + 1 : Nat) : Int)) = true := decide_eq_true (by omega)
      simp_arith [hln, hgt] at et
      cases et
  subst hrs
  have hmade : made = ends t := by rw [← hall]; simp
  have ew2 : sWhile (tV (ev2 (evA (aC (vr 2) aN) lenD) (kd (.int 0)) gtD)) b__law_walked_0 [some (eT t), some (.list []), some (.list [eT t]), none] = some (.nx [some (eT t), some (.list made), some (.list []), o3]) := ew
  simp only [f__law_walked, u__law_walked]
  simp_arith [ew2, hmade]
end SF

namespace SF
open PySem L2
/-! ### what may be compared is equal to itself -/
mutual
theorem eqv_self : ∀ d : PyData, PyData.canLay0 d = true → PyData.eqv d d = true
  | .none, _ => rfl
  | .bool b, _ => by cases b <;> rfl
  | .int i, _ => by show (i == i) = true; simp
  | .str x, _ => by show (x == x) = true; simp
  | .list xs, h => eqv_selfs xs h
  | .tuple xs, h => eqv_selfs xs h
  | .dict _, h => nomatch h
theorem eqv_selfs : ∀ ds : List PyData, PyData.canLayAll0 ds = true → PyData.eqvAll ds ds = true
  | [], _ => rfl
  | d :: ds, h => by
    have h : (PyData.canLay0 d && PyData.canLayAll0 ds) = true := h
    rw [Bool.and_eq_true] at h
    show (PyData.eqv d d && PyData.eqvAll ds ds) = true
    rw [eqv_self d h.1, eqv_selfs ds h.2]
    rfl
end
theorem eq_self {d : PyData} (h : SeqAt.shaped d = true) : eqD d d = some (.bool true) ∧ neD d d = some (.bool false) := by
  have h0 : PyData.canLay0 d = true := by unfold SeqAt.shaped at h; rw [Bool.and_eq_true] at h; exact h.1
  unfold eqD neD
  rw [if_pos ⟨h, h⟩, if_pos ⟨h, h⟩, eqv_self d h0]
  exact ⟨rfl, rfl⟩
theorem shaped_of {d : PyData} (h : PyData.canLay0 d = true) (k : PyData.depth d ≤ 64) : SeqAt.shaped d = true := by
  unfold SeqAt.shaped
  rw [h, decide_eq_true k]
  rfl
theorem lay_app : ∀ as bs : List PyData, PyData.canLayAll0 as = true → PyData.canLayAll0 bs = true → PyData.canLayAll0 (as ++ bs) = true
  | [], _, _, h => h
  | a :: as, bs, h1, h2 => by
    have h1 : (PyData.canLay0 a && PyData.canLayAll0 as) = true := h1
    rw [Bool.and_eq_true] at h1
    show (PyData.canLay0 a && PyData.canLayAll0 (as ++ bs)) = true
    rw [h1.1, lay_app as bs h1.2 h2]
    rfl
theorem dep_app (n : Nat) : ∀ as bs : List PyData, PyData.depthAll as ≤ n → PyData.depthAll bs ≤ n → PyData.depthAll (as ++ bs) ≤ n
  | [], _, _, h => h
  | a :: as, bs, h1, h2 => by
    have h1 : max (PyData.depth a) (PyData.depthAll as) ≤ n := h1
    have := dep_app n as bs (by omega) h2
    show max (PyData.depth a) (PyData.depthAll (as ++ bs)) ≤ n
    omega
theorem Ok.lay {d : Nat} {t : Pp} (h : Ok d t) : PyData.canLay0 (eT t) = true ∧ PyData.depth (eT t) ≤ d + 4 ∧ PyData.canLayAll0 (ends t) = true ∧ PyData.depthAll (ends t) ≤ 4 := by
  have bl : PyData.canLay0 (.str "bend") = true := by kernel_rfl
  induction h with
  | @leaf d s l _ _ h1 h2 h3 =>
    have hc : PyData.canLay0 (.tuple [.str s, l]) = true := by
      show (PyData.canLay0 (.str s) && (PyData.canLay0 l && true)) = true
      rw [h1, h2]; rfl
    have hd : PyData.depth (.tuple [.str s, l]) = max 0 (max (PyData.depth l) 0) + 1 := rfl
    refine ⟨hc, by show PyData.depth (.tuple [.str s, l]) ≤ _; rw [hd]; omega, by show (PyData.canLay0 (.tuple [.str s, l]) && true) = true; rw [hc]; rfl, ?_⟩
    show max (PyData.depth (.tuple [.str s, l])) 0 ≤ 4
    rw [hd]; omega
  | @bend d i j a b c _ _ _ ha hb hc =>
    refine ⟨?_, ?_, lay_app _ _ (lay_app _ _ ha.2.2.1 hb.2.2.1) hc.2.2.1, dep_app 4 _ _ (dep_app 4 _ _ ha.2.2.2 hb.2.2.2) hc.2.2.2⟩
    · show (PyData.canLay0 (.str "bend") && (true && (true && (PyData.canLay0 (eT a) && (PyData.canLay0 (eT b) && (PyData.canLay0 (eT c) && true)))))) = true
      rw [bl, ha.1, hb.1, hc.1]
      rfl
    · show max 0 (max 0 (max 0 (max (PyData.depth (eT a)) (max (PyData.depth (eT b)) (max (PyData.depth (eT c)) 0))))) + 1 ≤ _
      have := ha.2.1
      have := hb.2.1
      have := hc.2.1
      omega
/-! ### the ends that the law draws -/
theorem flat_ints36 : ∀ xs : List Int, flatL (xs.map .int) = true ∧ PyData.canLayAll0 (xs.map .int) = true ∧ PyData.depthAll (xs.map .int) = 0
  | [] => ⟨rfl, rfl, rfl⟩
  | x :: xs => by
    obtain ⟨h1, h2, h3⟩ := flat_ints36 xs
    exact ⟨h1, h2, by show max 0 (PyData.depthAll (xs.map .int)) = 0; rw [h3]; rfl⟩
theorem flat_sps36 : ∀ xs : List (Int × Int × Int), flatL (xs.map fun x => .tuple [.int x.1, .int x.2.1, .int x.2.2]) = true ∧ PyData.canLayAll0 (xs.map fun x => .tuple [.int x.1, .int x.2.1, .int x.2.2]) = true ∧ PyData.depthAll (xs.map fun x => .tuple [.int x.1, .int x.2.1, .int x.2.2]) ≤ 1
  | [] => ⟨rfl, rfl, Nat.zero_le _⟩
  | x :: xs => by
    obtain ⟨h1, h2, h3⟩ := flat_sps36 xs
    refine ⟨h1, h2, ?_⟩
    show max 1 (PyData.depthAll _) ≤ 1
    omega
theorem rng36 {n : Int} (h0 : 0 ≤ n) (h1 : n ≤ 900) : (if (-1000 : Int) ≤ n ∧ n ≤ 1000 then some (rngL 0 n.toNat) else none) = some ((List.range n.toNat).map fun k : Nat => PyData.int (k : Nat)) := by
  rw [if_pos (by omega), rngL_map]
theorem emod4 (x : Int) : x % 4 = 0 ∨ x % 4 = 1 ∨ x % 4 = 2 ∨ x % 4 = 3 := by omega
theorem leaf36 (d : Nat) {s : Str} {l : PyData} (h1 : eqD (.str s) (.str "bend") = some (.bool false)) (h2 : PyData.canLay0 (.str s) = true) (h3 : OkL l) (h4 : PyData.canLay0 l = true) (h5 : PyData.depth l ≤ 3) : Ok d (.leaf s l) := .leaf h1 h3 h2 h4 h5
theorem end36 (d : Nat) (c : Int) (hc : Bd 1200000 c) : ∃ t, f__law_end [.int c] = some (eT t) ∧ Ok d t := by
  have h5 : 0 ≤ c / 4 % 5 ∧ c / 4 % 5 < 5 := ⟨by omega, by omega⟩
  have hr := rng36 (n := c / 4 % 5) (by omega) (by omega)
  let xs : List Int := (List.range (c / 4 % 5).toNat).map fun k : Nat => c / (7 + 5 * (k : Int)) % 24
  have hl : xs.length ≤ 4 := by show ((List.range _).map _).length ≤ 4; rw [List.length_map, List.length_range]; omega
  have hcomp : compD tT (ev2 (ev2 (vr 0) (ev2 (kd (.int 7)) (ev2 (kd (.int 5)) (vr 2) mulD) add3D) fdivD) (kd (.int 24)) modD) [some (.int c), none] ((List.range (c / 4 % 5).toNat).map fun k : Nat => PyData.int (k : Nat)) = some (xs.map .int) := by
    show _ = some (((List.range _).map _).map _)
    rw [List.map_map]
    refine compD_map' (fun k : Nat => PyData.int (k : Nat)) (fun k : Nat => .int (c / (7 + 5 * (k : Int)) % 24)) _ fun k hk => ?_
    have hk := List.mem_range.mp hk
    have m1 : mulD (.int 5) (.int (k : Nat)) = some (.int (5 * (k : Int))) := mulD_ok ((Bd.of (n := 3) (by decide)).ok (Bd.of (n := 10) (by omega)))
    have d1 : fdivD (.int c) (.int (7 + 5 * (k : Int))) = some (.int (c / (7 + 5 * (k : Int)))) := fdiv_pos c (by omega) (by omega)
    simp_arith [m1, d1]
  have hz : ((List.range (c / 4 % 5).toNat).map fun k : Nat => PyData.int (k : Nat)).length ≤ 1000 := by rw [List.length_map, List.length_range]; omega
  obtain ⟨f1, f2, f3⟩ := flat_ints36 xs
  have okx : OkL (.list (xs.map .int)) := .inl ⟨_, rfl, f1, by rw [List.length_map]; omega⟩
  have dpx : PyData.depth (.list (xs.map .int)) ≤ 3 := by show PyData.depthAll _ + 1 ≤ 3; rw [f3]; decide
  clear_value xs
  rcases emod4 c with h | h | h | h
  · refine ⟨.leaf "ring" (.list (xs.map .int)), ?_, leaf36 d (by kernel_rfl) (by kernel_rfl) okx f2 dpx⟩
    simp only [f__law_end, u__law_end, eT]
    simp_arith [hr, hz, hcomp, h]
  · refine ⟨.leaf "clash" (.list (xs.map .int)), ?_, leaf36 d (by kernel_rfl) (by kernel_rfl) okx f2 dpx⟩
    simp only [f__law_end, u__law_end, eT]
    simp_arith [hr, hz, hcomp, h]
  · refine ⟨.leaf "open" (.tuple [.int (2 * (c % 9) - 8), .int (2 * (c / 9 % 9) - 8), .int (2 * (c / 81 % 9) + 1)]), ?_, leaf36 d (by kernel_rfl) (by kernel_rfl) (.inr ⟨rfl, rfl⟩) rfl (by show 1 ≤ 3; decide)⟩
    have mm : ∀ y : Int, mulD (.int 2) (.int (y % 9)) = some (.int (2 * (y % 9))) := fun y => mulD_ok ((Bd.of (n := 2) (by decide)).ok (Bd.of (n := 8) (by omega)))
    simp only [f__law_end, u__law_end, eT]
    simp_arith [hr, hz, hcomp, h, mm]
  · have hr2 := rng36 (n := 1 + c / 125 % 4) (by omega) (by omega)
    let ys : List (Int × Int × Int) := (List.range (1 + c / 125 % 4).toNat).map fun k : Nat => (c / 5 % 5 - 2, (k : Int), c / 25 % 5)
    have hcomp2 : compD tT (evA (aC (ev2 (ev2 (ev2 (vr 0) (kd (.int 5)) fdivD) (kd (.int 5)) modD) (kd (.int 2)) subD) (aC (vr 2) (aC (ev2 (ev2 (vr 0) (kd (.int 25)) fdivD) (kd (.int 5)) modD) aN))) tupD) [some (.int c), some (.list (xs.map .int))] ((List.range (1 + c / 125 % 4).toNat).map fun k : Nat => PyData.int (k : Nat)) = some (ys.map fun x => .tuple [.int x.1, .int x.2.1, .int x.2.2]) := by
      show _ = some (((List.range _).map _).map _)
      rw [List.map_map]
      refine compD_map' (fun k : Nat => PyData.int (k : Nat)) (fun k : Nat => .tuple [.int (c / 5 % 5 - 2), .int (k : Nat), .int (c / 25 % 5)]) _ fun k hk => ?_
      simp_arith []
    have hz2 : ((List.range (1 + c / 125 % 4).toNat).map fun k : Nat => PyData.int (k : Nat)).length ≤ 1000 := by rw [List.length_map, List.length_range]; omega
    have hl2 : ys.length ≤ 5 := by show ((List.range _).map _).length ≤ 5; rw [List.length_map, List.length_range]; omega
    obtain ⟨g1, g2, g3⟩ := flat_sps36 ys
    clear_value ys
    refine ⟨.leaf "closed" (.list (ys.map fun x : Int × Int × Int => .tuple [.int x.1, .int x.2.1, .int x.2.2])), ?_, leaf36 d (by kernel_rfl) (by kernel_rfl) (.inl ⟨ys.map fun x => .tuple [.int x.1, .int x.2.1, .int x.2.2], rfl, g1, by rw [List.length_map]; exact hl2⟩) g2 (by show PyData.depthAll _ + 1 ≤ 3; omega)⟩
    simp only [f__law_end, u__law_end, eT]
    simp_arith [hr, hz, hcomp, h, hr2, hz2, hcomp2]
theorem drawn36 {ns : List Int} (hb : ∀ k ∈ ns, Builtin.Int.intBits k ≤ 2 ^ 20) : ∀ (n d : Nat) (at0 : Int), d < n → 0 ≤ at0 → at0 < 2 ^ (40 - 4 * d) → d ≤ 4 → ∃ t, g__law_drawn n [.list (ns.map .int), .int at0, .int (d : Nat)] = some (eT t) ∧ Ok d t
  | 0, _, _, h, _, _, _ => absurd h (Nat.not_lt_zero _)
  | n + 1, d, at0, hn, h0, h1, h4 => by
    have hat : at0 < 2 ^ 40 := Int.lt_of_lt_of_le h1 (by
      have : (2 : Nat) ^ (40 - 4 * d) ≤ 2 ^ 40 := Nat.pow_le_pow_right (by decide) (by omega)
      exact_mod_cast this)
    have ck := cell36 ns (at0 % 61) (by omega)
    have cb := cell_bd hb (at0 % 61)
    generalize cellV ns (at0 % 61) = x at ck cb
    have m1 := mulD_ok (cb.ok (show Bd 16 48271 from Bd.of (by decide)))
    have ba : Bd 41 at0 := Bd.of (by omega)
    have b7 : Bd 13 7919 := Bd.of (by decide)
    have m2 := mulD_ok (b7.ok ba)
    have m3 := mulD_ok ((b7.mul ba).ok ba)
    have m4 : mulD (.int 3) (.int at0) = some (.int (3 * at0)) := mulD_ok ((Bd.of (n := 2) (by decide)).ok ba)
    have q1 := Int.emod_nonneg (x * 48271) (b := 1000003) (by decide)
    have q2 := Int.emod_lt_of_pos (x * 48271) (b := 1000003) (by decide)
    have q3 := Int.emod_nonneg (7919 * at0 * at0) (b := 1009) (by decide)
    have q4 := Int.emod_lt_of_pos (7919 * at0 * at0) (b := 1009) (by decide)
    have e61 : modD (.int at0) (.int 61) = some (.int (at0 % 61)) := mod_pos _ (by decide)
    have e1 : modD (.int (x * 48271)) (.int 1000003) = some (.int (x * 48271 % 1000003)) := mod_pos _ (by decide)
    have e2 : modD (.int (7919 * at0 * at0)) (.int 1009) = some (.int (7919 * at0 * at0 % 1009)) := mod_pos _ (by decide)
    have hcc : ∃ c : Int, c = x * 48271 % 1000003 + 7919 * at0 * at0 % 1009 ∧ 0 ≤ c ∧ c < 2000000 := ⟨_, rfl, by omega, by omega⟩
    obtain ⟨c, hc, c0, c1⟩ := hcc
    rw [show ∀ ds, g__law_drawn (n + 1) ds = ob (u__law_drawn (g__law_drawn n) (rho0 N__law_drawn.length ds)) outD from fun _ => rfl]
    obtain ⟨t0, et, ok0⟩ := end36 d (c / 4) (Bd.of (by
      have : c / 4 < 2000000 := by omega
      have h2 : (2000000 : Nat) < 2 ^ 1200000 := Nat.lt_of_lt_of_le (show 2000000 < 2 ^ 40 by decide) (Nat.pow_le_pow_right (by decide) (by decide))
      omega))
    by_cases hd : d = 0
    · subst hd
      refine ⟨t0, ?_, ok0⟩
      unfold u__law_drawn
      simp_arith [e61, ck, m1, e1, m2, m3, e2, ← hc, et]
    · have hdz : (((d : Nat) : Int) == 0) = false := beq_eq_false_iff_ne.mpr (by omega)
      by_cases hm : c % 4 = 0
      · have hmz : (c % 4 == 0) = true := by rw [hm]; rfl
        refine ⟨t0, ?_, ok0⟩
        unfold u__law_drawn
        simp_arith [e61, ck, m1, e1, m2, m3, e2, ← hc, hdz, hmz, et]
      · have hmz : (c % 4 == 0) = false := beq_eq_false_iff_ne.mpr hm
        obtain ⟨d', rfl⟩ : ∃ d', d = d' + 1 := ⟨d - 1, by omega⟩
        have hsub : (((d' + 1 : Nat) : Int) - 1) = ((d' : Nat) : Int) := by omega
        have pw : (2 : Int) ^ (40 - 4 * d') = 2 ^ (40 - 4 * (d' + 1)) * 16 := by
          have : 40 - 4 * d' = 40 - 4 * (d' + 1) + 4 := by omega
          rw [this, Int.pow_add]
          rfl
        have pp : (0 : Int) < 2 ^ (40 - 4 * (d' + 1)) := Int.pow_pos (by decide)
        have lim : ∀ k : Int, k ≤ 3 → 3 * at0 + k < 2 ^ (40 - 4 * d') := fun k hk => by
          rw [pw]
          generalize (2 : Int) ^ (40 - 4 * (d' + 1)) = Q at h1 pp
          omega
        obtain ⟨ta, ea, oa⟩ := drawn36 hb n d' (3 * at0 + 1) (by omega) (by omega) (lim 1 (by decide)) (by omega)
        obtain ⟨tb, eb, ob'⟩ := drawn36 hb n d' (3 * at0 + 2) (by omega) (by omega) (lim 2 (by decide)) (by omega)
        obtain ⟨tc, ec, oc⟩ := drawn36 hb n d' (3 * at0 + 3) (by omega) (by omega) (lim 3 (by decide)) (by omega)
        have j0 : ∀ a b c : PyData, ixD (.list [a, b, c]) (.int 0) = some a := fun _ _ _ => rfl
        have j1 : ∀ a b c : PyData, ixD (.list [a, b, c]) (.int 1) = some b := fun _ _ _ => rfl
        have j2 : ∀ a b c : PyData, ixD (.list [a, b, c]) (.int 2) = some c := fun _ _ _ => rfl
        refine ⟨.bend (c / 4 % 24) (c / 4 % 24 + 1 + c / 96 % 24) ta tb tc, ?_, .bend oa ob' oc⟩
        unfold u__law_drawn
        simp only [eT]
        simp_arith [e61, ck, m1, e1, m2, m3, e2, ← hc, hdz, hmz, m4, hsub, ea, eb, ec, j0, j1, j2]
theorem ends_ok {d : Nat} {t : Pp} (h : Ok d t) (p1 p2 : Rho → Option Bool) (n j : Nat) (hp : ∀ s l, p1 (row1 n j (.tuple [.str s, l])) = some false) (hq : ∀ s es, p2 (row1 n j (.tuple [.str s, .list es])) = some true) (hq2 : ∀ s l, isLst l = false → p2 (row1 n j (.tuple [.str s, l])) = some false) : (ends t).all (wrOk p1 p2 n j) = true := by
  induction h with
  | @leaf d s l _ hl _ _ _ =>
    unfold ends
    rw [List.all_cons, List.all_nil, Bool.and_true]
    rcases hl with ⟨es, rfl, _, hlen⟩ | ⟨hl, _⟩
    · show (decide _ && decide _ && decide _) = true
      rw [decide_eq_true (hp _ _), decide_eq_true (hq _ _), decide_eq_true (by omega)]
      rfl
    · have : wrOk p1 p2 n j (.tuple [.str s, l]) = (decide (p1 (row1 n j (.tuple [.str s, l])) = some false) && decide (p2 (row1 n j (.tuple [.str s, l])) = some false)) := by cases l <;> first | rfl | cases hl
      rw [this, decide_eq_true (hp _ _), decide_eq_true (hq2 _ _ hl)]
      rfl
  | bend _ _ _ ha hb hc =>
    unfold ends
    rw [List.all_append, List.all_append, ha, hb, hc]
    rfl
theorem law_holds (ns : List Int) (_ : ns.length ≤ 63) (hb : ∀ k ∈ ns, Builtin.Int.intBits k ≤ 2 ^ 20) : f_law [.list (ns.map .int)] = some (.bool true) := by
  obtain ⟨t, ed, ok4⟩ := drawn36 hb 6 4 0 (by decide) (by decide) (by decide) (by decide)
  have ed : f__law_drawn [.list (ns.map .int), .int 0, .int 4] = some (eT t) := ed
  have ok5 : Ok 5 t := by
    have up : ∀ {d : Nat} {t : Pp}, Ok d t → Ok (d + 1) t := fun h => by
      induction h with
      | leaf h1 h2 h3 h4 h5 => exact .leaf h1 h2 h3 h4 h5
      | bend _ _ _ ha hb hc => exact .bend ha hb hc
    exact up ok4
  have ew := walked36 ok5
  have ee : f_ends_of [eT t] = some (.list (ends t)) := ends36 6 4 t (by decide) (by decide) ok4
  have hlen := ok4.len
  have p4 : 3 ^ 4 = 81 := rfl
  rw [p4] at hlen
  obtain ⟨l1, l2, l3, l4⟩ := ok4.lay
  obtain ⟨q1, -⟩ := eq_self (shaped_of l1 (by omega))
  have shl : SeqAt.shaped (.list (ends t)) = true := shaped_of l3 (by show PyData.depthAll _ + 1 ≤ 64; omega)
  obtain ⟨q2, q3⟩ := eq_self shl
  have il : isLs f_ends_of [eT t] = some (.list (ends t)) := by unfold isLs; rw [ee]; rfl
  have okc : Ok 4 (.leaf "closed" (.list [.tuple [.int 0, .int 0, .int 0]])) := leaf36 4 (by kernel_rfl) (by kernel_rfl) (.inl ⟨_, rfl, rfl, by decide⟩) rfl (by show 2 ≤ 3; decide)
  have ec : f_ends_of [.tuple [.str "closed", .list [.tuple [.int 0, .int 0, .int 0]]]] = some (.list [.tuple [.str "closed", .list [.tuple [.int 0, .int 0, .int 0]]]]) := ends36 6 4 _ (by decide) (by decide) okc
  have ic : isLs f_ends_of [.tuple [.str "closed", .list [.tuple [.int 0, .int 0, .int 0]]]] = some (.list [.tuple [.str "closed", .list [.tuple [.int 0, .int 0, .int 0]]]]) := by unfold isLs; rw [ec]; rfl
  have qc : eqD (.list [.tuple [.str "closed", .list [.tuple [.int 0, .int 0, .int 0]]]]) (.list [.tuple [.str "closed", .list [.tuple [.int 0, .int 0, .int 0]]]]) = some (.bool true) := by kernel_rfl
  have key : ∀ (p0 p1 p2 : Rho → Option Bool) (u : Rho → Option Out), p0 [some (.list (ns.map .int)), some (eT t), some (eT t), some (.list (ends t)), none] = some false → (∀ s l, p1 (row1 5 4 (.tuple [.str s, l])) = some false) → (∀ s es, p2 (row1 5 4 (.tuple [.str s, .list es])) = some true) → (∀ s l, isLst l = false → p2 (row1 5 4 (.tuple [.str s, l])) = some false) →
      wreckO 3 4 (evC 1 (aC (vr 1) aN) f_ends_of) p0 p1 p2 u [some (.list (ns.map .int)), some (eT t), some (eT t), none, none] = u [some (.list (ns.map .int)), some (eT t), some (eT t), none, none] := fun p0 p1 p2 u h0 h1 h2 h3 => by
    unfold wreckO
    have e1 : evC 1 (aC (vr 1) aN) f_ends_of [some (.list (ns.map .int)), some (eT t), some (eT t), none, none] = some (.list (ends t)) := by simp_arith [ee]
    rw [e1, ob_s]
    exact if_pos ⟨show 3 < 5 by decide, show 4 < 5 by decide, h0, ends_ok ok4 p1 p2 5 4 h1 h2 h3, by omega⟩
  simp only [f_law, u_law]
  simp_arith [ed]
  rw [key]
  · simp_arith [q1, ic, qc, il, ew, q2]
  · simp_arith [ew, q3]
  · intro s l
    unfold row1
    simp_arith [ix2a]
  · intro s es
    unfold row1
    simp_arith [ix2b]
  · intro s l hl
    have hi : isiT "list" l = false := by cases l <;> first | rfl | cases hl
    unfold row1
    simp_arith [ix2b, hi]
end SF

namespace SF
open PySem L2
theorem all_mk {l : PySem.W.OpenLaw} {w : World} {K : PySem.W.Frag} {h : Heap} {mg : Str → Option Value} {fa f5 : Addr} (X : K.In h) (G : h.Ns mainGlobals mg) (hfa : mg "law" = some (.ref fa))
    {od5 an5 : Option Addr} {sl5 : Array (Option Value)} {oc5 kV5 dc5 pm5 cd5 ct5 : Value}
    (h0 : FnK K "ends_of" s_ends_of)
    (h1 : FnK K "_law_cell" s__law_cell)
    (h2 : FnK K "_law_end" s__law_end)
    (h3 : FnK K "_law_drawn" s__law_drawn)
    (h4 : FnK K "_law_walked" s__law_walked)
    (a5 : PySem.W.nsIn K mainGlobals "law" = some (some (.ref f5))) (l5 : K.lookup f5 = some ⟨oc5, od5, .func (PySem.W.fnOf "law" "law" (defArgs s_law) (defBody s_law) (defScope s_law) .none kV5 dc5 pm5 an5 cd5 ct5), sl5⟩) (c5 : PySem.W.codeIn K cd5 "law" = true) (k5 : PySem.W.keepIn K (.ref f5) = true)
    (z0 : PySem.W.nsIn K mainGlobals "isinstance" = some none)
    (z1 : PySem.W.nsIn K mainGlobals "list" = some none)
    (z2 : PySem.W.nsIn K mainGlobals "len" = some none)
    (z3 : PySem.W.nsIn K mainGlobals "range" = some none)
    (z4 : PySem.W.nsIn K mainGlobals "tuple" = some none)
    (z5 : PySem.W.nsIn K mainGlobals "str" = some none)
    : ∃ fd : FuncData, (∀ (s : Shared) (v : Value), BindsTo s fd ⟨[v], []⟩ [("_law_script", v)]) ∧ ∀ base : Heap, K.In base → base.Ns mainGlobals mg → FnOk l.prog w K mg base CX0 9 fa fd ["_law_script"] (spLawT K 63) := by
  have g {n : Str} {v : Value} (e : PySem.W.nsIn K mainGlobals n = some (some v)) : mg n = some v := PySem.W.mg_of X G e
  have e := hfa.symm.trans (g a5)
  cases e
  obtain ⟨f0, d0, a0, F0⟩ := h0
  have b0 := F0.binds (ps := ["paper"]) fun _ _ _ _ _ _ us hl => match us, hl with | [_], _ => rfl
  obtain ⟨f1, d1, a1, F1⟩ := h1
  have b1 := F1.binds (ps := ["_law_script", "_law_k"]) fun _ _ _ _ _ _ us hl => match us, hl with | [_, _], _ => rfl
  obtain ⟨f2, d2, a2, F2⟩ := h2
  have b2 := F2.binds (ps := ["_law_cell_here"]) fun _ _ _ _ _ _ us hl => match us, hl with | [_], _ => rfl
  obtain ⟨f3, d3, a3, F3⟩ := h3
  have b3 := F3.binds (ps := ["_law_script", "_law_at", "_law_room"]) fun _ _ _ _ _ _ us hl => match us, hl with | [_, _, _], _ => rfl
  obtain ⟨f4, d4, a4, F4⟩ := h4
  have b4 := F4.binds (ps := ["_law_paper"]) fun _ _ _ _ _ _ us hl => match us, hl with | [_], _ => rfl
  have F5 := fun_mk (st := s_law) l5 c5 k5
  have z_isinstance := PySem.W.mg_none_of X G z0
  have z_list := PySem.W.mg_none_of X G z1
  have z_len := PySem.W.mg_none_of X G z2
  have z_range := PySem.W.mg_none_of X G z3
  have z_tuple := PySem.W.mg_none_of X G z4
  have z_str := PySem.W.mg_none_of X G z5
  refine ⟨PySem.W.fnOf "law" "law" (defArgs s_law) (defBody s_law) (defScope s_law) .none kV5 dc5 pm5 an5 cd5 ct5, fun s v => .of_eq rfl, fun base _ _ => ?_⟩
  have b5 := F5.binds (ps := ["_law_script"]) fun _ _ _ _ _ _ us hl => match us, hl with | [_], _ => rfl
  have K_ends_of := k_ends_of l.prog w base F0 (g a0) b0 z_isinstance z_list
  have K__law_cell := k__law_cell l.prog w base F1 (g a1) b1 z_len
  have K__law_end := k__law_end l.prog w base F2 (g a2) b2 z_range
  have K__law_drawn := k__law_drawn l.prog w base F3 (g a3) b3 K__law_cell K__law_end
  have K__law_walked := k__law_walked l.prog w base F4 (g a4) b4 z_len
  exact law_true (ok_law l.prog w base F5 K__law_drawn K_ends_of K__law_walked z_isinstance z_list z_tuple z_str) law_holds
end SF
open PySem PySem.W PyProof.Rows
set_option maxRecDepth 100000 in
set_option maxHeartbeats 0 in
theorem PySem.Challenge.cw_sheetfold_k36_ends_in_order_holds : PySem.Challenge.rw_sheetfold_k36_ends_in_order.Holds := by
  w_on; o_law
  refine PySem.W.holds_open (q := HD.vw) (YP := (PySem.W.kHook HD.KH HD.kA HD.kE).says) HD.left (PySem.W.Hook.of _) (PySem.W.Hook.keeps _) (fun s e => PySem.W.xl_of s (Bool.and_eq_true_iff.mp e).1) PySem.W.XL.keeps (by rfl) (by rfl) (by rfl) (fun s e => PySem.W.recFacts_of (Bool.and_eq_true_iff.mp e).2) (by rfl) (by first | assumption | decide +kernel) (by decide +kernel) ⟨rfl, rfl, rfl, rfl, rfl, by decide +kernel⟩ ?hw ?hc
  case hw => w_witness2
  k_fill
  refine L2.walk_pure (l := PySem.Challenge.rw_sheetfold_k36_ends_in_order) (n := 63) (k := 9) (x := "_law_script") rfl (by decide) rfl ⟨rfl, by decide, by decide, rfl⟩ (fun w h Y => PySem.W.kIn_of Y) ?F
  case F =>
    intro w mg fa h KX G hmg
    refine' SF.all_mk KX G hmg ?_ ?_ ?_ ?_ ?_ ?_ ?_ ?_ ?_ ?_ ?_ ?_ ?_ ?_ ?_
    all_goals try first | k_is | exact L2.FnK.of (by k_is) (by k_is) (by k_is) (by k_is) | kernel_rfl
