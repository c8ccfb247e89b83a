import PyProof.Rows.All
import Wide.All
import OpenK.AllK
import Wide.FinOn
import Lean
import PyProof.EqAt
import PyProof.EqKinds
import PyProof.TupleCall
import PySem.Challenge.RW_sheetfold_k31_solids_turned
set_option Elab.async false
set_option linter.all false
set_option maxRecDepth 100000
/-! THE HAND LAYER, for ints, bools, texts, own classes, LISTS and tuples (index, slices, in, append, pop ..), calls, loops. Paste it whole ahead of your own text; what your proof does not reach may be deleted. -/
namespace L2
open PySem PySem.Spec PyProof.Rows

/-- a key: an int or a str -/
abbrev Key := Sum Int Str
def keyIs : Key → Value → Bool
  | .inl k, v => Value.isInt k v
  | .inr x, v => Value.isStrOf x v
def keyH (w : World) : Key → Int
  | .inl k => hashInt k
  | .inr x => hashStr w x
theorem keyIs_shape : ∀ {k : Key} {v : Value}, keyIs k v = true → (∃ i t, k = Sum.inl i ∧ v = Value.int i t) ∨ (∃ x t, k = Sum.inr x ∧ v = Value.str x t)
  | .inl i, v, h => by
    obtain ⟨t, e⟩ := Value.isInt_shape (k := i) (v := v) h
    exact .inl ⟨i, t, rfl, e⟩
  | .inr x, v, h => by
    obtain ⟨t, e⟩ := Value.isStrOf_shape (x := x) (v := v) h
    exact .inr ⟨x, t, rfl, e⟩
theorem key_ll (a b : Int) : decide ((Sum.inl a : Key) = Sum.inl b) = (a == b) := by
  by_cases e : a = b
  · subst e; simp
  · have h : ¬ (Sum.inl a : Key) = Sum.inl b := fun q => e (Sum.inl.inj q)
    rw [decide_eq_false h]
    exact (beq_eq_false_iff_ne.mpr e).symm
theorem key_rr (a b : Str) : decide ((Sum.inr a : Key) = Sum.inr b) = decide (a = b) := by
  by_cases e : a = b
  · subst e; simp
  · have h : ¬ (Sum.inr a : Key) = Sum.inr b := fun q => e (Sum.inr.inj q)
    rw [decide_eq_false h, decide_eq_false e]
theorem key_lr (a : Int) (b : Str) : decide ((Sum.inl a : Key) = Sum.inr b) = false := decide_eq_false (fun q => nomatch q)
theorem key_rl (a : Str) (b : Int) : decide ((Sum.inr a : Key) = Sum.inl b) = false := decide_eq_false (fun q => nomatch q)

def mixKind (prog : Program) (w : World) : PySem.KeyKind prog w Key where
  is := keyIs
  hash := keyH w
  inj := fun v a b ha hb => by
    rcases keyIs_shape ha with ⟨i, t, rfl, rfl⟩ | ⟨x, t, rfl, rfl⟩
    · rcases keyIs_shape hb with ⟨j, u, rfl, e⟩ | ⟨y, u, rfl, e⟩
      · injection e with e1 _; rw [e1]
      · exact nomatch e
    · rcases keyIs_shape hb with ⟨j, u, rfl, e⟩ | ⟨y, u, rfl, e⟩
      · exact nomatch e
      · injection e with e1 _; rw [e1]
  byValue := fun k v h => by
    rcases keyIs_shape h with ⟨i, t, rfl, rfl⟩ | ⟨x, t, rfl, rfl⟩ <;> rfl
  pyHash := fun hv h => by
    rcases keyIs_shape hv with ⟨i, t, rfl, rfl⟩ | ⟨x, t, rfl, rfl⟩
    · exact wpAny_pyHash_int h
    · exact wpAny_pyHash_str h
  eqBool := fun hu hv h => by
    rcases keyIs_shape hu with ⟨i, t, rfl, rfl⟩ | ⟨x, t, rfl, rfl⟩
    · rcases keyIs_shape hv with ⟨j, u, rfl, rfl⟩ | ⟨y, u, rfl, rfl⟩
      · rw [key_ll] at h; exact wpAny_eqBool_int h
      · rw [key_lr] at h; exact SeqAt.EqAt.int_str i t y u _ _ _ _ h
    · rcases keyIs_shape hv with ⟨j, u, rfl, rfl⟩ | ⟨y, u, rfl, rfl⟩
      · rw [key_rl] at h; exact SeqAt.EqAt.str_int x t j u _ _ _ _ h
      · rw [key_rr] at h; exact wpAny_eqBool_str h
  «strs» := fun k x t v h => by
    rcases keyIs_shape h with ⟨i, u, rfl, e⟩ | ⟨y, u, rfl, e⟩
    · exact nomatch e
    · injection e with e1 _
      subst e1
      cases v <;> rfl

end L2

namespace L2
open PySem PySem.Spec PyProof.Rows

/-- a value, without the heap -/
inductive V where
  | non | bl (b : Bool) | int (i : Int) | str (x : Str) | byt (b : Array UInt8) | flt (b : UInt64) | ref (a : Addr) | ty (n : String)
  deriving DecidableEq

def RelV : V → Value → Prop
  | .non, u => u = Value.none
  | .bl b, u => u = Value.bool b
  | .int i, u => ∃ t, u = Value.int i t
  | .str x, u => ∃ t, u = Value.str x t
  | .byt b, u => ∃ t, u = Value.bytes b t
  | .flt b, u => ∃ t, u = Value.float b t
  | .ref a, u => u = Value.ref a
  | .ty n, u => u = Value.type n

abbrev Vals : List V → List Value → Prop := Paired RelV
theorem Vals.length {xs : List V} {us : List Value} (r : Vals xs us) : xs.length = us.length := Paired.length r
theorem Vals.get : ∀ {xs : List V} {us : List Value} {i : Nat} {x : V}, Vals xs us → xs[i]? = some x → ∃ u, us[i]? = some u ∧ RelV x u
  | _, _, _, _, .nil, e => by simp at e
  | _, _, 0, _, .cons r _, e => by simp at e; subst e; exact ⟨_, rfl, r⟩
  | _, _, i + 1, x, .cons _ t, e => by
    obtain ⟨u, h1, h2⟩ := Vals.get (i := i) (x := x) t (by simpa using e)
    exact ⟨u, by simpa using h1, h2⟩
theorem Vals.set {x : V} {u : Value} (r : RelV x u) : ∀ {xs : List V} {us : List Value} (i : Nat), Vals xs us → Vals (xs.set i x) (us.set i u)
  | _, _, _, .nil => .nil
  | _, _, 0, .cons _ t => .cons r t
  | _, _, i + 1, .cons q t => .cons q (Vals.set r i t)
theorem Vals.append : ∀ {xs ys : List V} {us ws : List Value}, Vals xs us → Vals ys ws → Vals (xs ++ ys) (us ++ ws)
  | _, _, _, _, .nil, s => s
  | _, _, _, _, .cons r t, s => .cons r (Vals.append t s)
theorem Vals.take : ∀ {xs : List V} {us : List Value} (n : Nat), Vals xs us → Vals (xs.take n) (us.take n)
  | _, _, 0, _ => .nil
  | _, _, _ + 1, .nil => .nil
  | _, _, n + 1, .cons r t => .cons r (Vals.take n t)
theorem Vals.drop : ∀ {xs : List V} {us : List Value} (n : Nat), Vals xs us → Vals (xs.drop n) (us.drop n)
  | _, _, 0, r => r
  | _, _, _ + 1, .nil => .nil
  | _, _, n + 1, .cons _ t => Vals.drop n t
def RelO : Option V → Option Value → Prop
  | some v, some u => RelV v u
  | none, none => True
  | _, _ => False
def KV {κ : Type} : List (κ × V) → List (κ × Value) → Prop := Paired fun (p : κ × V) (q : κ × Value) => p.1 = q.1 ∧ RelV p.2 q.2

/-- a key of a dict (00_mix): an int or a text -/
def kV : Key → V
  | .inl i => .int i
  | .inr x => .str x

/-- what stands at a tracked address -/
inductive HO where
  /-- a list -/
  | lst (xs : List V)
  /-- a tuple (never changes) -/
  | tup (xs : List V)
  /-- a dict whose keys are ints and texts; one whose keys are tuples of ints and texts (the empty one is both) -/
  | dK (kvs : List (Key × V)) | dT (kvs : List (List Key × V))
  /-- a set of ints: its members, its size -/
  | set (S : Int → Bool) (n : Nat)
  /-- an instance of the class at C, its dict at dx, its attributes -/
  | ins (C dx : Addr) (fs : List (Str × V))
  /-- the dict of the instance at x -/
  | own (x : Addr)
  /-- the dict of an exception -/
  | xd (fs : List (Str × V))
  /-- a bound method, f of x -/
  | met (f x : Addr)
  /-- a range object lo, lo + 1, .. below hi -/
  | rng (lo hi : Int)
  /-- a thing that is known to the object (the script; a dict while a loop walks it): read, never written while it is so -/
  | frz (o : Obj) (u : HO)
  /-- a code object's table -/
  | tbl (ps : Array Value)
  /-- any other thing, by what is true of its one object (a def of one's own: SetO a S n := HO.ext fun h => ..) -/
  | ext (φ : Heap → Prop)

abbrev Hp := Addr → Option HO
def upd (H : Hp) (a : Addr) (o : HO) : Hp := fun b => if b = a then some o else H b
theorem upd_same {H : Hp} {a : Addr} {o : HO} : upd H a o a = some o := by unfold upd; rw [if_pos rfl]
theorem upd_ne {H : Hp} {a b : Addr} {o : HO} (h : b ≠ a) : upd H a o b = H b := by unfold upd; rw [if_neg h]
theorem ne_of_none {H : Hp} {a b : Addr} {o : HO} (h : H a = some o) (h' : H b = none) : a ≠ b := by
  intro e; subst e; rw [h] at h'; cases h'

section
variable (P : Program) (w : World)
def ObjOk (H : Hp) (h : Heap) (a : Addr) : HO → Prop
  | .lst xs => xs.length ≤ sizeLine ∧ ∃ (its : List Value) (n : Nat), Vals xs its ∧ h.get? a = some { cls := .type "list", data := .seq its.toArray n }
  | .tup xs => xs.length ≤ sizeLine ∧ ∃ its : List Value, Vals xs its ∧ IsTup h a its.toArray
  | .dK kvs => kvs.length ≤ sizeLine ∧ (a == sysModules) = false ∧ ∃ vs, KV kvs vs ∧ h.DictOf (mixKind P w) a vs
  | .dT kvs => kvs.length ≤ sizeLine ∧ (a == sysModules) = false ∧ ∃ xs : List (List Key × Addr × Value),
      Paired (fun (p : List Key × V) (q : List Key × Addr × Value) => p.1 = q.1 ∧ H q.2.1 = some (.tup (p.1.map kV)) ∧ RelV p.2 q.2.2) kvs xs ∧
      ∃ o es ep, h.get? a = some o ∧ o.ExactDict ∧ o.data = .dict es ep ∧ es.toList = xs.map (entryOfKey (tupleKind (mixKind P w))) ∧ (xs.map (·.1)).Nodup
  | .set S n => h.SetOf (intKind P w) a S n
  | .ins C dx fs => H dx = some (.own a) ∧ fs.length ≤ 1000 ∧ dx ≠ a ∧ h.get? a = some (PySem.W.instObj C dx) ∧
      ∃ mA, h.Ns1 dx mA ∧ (∀ f, RelO (fs.lookup f) (mA f)) ∧ PySem.Within mA (fs.map (·.1))
  | .own _ => ∃ o, h.get? a = some o
  | .xd fs => ∃ mA, h.Ns1 a mA ∧ ∀ f, RelO (fs.lookup f) (mA f)
  | .rng lo hi => ∃ t u v, h.get? a = some { cls := .type "range", data := .fields #[.int lo t, .int hi u, .int 1 v] }
  | .frz o u => h.get? a = some o ∧ ObjOk H h a u
  | .tbl ps => h.get? a = some { cls := .none, data := .fields ps }
  | .met f x => h.get? a = some (PySem.W.methodObj (.ref f) (.ref x))
  | .ext φ => φ h ∧ (∃ o, h.get? a = some o) ∧ ∀ h1 h2 : Heap, φ h1 → (∀ o, h1.get? a = some o → h2.get? a = some o) → φ h2
/-- the abstract heap is held -/
def HOk (H : Hp) (h : Heap) : Prop := ∀ a o, H a = some o → ObjOk P w H h a o
end

section
variable {P : Program} {w : World} {H H' : Hp} {h h' : Heap} {a : Addr} {o : HO}
theorem ObjOk.lt (x : ObjOk P w H h a o) : a < h.objs.size := by
  cases o with
  | lst xs => obtain ⟨_, _, _, _, e⟩ := x; exact Heap.lt_size e
  | tup xs => obtain ⟨_, _, _, p⟩ := x; exact p.lt
  | dK kvs => obtain ⟨_, _, _, _, o, _, _, e, _⟩ := x; exact Heap.lt_size e
  | dT kvs => obtain ⟨_, _, _, _, o, _, _, e, _⟩ := x; exact Heap.lt_size e
  | set S n => obtain ⟨o, _, _, _, e, _⟩ := x; exact Heap.lt_size e
  | ins C dx fs => obtain ⟨_, _, _, e, _⟩ := x; exact Heap.lt_size e
  | own y => obtain ⟨_, e⟩ := x; exact Heap.lt_size e
  | xd fs => obtain ⟨_, ⟨_, _, _, e, _⟩, _⟩ := x; exact Heap.lt_size e
  | rng lo hi => obtain ⟨_, _, _, e⟩ := x; exact Heap.lt_size e
  | frz ob u => obtain ⟨e, _⟩ := x; exact Heap.lt_size e
  | tbl ps => exact Heap.lt_size (show h.get? a = some _ from x)
  | met f y => exact Heap.lt_size (show h.get? a = some _ from x)
  | ext φ => obtain ⟨_, ⟨_, e⟩, _⟩ := x; exact Heap.lt_size e
theorem Paired.mapP {α β : Type} {F G : α → β → Prop} : ∀ {l₁ : List α} {l₂ : List β}, Paired F l₁ l₂ → (∀ a b, F a b → G a b) → Paired G l₁ l₂
  | _, _, .nil, _ => .nil
  | _, _, .cons r t, f => .cons (f _ _ r) (Paired.mapP t f)
/-- what an object's description leans on: its own object, its own dict, the tuples -/
theorem ObjOk.stay (x : ObjOk P w H h a o) (k : ∀ b u, (b = a ∨ H b = some (.own a)) → h.get? b = some u → h'.get? b = some u)
    (ho : ∀ b, H b = some (.own a) → H' b = some (.own a)) (ht : ∀ b xs, H b = some (.tup xs) → H' b = some (.tup xs)) : ObjOk P w H' h' a o := by
  induction o with
  | lst xs => obtain ⟨z, its, n, r, e⟩ := x; exact ⟨z, its, n, r, k _ _ (.inl rfl) e⟩
  | tup xs => obtain ⟨z, its, r, ob, e, c⟩ := x; exact ⟨z, its, r, ob, k _ _ (.inl rfl) e, c⟩
  | dK kvs => obtain ⟨z, y, vs, r, ob, es, ep, e, c⟩ := x; exact ⟨z, y, vs, r, ob, es, ep, k _ _ (.inl rfl) e, c⟩
  | dT kvs =>
    obtain ⟨z, y, xs, r, ob, es, ep, e, c⟩ := x
    exact ⟨z, y, xs, Paired.mapP r fun p q z => ⟨z.1, ht _ _ z.2.1, z.2.2⟩, ob, es, ep, k _ _ (.inl rfl) e, c⟩
  | set S n => obtain ⟨ob, es, ep, t, e, c⟩ := x; exact ⟨ob, es, ep, t, k _ _ (.inl rfl) e, c⟩
  | ins C dx fs =>
    obtain ⟨d, z, ne, e, mA, ⟨od, es, ep, e2, c⟩, r⟩ := x
    exact ⟨ho _ d, z, ne, k _ _ (.inl rfl) e, mA, ⟨od, es, ep, k _ _ (.inr d) e2, c⟩, r⟩
  | own y => obtain ⟨ob, e⟩ := x; exact ⟨ob, k _ _ (.inl rfl) e⟩
  | xd fs => obtain ⟨mA, ⟨od, es, ep, e, c⟩, r⟩ := x; exact ⟨mA, ⟨od, es, ep, k _ _ (.inl rfl) e, c⟩, r⟩
  | rng lo hi => obtain ⟨t, u, v, e⟩ := x; exact ⟨t, u, v, k _ _ (.inl rfl) e⟩
  | frz ob u ih => obtain ⟨e, q⟩ := x; exact ⟨k _ _ (.inl rfl) e, ih q⟩
  | tbl ps =>
    have e : h.get? a = some { cls := .none, data := .fields ps } := x
    show h'.get? a = some { cls := .none, data := .fields ps }
    exact k a _ (.inl rfl) e
  | met f y =>
    have e : h.get? a = some (PySem.W.methodObj (.ref f) (.ref y)) := x
    show h'.get? a = some (PySem.W.methodObj (.ref f) (.ref y))
    exact k a _ (.inl rfl) e
  | ext φ => obtain ⟨p, ⟨o, e⟩, st⟩ := x; exact ⟨st _ _ p fun o q => k _ _ (.inl rfl) q, ⟨o, k _ _ (.inl rfl) e⟩, st⟩
theorem HOk.lt (x : HOk P w H h) (e : H a = some o) : a < h.objs.size := (x a o e).lt
theorem HOk.fresh (x : HOk P w H h) (e : h.objs.size ≤ a) : H a = none := by
  cases q : H a with
  | none => rfl
  | some u => exact absurd (Nat.lt_of_lt_of_le (x.lt q) e) (Nat.lt_irrefl _)
/-- every object of the heap is kept -/
theorem HOk.kept (x : HOk P w H h) (k : ∀ b u, h.get? b = some u → h'.get? b = some u) : HOk P w H h' := fun a o e =>
  (x a o e).stay (fun b u _ q => k b u q) (fun _ q => q) fun _ _ q => q
/-- a new object is laid and tracked -/
theorem HOk.laid (x : HOk P w H h) (k : ∀ b u, h.get? b = some u → h'.get? b = some u) (hp : h.objs.size ≤ a) (new : ObjOk P w (upd H a o) h' a o) : HOk P w (upd H a o) h' := fun b u e => by
  have hn := x.fresh hp
  by_cases hb : b = a
  · subst hb; rw [upd_same] at e; cases e; exact new
  · rw [upd_ne hb] at e
    exact (x b u e).stay (fun c v _ q => k c v q) (fun c q => by rw [upd_ne (ne_of_none q hn)]; exact q) fun c xs q => by rw [upd_ne (ne_of_none q hn)]; exact q
end

/-- what may be read as u: it is u, or a known u -/
def Rd (H : Hp) (a : Addr) (u : HO) : Prop := H a = some u ∨ ∃ o, H a = some (.frz o u)
theorem Rd.of {H : Hp} {a : Addr} {u : HO} (h : H a = some u) : Rd H a u := .inl h
theorem Rd.ok {P : Program} {w : World} {H : Hp} {h : Heap} {a : Addr} {u : HO} (r : Rd H a u) (x : HOk P w H h) : ObjOk P w H h a u := by
  rcases r with r | ⟨o, r⟩
  · exact x a u r
  · obtain ⟨_, q⟩ := x a _ r
    exact q
/-- what may be written -/
def Mut : Option HO → Prop
  | some (.lst _) => True
  | some (.dK _) => True
  | some (.dT _) => True
  | some (.set _ _) => True
  | some (.ins _ _ _) => True
  | some (.ext _) => True
  | _ => False
section
variable {P : Program} {w : World} {H : Hp} {h h' : Heap} {x e : Addr} {o' : HO}
/-- the object at e is changed: x itself, or the dict of the instance x -/
theorem HOk.write (ok : HOk P w H h) (mu : Mut (H x)) (he : e = x ∨ H e = some (.own x)) (k : ∀ b u, b ≠ e → h.get? b = some u → h'.get? b = some u) (heo : ∃ u, h'.get? e = some u)
    (new : ObjOk P w (upd H x o') h' x o') : HOk P w (upd H x o') h' := fun b u q => by
  have nown : ∀ c y, H c = some (.own y) → c ≠ x := fun c y r z => by subst z; rw [r] at mu; exact mu
  have ntup : ∀ c xs, H c = some (.tup xs) → c ≠ x := fun c xs r z => by subst z; rw [r] at mu; exact mu
  by_cases hb : b = x
  · subst hb; rw [upd_same] at q; cases q; exact new
  · rw [upd_ne hb] at q
    by_cases hbe : b = e
    · have q' : H b = some (.own x) := by
        rcases he with z | z
        · exact absurd (hbe.trans z) hb
        · rw [hbe]; exact z
      rw [q] at q'; cases q'
      obtain ⟨v, hv⟩ := heo
      exact ⟨v, by rw [hbe]; exact hv⟩
    · refine (ok b u q).stay (fun c v hc r => k c v ?_ r) (fun c r => by rw [upd_ne (nown c b r)]; exact r) fun c xs r => by rw [upd_ne (ntup c xs r)]; exact r
      rcases hc with rfl | hc
      · exact hbe
      · rintro rfl
        rcases he with z | z
        · exact nown c b hc z
        · rw [hc] at z; cases z; exact hb rfl
end

/-! ### kept unless tracked; of the frames at fs (the callers') the slots may change (an exception that passes writes there); of the records at ex (iterators) nothing is said -/
structure Un (fs ex : List Addr) (H H' : Hp) (h h' : Heap) : Prop where
  keep : ∀ b o, h.get? b = some o → H b = none → b ∉ fs → b ∉ ex → h'.get? b = some o
  slot : ∀ b o, h.get? b = some o → H b = none → b ∈ fs → b ∉ ex → ∃ sl, h'.get? b = some { o with slots := sl }
  free : ∀ b o, h.get? b = some o → H b = none → b ∉ ex → H' b = none
  there : ∀ b o, h.get? b = some o → b ∉ ex → ∃ o', h'.get? b = some o'
  tups : ∀ b xs, H b = some (.tup xs) → H' b = some (.tup xs)
  frzs : ∀ b o u, H b = some (.frz o u) → H' b = some (.frz o u)
  tbls : ∀ b ps, H b = some (.tbl ps) → ∃ more, H' b = some (.tbl (ps ++ more))
section
variable {fs fs' ex ex' : List Addr} {H H1 H2 : Hp} {h h1 h2 h' : Heap} {a x e : Addr} {o : HO}
theorem Un.any (u : Un fs ex H H1 h h1) {b : Addr} {ob : Obj} (q : h.get? b = some ob) (n : H b = none) (hx : b ∉ ex) : ∃ sl, h1.get? b = some { ob with slots := sl } := by
  by_cases hb : b ∈ fs
  · exact u.slot b ob q n hb hx
  · exact ⟨ob.slots, u.keep b ob q n hb hx⟩
theorem Un.trans (a : Un fs ex H H1 h h1) (b : Un fs ex H1 H2 h1 h2) : Un fs ex H H2 h h2 where
  keep := fun c ob q n hc hx => b.keep c ob (a.keep c ob q n hc hx) (a.free c ob q n hx) hc hx
  slot := fun c ob q n hc hx => by
    obtain ⟨sl, e1⟩ := a.slot c ob q n hc hx
    obtain ⟨sl', e2⟩ := b.slot c _ e1 (a.free c ob q n hx) hc hx
    exact ⟨sl', e2⟩
  free := fun c ob q n hx => by
    obtain ⟨o', e1⟩ := a.there c ob q hx
    exact b.free c o' e1 (a.free c ob q n hx) hx
  there := fun c ob q hx => by
    obtain ⟨o', e1⟩ := a.there c ob q hx
    exact b.there c o' e1 hx
  tups := fun c xs q => b.tups c xs (a.tups c xs q)
  frzs := fun c ob xs q => b.frzs c ob xs (a.frzs c ob xs q)
  tbls := fun c ps q => by
    obtain ⟨m1, e1⟩ := a.tbls c ps q
    obtain ⟨m2, e2⟩ := b.tbls c _ e1
    exact ⟨m1 ++ m2, by rw [e2, Array.append_assoc]⟩
theorem Un.kept (k : ∀ b u, h.get? b = some u → h'.get? b = some u) : Un fs ex H H h h' :=
  ⟨fun b ob q _ _ _ => k b ob q, fun b ob q _ _ _ => ⟨ob.slots, k b ob q⟩, fun _ _ _ n _ => n, fun b ob q _ => ⟨ob, k b ob q⟩, fun _ _ q => q, fun _ _ _ q => q, fun _ ps q => ⟨#[], by rw [q]; simp⟩⟩
theorem Un.refl : Un fs ex H H h h := Un.kept fun _ _ q => q
theorem Un.laid (k : ∀ b u, h.get? b = some u → h'.get? b = some u) (hp : h.objs.size ≤ a) (hn : H a = none) : Un fs ex H (upd H a o) h h' where
  keep := fun b u q _ _ _ => k b u q
  slot := fun b u q _ _ _ => ⟨u.slots, k b u q⟩
  free := fun b u q n _ => by rw [upd_ne (Nat.ne_of_lt (Nat.lt_of_lt_of_le (Heap.lt_size q) hp))]; exact n
  there := fun b u q _ => ⟨u, k b u q⟩
  tups := fun b xs q => by rw [upd_ne (ne_of_none q hn)]; exact q
  frzs := fun b u xs q => by rw [upd_ne (ne_of_none q hn)]; exact q
  tbls := fun b ps q => ⟨#[], by rw [upd_ne (ne_of_none q hn), q]; simp⟩
theorem Un.write (mu : Mut (H x)) (he : e = x ∨ H e = some (.own x)) (k : ∀ b u, b ≠ e → h.get? b = some u → h'.get? b = some u) (heo : ∃ u, h'.get? e = some u) : Un fs ex H (upd H x o) h h' := by
  have hx : ∀ b, H b = none → b ≠ x := fun b n z => by subst z; rw [n] at mu; exact mu
  have hb : ∀ b, H b = none → b ≠ e := fun b n z => by
    subst z
    rcases he with r | r
    · exact hx b n r
    · rw [n] at r; cases r
  have hm : ∀ b u, H b = some u → ¬ Mut (some u) → b ≠ x := fun b u q nm z => by subst z; rw [q] at mu; exact nm mu
  refine ⟨fun b u q n _ _ => k b u (hb b n) q, fun b u q n _ _ => ⟨u.slots, k b u (hb b n) q⟩, fun b u q n _ => by rw [upd_ne (hx b n)]; exact n, fun b u q _ => ?_,
    fun b xs q => by rw [upd_ne (hm b _ q fun z => z)]; exact q, fun b u xs q => by rw [upd_ne (hm b _ q fun z => z)]; exact q, fun b ps q => ⟨#[], by rw [upd_ne (hm b _ q fun z => z), q]; simp⟩⟩
  by_cases hbe : b = e
  · subst hbe; exact heo
  · exact ⟨u, k b u hbe q⟩
theorem Un.mono (u : Un fs ex H H1 h h1) (hs : ∀ b ∈ fs, b ∈ fs') (hx : ∀ b ∈ ex, b ∈ ex') : Un fs' ex' H H1 h h1 :=
  ⟨fun b ob q n hb he => u.keep b ob q n (fun z => hb (hs b z)) fun z => he (hx b z), fun _ _ q n _ he => u.any q n fun z => he (hx _ z), fun b ob q n he => u.free b ob q n fun z => he (hx b z), fun b ob q he => u.there b ob q fun z => he (hx b z), u.tups, u.frzs, u.tbls⟩
end

/-! ### the heap without what is tracked -/
def trk (h : Heap) (H : Hp) : List Addr := (List.range h.objs.size).filter fun a => (H a).isSome
def hidT (h : Heap) (H : Hp) : Heap := PySem.W.hideAll h (trk h H)
theorem hidT_size (h : Heap) (H : Hp) : (hidT h H).objs.size = h.objs.size := PySem.W.hideAll_size _ _
theorem hidT_get {h : Heap} {H : Hp} {b : Addr} {o : Obj} (e : h.get? b = some o) (n : H b = none) : (hidT h H).get? b = some o :=
  PySem.W.hideAll_get _ e fun hm => by
    have q : (H b).isSome = true := (List.mem_filter.mp hm).2
    rw [n] at q; simp at q
theorem of_hidT {h : Heap} {H : Hp} {b : Addr} {o : Obj} (e : (hidT h H).get? b = some o) : h.get? b = some o ∧ H b = none := by
  have e' : h.get? b = some o := PySem.W.of_hideAll (trk h H) e
  refine ⟨e', ?_⟩
  cases q : H b with
  | none => rfl
  | some x =>
    have hm : b ∈ trk h H := List.mem_filter.mpr ⟨List.mem_range.mpr (Heap.lt_size e'), by simp [q]⟩
    have z : (hidT h H).get? b = none := PySem.W.hideAll_none (trk h H) hm
    rw [z] at e; cases e

/-! ### OpenK's ledger, filled with every new object but one -/
def allNews (g h : Heap) (L : Addr) : List (Addr × Obj) := (List.range h.objs.size).filterMap fun a => if a = L ∨ (g.get? a).isSome = true then none else (h.get? a).map fun o => (a, o)
def rest (g h : Heap) (L d : Addr) : List (Addr × Obj) := (allNews g h L).filter fun p => decide (p.1 ≠ d)
end L2

namespace L2
open PySem PySem.Spec PyProof.Rows

/-- the module's facts, over the base: the heap at the law's entry without what is tracked there -/
structure Mod (K : PySem.W.Frag) (mg : Str → Option Value) (base : Heap) : Prop where
  kin : K.In base
  glob : base.Ns mainGlobals mg
  blt : ∃ mb, base.Ns builtinsNs mb ∧ ∀ x : Str, x ≠ "__name__" → mb x = bootBuiltins x
  nolimit : base.NoLimit

/-- the context: a def's body (or a comprehension's block) running. base: fixed through the whole law; s₀, H₀: the entry; outer: the frames whose slots others may change (a def's callers); stack: all frames that run;
   ex: iterators that were made ahead of the entry and are walked here (a comprehension's); fn: the names whose cells were made at the entry (a def: all; a comprehension's block: its own); calm: not within an except suite; pn: pins that every state bears; xe: what is wanted of an exception that leaves the code -/
structure Cx where
  prog : Program
  w : World
  K : PySem.W.Frag
  mg : Str → Option Value
  base : Heap
  A : Around
  N : List Str
  s₀ : Shared
  H₀ : Hp
  env : Env
  outer : List Env
  stack : List Env
  ex : List Addr
  fn : Str → Bool
  calm : Bool
  pn : List (Addr × Obj)
  xe : Value → Shared → Prop
/-- the callers' frames -/
def frs (l : List Env) : List Addr := l.filterMap (·.frame)
abbrev Cx.fs (X : Cx) : List Addr := frs X.outer

def Vis (sc : Scope) (x : Str) : Prop := sc.names.lookup x = some .local ∨ sc.names.lookup x = some .cell ∨ sc.names.lookup x = some .free
def Loc (sc : Scope) (x : Str) : Prop := sc.names.lookup x = some .local ∨ sc.names.lookup x = some .cell
def Look (env : Env) (h : Heap) (m : Str → Option Value) (x : Str) (u : Value) : Prop :=
  (env.kindOf x = some .local ∧ m x = some u) ∨ ((env.kindOf x = some .cell ∨ env.kindOf x = some .free) ∧ ∃ c, env.cells.lookup x = some c ∧ h.IsCell c (some u))

structure Cx.Ok (X : Cx) : Prop where
  mod : Mod X.K X.mg X.base
  kind : X.env.scope.kind = .function
  glob : X.env.globals = mainGlobals
  blt : X.env.builtins = builtinsNs
  above : X.s₀.heap.objs.size ≤ X.env.locals
  inj : ∀ x y c, X.env.cells.lookup x = some c → X.env.cells.lookup y = some c → x = y
  has : ∀ x, (X.env.kindOf x = some .cell ∨ X.env.kindOf x = some .free) → ∃ c, X.env.cells.lookup x = some c
  cab : ∀ x c, X.fn x = true → X.env.cells.lookup x = some c → X.s₀.heap.objs.size ≤ c
  hd : X.calm = true → X.A.handled = none
  frames : X.A.frames = some X.stack
  stk : X.stack = X.outer ∨ (X.stack = X.env :: X.outer ∧ X.env.frame = some X.env.locals)
  exf : ∀ b ∈ X.ex, b ≠ X.env.locals ∧ ∀ x c, X.env.cells.lookup x = some c → c ≠ b
  bs : ∀ b o, X.base.get? b = some o → X.s₀.heap.get? b = some o ∧ X.H₀ b = none
  bsz : X.base.objs.size ≤ X.s₀.heap.objs.size
  noex : ∀ b o, X.base.get? b = some o → b ∉ X.ex
  exfs : ∀ b ∈ X.ex, b ∉ X.fs
  funs : X.s₀.heap.FunFrames X.base X.outer
  frf : ∀ b ∈ X.fs, X.H₀ b = none

structure Inv (X : Cx) (pins : List (Addr × Obj)) (σ : List (Option V)) (H : Hp) (s : Shared) : Prop where
  ok : X.Ok
  os : s.os = X.s₀.os
  bare : AllBare s.gens
  base : Un X.fs X.ex X.H₀ H X.s₀.heap s.heap
  loc : ∃ m, s.heap.Ns X.env.locals m ∧ ∀ (i : Nat) (x : Str) (v : V), X.N[i]? = some x → σ[i]? = some (some v) → Vis X.env.scope x → ∃ u, RelV v u ∧ Look X.env s.heap m x u
  cell : ∀ x c, X.env.cells.lookup x = some c → ∃ v, s.heap.IsCell c v
  free : H X.env.locals = none
  freeC : ∀ x c, X.env.cells.lookup x = some c → H c = none
  pin : ∀ p ∈ X.pn ++ pins, s.heap.get? p.1 = some p.2 ∧ H p.1 = none ∧ p.1 ≠ X.env.locals ∧ p.1 ∉ X.fs ∧ ∀ v, p.2.data ≠ .cell v
  hok : HOk X.prog X.w H s.heap
  len : σ.length = X.N.length

section
variable {X : Cx} {pins : List (Addr × Obj)} {σ : List (Option V)} {H H' : Hp} {s : Shared} {h' : Heap}

theorem Cx.Ok.nofr (ok : X.Ok) {b : Addr} {o : Obj} (e : X.base.get? b = some o) : b ∉ X.fs := fun hb => by
  have := (ok.funs.mem hb).1
  rw [e] at this; cases this
theorem Inv.bs (I : Inv X pins σ H s) : ∀ b o, X.base.get? b = some o → s.heap.get? b = some o ∧ H b = none := fun b o e =>
  ⟨I.base.keep b o (I.ok.bs b o e).1 (I.ok.bs b o e).2 (I.ok.nofr e) (I.ok.noex b o e), I.base.free b o (I.ok.bs b o e).1 (I.ok.bs b o e).2 (I.ok.noex b o e)⟩
theorem Inv.bk (I : Inv X pins σ H s) : ∀ b o, X.base.get? b = some o → s.heap.get? b = some o := fun b o e => (I.bs b o e).1
theorem Inv.mod (I : Inv X pins σ H s) : Mod X.K X.mg X.base := I.ok.mod
theorem Inv.kIn (I : Inv X pins σ H s) : X.K.In s.heap := I.ok.mod.kin.keeps I.bk
theorem Inv.nolimit (I : Inv X pins σ H s) : s.heap.NoLimit := I.ok.mod.nolimit.keeps I.bk
/-- the frame over the base: for OpenK's rules (K.In X.base is I.mod.kin) -/
theorem Inv.fr (I : Inv X pins σ H s) : ∃ m, Fr X.base X.env.locals s.heap m :=
  let ⟨m, hn, _⟩ := I.loc
  ⟨m, hn, I.bk, Nat.le_trans I.ok.bsz I.ok.above⟩
theorem Inv.lt (I : Inv X pins σ H s) : X.env.locals < s.heap.objs.size := let ⟨_, hn, _⟩ := I.loc; hn.lt
theorem Inv.sz (I : Inv X pins σ H s) : X.s₀.heap.objs.size ≤ s.heap.objs.size := Nat.le_trans I.ok.above (Nat.le_of_lt I.lt)
theorem Inv.nofs (I : Inv X pins σ H s) {a : Addr} (h : s.heap.objs.size ≤ a) : a ∉ X.fs := fun hb => by
  obtain ⟨_, o, ho, _⟩ := I.ok.funs.mem hb
  exact absurd (Nat.lt_of_lt_of_le (Heap.lt_size ho) (Nat.le_trans I.sz h)) (Nat.lt_irrefl _)
theorem Inv.cne (I : Inv X pins σ H s) : ∀ x c, X.env.cells.lookup x = some c → c ≠ X.env.locals := fun x c e z => by
  obtain ⟨v, o, ho, hd⟩ := I.cell x c e
  obtain ⟨m, ⟨o', es, ep, ho', hd', _⟩, _⟩ := I.loc
  rw [z, ho'] at ho; cases ho; rw [hd'] at hd; cases hd
theorem Inv.funs (I : Inv X pins σ H s) : s.heap.FunFrames X.base X.outer := by
  have all : ∀ (l : List Env), (∀ b ∈ frs l, b ∈ X.fs) → X.s₀.heap.FunFrames X.base l → s.heap.FunFrames X.base l := by
    intro l
    induction l with
    | nil => intro _ _; trivial
    | cons env r ih =>
      intro hs hl
      obtain ⟨hk, ⟨L, o, hf, hn, ho, hd⟩, hr⟩ := hl
      have hL : L ∈ X.fs := hs L (by unfold frs; rw [List.filterMap_cons, hf]; exact List.mem_cons_self)
      obtain ⟨sl, e⟩ := I.base.slot L o ho (I.ok.frf L hL) hL fun z => I.ok.exfs L z hL
      exact ⟨hk, ⟨L, _, hf, hn, e, hd⟩, ih (fun b hb => hs b (by unfold frs; rw [List.filterMap_cons, hf]; exact List.mem_cons_of_mem _ hb)) hr⟩
  exact all X.outer (fun _ hb => hb) I.ok.funs

/-- the frames that run, for a call -/
theorem Inv.stack (I : Inv X pins σ H s) : s.heap.FunFrames X.base X.stack := by
  rcases I.ok.stk with e | ⟨e, hf⟩
  · rw [e]; exact I.funs
  · rw [e]
    obtain ⟨m, hn, _⟩ := I.loc
    refine .cons (by rw [I.ok.kind]; decide) hf hn ?_ I.funs
    exact Heap.get?_none_of_le (Nat.le_trans I.ok.bsz I.ok.above)
theorem Inv.stkSub (I : Inv X pins σ H s) : ∀ b ∈ frs X.stack, b ∈ X.env.locals :: X.fs := fun b hb => by
  rcases I.ok.stk with e | ⟨e, hf⟩
  · rw [e] at hb; exact List.mem_cons_of_mem _ hb
  · rw [e] at hb
    unfold frs at hb
    rw [List.filterMap_cons, hf] at hb
    exact hb
theorem Inv.stkFree (I : Inv X pins σ H s) : ∀ b ∈ frs X.stack, H b = none := fun b hb => by
  rcases List.mem_cons.mp (I.stkSub b hb) with e | hb
  · rw [e]; exact I.free
  · obtain ⟨_, o, ho, _⟩ := I.ok.funs.mem hb
    exact I.base.free b o ho (I.ok.frf b hb) fun z => I.ok.exfs b z hb

/-- THE STEP: the untracked objects but the frame and the records at ch are kept (the callers' frames up to slots), the frame's map is kept, the new abstract heap is held -/
theorem Inv.step {g' : Array GenState} {t' : Nat} {d' : Drawn} {ch : List Addr} (I : Inv X pins σ H s)
    (hch : ∀ b ∈ ch, (b ∈ X.ex ∨ X.s₀.heap.objs.size ≤ b) ∧ b ≠ X.env.locals ∧ (∀ x c, X.env.cells.lookup x = some c → c ≠ b) ∧ ∀ p ∈ X.pn ++ pins, p.1 ≠ b)
    (keep : ∀ b o, b ≠ X.env.locals → b ∉ X.fs → b ∉ ch → s.heap.get? b = some o → H b = none → h'.get? b = some o)
    (slot : ∀ b o, b ≠ X.env.locals → b ∈ X.fs → b ∉ ch → s.heap.get? b = some o → H b = none → ∃ sl, h'.get? b = some { o with slots := sl }) (free : ∀ b o, b ∉ ch → s.heap.get? b = some o → H b = none → H' b = none)
    (there : ∀ b o, b ∉ ch → s.heap.get? b = some o → ∃ o', h'.get? b = some o')
    (tups : ∀ b xs, H b = some (.tup xs) → H' b = some (.tup xs)) (frzs : ∀ b o u, H b = some (.frz o u) → H' b = some (.frz o u)) (tbls : ∀ b ps, H b = some (.tbl ps) → ∃ more, H' b = some (.tbl (ps ++ more)))
    (ns : ∀ m, s.heap.Ns X.env.locals m → h'.Ns X.env.locals m) (hok : HOk X.prog X.w H' h') (hg : AllBare g') :
    Inv X pins σ H' { s with heap := h', gens := g', drawn := d', toks := t' } := by
  have neL : ∀ b o, X.s₀.heap.get? b = some o → b ≠ X.env.locals := fun b o e => Nat.ne_of_lt (Nat.lt_of_lt_of_le (Heap.lt_size e) I.ok.above)
  have neC : ∀ b o, X.s₀.heap.get? b = some o → b ∉ X.ex → b ∉ ch := fun b o e hx hb => by
    rcases (hch b hb).1 with z | z
    · exact hx z
    · exact absurd (Nat.lt_of_lt_of_le (Heap.lt_size e) z) (Nat.lt_irrefl _)
  have cellK : ∀ x c, X.env.cells.lookup x = some c → ∀ v, s.heap.IsCell c v → h'.IsCell c v := fun x c e v ⟨o, ho, hd⟩ => by
    have nch : c ∉ ch := fun z => (hch c z).2.2.1 x c e rfl
    by_cases hc : c ∈ X.fs
    · obtain ⟨sl, q⟩ := slot c o (I.cne x c e) hc nch ho (I.freeC x c e)
      exact ⟨_, q, hd⟩
    · exact ⟨o, keep c o (I.cne x c e) hc nch ho (I.freeC x c e), hd⟩
  refine ⟨I.ok, I.os, hg, ⟨fun b o e n hb hx => ?_, fun b o e n hb hx => ?_, fun b o e n hx => ?_, fun b o e hx => ?_, fun b xs e => tups b xs (I.base.tups b xs e), fun b o xs e => frzs b o xs (I.base.frzs b o xs e), fun b ps e => ?_⟩, ?_, fun x c e => ?_, ?_, fun x c e => ?_, fun p hp => ?_, hok, I.len⟩
  · exact keep b o (neL b o e) hb (neC b o e hx) (I.base.keep b o e n hb hx) (I.base.free b o e n hx)
  · obtain ⟨sl, e1⟩ := I.base.slot b o e n hb hx
    obtain ⟨sl', e2⟩ := slot b _ (neL b o e) hb (neC b o e hx) e1 (I.base.free b o e n hx)
    exact ⟨sl', e2⟩
  · obtain ⟨o', e1⟩ := I.base.there b o e hx
    exact free b o' (neC b o e hx) e1 (I.base.free b o e n hx)
  · obtain ⟨o', e1⟩ := I.base.there b o e hx
    exact there b o' (neC b o e hx) e1
  · obtain ⟨m1, e1⟩ := I.base.tbls b ps e
    obtain ⟨m2, e2⟩ := tbls b _ e1
    exact ⟨m1 ++ m2, by rw [e2, Array.append_assoc]⟩
  · obtain ⟨m, hn, hl⟩ := I.loc
    refine ⟨m, ns m hn, fun i x v e1 e2 e3 => ?_⟩
    obtain ⟨u, r, l⟩ := hl i x v e1 e2 e3
    refine ⟨u, r, ?_⟩
    rcases l with l | ⟨k, c, e, z⟩
    · exact .inl l
    · exact .inr ⟨k, c, e, cellK x c e _ z⟩
  · obtain ⟨v, z⟩ := I.cell x c e
    exact ⟨v, cellK x c e v z⟩
  · obtain ⟨m, ⟨o, _, _, ho, _⟩, _⟩ := I.loc
    exact free _ o (fun z => (hch _ z).2.1 rfl) ho I.free
  · obtain ⟨v, o, ho, hd⟩ := I.cell x c e
    exact free c o (fun z => (hch c z).2.2.1 x c e rfl) ho (I.freeC x c e)
  · obtain ⟨e, n, ne, nf, d⟩ := I.pin p hp
    have nch : p.1 ∉ ch := fun z => (hch p.1 z).2.2.2 p hp rfl
    exact ⟨keep p.1 p.2 ne nf nch e n, free p.1 p.2 nch e n, ne, nf, d⟩
/-- .. where the frame's own object is kept too -/
theorem Inv.un {t' : Nat} (I : Inv X pins σ H s) (u : Un X.fs [] H H' s.heap h') (hok : HOk X.prog X.w H' h') : Inv X pins σ H' { s with heap := h', toks := t' } := by
  obtain ⟨m, ⟨o, es, ep, ho, r⟩, _⟩ := id I.loc
  obtain ⟨sl, hL⟩ := u.any ho I.free (by simp)
  exact I.step (g' := s.gens) (d' := s.drawn) (ch := []) (fun _ z => nomatch z) (fun b o _ hb _ e n => u.keep b o e n hb (by simp)) (fun b o _ hb _ e n => u.slot b o e n hb (by simp)) (fun b o _ e n => u.free b o e n (by simp)) (fun b o _ e => u.there b o e (by simp)) u.tups u.frzs u.tbls (fun m' hm => by
    obtain ⟨o', es', ep', ho', r'⟩ := hm
    rw [ho] at ho'; cases ho'
    exact ⟨_, es', ep', hL, r'⟩) hok I.bare
/-- behind a call (or a comprehension's block): the slots of this frame may have changed too, the records at ch may have turned -/
theorem Inv.call {g' : Array GenState} {t' : Nat} {d' : Drawn} {ch : List Addr} (I : Inv X pins σ H s) (u : Un (frs X.stack) ch H H' s.heap h') (hok : HOk X.prog X.w H' h') (hg : AllBare g')
    (hch : ∀ b ∈ ch, (b ∈ X.ex ∨ X.s₀.heap.objs.size ≤ b) ∧ b ≠ X.env.locals ∧ (∀ x c, X.env.cells.lookup x = some c → c ≠ b) ∧ ∀ p ∈ X.pn ++ pins, p.1 ≠ b) :
    Inv X pins σ H' { s with heap := h', gens := g', drawn := d', toks := t' } := by
  obtain ⟨m, ⟨o, es, ep, ho, r⟩, _⟩ := id I.loc
  obtain ⟨sl, hL⟩ := u.any ho I.free fun z => (hch _ z).2.1 rfl
  exact I.step (ch := ch) hch (fun b o hL hb hc e n => u.keep b o e n (fun z => (List.mem_cons.mp (I.stkSub b z)).elim hL hb) hc) (fun b o _ _ hc e n => u.any e n hc) (fun b o hc e n => u.free b o e n hc) (fun b o hc e => u.there b o e hc) u.tups u.frzs u.tbls (fun m' hm => by
    obtain ⟨o', es', ep', ho', r'⟩ := hm
    rw [ho] at ho'; cases ho'
    exact ⟨_, es', ep', hL, r'⟩) hok hg
/-- an untracked record of ours (an iterator) has turned -/
theorem Inv.turned {t' : Nat} {it : Addr} (I : Inv X pins σ H s) (k : ∀ b o, b ≠ it → s.heap.get? b = some o → h'.get? b = some o) (hn : H it = none) (hL : it ≠ X.env.locals)
    (h1 : it ∈ X.ex ∨ X.s₀.heap.objs.size ≤ it) (h2 : ∀ x c, X.env.cells.lookup x = some c → c ≠ it) (h3 : ∀ p ∈ X.pn ++ pins, p.1 ≠ it) : Inv X pins σ H { s with heap := h', toks := t' } := by
  have nit : ∀ b u, H b = some u → b ≠ it := fun b u e z => by rw [z, hn] at e; cases e
  refine I.step (g' := s.gens) (d' := s.drawn) (ch := [it]) (fun b hb => ?_) (fun b o _ _ hc e _ => k b o (fun z => hc (by simp [z])) e) (fun b o _ _ hc e _ => ⟨o.slots, k b o (fun z => hc (by simp [z])) e⟩) (fun _ _ _ _ n => n)
    (fun b o hc e => ⟨o, k b o (fun z => hc (by simp [z])) e⟩) (fun _ _ e => e) (fun _ _ _ e => e) (fun b ps e => ⟨#[], by rw [e]; simp⟩) (fun m hm => ?_) (fun b u e => ?_) I.bare
  · have e : b = it := by simpa using hb
    subst e
    exact ⟨h1, hL, h2, h3⟩
  · obtain ⟨o, es, ep, ho, r⟩ := hm
    exact ⟨o, es, ep, k _ o (Ne.symm hL) ho, r⟩
  · refine (I.hok b u e).stay (fun c v hc q => k c v ?_ q) (fun _ q => q) fun _ _ q => q
    rcases hc with z | z
    · rw [z]; exact nit b u e
    · exact nit c _ z
theorem Inv.tok (I : Inv X pins σ H s) (t : Nat) : Inv X pins σ H { s with toks := t } := I.un (h' := s.heap) (t' := t) Un.refl I.hok
/-- all objects kept -/
theorem Inv.kept {t' : Nat} (I : Inv X pins σ H s) (k : ∀ b u, s.heap.get? b = some u → h'.get? b = some u) : Inv X pins σ H { s with heap := h', toks := t' } := I.un (Un.kept k) (I.hok.kept k)
/-- a new object laid and tracked -/
theorem Inv.laid {a : Addr} {o : HO} {t' : Nat} (I : Inv X pins σ H s) (k : ∀ b u, s.heap.get? b = some u → h'.get? b = some u) (hp : s.heap.objs.size ≤ a) (new : ObjOk X.prog X.w (upd H a o) h' a o) :
    Inv X pins σ (upd H a o) { s with heap := h', toks := t' } := I.un (Un.laid k hp (I.hok.fresh hp)) (I.hok.laid k hp new)
/-- an object written -/
theorem Inv.write {x e : Addr} {o : HO} {t' : Nat} (I : Inv X pins σ H s) (mu : Mut (H x)) (he : e = x ∨ H e = some (.own x)) (k : ∀ b u, b ≠ e → s.heap.get? b = some u → h'.get? b = some u) (heo : ∃ u, h'.get? e = some u)
    (new : ObjOk X.prog X.w (upd H x o) h' x o) : Inv X pins σ (upd H x o) { s with heap := h', toks := t' } := I.un (Un.write mu he k heo) (I.hok.write mu he k heo new)
/-- forgetting slots, pins -/
theorem Inv.weak {σ' : List (Option V)} (I : Inv X pins σ H s) (hl : σ'.length = σ.length) (w : ∀ (i : Nat) v, σ'[i]? = some (some v) → σ[i]? = some (some v)) : Inv X pins σ' H s :=
  ⟨I.ok, I.os, I.bare, I.base, let ⟨m, hn, hl'⟩ := I.loc; ⟨m, hn, fun i x v e1 e2 e3 => hl' i x v e1 (w i v e2) e3⟩, I.cell, I.free, I.freeC, I.pin, I.hok, hl.trans I.len⟩
theorem Inv.pins_of {pins' : List (Addr × Obj)} (I : Inv X pins σ H s) (h : ∀ p ∈ pins', s.heap.get? p.1 = some p.2 ∧ H p.1 = none ∧ p.1 ≠ X.env.locals ∧ p.1 ∉ X.fs ∧ ∀ v, p.2.data ≠ .cell v) : Inv X pins' σ H s :=
  ⟨I.ok, I.os, I.bare, I.base, I.loc, I.cell, I.free, I.freeC, fun p hp => (List.mem_append.mp hp).elim (fun z => I.pin p (List.mem_append_left _ z)) (h p), I.hok, I.len⟩

theorem nodup_ix {N : List Str} (hN : N.Nodup) {i j : Nat} {x : Str} (a : N[i]? = some x) (b : N[j]? = some x) : i = j := by
  obtain ⟨h1, e1⟩ := List.getElem?_eq_some_iff.mp a
  obtain ⟨h2, e2⟩ := List.getElem?_eq_some_iff.mp b
  exact (List.getElem_inj hN).mp (e1.trans e2.symm)

/-- a name is stored; what changed -/
theorem store_ok2 {M : Model} {A : Around} {E : Value → Shared → Prop} {i : Nat} {x : Str} {v : V} {u : Value} {Q : Unit → Shared → Prop} (I : Inv X pins σ H s) (hN : X.N.Nodup) (hi : X.N[i]? = some x) (hx : Loc X.env.scope x) (r : RelV v u)
    (h : ∀ s', Inv X pins (σ.set i (some v)) H s' → (∃ a, Heap.SameBut a s.heap s'.heap ∧ (a = X.env.locals ∨ X.env.cells.lookup x = some a)) → Q () s') (hf : X.fn x = true ∨ X.env.scope.names.lookup x = some .local := by first | exact .inl rfl | exact .inr rfl | assumption) : wpAny M A (storeName X.env x u) Q E s := by
  obtain ⟨m, hn, hl⟩ := id I.loc
  have hcls : (X.env.scope.kind == .class || (X.env.scope.kind == .module && X.env.locals != X.env.globals)) = false := by rw [I.ok.kind]; rfl
  have hiσ : i < σ.length := by rw [I.len]; exact (List.getElem?_eq_some_iff.mp hi).1
  have cne := I.cne
  have tracked : ∀ {a : Addr} {h' : Heap}, (∃ o, s.heap.get? a = some o ∧ H a = none) → Heap.SameBut a s.heap h' → HOk X.prog X.w H h' := fun {a h'} ha hs b ob e => by
    obtain ⟨_, _, hfree⟩ := ha
    refine (I.hok b ob e).stay (fun c w' hc q => (hs.2 c ?_).trans q) (fun _ q => q) fun _ _ q => q
    rintro rfl
    rcases hc with rfl | hc
    · rw [hfree] at e; cases e
    · rw [hfree] at hc; cases hc
  rcases hx with hk | hk
  · refine wpAny_storeName_local hk hn (fun h' hn' hs => ?_) hcls
    obtain ⟨oL, _, _, hoL, _⟩ := id hn
    refine h _ ⟨I.ok, I.os, I.bare, ⟨fun b o e n hb hx => ?_, fun b o e n hb hx => ?_, I.base.free, fun b o e hx => ?_, I.base.tups, I.base.frzs, I.base.tbls⟩, ⟨_, hn', fun j y v' e1 e2 e3 => ?_⟩, fun y c e => ?_, I.free, I.freeC, fun p hp => ?_, tracked ⟨oL, hoL, I.free⟩ hs, by simpa using I.len⟩ ⟨_, hs, .inl rfl⟩
    · exact (hs.2 b (Nat.ne_of_lt (Nat.lt_of_lt_of_le (Heap.lt_size e) I.ok.above))).trans (I.base.keep b o e n hb hx)
    · obtain ⟨sl, e1⟩ := I.base.slot b o e n hb hx
      exact ⟨sl, (hs.2 b (Nat.ne_of_lt (Nat.lt_of_lt_of_le (Heap.lt_size e) I.ok.above))).trans e1⟩
    · obtain ⟨o', e1⟩ := I.base.there b o e hx
      exact ⟨o', (hs.2 b (Nat.ne_of_lt (Nat.lt_of_lt_of_le (Heap.lt_size e) I.ok.above))).trans e1⟩
    · by_cases hj : j = i
      · subst hj
        rw [hi] at e1; cases e1
        rw [List.getElem?_set_self hiσ] at e2
        cases e2
        exact ⟨u, r, .inl ⟨hk, by simp⟩⟩
      · rw [List.getElem?_set_ne (Ne.symm hj)] at e2
        obtain ⟨u', r', q⟩ := hl j y v' e1 e2 e3
        refine ⟨u', r', ?_⟩
        rcases q with ⟨k, e⟩ | ⟨k, c, e, z⟩
        · refine .inl ⟨k, ?_⟩
          have : y ≠ x := fun e => hj (nodup_ix hN e1 (e ▸ hi))
          simp [this, e]
        · exact .inr ⟨k, c, e, z.sameBut hs (cne y c e)⟩
    · obtain ⟨w', z⟩ := I.cell y c e
      exact ⟨w', z.sameBut hs (cne y c e)⟩
    · obtain ⟨e, n, ne, nf, d⟩ := I.pin p hp
      exact ⟨(hs.2 p.1 ne).trans e, n, ne, nf, d⟩
  · have hfn : X.fn x = true := by
      rcases hf with z | z
      · exact z
      · rw [z] at hk; cases hk
    obtain ⟨c, hc⟩ := I.ok.has x (.inl hk)
    obtain ⟨w', z⟩ := I.cell x c hc
    refine wpAny_storeName_cell I.ok.kind hk hc z (fun h' hc' hs => ?_)
    obtain ⟨oc, hoc, hocd⟩ := id z
    refine h { s with heap := h' } ⟨I.ok, I.os, I.bare, ⟨fun b o e n hb hx => ?_, fun b o e n hb hx => ?_, I.base.free, fun b o e hx => ?_, I.base.tups, I.base.frzs, I.base.tbls⟩, ⟨m, hn.sameBut hs (Ne.symm (cne x c hc)), fun j y v' e1 e2 e3 => ?_⟩, fun y c' e => ?_, I.free, I.freeC, fun p hp => ?_, tracked ⟨oc, hoc, I.freeC x c hc⟩ hs, by simpa using I.len⟩ ⟨c, hs, .inr hc⟩
    · exact (hs.2 b (Nat.ne_of_lt (Nat.lt_of_lt_of_le (Heap.lt_size e) (I.ok.cab x c hfn hc)))).trans (I.base.keep b o e n hb hx)
    · obtain ⟨sl, e1⟩ := I.base.slot b o e n hb hx
      exact ⟨sl, (hs.2 b (Nat.ne_of_lt (Nat.lt_of_lt_of_le (Heap.lt_size e) (I.ok.cab x c hfn hc)))).trans e1⟩
    · obtain ⟨o', e1⟩ := I.base.there b o e hx
      exact ⟨o', (hs.2 b (Nat.ne_of_lt (Nat.lt_of_lt_of_le (Heap.lt_size e) (I.ok.cab x c hfn hc)))).trans e1⟩
    · by_cases hj : j = i
      · subst hj
        rw [hi] at e1; cases e1
        rw [List.getElem?_set_self hiσ] at e2
        cases e2
        exact ⟨u, r, .inr ⟨.inl hk, c, hc, hc'⟩⟩
      · rw [List.getElem?_set_ne (Ne.symm hj)] at e2
        obtain ⟨u', r', q⟩ := hl j y v' e1 e2 e3
        refine ⟨u', r', ?_⟩
        rcases q with q | ⟨k, c', e, z'⟩
        · exact .inl q
        · refine .inr ⟨k, c', e, z'.sameBut hs ?_⟩
          rintro rfl
          exact hj (nodup_ix hN e1 (I.ok.inj _ _ _ e hc ▸ hi))
    · by_cases hcc : c' = c
      · subst hcc; exact ⟨_, hc'⟩
      · obtain ⟨w2, z2⟩ := I.cell y c' e
        exact ⟨w2, z2.sameBut hs hcc⟩
    · obtain ⟨e, n, ne, nf, d⟩ := I.pin p hp
      refine ⟨(hs.2 p.1 ?_).trans e, n, ne, nf, d⟩
      intro q
      rw [q, hoc] at e
      have q' : oc = p.2 := Option.some.inj e
      exact d w' (by rw [← q']; exact hocd)
theorem store_ok {M : Model} {A : Around} {E : Value → Shared → Prop} {i : Nat} {x : Str} {v : V} {u : Value} {Q : Unit → Shared → Prop} (I : Inv X pins σ H s) (hN : X.N.Nodup) (hi : X.N[i]? = some x) (hx : Loc X.env.scope x) (r : RelV v u)
    (h : ∀ s', Inv X pins (σ.set i (some v)) H s' → Q () s') (hf : X.fn x = true ∨ X.env.scope.names.lookup x = some .local := by first | exact .inl rfl | exact .inr rfl | assumption) : wpAny M A (storeName X.env x u) Q E s :=
  store_ok2 I hN hi hx r (fun s' I' _ => h s' I') hf
/-- behind a call or a block, the state as it is -/
theorem Inv.call' {s' : Shared} {ch : List Addr} (I : Inv X pins σ H s) (ho : s'.os = s.os) (u : Un (frs X.stack) ch H H' s.heap s'.heap) (hok : HOk X.prog X.w H' s'.heap) (hg : AllBare s'.gens)
    (hch : ∀ b ∈ ch, (b ∈ X.ex ∨ X.s₀.heap.objs.size ≤ b) ∧ b ≠ X.env.locals ∧ (∀ x c, X.env.cells.lookup x = some c → c ≠ b) ∧ ∀ p ∈ X.pn ++ pins, p.1 ≠ b) : Inv X pins σ H' s' := by
  obtain ⟨h', g', d', t', o'⟩ := s'
  have e : o' = s.os := ho
  subst e
  exact I.call (g' := g') (t' := t') (d' := d') u hok hg hch
end

/-! ### the judgements -/
/-- an exception: its class, its own dict's address (where it has one), the abstract heap behind it -/
abbrev XK := Value → Option Addr → Hp → Prop
abbrev St := List (Option V)
abbrev VK := V → Hp → Prop
/-- an expression's reading; a test's; an argument list's -/
abbrev TE := St → Hp → VK → Prop
abbrev TT := St → Hp → (Bool → Hp → Prop) → Prop
abbrev TA := St → Hp → (List V → Hp → Prop) → Prop
/-- what is wanted behind a statement -/
structure Ends where
  nx : St → Hp → Prop
  rt : VK
  bk : St → Hp → Prop := fun _ _ => False
  ct : St → Hp → Prop := fun _ _ => False
abbrev TS := Ends → St → Hp → Prop

def EP (X : Cx) (pins : List (Addr × Obj)) (σ : St) (Q : VK) (u : Value) (s' : Shared) : Prop := ∃ v H', Inv X pins σ H' s' ∧ RelV v u ∧ Q v H'
def TP (X : Cx) (pins : List (Addr × Obj)) (σ : St) (Q : Bool → Hp → Prop) (b : Bool) (s' : Shared) : Prop := ∃ H', Inv X pins σ H' s' ∧ Q b H'
def AP (X : Cx) (pins : List (Addr × Obj)) (σ : St) (Q : List V → Hp → Prop) (us : List Value) (s' : Shared) : Prop := ∃ vs H', Inv X pins σ H' s' ∧ Vals vs us ∧ Q vs H'
def SP (X : Cx) (pins : List (Addr × Obj)) (D : Ends) (f : Flow) (s' : Shared) : Prop :=
  match f with
  | .next => ∃ σ' H', Inv X pins σ' H' s' ∧ D.nx σ' H'
  | .brk => ∃ σ' H', Inv X pins σ' H' s' ∧ D.bk σ' H'
  | .cont => ∃ σ' H', Inv X pins σ' H' s' ∧ D.ct σ' H'
  | .ret u => ∃ v σ' H', Inv X pins σ' H' s' ∧ RelV v u ∧ D.rt v H'

def PE (X : Cx) (e : Expr) (t : TE) : Prop :=
  ∀ (pins : List (Addr × Obj)) (s : Shared) (σ : St) (H : Hp) (Q : VK), Inv X pins σ H s → t σ H Q → wpAny (model X.prog X.w) X.A (eval e X.env) (EP X pins σ Q) X.xe s
def PT (X : Cx) (e : Expr) (t : TT) : Prop :=
  ∀ (pins : List (Addr × Obj)) (s : Shared) (σ : St) (H : Hp) (Q : Bool → Hp → Prop), Inv X pins σ H s → t σ H Q → wpAny (model X.prog X.w) X.A (isTrue e X.env (eval e X.env)) (TP X pins σ Q) X.xe s
/-- a test whatever its 'whole' is (and, or) -/
def PW (X : Cx) (e : Expr) (t : TT) : Prop :=
  ∀ (whole : Sem Value) (pins : List (Addr × Obj)) (s : Shared) (σ : St) (H : Hp) (Q : Bool → Hp → Prop), Inv X pins σ H s → t σ H Q → wpAny (model X.prog X.w) X.A (isTrue e X.env whole) (TP X pins σ Q) X.xe s
theorem PW.pt {X : Cx} {e : Expr} {t : TT} (h : PW X e t) : PT X e t := h _
/-- an argument list (no star), from the left -/
def PA (X : Cx) (es : List Expr) (t : TA) : Prop :=
  ∀ (pos : Pos) (pins : List (Addr × Obj)) (s : Shared) (σ : St) (H : Hp) (Q : List V → Hp → Prop), Inv X pins σ H s → t σ H Q → wpAny (model X.prog X.w) X.A (spliced (backTo pos (starEach es X.env))) (AP X pins σ Q) X.xe s
def PS (X : Cx) (st : Stmt) (t : TS) : Prop :=
  ∀ (pins : List (Addr × Obj)) (s : Shared) (σ : St) (H : Hp) (D : Ends), Inv X pins σ H s → t D σ H → wpAny (model X.prog X.w) X.A (exec st X.env) (SP X pins D) X.xe s
def PSs (X : Cx) (st : List Stmt) (t : TS) : Prop :=
  ∀ (pins : List (Addr × Obj)) (s : Shared) (σ : St) (H : Hp) (D : Ends), Inv X pins σ H s → t D σ H → wpAny (model X.prog X.w) X.A (execs st X.env) (SP X pins D) X.xe s
/-- weaken the end -/
theorem thn {α : Type} {t : Sem α} {Q Q' : α → Shared → Prop} {M : Model} {A : Around} {E : Value → Shared → Prop} {s : Shared} (h : wpAny M A t Q E s) (hQ : ∀ a s, Q a s → Q' a s) : wpAny M A t Q' E s := wpAny_mono h hQ fun _ _ x => x
end L2

namespace L2
open PySem PySem.Spec PyProof.Rows
section
variable {X : Cx}

/-! ### names and constants -/
def tVar (i : Nat) : TE := fun σ H Q => ∃ v, σ[i]? = some (some v) ∧ Q v H
def tC (v : V) : TE := fun _ H Q => Q v H
theorem pe_var {i : Nat} {x : Str} {pos : Pos} (hN : X.N[i]? = some x) (hv : Vis X.env.scope x) (hd : (x == ("__debug__" : Str)) = false := by decide) (hcd : (x == ("__classdict__" : Str)) = false := by decide) : PE X (.Name x pos) (tVar i) := by
  intro pins s σ H Q I h
  obtain ⟨v, e, h⟩ := h
  obtain ⟨m, hn, hl⟩ := I.loc
  obtain ⟨u, r, l⟩ := hl i x v hN e hv
  have fin : EP X pins σ Q u s := ⟨v, H, I, r, h⟩
  rcases l with ⟨hk, hm⟩ | ⟨hk, c, hc, hcell⟩
  · exact wpAny_Name (wpAny_loadName_local I.ok.kind hk hn hm fin) hd
  · rcases hk with hk | hk
    · exact wpAny_Name (wpAny_loadName_cell I.ok.kind hk hc hcell fin) hd
    · exact wpAny_Name (wpAny_loadName_free I.ok.kind hk hc hcell fin hcd) hd
theorem pe_int {i j pos} : PE X (.Constant (.int i) j pos) (tC (.int i)) := fun _ _ _ H _ I h => wpAny_Constant_int ⟨.int i, H, I.tok _, ⟨_, rfl⟩, h⟩
theorem pe_bl {b j pos} : PE X (.Constant (.bool b) j pos) (tC (.bl b)) := fun _ _ _ H _ I h => Constant_bool ⟨.bl b, H, I, rfl, h⟩
theorem pe_non {j pos} : PE X (.Constant .none j pos) (tC .non) := fun _ _ _ H _ I h => Constant_none ⟨.non, H, I, rfl, h⟩
/-- a global name of the def -/
def Gl (X : Cx) (x : Str) : Prop := X.env.kindOf x = some .globalImplicit
theorem ld_glob {E : Value → Shared → Prop} {pins : List (Addr × Obj)} {s : Shared} {σ : St} {H : Hp} {x : Str} {u : Value} {pos : Pos} {Q : Value → Shared → Prop} (I : Inv X pins σ H s) (hg : Gl X x) (hm : X.mg x = some u) (h : Q u s)
    (hd : (x == ("__debug__" : Str)) = false := by decide) : wpAny (model X.prog X.w) X.A (eval (.Name x pos) X.env) Q E s :=
  Calls.Name_function_global I.ok.kind hg (Calls.loadGlobal_global (by rw [I.ok.glob]; exact I.mod.glob.keeps I.bk) hm h) hd
theorem ld_blt {E : Value → Shared → Prop} {pins : List (Addr × Obj)} {s : Shared} {σ : St} {H : Hp} {x : Str} {u : Value} {pos : Pos} {Q : Value → Shared → Prop} (I : Inv X pins σ H s) (hg : Gl X x) (hm : X.mg x = none) (hv : bootBuiltins x = some u) (h : Q u s)
    (hn : x ≠ "__name__" := by decide) (hd : (x == ("__debug__" : Str)) = false := by decide) : wpAny (model X.prog X.w) X.A (eval (.Name x pos) X.env) Q E s := by
  obtain ⟨mb, h1, h2⟩ := I.mod.blt
  exact Calls.Name_function_global I.ok.kind hg (Calls.loadGlobal_builtin (by rw [I.ok.glob]; exact I.mod.glob.keeps I.bk) hm (by rw [I.ok.blt]; exact h1.keeps I.bk) ((h2 x hn).trans hv) h) hd
theorem pe_bltn {x : Str} {v : V} {u : Value} {pos : Pos} (hg : Gl X x) (hm : X.mg x = none) (hv : bootBuiltins x = some u) (r : RelV v u) (hn : x ≠ "__name__" := by decide) (hd : (x == ("__debug__" : Str)) = false := by decide) : PE X (.Name x pos) (tC v) :=
  fun _ _ _ H _ I h => ld_blt I hg hm hv ⟨v, H, I, r, h⟩ hn hd

/-! ### arithmetic -/
variable {a b : Expr} {ta tb : TE} {pos : Pos}
/-! ### comparisons -/
/-- a comparison as a value, as a test -/
def tB (t : TE) : TT := fun σ H Q => t σ H fun x H1 => ∃ c, x = .bl c ∧ Q c H1
/-- an expression whose value is a bool, as a test -/
theorem pt_val {e : Expr} {t : TE} (h : PE X e t) (he : ∀ whole, isTrue e X.env whole = (do let v ← whole; standAt e.pos; holding [v] (truthy v)) := by intro _; rfl) : PT X e (tB t) := by
  intro pins s σ H Q I hw
  refine isTrue_plain (thn (h pins s σ H _ I hw) fun v s1 ⟨x, H1, I1, r1, q1⟩ => ?_) (he _)
  obtain ⟨d, rfl, q⟩ := q1
  cases r1
  exact wpAny_truthy_bool ⟨H1, I1, q⟩

/-! ### and, or, not -/
variable {tA tB' : TT} {rest : List Expr}
def tAnd (t u : TT) : TT := fun σ H Q => t σ H fun c H1 => if c = true then u σ H1 Q else Q false H1
def tOr (t u : TT) : TT := fun σ H Q => t σ H fun c H1 => if c = true then Q true H1 else u σ H1 Q
def tNot (t : TT) : TT := fun σ H Q => t σ H fun c H1 => Q (!c) H1
theorem pw_and1 (ha : PT X a tA) : PW X (.BoolOp .And [a] pos) tA := by
  intro wh pins s σ H Q I h
  refine isTrue_and (thn (ha pins s σ H Q I h) fun c s1 e => ?_)
  cases c with
  | true => exact isTrue_and_nil e
  | false => exact e
theorem pw_or1 (ha : PT X a tA) : PW X (.BoolOp .Or [a] pos) tA := by
  intro wh pins s σ H Q I h
  refine isTrue_or (thn (ha pins s σ H Q I h) fun c s1 e => ?_)
  cases c with
  | false => exact isTrue_or_nil e
  | true => exact e
theorem pw_and (ha : PT X a tA) (hb : PW X (.BoolOp .And (b :: rest) pos) tB') : PW X (.BoolOp .And (a :: b :: rest) pos) (tAnd tA tB') := by
  intro wh pins s σ H Q I h
  refine isTrue_and (thn (ha pins s σ H _ I h) fun c s1 ⟨H1, I1, q1⟩ => ?_)
  cases c with
  | true => exact hb wh pins s1 σ H1 Q I1 q1
  | false => exact ⟨H1, I1, q1⟩
theorem pw_or (ha : PT X a tA) (hb : PW X (.BoolOp .Or (b :: rest) pos) tB') : PW X (.BoolOp .Or (a :: b :: rest) pos) (tOr tA tB') := by
  intro wh pins s σ H Q I h
  refine isTrue_or (thn (ha pins s σ H _ I h) fun c s1 ⟨H1, I1, q1⟩ => ?_)
  cases c with
  | true => exact ⟨H1, I1, q1⟩
  | false => exact hb wh pins s1 σ H1 Q I1 q1
theorem pt_not (ha : PT X a tA) : PT X (.UnaryOp .Not a pos) (tNot tA) := by
  intro pins s σ H Q I h
  exact isTrue_not (ha pins s σ H (fun c H1 => Q (!c) H1) I h)
/-- .. as values (bools) -/
def tAndV (ta tb : TE) : TE := fun σ H Q => ta σ H fun x H1 => ∃ c, x = .bl c ∧ if c = true then tb σ H1 Q else Q (.bl false) H1
def tNotV (ta : TE) : TE := fun σ H Q => ta σ H fun x H1 => ∃ c, x = .bl c ∧ Q (.bl (!c)) H1
theorem pe_one {op} {t : TE} (h : PE X a t) : PE X (.BoolOp op [a] pos) t := fun pins s σ H Q I hw => BoolOp_one (h pins s σ H Q I hw)
theorem pe_and (ha : PE X a ta) (hb : PE X (.BoolOp .And (b :: rest) pos) tb) : PE X (.BoolOp .And (a :: b :: rest) pos) (tAndV ta tb) := by
  intro pins s σ H Q I h
  refine BoolOp_and (thn (ha pins s σ H _ I h) fun v s1 ⟨x, H1, I1, r1, q1⟩ => ?_)
  obtain ⟨c, rfl, q1⟩ := q1
  cases r1
  refine wpAny_truthy_bool ?_
  cases c with
  | true => exact hb pins s1 σ H1 Q I1 q1
  | false => exact ⟨.bl false, H1, I1, rfl, q1⟩
theorem pe_not (ha : PE X a ta) : PE X (.UnaryOp .Not a pos) (tNotV ta) := by
  intro pins s σ H Q I h
  refine UnaryOp_ (thn (ha pins s σ H _ I h) fun v s1 ⟨x, H1, I1, r1, q1⟩ => ?_)
  obtain ⟨c, rfl, q1⟩ := q1
  cases r1
  exact not_of (wpAny_truthy_bool ⟨.bl (!c), H1, I1, rfl, q1⟩)
/-- a if t else b -/
def tIf (t : TT) (ta tb : TE) : TE := fun σ H Q => t σ H fun c H1 => if c = true then ta σ H1 Q else tb σ H1 Q
theorem pe_ifExp {c : Expr} (hc : PT X c tA) (ha : PE X a ta) (hb : PE X b tb) : PE X (.IfExp c a b pos) (tIf tA ta tb) := by
  intro pins s σ H Q I h
  refine wpAny_IfExp (thn (hc pins s σ H _ I h) fun d s1 ⟨H1, I1, q1⟩ => ?_)
  cases d with
  | true => exact ha pins s1 σ H1 Q I1 q1
  | false => exact hb pins s1 σ H1 Q I1 q1
end
end L2

namespace L2
open PySem PySem.Spec PyProof.Rows

/-! ### a list, a tuple that is read: tracked, frozen, or an object of the module -/
def SqL (K : PySem.W.Frag) (H : Hp) (a : Addr) (xs : List V) : Prop :=
  Rd H a (.lst xs) ∨
    ∃ (o : Obj) (its : Array Value) (n : Nat), K.lookup a = some o ∧ o.cls = .type "list" ∧ o.dict = none ∧ o.data = .seq its n ∧ its.size ≤ sizeLine ∧ Vals xs its.toList
def SqT (K : PySem.W.Frag) (H : Hp) (a : Addr) (xs : List V) : Prop :=
  Rd H a (.tup xs) ∨
    ∃ (o : Obj) (its : Array Value) (n : Nat), K.lookup a = some o ∧ o.cls = .type "tuple" ∧ o.data = .seq its n ∧ its.size ≤ sizeLine ∧ Vals xs its.toList
def absV : Value → Option V
  | .none => some .non
  | .bool b => some (.bl b)
  | .int i _ => some (.int i)
  | .str x _ => some (.str x)
  | .bytes b _ => some (.byt b)
  | .float b _ => some (.flt b)
  | .ref a => some (.ref a)
  | .type n => some (.ty n)
  | _ => none
theorem RelV.abs {x : V} {u : Value} (r : RelV x u) : absV u = some x := by
  cases x with
  | non => cases r; rfl
  | bl _ => cases r; rfl
  | int _ => obtain ⟨t, rfl⟩ := r; rfl
  | str _ => obtain ⟨t, rfl⟩ := r; rfl
  | byt _ => obtain ⟨t, rfl⟩ := r; rfl
  | flt _ => obtain ⟨t, rfl⟩ := r; rfl
  | ref _ => cases r; rfl
  | ty _ => cases r; rfl
theorem RelV.inj {x y : V} {u : Value} (r : RelV x u) (q : RelV y u) : x = y := Option.some.inj (r.abs.symm.trans q.abs)
theorem Vals.inj : ∀ {xs ys : List V} {us : List Value}, Vals xs us → Vals ys us → xs = ys
  | _, _, _, .nil, .nil => rfl
  | _, _, _, .cons r t, .cons r' t' => by rw [r.inj r', Vals.inj t t']
section
variable {X : Cx} {pins : List (Addr × Obj)} {σ : St} {H : Hp} {s : Shared} {a : Addr} {xs ys : List V}
theorem SqL.of {K : PySem.W.Frag} (h : H a = some (.lst xs)) : SqL K H a xs := .inl (.inl h)
theorem SqT.of {K : PySem.W.Frag} (h : H a = some (.tup xs)) : SqT K H a xs := .inl (.inl h)
theorem Inv.list (I : Inv X pins σ H s) (h : SqL X.K H a xs) : ∃ its : List Value, Vals xs its ∧ PlainL s.heap a its.toArray ∧ xs.length ≤ sizeLine := by
  rcases h with h | ⟨o, its, n, hk, hc, hd, hs, hz, r⟩
  · obtain ⟨z, its, n, r, e⟩ := h.ok I.hok
    exact ⟨its, r, ⟨_, n, e, rfl, rfl, rfl⟩, z⟩
  · refine ⟨its.toList, r, ⟨o, n, I.kIn a o hk, hc, hd, by simpa using hs⟩, ?_⟩
    have e := r.length
    simp only [Array.length_toList] at e
    omega
theorem Inv.tuple (I : Inv X pins σ H s) (h : SqT X.K H a xs) : ∃ its : List Value, Vals xs its ∧ IsTup s.heap a its.toArray ∧ xs.length ≤ sizeLine := by
  rcases h with h | ⟨o, its, n, hk, hc, hs, hz, r⟩
  · obtain ⟨z, its, r, p⟩ := h.ok I.hok
    exact ⟨its, r, p, z⟩
  · refine ⟨its.toList, r, ⟨o, I.kIn a o hk, hc, n, by simpa using hs⟩, ?_⟩
    have e := r.length
    simp only [Array.length_toList] at e
    omega
theorem Inv.list_inj (I : Inv X pins σ H s) (h : SqL X.K H a xs) (h' : SqL X.K H a ys) : xs = ys := by
  obtain ⟨its, r, ⟨o, n, e, _, _, d⟩, _⟩ := I.list h
  obtain ⟨its', r', ⟨o', n', e', _, _, d'⟩, _⟩ := I.list h'
  rw [e] at e'; cases e'
  rw [d] at d'
  injection d' with d1 _
  have : its = its' := by simpa using congrArg Array.toList d1
  subst this
  exact r.inj r'
theorem Inv.tuple_inj (I : Inv X pins σ H s) (h : SqT X.K H a xs) (h' : SqT X.K H a ys) : xs = ys := by
  obtain ⟨its, r, ⟨o, e, _, n, d⟩, _⟩ := I.tuple h
  obtain ⟨its', r', ⟨o', e', _, n', d'⟩, _⟩ := I.tuple h'
  rw [e] at e'; cases e'
  rw [d] at d'
  injection d' with d1 _
  have : its = its' := by simpa using congrArg Array.toList d1
  subst this
  exact r.inj r'
end

/-! ### another wish about exceptions -/
abbrev Cx.wish (X : Cx) (E : Value → Shared → Prop) : Cx := { X with xe := E }
/-- no exception leaves -/
abbrev Cx.nox (X : Cx) : Cx := X.wish fun _ _ => False
theorem Cx.Ok.wish {X : Cx} (ok : X.Ok) (E : Value → Shared → Prop) : (X.wish E).Ok :=
  ⟨ok.mod, ok.kind, ok.glob, ok.blt, ok.above, ok.inj, ok.has, ok.cab, ok.hd, ok.frames, ok.stk, ok.exf, ok.bs, ok.bsz, ok.noex, ok.exfs, ok.funs, ok.frf⟩
theorem Cx.Ok.unwish {X : Cx} {E : Value → Shared → Prop} (ok : (X.wish E).Ok) : X.Ok :=
  ⟨ok.mod, ok.kind, ok.glob, ok.blt, ok.above, ok.inj, ok.has, ok.cab, ok.hd, ok.frames, ok.stk, ok.exf, ok.bs, ok.bsz, ok.noex, ok.exfs, ok.funs, ok.frf⟩
section
variable {X : Cx} {pins : List (Addr × Obj)} {σ : St} {H : Hp} {s : Shared} {E : Value → Shared → Prop}
theorem Inv.wish (I : Inv X pins σ H s) (E : Value → Shared → Prop) : Inv (X.wish E) pins σ H s := ⟨I.ok.wish E, I.os, I.bare, I.base, I.loc, I.cell, I.free, I.freeC, I.pin, I.hok, I.len⟩
theorem Inv.unwish (I : Inv (X.wish E) pins σ H s) : Inv X pins σ H s := ⟨I.ok.unwish, I.os, I.bare, I.base, I.loc, I.cell, I.free, I.freeC, I.pin, I.hok, I.len⟩
theorem SP.unwish {D : Ends} {f : Flow} {s' : Shared} (h : SP (X.wish E) pins D f s') : SP X pins D f s' := by
  cases f with
  | next => obtain ⟨σ', H', I, q⟩ := h; exact ⟨σ', H', I.unwish, q⟩
  | brk => obtain ⟨σ', H', I, q⟩ := h; exact ⟨σ', H', I.unwish, q⟩
  | cont => obtain ⟨σ', H', I, q⟩ := h; exact ⟨σ', H', I.unwish, q⟩
  | ret u => obtain ⟨v, σ', H', I, r, q⟩ := h; exact ⟨v, σ', H', I.unwish, r, q⟩
theorem PE.nox {e : Expr} {t : TE} (h : PE X.nox e t) : PE X e t := fun pins s σ H Q I hw =>
  wpAny_mono (h pins s σ H Q (I.wish _) hw) (fun _ _ ⟨v, H', I', r, q⟩ => ⟨v, H', I'.unwish, r, q⟩) fun _ _ z => False.elim z
theorem PT.nox {e : Expr} {t : TT} (h : PT X.nox e t) : PT X e t := fun pins s σ H Q I hw =>
  wpAny_mono (h pins s σ H Q (I.wish _) hw) (fun _ _ ⟨H', I', q⟩ => ⟨H', I'.unwish, q⟩) fun _ _ z => False.elim z
theorem PSs.nox {st : List Stmt} {t : TS} (h : PSs X.nox st t) : PSs X st t := fun pins s σ H D I hw =>
  wpAny_mono (h pins s σ H D (I.wish _) hw) (fun _ _ q => q.unwish) fun _ _ z => False.elim z
end

/-! ### blocks and small statements -/
section
variable {X : Cx} {st : Stmt} {rest : List Stmt} {t u : TS} {e : Expr} {te : TE} {pos : Pos}
def tNext : TS := fun D σ H => D.nx σ H
def tSeq (t u : TS) : TS := fun D σ H => t { D with nx := u D } σ H
theorem pss_nil : PSs X [] tNext := fun _ _ σ H _ I h => wpAny_execs_nil ⟨σ, H, I, h⟩
theorem pss_cons (h1 : PS X st t) (h2 : PSs X rest u) : PSs X (st :: rest) (tSeq t u) := by
  intro pins s σ H D I h
  refine wpAny_execs_cons (thn (h1 pins s σ H { D with nx := u D } I h) fun f s1 q => ?_)
  cases f with
  | next =>
    obtain ⟨σ', H', I', q⟩ := q
    exact h2 pins s1 σ' H' D I' q
  | ret v => exact q
  | brk => exact q
  | cont => exact q
theorem pss_one (h1 : PS X st t) : PSs X [st] t := by
  intro pins s σ H D I h
  refine wpAny_execs_cons (thn (h1 pins s σ H D I h) fun f s1 q => ?_)
  cases f with
  | next => exact wpAny_execs_nil q
  | ret v => exact q
  | brk => exact q
  | cont => exact q
/-- in a def's body nothing is shown -/
theorem Inv.quiet {pins : List (Addr × Obj)} {σ : St} {H : Hp} {s : Shared} (I : Inv X pins σ H s) : interactive X.env = false := by simp [interactive, I.ok.kind]
/-- an expression whose value is dropped -/
def tDrop (te : TE) : TS := fun D σ H => te σ H fun _ H1 => D.nx σ H1
theorem ps_expr (he : PE X e te) (hs : swapsWith e none pos.line X.env = pure false := by rfl) : PS X (.Expr e pos) (tDrop te) := by
  intro pins s σ H D I h
  exact wpAny_Expr_any (thn (he pins s σ H _ I h) fun v s1 ⟨x, H1, I1, r1, q1⟩ => ⟨σ, H1, I1, q1⟩) I.quiet hs
def tRet (te : TE) : TS := fun D σ H => te σ H D.rt
theorem ps_ret (he : PE X e te) : PS X (.Return (some e) pos) (tRet te) := by
  intro pins s σ H D I h
  exact wpAny_Return_some (thn (he pins s σ H _ I h) fun v s1 ⟨x, H1, I1, r1, q1⟩ => ⟨x, σ, H1, I1, r1, q1⟩)
def tIfS (c : TT) (t u : TS) : TS := fun D σ H => c σ H fun b H1 => if b = true then t D σ H1 else u D σ H1
theorem ps_if {c : Expr} {a b : List Stmt} {tc : TT} (hc : PT X c tc) (ha : PSs X a t) (hb : PSs X b u) : PS X (.If c a b pos) (tIfS tc t u) := by
  intro pins s σ H D I h
  refine wpAny_If (thn (hc pins s σ H _ I h) fun d s1 ⟨H1, I1, q1⟩ => ?_)
  cases d with
  | true => exact ha pins s1 σ H1 D I1 q1
  | false => exact hb pins s1 σ H1 D I1 q1
end

/-! ### targets -/
abbrev TG := V → St → Hp → (St → Hp → Prop) → Prop
abbrev TGs := List V → St → Hp → (St → Hp → Prop) → Prop
def PG (X : Cx) (target : Expr) (t : TG) : Prop :=
  ∀ (pins : List (Addr × Obj)) (s : Shared) (σ : St) (H : Hp) (v : V) (u : Value) (Q : St → Hp → Prop), Inv X pins σ H s → RelV v u → t v σ H Q →
    wpAny (model X.prog X.w) X.A (assign target X.env u) (fun _ s' => ∃ σ' H', Inv X pins σ' H' s' ∧ Q σ' H') X.xe s
/-- several targets, one after another -/
def PGs (X : Cx) (ts : List Expr) (t : TGs) : Prop :=
  ∀ (pins : List (Addr × Obj)) (s : Shared) (σ : St) (H : Hp) (vs : List V) (us : List Value) (Q : St → Hp → Prop), Inv X pins σ H s → Vals vs us → t vs σ H Q →
    wpAny (model X.prog X.w) X.A (assignInOrder ((assignEach ts X.env).map (·.2)) us) (fun _ s' => ∃ σ' H', Inv X pins σ' H' s' ∧ Q σ' H') X.xe s
section
variable {X : Cx} {pos : Pos}
def gName (i : Nat) : TG := fun v σ H Q => Q (σ.set i (some v)) H
theorem pg_name {i : Nat} {x : Str} (hN : X.N.Nodup) (hi : X.N[i]? = some x) (hx : Loc X.env.scope x) (hf : X.fn x = true ∨ X.env.scope.names.lookup x = some .local := by first | exact .inl rfl | exact .inr rfl | assumption) : PG X (.Name x pos) (gName i) := by
  intro pins s σ H v u Q I r h
  exact wpAny_assign_Name (store_ok I hN hi hx r (fun s' I' => ⟨_, H, I', h⟩) hf)
def gNil : TGs := fun vs σ H Q => vs = [] ∧ Q σ H
def gCons (t : TG) (u : TGs) : TGs := fun vs σ H Q => ∃ v r, vs = v :: r ∧ t v σ H fun σ' H' => u r σ' H' Q
theorem pgs_nil : PGs X [] gNil := by
  intro pins s σ H vs us Q I r h
  obtain ⟨e, h⟩ := h
  subst e
  cases r
  exact assignInOrder_nil ⟨σ, H, I, h⟩
theorem pgs_cons {e : Expr} {es : List Expr} {t : TG} {u : TGs} (h1 : PG X e t) (h2 : PGs X es u)
    (hs : (assignEach (e :: es) X.env).map (·.2) = assign e X.env :: (assignEach es X.env).map (·.2) := by rfl) : PGs X (e :: es) (gCons t u) := by
  intro pins s σ H vs us Q I r h
  obtain ⟨v, vr, e1, h⟩ := h
  subst e1
  cases r with
  | cons r rr =>
    rw [hs]
    refine assignInOrder_cons (thn (h1 pins s σ H _ _ _ I r h) fun _ s1 ⟨σ1, H1, I1, q1⟩ => ?_)
    exact h2 pins s1 σ1 H1 _ _ Q I1 rr q1
/-- (a, b, ..) = a tuple of that length -/
def gTup (K : PySem.W.Frag) (n : Nat) (t : TGs) : TG := fun v σ H Q => ∃ a xs, v = .ref a ∧ SqT K H a xs ∧ xs.length = n ∧ t xs σ H Q
theorem pg_tup {es : List Expr} {k : Nat} {t : TGs} {n : Nat} (hc : X.calm = true) (h : PGs X es t)
    (hn : (assignEach es X.env).length = n := by rfl) (hst : (assignEach es X.env).findIdx? (·.1) = none := by rfl) : PG X (.Tuple es k pos) (gTup X.K n t) := by
  intro pins s σ H v u Q I r hw
  obtain ⟨a, xs, e1, hq, hl, hw⟩ := hw
  subst e1
  cases r
  obtain ⟨its, rv, ht, hz⟩ := I.tuple hq
  refine assign_Tuple_tuple (I.ok.hd hc) ht (by simp [hn, ← hl, rv.length]) hst fun h' hx => ?_
  have I1 : Inv X pins σ H { s with heap := h' } := I.kept (t' := s.toks) fun b o e => hx b o (Nat.ne_of_lt (Heap.lt_size e)) e
  exact h pins _ σ H xs _ Q I1 (by simpa using rv) hw
/-- target = value -/
def tAsg (te : TE) (g : TG) : TS := fun D σ H => te σ H fun x H1 => g x σ H1 D.nx
theorem ps_asg {tg e : Expr} {te : TE} {g : TG} (he : PE X e te) (hg : PG X tg g) (hs : swapsWithSole [tg] e pos.line X.env = pure false := by rfl) (hw : swappedStores [tg] e X.env = pure none := by rfl)
    (h1 : (assignEach [tg] X.env).map (·.2) = [assign tg X.env] := by rfl) : PS X (.Assign [tg] e pos) (tAsg te g) := by
  intro pins s σ H D I h
  refine wpAny_Assign_stores (thn (he pins s σ H _ I h) fun v s1 ⟨x, H1, I1, r1, q1⟩ => ?_) hs hw
  rw [h1]
  exact thn (hg pins s1 σ H1 x v _ I1 r1 q1) fun _ s2 q => q
/-- name = value -/
theorem ps_set {i : Nat} {x : Str} {e : Expr} {te : TE} {pos' : Pos} (hN : X.N.Nodup) (hi : X.N[i]? = some x) (hx : Loc X.env.scope x) (he : PE X e te) (hs : swapsWith e (some (.Name x pos')) pos.line X.env = pure false := by rfl) (hf : X.fn x = true ∨ X.env.scope.names.lookup x = some .local := by first | exact .inl rfl | exact .inr rfl | assumption) :
    PS X (.Assign [.Name x pos'] e pos) (tAsg te (gName i)) := by
  intro pins s σ H D I h
  refine wpAny_Assign_Name (thn (he pins s σ H _ I h) fun v s1 ⟨y, H1, I1, r1, q1⟩ => ?_) hs
  exact store_ok I1 hN hi hx r1 (fun s2 I2 => ⟨_, H1, I2, q1⟩) hf
end

/-! ### while -/
section
variable {X : Cx} {pos : Pos}
end

/-! ### what a loop or a comprehension walks -/
/-- at turn i: it yields x (the heap may grow), or it stops -/
structure It where
  go : Nat → Hp → Prop
  yld : Nat → Hp → V → Hp → Prop
  stop : Nat → Hp → Prop
/-- the iterator's own objects may turn: they are not the frame's, not pinned, younger than the entry (or a comprehension's own) -/
def FpOk (X : Cx) (pins : List (Addr × Obj)) (H : Hp) (b : Addr) : Prop :=
  H b = none ∧ b ≠ X.env.locals ∧ b ∉ X.fs ∧ (b ∈ X.ex ∨ X.s₀.heap.objs.size ≤ b) ∧ (∀ x c, X.env.cells.lookup x = some c → c ≠ b) ∧ ∀ p ∈ X.pn ++ pins, p.1 ≠ b
theorem Inv.fpOk {X : Cx} {pins : List (Addr × Obj)} {σ : St} {H H' : Hp} {s : Shared} {b : Addr} (I : Inv X pins σ H s) (hb : s.heap.objs.size ≤ b) (hn : H' b = none) : FpOk X pins H' b := by
  refine ⟨hn, Nat.ne_of_gt (Nat.lt_of_lt_of_le I.lt hb), I.nofs hb, .inr (Nat.le_trans I.sz hb), fun x c e z => ?_, fun p hp z => ?_⟩
  · obtain ⟨v, q⟩ := I.cell x c e
    exact absurd (Nat.lt_of_lt_of_le q.lt (by rw [z]; exact hb)) (Nat.lt_irrefl _)
  · exact absurd (Nat.lt_of_lt_of_le (Heap.lt_size (I.pin p hp).1) (by rw [z]; exact hb)) (Nat.lt_irrefl _)
structure Turn (P : Program) (w : World) (K : PySem.W.Frag) (tg : Expr) (J : It) (fp : List Addr) (it : Addr) (tn : Nat → Heap → Prop) : Prop where
  mem : it ∈ fp
  obj : ∀ i h, tn i h → ∀ b ∈ fp, ∃ o, h.get? b = some o ∧ ∀ v, o.data ≠ .cell v
  keep : ∀ i h h', tn i h → (∀ b ∈ fp, ∀ o, h.get? b = some o → h'.get? b = some o) → tn i h'
  item : ∀ (X : Cx), X.prog = P → X.w = w → X.K = K → X.calm = true → ∀ (i : Nat) (pins : List (Addr × Obj)) (s : Shared) (σ : St) (H : Hp) (E : Value → Shared → Prop), Inv X pins σ H s → (∀ b ∈ fp, FpOk X pins H b) → tn i s.heap → J.go i H →
    wpAny (model P w) X.A (pyNext (.ref it)) (fun r s1 => ∃ u, r = some u ∧
      wpAny (model P w) X.A (letOwnedTupleGo tg (.ref it) u) (fun _ s2 => ∃ x H', Inv X pins σ H' s2 ∧ RelV x u ∧ J.yld i H x H' ∧ tn (i + 1) s2.heap ∧ ∀ b ∈ fp, H' b = none) E s1) E s
  done : ∀ (X : Cx), X.prog = P → X.w = w → X.K = K → X.calm = true → ∀ (i : Nat) (pins : List (Addr × Obj)) (s : Shared) (σ : St) (H : Hp) (E : Value → Shared → Prop), Inv X pins σ H s → (∀ b ∈ fp, FpOk X pins H b) → tn i s.heap → J.stop i H →
    wpAny (model P w) X.A (pyNext (.ref it)) (fun r s1 => r = none ∧ Inv X pins σ H s1) E s
  self : ∀ (A : Around) (i : Nat) (s : Shared) (Q : Value → Shared → Prop) (E : Value → Shared → Prop), tn i s.heap → Q (.ref it) s → wpAny (model P w) A (pyIter (.ref it)) Q E s
abbrev TI := St → Hp → (It → Hp → Prop) → Prop
/-- an iterator has come -/
def PIE (X : Cx) (pins : List (Addr × Obj)) (σ : St) (tg : Expr) (R : It → Hp → Prop) (itv : Value) (s2 : Shared) : Prop :=
  ∃ (it : Addr) (fp : List Addr) (tn : Nat → Heap → Prop) (J : It) (H' : Hp), itv = .ref it ∧ Inv X pins σ H' s2 ∧ Turn X.prog X.w X.K tg J fp it tn ∧ tn 0 s2.heap ∧ (∀ b ∈ fp, FpOk X pins H' b) ∧ R J H'
def PI (X : Cx) (tg iter : Expr) (wi : TI) : Prop :=
  ∀ (pins : List (Addr × Obj)) (s : Shared) (σ : St) (H : Hp) (R : It → Hp → Prop), Inv X pins σ H s → wi σ H R →
    wpAny (model X.prog X.w) X.A (eval iter X.env) (fun v s1 => wpAny (model X.prog X.w) X.A (pyIter v) (PIE X pins σ tg R) X.xe s1) X.xe s

/-- the step ahead of the store is nothing for an iterator that keeps no tuple -/
theorem go_of {M : Model} {A : Around} {E : Value → Shared → Prop} {s : Shared} {tg : Expr} {it : Addr} {u : Value} {o : Obj} {n : String} {vs : Array Value} {Q : Unit → Shared → Prop} (ho : s.heap.get? it = some o) (hc : o.cls = .type n) (hd : o.data = .fields vs)
    (hn : ["enumerate", "zip", "dict_itemiterator", "dict_reverseitemiterator", "odict_iterator", "itertools.zip_longest", "itertools.pairwise"].contains n = false) (hQ : Q () s) : wpAny M A (letOwnedTupleGo tg (.ref it) u) Q E s := by
  unfold letOwnedTupleGo
  cases tg <;> first
    | exact wpAny_pure hQ
    | (cases u <;> first
        | exact wpAny_pure hQ
        | (refine wpAny_bind (wpAny_load ho ?_)
           rw [hc, hd]
           show wpAny M A (if (["enumerate", "zip", "dict_itemiterator", "dict_reverseitemiterator", "odict_iterator", "itertools.zip_longest", "itertools.pairwise"].contains n && vs[0]? == some (rawInt _)) = true then _ else _) Q E s
           rw [if_neg (by intro h; rw [hn, Bool.false_and] at h; cases h)]
           exact wpAny_pure hQ))

/-- the list at a, as it stands at each turn (a loop may append to it) -/
def Itl (K : PySem.W.Frag) (a : Addr) : It :=
  ⟨fun i H => ∃ xs x, SqL K H a xs ∧ xs[i]? = some x, fun i H x H' => H' = H ∧ ∀ xs, SqL K H a xs → xs[i]? = some x, fun i H => ∃ xs, SqL K H a xs ∧ xs.length ≤ i⟩
def Itt (K : PySem.W.Frag) (a : Addr) : It :=
  ⟨fun i H => ∃ xs x, SqT K H a xs ∧ xs[i]? = some x, fun i H x H' => H' = H ∧ ∀ xs, SqT K H a xs → xs[i]? = some x, fun i H => ∃ xs, SqT K H a xs ∧ xs.length ≤ i⟩
/-- lo, lo + 1, .. (n of them) -/
def Itr (lo : Int) (n : Nat) : It := ⟨fun i _ => i < n, fun i H x H' => H' = H ∧ x = .int (lo + i), fun i _ => n ≤ i⟩
theorem turn_list {P : Program} {w : World} {K : PySem.W.Frag} {tg : Expr} (a it : Addr) : Turn P w K tg (Itl K a) [it] it (fun i h => h.IsListIter it a i) where
  mem := by simp
  obj := fun i h st b hb => by
    have e : b = it := by simpa using hb
    subst e
    obtain ⟨o, e, c, d⟩ := st
    exact ⟨o, e, fun v z => by rw [d] at z; cases z⟩
  keep := fun i h h' st k => st.at fun o e => k it (by simp) o e
  item := by
    intro X hP hw hK hc i pins s σ H E I hf st hg
    subst hP hw hK
    obtain ⟨xs, x, hq, hx⟩ := hg
    obtain ⟨its, rv, p, hz⟩ := I.list hq
    obtain ⟨u, hu, ru⟩ := rv.get hx
    obtain ⟨f0, f1, f2, f3, f4, f5⟩ := hf it (by simp)
    refine wpAny_pyNext_list_item st p.isList (x := u) (by simpa using hu) fun h' st' sb => ?_
    have I1 : Inv X pins σ H { s with heap := h' } := I.turned (t' := s.toks) (fun b o hb e => (sb.2 b hb).trans e) f0 f1 f3 f4 f5
    obtain ⟨o, e, c, d⟩ := id st'
    exact ⟨u, rfl, go_of (s := { s with heap := h' }) e c d (by decide) ⟨x, H, I1, ru, ⟨rfl, fun ys hy => by rw [I.list_inj hy hq]; exact hx⟩, st', fun b hb => (hf b hb).1⟩⟩
  done := by
    intro X hP hw hK hc i pins s σ H E I hf st hg
    subst hP hw hK
    obtain ⟨xs, hq, hx⟩ := hg
    obtain ⟨its, rv, p, hz⟩ := I.list hq
    obtain ⟨f0, f1, f2, f3, f4, f5⟩ := hf it (by simp)
    have hl := rv.length
    exact wpAny_pyNext_list_end (I.ok.hd hc) st p.isList (by simp; omega) fun h' eb => ⟨rfl, I.turned (t' := s.toks) (fun b o hb e => eb b o hb e) f0 f1 f3 f4 f5⟩
  self := fun _ _ _ _ _ st h => wpAny_pyIter_listiter st h
theorem turn_tuple {P : Program} {w : World} {K : PySem.W.Frag} {tg : Expr} (a it : Addr) : Turn P w K tg (Itt K a) [it] it (fun i h => h.IsTupleIter it a i) where
  mem := by simp
  obj := fun i h st b hb => by
    have e : b = it := by simpa using hb
    subst e
    obtain ⟨o, e, c, d⟩ := st
    exact ⟨o, e, fun v z => by rw [d] at z; cases z⟩
  keep := fun i h h' st k => st.at fun o e => k it (by simp) o e
  item := by
    intro X hP hw hK hc i pins s σ H E I hf st hg
    subst hP hw hK
    obtain ⟨xs, x, hq, hx⟩ := hg
    obtain ⟨its, rv, p, hz⟩ := I.tuple hq
    obtain ⟨u, hu, ru⟩ := rv.get hx
    obtain ⟨f0, f1, f2, f3, f4, f5⟩ := hf it (by simp)
    refine wpAny_pyNext_tuple_item st (show s.heap.IsTuple a its.toArray from p) (x := u) (by simpa using hu) fun h' st' sb => ?_
    have I1 : Inv X pins σ H { s with heap := h' } := I.turned (t' := s.toks) (fun b o hb e => (sb.2 b hb).trans e) f0 f1 f3 f4 f5
    obtain ⟨o, e, c, d⟩ := id st'
    exact ⟨u, rfl, go_of (s := { s with heap := h' }) e c d (by decide) ⟨x, H, I1, ru, ⟨rfl, fun ys hy => by rw [I.tuple_inj hy hq]; exact hx⟩, st', fun b hb => (hf b hb).1⟩⟩
  done := by
    intro X hP hw hK hc i pins s σ H E I hf st hg
    subst hP hw hK
    obtain ⟨xs, hq, hx⟩ := hg
    obtain ⟨its, rv, p, hz⟩ := I.tuple hq
    obtain ⟨f0, f1, f2, f3, f4, f5⟩ := hf it (by simp)
    have hl := rv.length
    exact wpAny_pyNext_tuple_end (I.ok.hd hc) st (show s.heap.IsTuple a its.toArray from p) (by simp; omega) fun h' eb => ⟨rfl, I.turned (t' := s.toks) (fun b o hb e => eb b o hb e) f0 f1 f3 f4 f5⟩
  self := fun _ _ _ _ _ st h => wpAny_pyIter_tupleiter st h
theorem turn_range {P : Program} {w : World} {K : PySem.W.Frag} {tg : Expr} (it : Addr) (lo : Int) (n : Nat) : Turn P w K tg (Itr lo n) [it] it (fun i h => IsRangeIter h it (lo + (i : Nat) * 1) ((n : Int) - (i : Nat)) 1) where
  mem := by simp
  obj := fun i h st b hb => by
    have e : b = it := by simpa using hb
    subst e
    exact ⟨_, st, fun v z => by
      have z' : Data.fields _ = Data.cell v := z
      cases z'⟩
  keep := fun i h h' st k => k it (by simp) _ st
  item := by
    intro X hP hw hK hc i pins s σ H E I hf st hg
    subst hP hw hK
    obtain ⟨f0, f1, f2, f3, f4, f5⟩ := hf it (by simp)
    have W := Walks.range (prog := X.prog) (w := X.w) (I.ok.hd hc) it lo 1 n
    refine W.item i s _ _ hg st fun v h' tk hv st' kk => ?_
    obtain ⟨t, rfl⟩ := hv
    have I1 : Inv X pins σ H { s with heap := h', toks := tk } := I.turned (fun b o hb e => kk b o (by simpa using hb) e) f0 f1 f3 f4 f5
    refine ⟨_, rfl, go_of (s := { s with heap := h', toks := tk }) (n := "range_iterator") st' rfl rfl (by decide) ⟨.int (lo + i), H, I1, ⟨t, ?_⟩, ⟨rfl, rfl⟩, st', fun b hb => (hf b hb).1⟩⟩
    rw [Int.mul_one]
  done := by
    intro X hP hw hK hc i pins s σ H E I hf st hg
    subst hP hw hK
    obtain ⟨f0, f1, f2, f3, f4, f5⟩ := hf it (by simp)
    exact wpAny_pyNext_range_end (I.ok.hd hc) st (by have : n ≤ i := hg; omega) fun h' eb => ⟨rfl, I.turned (t' := s.toks) (fun b o hb e => eb b o hb e) f0 f1 f3 f4 f5⟩
  self := fun _ _ _ _ _ st h => wpAny_pyIter_rangeiter st h
end L2

namespace L2
open PySem PySem.Spec PyProof.Rows
section
variable {X : Cx} {tg : Expr}
/-- a range object just made, walked -/
theorem range_it {pins : List (Addr × Obj)} {σ : St} {H : Hp} {s : Shared} {R : It → Hp → Prop} {E : Value → Shared → Prop} {lo hi : Int} {t u v : Tok} {tk : Nat} (I : Inv X pins σ H s) (h1 : -(2 ^ 62) ≤ lo) (h2 : lo < 2 ^ 62) (h3 : -(2 ^ 62) ≤ hi) (h4 : hi < 2 ^ 62)
    (q : R (Itr lo (hi - lo).toNat) H) : wpAny (model X.prog X.w) X.A (pyIter (.ref s.heap.objs.size)) (PIE X pins σ tg R) E { s with heap := s.heap.push { cls := .type "range", data := .fields #[.int lo t, .int hi u, .int 1 v] }, toks := tk } := by
  refine wpAny_pyIter_range (IsRange.new ..) (small_one h1 h2 h3 h4) ?_
  have I1 : Inv X pins σ H { s with heap := s.heap.push { cls := .type "range", data := .fields #[.int lo t, .int hi u, .int 1 v] }, toks := tk } := I.kept fun b o e => Heap.get?_push_of_some _ e
  refine ⟨(s.heap.push { cls := .type "range", data := .fields #[.int lo t, .int hi u, .int 1 v] }).objs.size, [(s.heap.push { cls := .type "range", data := .fields #[.int lo t, .int hi u, .int 1 v] }).objs.size], _, _, H, rfl,
    I1.kept (t' := tk) fun b o e => Heap.get?_push_of_some _ e, turn_range _ lo (hi - lo).toNat, ?_, fun b hb => ?_, q⟩
  · have e1 : lo + ((0 : Nat) : Int) * 1 = lo := by simp
    have e2 : (((hi - lo).toNat : Nat) : Int) - ((0 : Nat) : Int) = Builtin.Range.rangeSize lo hi 1 := by rw [rangeSize_one]; split <;> omega
    show IsRangeIter _ _ (lo + ((0 : Nat) : Int) * 1) ((((hi - lo).toNat : Nat) : Int) - ((0 : Nat) : Int)) 1
    rw [e1, e2]
    exact Heap.get?_push_size _ rfl
  · have e : b = (s.heap.push { cls := .type "range", data := .fields #[.int lo t, .int hi u, .int 1 v] }).objs.size := by simpa using hb
    subst e
    exact I1.fpOk (Nat.le_refl _) (I1.hok.fresh (Nat.le_refl _))
def iRng1 (ta : TA) : TI := fun σ H R => ta σ H fun vs H1 => ∃ j : Int, vs = [.int j] ∧ -(2 ^ 62) ≤ j ∧ j < 2 ^ 62 ∧ R (Itr 0 j.toNat) H1
theorem pi_range1 {a : Expr} {ta : TA} {p pos : Pos} (hg : Gl X "range") (hm : X.mg "range" = none) (ha : PA X [a] ta) (hs : starEach [a] X.env = [(false, eval a X.env)] := by rfl) : PI X tg (.Call (.Name "range" p) [a] [] pos) (iRng1 ta) := by
  intro pins s σ H R I h
  refine Call_ (ld_blt I hg hm boot_range (PyProof.Rows.callWith_type1 (thn (ha pos pins s σ H _ I h) fun us s1 ⟨vs, H1, I1, r1, q1⟩ => ?_) hs rfl))
  obtain ⟨j, e, q1, q2, q⟩ := q1
  subst e
  cases r1 with
  | cons r rr =>
    cases rr
    obtain ⟨t, rfl⟩ := r
    exact call_range_1 (range_it I1 (by omega) (by omega) q1 q2 (by simpa using q))
/-! ### for -/
/-- W: the invariant by the turn and a measure; N: what the body is to reach -/
def tFor (wi : TI) (g : TG) (tb : TS) : TS := fun D σ H => wi σ H fun J H1 => ∃ W : Nat → Nat → St → Hp → Prop, (∃ m, W 0 m σ H1) ∧ ∀ i m σ H, W i m σ H →
  (J.stop i H ∧ D.nx σ H) ∨ (J.go i H ∧ ∃ N : St → Hp → Prop, (∀ σ' H', N σ' H' → ∃ m', m' < m ∧ W (i + 1) m' σ' H') ∧ ∀ x H', J.yld i H x H' → g x σ H' fun σ2 H2 => tb { D with nx := N, ct := N, bk := D.nx } σ2 H2)
/-- the records at fp as they stand -/
def pinsAt (fp : List Addr) (h : Heap) : List (Addr × Obj) := fp.filterMap fun b => (h.get? b).map fun o => (b, o)
theorem mem_pinsAt {fp : List Addr} {h : Heap} {b : Addr} {o : Obj} (hb : b ∈ fp) (e : h.get? b = some o) : (b, o) ∈ pinsAt fp h := List.mem_filterMap.mpr ⟨b, hb, by rw [e]; rfl⟩
theorem of_pinsAt {fp : List Addr} {h : Heap} {p : Addr × Obj} (hp : p ∈ pinsAt fp h) : p.1 ∈ fp ∧ h.get? p.1 = some p.2 := by
  obtain ⟨b, hb, e⟩ := List.mem_filterMap.mp hp
  cases q : h.get? b with
  | none => rw [q] at e; cases e
  | some o =>
    rw [q] at e
    have e' : (b, o) = p := Option.some.inj e
    subst e'
    exact ⟨hb, q⟩
theorem Inv.pinned {pins : List (Addr × Obj)} {σ : St} {H : Hp} {s : Shared} {fp : List Addr} (I : Inv X pins σ H s) (hf : ∀ b ∈ fp, FpOk X pins H b) (ho : ∀ b ∈ fp, ∃ o, s.heap.get? b = some o ∧ ∀ v, o.data ≠ .cell v) : Inv X (pins ++ pinsAt fp s.heap) σ H s :=
  I.pins_of fun p hp => (List.mem_append.mp hp).elim (fun z => I.pin p (List.mem_append_right _ z)) fun z => by
    obtain ⟨hb, e⟩ := of_pinsAt z
    obtain ⟨f0, f1, f2, _⟩ := hf p.1 hb
    obtain ⟨o, e', d⟩ := ho p.1 hb
    rw [e] at e'; cases e'
    exact ⟨e, f0, f1, f2, d⟩
theorem Inv.unpinned {pins pl : List (Addr × Obj)} {σ : St} {H : Hp} {s : Shared} (I : Inv X (pins ++ pl) σ H s) : Inv X pins σ H s := I.pins_of fun p hp => I.pin p (List.mem_append_right _ (List.mem_append_left _ hp))
theorem ps_for {iter : Expr} {body : List Stmt} {wi : TI} {g : TG} {tb : TS} {pos : Pos} (hp : PassesOwn (model X.prog X.w) X.A X.env X.xe) (hc : X.calm = true) (hi : PI X tg iter wi) (hg : PG X tg g) (hb : PSs X body tb)
    (hs : ∀ x, foldedSetIterable iter X.env x = pure x := by intro _; rfl) : PS X (.For tg iter body [] pos) (tFor wi g tb) := by
  intro pins s σ H D I h
  refine wpAny_For (thn (hi pins s σ H _ I h) fun v s1 h1 => thn h1 fun itv s2 h2 => ?_) hs
  obtain ⟨it, fp, tn, J, H2, e, I2, T, st2, f2, W, ⟨m0, w0⟩, turn⟩ := h2
  subst e
  -- what stays true of the iterator's objects through the loop
  have stat : ∀ {H' : Hp}, (∀ b ∈ fp, H' b = none) → ∀ b ∈ fp, FpOk X pins H' b := fun hn b hb => ⟨hn b hb, (f2 b hb).2⟩
  refine codeAny_forLoop_any (fun n s' => ∃ i σ' H', Inv X pins σ' H' s' ∧ tn i s'.heap ∧ (∀ b ∈ fp, H' b = none) ∧ W i n σ' H') ?_ m0 ⟨0, σ, H2, I2, st2, fun b hb => (f2 b hb).1, w0⟩
  rintro n s3 ⟨i, σ3, H3, I3, st3, fr3, w3⟩
  rcases turn i n σ3 H3 w3 with ⟨stop, qn⟩ | ⟨go, N, hN, step⟩
  · refine wpAny_passesOwn hp (thn (T.done X rfl rfl rfl hc i pins s3 σ3 H3 X.xe I3 (stat fr3) st3 stop) fun r s4 ⟨hr, I4⟩ => ?_)
    subst hr
    exact wpAny_execs_nil ⟨σ3, H3, I4, qn⟩
  · refine wpAny_passesOwn hp (thn (T.item X rfl rfl rfl hc i pins s3 σ3 H3 X.xe I3 (stat fr3) st3 go) fun r s4 ⟨u, hr, h4⟩ => ?_)
    subst hr
    refine wpAny_passesOwn hp (thn h4 fun _ s5 ⟨x, H5, I5, r5, y5, st5, fr5⟩ => ?_)
    have I5' := I5.pinned (stat fr5) (T.obj _ _ st5)
    refine wpAny_passesOwn hp (thn (hg _ s5 σ3 H5 x u _ I5' r5 (step x H5 y5)) fun _ s6 ⟨σ6, H6, I6, q6⟩ => ?_)
    refine wpAny_passesOwn hp (thn (hb _ s6 σ6 H6 _ I6 q6) fun f s7 q7 => ?_)
    have again : ∀ {σ7 : St} {H7 : Hp}, Inv X (pins ++ pinsAt fp s5.heap) σ7 H7 s7 → N σ7 H7 → ∃ m, m < n ∧ ∃ i σ' H', Inv X pins σ' H' s7 ∧ tn i s7.heap ∧ (∀ b ∈ fp, H' b = none) ∧ W i m σ' H' := fun {σ7 H7} I7 n7 => by
      obtain ⟨m', hm, w7⟩ := hN σ7 H7 n7
      refine ⟨m', hm, i + 1, σ7, H7, I7.unpinned, T.keep _ _ _ st5 fun b hb o e => (I7.pin (b, o) (List.mem_append_right _ (List.mem_append_right _ (mem_pinsAt hb e)))).1, fun b hb => ?_, w7⟩
      obtain ⟨o, e, d⟩ := T.obj _ _ st5 b hb
      exact (I7.pin (b, o) (List.mem_append_right _ (List.mem_append_right _ (mem_pinsAt hb e)))).2.1
    cases f with
    | next => obtain ⟨σ7, H7, I7, n7⟩ := q7; exact again I7 n7
    | cont => obtain ⟨σ7, H7, I7, n7⟩ := q7; exact again I7 n7
    | brk => obtain ⟨σ7, H7, I7, q7⟩ := q7; exact ⟨σ7, H7, I7.unpinned, q7⟩
    | ret v => obtain ⟨x7, σ7, H7, I7, r7, q7⟩ := q7; exact ⟨x7, σ7, H7, I7.unpinned, r7, q7⟩
end

/-! ### the forms one uses -/
end L2

namespace L2
open PySem PySem.Spec PyProof.Rows

abbrev R2 := V → V → Hp → VK → Prop
/-- a two-place operation on values: f is binaryOp op, inplaceOp op or compareOp op -/
def OpR (X : Cx) (f : Value → Value → Sem Value) (r : R2) : Prop :=
  ∀ (pins : List (Addr × Obj)) (s : Shared) (σ : St) (H : Hp) (x y : V) (v u : Value) (Q : VK), Inv X pins σ H s → RelV x v → RelV y u → r x y H Q →
    wpAny (model X.prog X.w) X.A (f v u) (EP X pins σ Q) X.xe s
/-- a one-place operation -/
def UnR (X : Cx) (f : Value → Sem Value) (r : V → Hp → VK → Prop) : Prop :=
  ∀ (pins : List (Addr × Obj)) (s : Shared) (σ : St) (H : Hp) (x : V) (v : Value) (Q : VK), Inv X pins σ H s → RelV x v → r x H Q →
    wpAny (model X.prog X.w) X.A (f v) (EP X pins σ Q) X.xe s
/-- a call of a value that is known (a builtin, a type) with values -/
def CallR (X : Cx) (f : Value) (r : List V → Hp → VK → Prop) : Prop :=
  ∀ (pins : List (Addr × Obj)) (s : Shared) (σ : St) (H : Hp) (xs : List V) (us : List Value) (Q : VK), Inv X pins σ H s → Vals xs us → r xs H Q →
    wpAny (model X.prog X.w) X.A (call f us) (EP X pins σ Q) X.xe s
def tOp (r : R2) (ta tb : TE) : TE := fun σ H Q => ta σ H fun x H1 => tb σ H1 fun y H2 => r x y H2 Q
def tUn (r : V → Hp → VK → Prop) (ta : TE) : TE := fun σ H Q => ta σ H fun x H1 => r x H1 Q
/-- ints in, under C, and a value out -/
def rI (C : Int → Int → Prop) (g : Int → Int → V) : R2 := fun x y H Q => ∃ i j, x = .int i ∧ y = .int j ∧ C i j ∧ Q (g i j) H
def rI0 (g : Int → Int → V) : R2 := fun x y H Q => ∃ i j, x = .int i ∧ y = .int j ∧ Q (g i j) H
def rU (g : Int → V) : V → Hp → VK → Prop := fun x H Q => ∃ i, x = .int i ∧ Q (g i) H

section
variable {X : Cx} {a b c : Expr} {ta tb tc : TE} {pos : Pos}

theorem binT (ha : PE X a ta) (hb : PE X b tb) {pins : List (Addr × Obj)} {s : Shared} {σ : St} {H : Hp} {R : V → V → Hp → Prop} (I : Inv X pins σ H s)
    (h : ta σ H fun x H1 => tb σ H1 fun y H2 => R x y H2) {Q : Value → Shared → Prop} {f : Value → Value → Sem Value}
    (hf : ∀ v u s2 x y H2, Inv X pins σ H2 s2 → RelV x v → RelV y u → R x y H2 → wpAny (model X.prog X.w) X.A (f v u) Q X.xe s2) :
    wpAny (model X.prog X.w) X.A (eval a X.env) (fun v s₁ => wpAny (model X.prog X.w) X.A (eval b X.env) (fun u s₂ => wpAny (model X.prog X.w) X.A (f v u) Q X.xe s₂) X.xe s₁) X.xe s := by
  refine thn (ha pins s σ H _ I h) fun v s1 ⟨x, H1, I1, r1, q1⟩ => ?_
  refine thn (hb pins s1 σ H1 _ I1 q1) fun u s2 ⟨y, H2, I2, r2, q2⟩ => ?_
  exact hf v u s2 x y H2 I2 r1 r2 q2

theorem pe_op {op : Operator} {r : R2} (ho : OpR X (binaryOp op) r) (ha : PE X a ta) (hb : PE X b tb) : PE X (.BinOp a op b pos) (tOp r ta tb) := by
  intro pins s σ H Q I h
  exact wpAny_BinOp (binT ha hb I h fun v u s2 x y H2 I2 rx ry q => ho pins s2 σ H2 x y v u Q I2 rx ry q)
theorem pe_un {op : UnaryOp} {r : V → Hp → VK → Prop} (ho : UnR X (unaryOp op) r) (ha : PE X a ta) : PE X (.UnaryOp op a pos) (tUn r ta) := by
  intro pins s σ H Q I h
  exact UnaryOp_ (thn (ha pins s σ H _ I h) fun v s1 ⟨x, H1, I1, r1, q1⟩ => ho pins s1 σ H1 x v Q I1 r1 q1)
/-! ### ints -/
theorem opI {f : Value → Value → Sem Value} {C : Int → Int → Prop} {g : Int → Int → Int}
    (rule : ∀ (i j : Int) (t u : Tok) (s : Shared) (Q : Value → Shared → Prop) (E : Value → Shared → Prop), C i j → Q (.int (g i j) s.toks) { s with toks := s.toks + 1 } → wpAny (model X.prog X.w) X.A (f (.int i t) (.int j u)) Q E s) :
    OpR X f (rI C fun i j => .int (g i j)) := by
  intro pins s σ H x y v u Q I rx ry h
  obtain ⟨i, j, rfl, rfl, hc, q⟩ := h
  obtain ⟨t, rfl⟩ := rx
  obtain ⟨t', rfl⟩ := ry
  exact rule i j t t' s _ _ hc ⟨.int (g i j), H, I.tok _, ⟨_, rfl⟩, q⟩
theorem opI0 {f : Value → Value → Sem Value} {g : Int → Int → Int}
    (rule : ∀ (i j : Int) (t u : Tok) (s : Shared) (Q : Value → Shared → Prop) (E : Value → Shared → Prop), Q (.int (g i j) s.toks) { s with toks := s.toks + 1 } → wpAny (model X.prog X.w) X.A (f (.int i t) (.int j u)) Q E s) :
    OpR X f (rI0 fun i j => .int (g i j)) := by
  intro pins s σ H x y v u Q I rx ry h
  obtain ⟨i, j, rfl, rfl, q⟩ := h
  obtain ⟨t, rfl⟩ := rx
  obtain ⟨t', rfl⟩ := ry
  exact rule i j t t' s _ _ ⟨.int (g i j), H, I.tok _, ⟨_, rfl⟩, q⟩
def CDiv (i j : Int) : Prop := 0 < j ∧ j < 1073741824
def CPow (i j : Int) : Prop := 0 ≤ j ∧ j ≤ 1000000 ∧ i.natAbs < 2 ^ 64
def CMul (i j : Int) : Prop := (-(2 ^ 64) < i ∧ i < 2 ^ 64) ∨ (-(2 ^ 64) < j ∧ j < 2 ^ 64)
theorem CMul.ok {i j : Int} (h : CMul i j) : IntMulOk i j := by
  rcases h with ⟨h1, h2⟩ | ⟨h1, h2⟩
  · exact .of_left (intBits_le_64 h1 h2)
  · exact .of_right (intBits_le_64 h1 h2)
theorem op_add : OpR X (binaryOp .Add) (rI0 fun i j => .int (i + j)) := opI0 fun _ _ _ _ _ _ _ q => add_int q
theorem op_sub : OpR X (binaryOp .Sub) (rI0 fun i j => .int (i - j)) := opI0 fun _ _ _ _ _ _ _ q => sub_int q
/-- // by a positive divisor -/
theorem op_fdiv : OpR X (binaryOp .FloorDiv) (rI CDiv fun i j => .int (i / j)) := opI fun i j _ _ _ _ _ hc q => by
  have h1 : (0 : Int) < j := hc.1
  have h2 : j < 1073741824 := hc.2
  exact floordiv_int (by omega) (by rw [Int.fdiv_eq_ediv_of_nonneg i (by omega)]; exact q) (.inl (PyProof.noPylong_small (by omega)))
/-- % by a positive divisor of any size -/
theorem op_mod : OpR X (binaryOp .Mod) (rI (fun _ j => 0 < j) fun i j => .int (i % j)) := opI fun i j _ _ _ _ _ hc q => by
  have h1 : (0 : Int) < j := hc
  exact mod_int' (by omega) (by rw [Int.fmod_eq_emod_of_nonneg i (by omega)]; exact q)
theorem op_pow : OpR X (binaryOp .Pow) (rI CPow fun i j => .int (i ^ j.toNat)) := opI fun _ _ _ _ _ _ _ hc q => pow_int_small hc.1 hc.2.1 hc.2.2 q
theorem unI {f : Value → Sem Value} {g : Int → Int}
    (rule : ∀ (i : Int) (t : Tok) (s : Shared) (Q : Value → Shared → Prop) (E : Value → Shared → Prop), Q (.int (g i) s.toks) { s with toks := s.toks + 1 } → wpAny (model X.prog X.w) X.A (f (.int i t)) Q E s) :
    UnR X f (rU fun i => .int (g i)) := by
  intro pins s σ H x v Q I rx h
  obtain ⟨i, rfl, q⟩ := h
  obtain ⟨t, rfl⟩ := rx
  exact rule i t s _ _ ⟨.int (g i), H, I.tok _, ⟨_, rfl⟩, q⟩
theorem un_neg : UnR X (unaryOp .USub) (rU fun i => .int (-i)) := unI fun _ _ _ _ _ q => neg_int q
/-! ### bools among ints: n += (a < b) -/
end

/-! ### comparisons -/
section
variable {X : Cx} {a b c : Expr} {ta tb tc : TE} {pos : Pos}
theorem fin_bl {pins : List (Addr × Obj)} {σ : St} {H : Hp} {s : Shared} {Q : VK} {k k' : Bool} (I : Inv X pins σ H s) (q : Q (.bl k) H) (e : k = k') : EP X pins σ Q (.bool k') s := by
  subst e
  exact ⟨.bl k, H, I, rfl, q⟩
/-- is None, is not None: the right side a value none -/
theorem op_isN : OpR X (compareOp .Is) (fun x y H Q => y = .non ∧ Q (.bl (decide (x = .non))) H) := by
  intro pins s σ H x y v u Q I rx ry h
  obtain ⟨rfl, q⟩ := h
  cases ry
  refine is_none_gen (fin_bl I q ?_)
  cases x <;> first
    | (cases rx; rfl)
    | (obtain ⟨t, rfl⟩ := rx; rfl)
/-- two rules for one operation: by cases -/
theorem OpR.or {f : Value → Value → Sem Value} {r r' : R2} (h : OpR X f r) (h' : OpR X f r') : OpR X f (fun x y H Q => r x y H Q ∨ r' x y H Q) := by
  intro pins s σ H x y v u Q I rx ry q
  rcases q with q | q
  · exact h pins s σ H x y v u Q I rx ry q
  · exact h' pins s σ H x y v u Q I rx ry q

theorem nomark (b : Expr) {op : CmpOp} (h : op ≠ .In := by decide) (h2 : op ≠ .NotIn := by decide) : behindInMarks op b = false := by
  have e1 : (op == CmpOp.In) = false := by cases op <;> first | rfl | exact absurd rfl h
  have e2 : (op == CmpOp.NotIn) = false := by cases op <;> first | rfl | exact absurd rfl h2
  cases b <;> simp [behindInMarks, e1, e2]
/-- a comparison as a value; hm: nomark b, or (for in, not in) by with_unfolding_all rfl -/
theorem pe_cmpR {op : CmpOp} {r : R2} (ho : OpR X (compareOp op) r) (ha : PE X a ta) (hb : PE X b tb) (hm : behindInMarks op b = false) : PE X (.Compare a [op] [b] pos) (tOp r ta tb) := by
  intro pins s σ H Q I h
  exact wpAny_Compare1 (binT ha hb I h fun v u s2 x y H2 I2 rx ry q => ho pins s2 σ H2 x y v u Q I2 rx ry q) hm
/-- a reading of a value as a test -/
def tTest (t : TE) : TT := fun σ H Q => t σ H fun x H' => ∃ k, x = .bl k ∧ Q k H'
theorem pt_cmpR {op : CmpOp} {r : R2} (ho : OpR X (compareOp op) r) (ha : PE X a ta) (hb : PE X b tb) (hm : behindInMarks op b = false) : PT X (.Compare a [op] [b] pos) (tTest (tOp r ta tb)) := by
  intro pins s σ H Q I h
  refine wpAny_isTrue_Compare1 (thn (ha pins s σ H _ I h) fun v s1 ⟨x, H1, I1, r1, q1⟩ => thn (hb pins s1 σ H1 _ I1 q1) fun u s2 ⟨y, H2, I2, r2, q2⟩ =>
    thn (ho pins s2 σ H2 x y v u _ I2 r1 r2 q2) fun c s3 ⟨z, H3, I3, r3, k, e, q3⟩ => ?_) hm
  subst e
  cases r3
  exact wpAny_truthy_bool ⟨H3, I3, q3⟩
/-! ### truth -/
theorem line63 : (sizeLine : Nat) < 2 ^ 63 := by rw [sizeLine_eq]; decide
/-! ### strs and bytes -/
/-! ### scalar builtins, by CallR -/
theorem vals1 {x : V} {us : List Value} (r : Vals [x] us) : ∃ u, us = [u] ∧ RelV x u := by
  cases r with
  | cons r1 r2 => cases r2; exact ⟨_, rfl, r1⟩
end
end L2

namespace L2
open PySem PySem.Spec PyProof.Rows

/-! ### an instance, its attributes a map -/
section
variable {prog : Program} {w : World} {A : Around} {E : Value → Shared → Prop} {s : Shared} {K : PySem.W.Frag} {x dx C f : Addr} {mA : Str → Option Value} {name : Str} {v : Value}

end

/-! ### the attributes as a list of pairs -/
section
variable {P : Program} {w : World} {H H' : Hp} {h h' : Heap} {a C dx : Addr} {fs fs' : List (Str × V)}
end

/-! ### what of the text a class must have -/
structure Cls (K : PySem.W.Frag) (C : Addr) : Prop where
  pg : PySem.W.plainGet K C Str.empty = true
  hd : PySem.W.hasDictIn K C = true
  po : PySem.W.plainOver K C = true
  sa : PySem.W.findIn K (.ref C) "__setattr__" = some (some (.builtin "object.__setattr__"))
theorem Cls.get {K : PySem.W.Frag} {C : Addr} (c : Cls K C) (f : Str) : PySem.W.plainGet K C f = true := c.pg
section
variable {X : Cx} {pins : List (Addr × Obj)} {σ : St} {H : Hp} {s : Shared} {a C dx : Addr} {fs : List (Str × V)} {f : Str} {v : V} {A : Around} {E : Value → Shared → Prop}

/-- a new instance, tracked, without attributes -/
theorem Inv.made (I : Inv X pins σ H s) : Inv X pins σ (upd (upd H s.heap.objs.size (.own (s.heap.objs.size + 1))) (s.heap.objs.size + 1) (.ins C s.heap.objs.size []))
    { s with heap := (s.heap.push PySem.W.emptyDict).push (PySem.W.instObj C s.heap.objs.size) } := by
  have e1 : (s.heap.push PySem.W.emptyDict).get? s.heap.objs.size = some PySem.W.emptyDict := Heap.get?_push_size s.heap rfl
  have e2 : ((s.heap.push PySem.W.emptyDict).push (PySem.W.instObj C s.heap.objs.size)).get? (s.heap.objs.size + 1) = some (PySem.W.instObj C s.heap.objs.size) := by
    have := Heap.get?_push_size (s.heap.push PySem.W.emptyDict) (o := PySem.W.instObj C s.heap.objs.size) rfl
    rwa [Heap.size_push] at this
  have e3 : (s.heap.push PySem.W.emptyDict).Ns s.heap.objs.size (fun _ => none) := ⟨PySem.W.emptyDict, #[], _, e1, rfl, (fun e he => absurd he (by simp)), fun _ => rfl⟩
  have I1 := I.laid (a := s.heap.objs.size) (o := .own (s.heap.objs.size + 1)) (h' := s.heap.push PySem.W.emptyDict) (t' := s.toks) (fun b u q => Heap.get?_push_of_some _ q) (Nat.le_refl _) ⟨_, e1⟩
  refine I1.laid (a := s.heap.objs.size + 1) (o := .ins C s.heap.objs.size []) (t' := s.toks) (fun b u q => Heap.get?_push_of_some _ q) (Nat.le_of_eq (Heap.size_push _ _)) ?_
  have ne : s.heap.objs.size ≠ s.heap.objs.size + 1 := Nat.ne_of_lt (Nat.lt_succ_self _)
  refine ⟨by rw [upd_ne ne, upd_same], Nat.zero_le _, ne, e2, fun _ => none, (Heap.Ns1.of_empty e3).at fun o q => Heap.get?_push_of_some _ q, fun _ => True.intro, fun y hy => absurd rfl hy⟩

end

/-! ### readings and rules -/
section
variable {X : Cx} {o e value : Expr} {f : Str} {pos pos' tpos : Pos} {ta tv : TE}
end

/-! ### isinstance -/
section
variable {X : Cx} {pins : List (Addr × Obj)} {σ : St} {H : Hp} {s : Shared} {A : Around} {E : Value → Shared → Prop} {Q : Value → Shared → Prop} {c : Value} {b : Bool}
end
end L2

namespace L2
open PySem PySem.Spec PyProof.Rows

/-! ### room -/
structure Room (k : Nat) (A : Around) : Prop where
  hd : A.handled = none
  dp : A.depth + 3 * k + 5 < recursionLimit
  un : A.units + 16 * k + 200 < cLine
theorem Room.mono {j k : Nat} {A : Around} (r : Room k A) (h : j ≤ k) : Room j A := ⟨r.hd, by have := r.dp; omega, by have := r.un; omega⟩
theorem Room.deeper {k : Nat} {A : Around} (r : Room (k + 1) A) (env : Env) : Room k (A.deeper env) :=
  ⟨r.hd, by have := r.dp; show A.depth + 1 + 3 * k + 5 < _; omega, by have := r.un; show A.units + 3 + 16 * k + 200 < _; omega⟩
theorem Room.in1 {k : Nat} {A : Around} (r : Room (k + 1) A) : Room k A.in1 :=
  ⟨r.hd, by have := r.dp; show A.depth + 3 * k + 5 < _; omega, by have := r.un; show A.units + 1 + 16 * k + 200 < _; omega⟩
theorem Room.depth {k : Nat} {A : Around} (r : Room k A) : A.depth < recursionLimit := by have := r.dp; omega
theorem Room.units {k : Nat} {A : Around} (r : Room k A) : A.units + 64 < cLine := by have := r.un; omega
/-! ### argument lists and displays -/
def tNil : TA := fun _ H Q => Q [] H
def tCons (ta : TE) (tr : TA) : TA := fun σ H Q => ta σ H fun x H1 => tr σ H1 fun xs H2 => Q (x :: xs) H2
section
variable {X : Cx} {e : Expr} {es : List Expr} {te : TE} {t : TA} {pos : Pos}
theorem pa_nil : PA X [] tNil := fun _ _ _ _ H Q I h => Calls.spliced_nil ⟨[], H, I, .nil, h⟩
theorem pa_cons (ha : PE X e te) (hr : PA X es t) (hs : starEach (e :: es) X.env = (false, eval e X.env) :: starEach es X.env := by rfl) : PA X (e :: es) (tCons te t) := by
  intro pos pins s σ H Q I h
  rw [hs]
  show wpAny _ _ (spliced ((false, eval e X.env) :: backTo pos (starEach es X.env))) _ _ s
  refine Calls.spliced_cons (thn (ha pins s σ H _ I h) fun u s1 ⟨x, H1, I1, r1, q1⟩ => ?_)
  exact thn (hr pos pins s1 σ H1 _ I1 q1) fun us s2 ⟨xs, H2, I2, r2, q2⟩ => ⟨x :: xs, H2, I2, .cons r1 r2, q2⟩

/-- a tuple, a list of written items -/
def tTup (t : TA) : TE := fun σ H Q => t σ H fun xs H1 => xs.length ≤ sizeLine ∧ ∀ p, H1 p = none → Q (.ref p) (upd H1 p (.tup xs))
def tLst (t : TA) : TE := fun σ H Q => t σ H fun xs H1 => xs.length ≤ sizeLine ∧ ∀ p, H1 p = none → Q (.ref p) (upd H1 p (.lst xs))
theorem pe_tup {x1} (h : PA X es t) : PE X (.Tuple es x1 pos) (tTup t) := by
  intro pins s σ H Q I hq
  refine wpAny_Tuple_spliced (thn (h pos pins s σ H _ I hq) fun us s1 ⟨xs, H1, I1, r, z, q⟩ => ⟨by rw [← r.length]; exact z, ?_⟩)
  have hf : H1 s1.heap.objs.size = none := I1.hok.fresh (Nat.le_refl _)
  refine ⟨.ref s1.heap.objs.size, upd H1 s1.heap.objs.size (.tup xs), I1.laid (t' := s1.toks) (fun b u e => Heap.get?_push_of_some _ e) (Nat.le_refl _) ?_, rfl, q _ hf⟩
  exact ⟨z, us, r, ⟨_, Heap.get?_push_size _ rfl, rfl, _, rfl⟩⟩
theorem pe_lst (h : PA X es t) : PE X (.List es pos) (tLst t) := by
  intro pins s σ H Q I hq
  refine wpAny_List_spliced (thn (h pos pins s σ H _ I hq) fun us s1 ⟨xs, H1, I1, r, z, q⟩ => ⟨by rw [← r.length]; exact z, ?_⟩)
  have hf : H1 s1.heap.objs.size = none := I1.hok.fresh (Nat.le_refl _)
  refine ⟨.ref s1.heap.objs.size, upd H1 s1.heap.objs.size (.lst xs), I1.laid (t' := s1.toks) (fun b u e => Heap.get?_push_of_some _ e) (Nat.le_refl _) ?_, rfl, q _ hf⟩
  exact ⟨z, us, 0, r, Heap.get?_push_size _ rfl⟩
end

/-! ### what a def promises -/
/-- a def's promise: the bound arguments in the parameters' order, the heap, the wanted end, the wanted exception -/
abbrev Sp := List V → Hp → VK → XK → Prop
/-- how an exception lies behind a call (file 08 gives it): the callers' frames, abstract heap and state ahead of the call, the wish, the exception, the state -/
abbrev CXT := List Env → Hp → Shared → XK → Value → Shared → Prop

/-- the state at a call -/
structure Env0 (P : Program) (w : World) (K : PySem.W.Frag) (mg : Str → Option Value) (base : Heap) (A : Around) (outer : List Env) (s : Shared) (H : Hp) : Prop where
  frames : A.frames = some outer
  mod : Mod K mg base
  bs : ∀ b o, base.get? b = some o → s.heap.get? b = some o ∧ H b = none
  bsz : base.objs.size ≤ s.heap.objs.size
  funs : s.heap.FunFrames base outer
  frf : ∀ b ∈ frs outer, H b = none
  hok : HOk P w H s.heap
  bare : AllBare s.gens
/-- a call's end -/
def CE (outer : List Env) (P : Program) (w : World) (H : Hp) (s : Shared) (Q : VK) (u : Value) (s' : Shared) : Prop :=
  ∃ v H', s'.os = s.os ∧ AllBare s'.gens ∧ Un (frs outer) [] H H' s.heap s'.heap ∧ HOk P w H' s'.heap ∧ RelV v u ∧ Q v H'
def CR (CX : CXT) (outer : List Env) (P : Program) (w : World) (H : Hp) (s : Shared) (Q : VK) (E : XK) (r : Result) (s' : Shared) : Prop :=
  match r with
  | .ok (.ret u) => CE outer P w H s Q u s'
  | .ok _ => False
  | .error e => CX outer H s E e s'
structure FnOk (P : Program) (w : World) (K : PySem.W.Frag) (mg : Str → Option Value) (base : Heap) (CX : CXT) (k : Nat) (f : Addr) (fd : FuncData) (ps : List Str) (sp : Sp) : Prop where
  len : ∀ vs H Q E, sp vs H Q E → vs.length = ps.length
  run : ∀ (A : Around) (outer : List Env) (s : Shared) (H : Hp) (args : Args) (us : List Value) (vs : List V) (Q : VK) (E : XK), Room k A → Env0 P w K mg base A outer s H → BindsTo s fd args (ps.zip us) → Vals vs us → sp vs H Q E →
    codeAny (model P w) A (.call (.ref f) args) (CR CX outer P w H s Q E) s
theorem FnOk.mono {P : Program} {w : World} {K : PySem.W.Frag} {mg : Str → Option Value} {base : Heap} {CX : CXT} {j k : Nat} {f : Addr} {fd : FuncData} {ps : List Str} {sp : Sp} (F : FnOk P w K mg base CX j f fd ps sp) (h : j ≤ k) :
    FnOk P w K mg base CX k f fd ps sp := ⟨F.len, fun A outer s H args us vs Q E hr => F.run A outer s H args us vs Q E (hr.mono h)⟩
/-- a weaker promise -/
theorem FnOk.imp {P : Program} {w : World} {K : PySem.W.Frag} {mg : Str → Option Value} {base : Heap} {CX : CXT} {k : Nat} {f : Addr} {fd : FuncData} {ps : List Str} {sp sp' : Sp} (F : FnOk P w K mg base CX k f fd ps sp)
    (h : ∀ vs H Q E, sp' vs H Q E → sp vs H Q E) : FnOk P w K mg base CX k f fd ps sp' :=
  ⟨fun vs H Q E q => F.len vs H Q E (h _ _ _ _ q), fun A outer s H args us vs Q E hr he hb hv hs => F.run A outer s H args us vs Q E hr he hb hv (h _ _ _ _ hs)⟩

theorem Env0.in1 {P : Program} {w : World} {K : PySem.W.Frag} {mg : Str → Option Value} {base : Heap} {A : Around} {outer : List Env} {s : Shared} {H : Hp} (e : Env0 P w K mg base A outer s H) :
    Env0 P w K mg base A.in1 outer s H := ⟨e.frames, e.mod, e.bs, e.bsz, e.funs, e.frf, e.hok, e.bare⟩

section
variable {X : Cx} {pins : List (Addr × Obj)} {σ : St} {H : Hp} {s s' : Shared}
/-- from a body: what a callee wants -/
theorem Inv.env0 (I : Inv X pins σ H s) : Env0 X.prog X.w X.K X.mg X.base X.A X.stack s H :=
  ⟨I.ok.frames, I.ok.mod, I.bs, Nat.le_trans I.ok.bsz I.sz, I.stack, I.stkFree, I.hok, I.bare⟩
/-- behind a call -/
theorem Inv.after {Q : VK} {u : Value} (I : Inv X pins σ H s) (h : CE X.stack X.prog X.w H s Q u s') : EP X pins σ Q u s' := by
  obtain ⟨v, H', os, bare, un, hok, r, q⟩ := h
  obtain ⟨hh, g, d, t, os'⟩ := s'
  obtain rfl : os' = s.os := os
  exact ⟨v, H', I.call (h' := hh) (g' := g) (d' := d) (t' := t) (ch := []) un hok bare (fun b z => absurd z (by simp)), r, q⟩
end

/-! ### calls -/
/-- f(..): the written arguments, then the defaults dvs; E: what is wanted of an exception -/
def tCall (sp : Sp) (dvs : List V) (E : XK) (t : TA) : TE := fun σ H Q => t σ H fun vs H1 => sp (vs ++ dvs) H1 Q E
/-- how the parameters are bound: us the positional arguments, kw the keywords' values by name, ds the defaults that fill up -/
def Binds (K : PySem.W.Frag) (fd : FuncData) (ps : List Str) (ds : List Value) : Prop :=
  ∀ (s : Shared) (us : List Value), K.In s.heap → (us ++ ds).length = ps.length → BindsTo s fd ⟨us, []⟩ (ps.zip (us ++ ds))
/-- every parameter is given -/
theorem Binds.all {K : PySem.W.Frag} {fd : FuncData} {ps : List Str} (h : ∀ us : List Value, us.length = ps.length → bindArgs fd ⟨us, []⟩ = pure (ps.zip us)) : Binds K fd ps [] := fun s us _ hl => by
  rw [List.append_nil] at hl ⊢
  exact .of_eq (h us hl)

/-- an exception of a callee reaches what this body wants of exceptions -/
def Passes (CX : CXT) (X : Cx) (E : XK) : Prop := ∀ (pins : List (Addr × Obj)) (σ : St) (H : Hp) (s : Shared) (e : Value) (s' : Shared), Inv X pins σ H s → CX X.stack H s E e s' → X.xe e s'

section
variable {X : Cx} {CX : CXT} {k : Nat} {f C : Addr} {fd : FuncData} {ps : List Str} {sp : Sp} {dvs : List V} {ds : List Value} {E : XK} {x m : Str} {p pos apos : Pos} {e o : Expr} {es : List Expr} {ta : TE} {t : TA}

/-- the callee runs -/
theorem run_fn {pins : List (Addr × Obj)} {σ : St} {H : Hp} {s : Shared} {Q : VK} {us : List Value} {vs : List V} (F : FnOk X.prog X.w X.K X.mg X.base CX k f fd ps sp) (hr : Room k X.A) (hb : Binds X.K fd ps ds) (hd : Vals dvs ds) (hx : Passes CX X E)
    (I : Inv X pins σ H s) (r : Vals vs us) (h : sp (vs ++ dvs) H Q E) : wpAny (model X.prog X.w) X.A (call (.ref f) us) (EP X pins σ Q) X.xe s := by
  have r2 : Vals (vs ++ dvs) (us ++ ds) := r.append hd
  have hl : (us ++ ds).length = ps.length := by rw [← r2.length]; exact F.len _ _ _ _ h
  refine wpAny_call (codeAny_mono (F.run X.A X.stack s H ⟨us, []⟩ (us ++ ds) (vs ++ dvs) Q E hr I.env0 (hb s us I.kIn hl) r2 h) fun r s' hq => ?_)
  cases r with
  | error e => exact hx pins σ H s e s' I hq
  | ok fl =>
    cases fl with
    | ret u => exact I.after hq
    | next => exact False.elim hq
    | brk => exact False.elim hq
    | cont => exact False.elim hq

theorem pe_call (F : FnOk X.prog X.w X.K X.mg X.base CX k f fd ps sp) (hr : Room k X.A) (hg : Gl X x) (hm : X.mg x = some (.ref f)) (hk : PySem.W.keepIn X.K (.ref f) = true) (hb : Binds X.K fd ps ds) (hd : Vals dvs ds) (hx : Passes CX X E)
    (ha : PA X (e :: es) t) (hdb : (x == ("__debug__" : Str)) = false := by decide) (he : starEach (e :: es) X.env = (false, eval e X.env) :: starEach es X.env := by rfl) (hpl : (backTo pos (starEach es X.env)).any (·.1) = false := by rfl) :
    PE X (.Call (.Name x p) (e :: es) [] pos) (tCall sp dvs E t) := by
  intro pins s σ H Q I h
  refine wpAny_Call_Name_kw (ld_glob I hg hm ?_ hdb)
  refine PySem.W.callWith_K (h₀ := X.base) I.ok.mod.kin hk (thn (ha pos pins s σ H _ I h) fun us s1 ⟨vs, H1, I1, r, q⟩ => ⟨I1.kIn, ?_⟩) he hpl
  exact run_fn F hr hb hd hx I1 r q
theorem pe_call0 (F : FnOk X.prog X.w X.K X.mg X.base CX k f fd ps sp) (hr : Room k X.A) (hg : Gl X x) (hm : X.mg x = some (.ref f)) (hk : PySem.W.keepIn X.K (.ref f) = true) (hb : Binds X.K fd ps ds) (hd : Vals dvs ds) (hx : Passes CX X E)
    (hdb : (x == ("__debug__" : Str)) = false := by decide) : PE X (.Call (.Name x p) [] [] pos) (tCall sp dvs E tNil) := by
  intro pins s σ H Q I h
  refine wpAny_Call_Name_kw (ld_glob I hg hm ?_ hdb)
  exact PySem.W.callWith_K0 I.kIn hk (run_fn (us := []) F hr hb hd hx I .nil h)

end

/-! ### keywords -/
section
variable {X : Cx} {CX : CXT} {k : Nat} {f C : Addr} {fd : FuncData} {ps ks : List Str} {sp : Sp} {E : XK} {x m : Str} {p pos apos kpos : Pos} {e o : Expr} {es : List Expr} {kws : List Keyword} {te ta : TE} {t tk : TA} {nm : Option Str}
variable {g : List Value → List Value → List Value} {gV : List V → List V → List V}
end

/-! ### a def's body keeps its promise -/
/-- names: the parameters first -/
structure FnScope (N P : List Str) (sc : Scope) : Prop where
  kind : sc.kind = .function
  co : sc.isCoroutine = false
  gen : sc.isGenerator = false
  nd : N.Nodup
  pre : N.take P.length = P
  par : ∀ x ∈ P, sc.names.lookup x = some .local ∨ sc.names.lookup x = some .cell
  nofree : ∀ y ∈ sc.names, y.2 ≠ .free

theorem bindL_out {kindOf : Str → Option NameKind} {x : Str} : ∀ {binds : List (Str × Value)} {m : Str → Option Value}, (∀ v, (x, v) ∉ binds) → bindL kindOf binds m x = m x
  | [], _, _ => rfl
  | (n, v) :: r, m, h => by
    unfold bindL
    rw [bindL_out fun w hw => h w (List.mem_cons_of_mem _ hw)]
    split
    · have : x ≠ n := by rintro rfl; exact h v List.mem_cons_self
      simp [this]
    · rfl
theorem bindC_out {kindOf : Str → Option NameKind} {x : Str} : ∀ {binds : List (Str × Value)} {m : Str → Option Value}, (∀ v, (x, v) ∉ binds) → bindC kindOf binds m x = m x
  | [], _, _ => rfl
  | (n, v) :: r, m, h => by
    unfold bindC
    rw [bindC_out fun w hw => h w (List.mem_cons_of_mem _ hw)]
    split
    · rfl
    · have : x ≠ n := by rintro rfl; exact h v List.mem_cons_self
      simp [this]
theorem bindL_get {kindOf : Str → Option NameKind} {x : Str} {v : Value} : ∀ {P : List Str} {vs : List Value} {i : Nat} {m : Str → Option Value}, P.Nodup → P[i]? = some x → vs[i]? = some v → kindOf x = some .local →
    bindL kindOf (P.zip vs) m x = some v
  | [], _, _, _, _, h, _, _ => by simp at h
  | _ :: _, [], _, _, _, _, h, _ => by simp at h
  | p :: P, w :: vs, 0, m, nd, h1, h2, hk => by
    simp at h1 h2; subst h1; subst h2
    show bindL kindOf ((p, w) :: P.zip vs) m p = _
    unfold bindL
    rw [bindL_out fun v hv => (List.nodup_cons.mp nd).1 (List.of_mem_zip hv).1, if_pos hk]
    simp
  | p :: P, w :: vs, i + 1, m, nd, h1, h2, hk => by
    show bindL kindOf ((p, w) :: P.zip vs) m x = _
    unfold bindL
    exact bindL_get (i := i) (List.nodup_cons.mp nd).2 (by simpa using h1) (by simpa using h2) hk
theorem bindC_get {kindOf : Str → Option NameKind} {x : Str} {v : Value} : ∀ {P : List Str} {vs : List Value} {i : Nat} {m : Str → Option Value}, P.Nodup → P[i]? = some x → vs[i]? = some v → kindOf x ≠ some .local →
    bindC kindOf (P.zip vs) m x = some v
  | [], _, _, _, _, h, _, _ => by simp at h
  | _ :: _, [], _, _, _, _, h, _ => by simp at h
  | p :: P, w :: vs, 0, m, nd, h1, h2, hk => by
    simp at h1 h2; subst h1; subst h2
    show bindC kindOf ((p, w) :: P.zip vs) m p = _
    unfold bindC
    rw [bindC_out fun v hv => (List.nodup_cons.mp nd).1 (List.of_mem_zip hv).1, if_neg hk]
    simp
  | p :: P, w :: vs, i + 1, m, nd, h1, h2, hk => by
    show bindC kindOf ((p, w) :: P.zip vs) m x = _
    unfold bindC
    exact bindC_get (i := i) (List.nodup_cons.mp nd).2 (by simpa using h1) (by simpa using h2) hk

/-- the names' values at the entry -/
def start (N : List Str) (vs : List V) : St := vs.map some ++ List.replicate (N.length - vs.length) none

/-- the context of a def's body, at its entry; an exception leaves the frame, then lies as CX says -/
def cxOf (CX : CXT) (P : Program) (w : World) (K : PySem.W.Frag) (mg : Str → Option Value) (base : Heap) (N : List Str) (qual : Str) (scope : Scope) (f : Addr) (cd : Value) (A : Around) (outer : List Env) (s : Shared) (H : Hp) (E : XK) : Cx where
  prog := P
  w := w
  K := K
  mg := mg
  base := base
  A := A.deeper (envOfC qual scope s.heap.objs.size f cd)
  N := N
  s₀ := s
  H₀ := H
  env := envOfC qual scope s.heap.objs.size f cd
  outer := outer
  stack := envOfC qual scope s.heap.objs.size f cd :: outer
  ex := []
  calm := true
  fn := fun _ => true
  pn := []
  xe := fun e s' => wpAny (model P w) (A.deeper (envOfC qual scope s.heap.objs.size f cd)) (leaving (envOfC qual scope s.heap.objs.size f cd) e) (fun _ s'' => CX outer H s E e s'') (fun e' s'' => CX outer H s E e' s'') s'

theorem cell_has {sc : Scope} {n : Nat} {x : Str} (h : sc.names.lookup x = some .cell) : ∃ c, (cellsFrom n sc.names []).lookup x = some c := by
  have q := PySem.W.cellsFrom_some sc.names n [] (.inl h)
  exact Option.isSome_iff_exists.mp q

theorem inv_start {CX : CXT} {P : Program} {w : World} {K : PySem.W.Frag} {mg : Str → Option Value} {base : Heap} {N ps : List Str} {qual : Str} {scope : Scope} {f : Addr} {cd : Value} {A : Around} {outer : List Env} {s s1 : Shared} {H : Hp} {E : XK} {us : List Value} {vs : List V}
    (S : FnScope N ps scope) (hd : A.handled = none) (e0 : Env0 P w K mg base A outer s H) (hl : vs.length = ps.length) (r : Vals vs us)
    (x : InCallC s s.heap.objs.size (bindL (envOfC qual scope s.heap.objs.size f cd).kindOf (ps.zip us) fun _ => none) (cellsFrom (s.heap.objs.size + 1) scope.names []) (bindC (envOfC qual scope s.heap.objs.size f cd).kindOf (ps.zip us) fun _ => none) s1) :
    Inv (cxOf CX P w K mg base N qual scope f cd A outer s H E) [] (start N vs) H s1 := by
  have hpl : ps.length ≤ N.length := by have := congrArg List.length S.pre; rw [List.length_take] at this; omega
  obtain ⟨h1, tk, rfl, hk⟩ := x.done
  have noA : ∀ b : Addr, b ∉ (cxOf CX P w K mg base N qual scope f cd A outer s H E).ex := fun b z => absurd (show b ∈ ([] : List Addr) from z) (by simp)
  refine ⟨⟨e0.mod, S.kind, rfl, rfl, Nat.le_refl _, fun y z c h1 h2 => ?_, fun y hy => ?_, fun y c _ h => ?_, fun _ => hd, Around.frames_deeper e0.frames, .inr ⟨rfl, rfl⟩, fun b z => absurd z (noA b), e0.bs, e0.bsz, fun b _ _ => noA b, fun b z => absurd z (noA b), e0.funs, e0.frf⟩,
    rfl, e0.bare, Un.kept hk, ⟨_, x.toInCall.ns, fun i y v h1 h2 h3 => ?_⟩, fun y c h => ⟨_, x.cell y c h⟩, e0.hok.fresh (Nat.le_refl _), fun y c h => ?_, fun p hp => absurd (show p ∈ ([] : List (Addr × Obj)) from hp) (by simp), e0.hok.kept hk, ?_⟩
  · exact name_of_addr x.apart (PySem.mem_of_lookup h1) (PySem.mem_of_lookup h2)
  · have hy : scope.names.lookup y = some .cell ∨ scope.names.lookup y = some .free := hy
    rcases hy with hy | hy
    · exact cell_has hy
    · exact absurd rfl (S.nofree _ (PySem.mem_of_lookup hy))
  · exact Nat.le_of_lt (x.above y c (PySem.mem_of_lookup h))
  · have hi : i < vs.length := by
      unfold start at h2
      by_cases hi : i < vs.length
      · exact hi
      · rw [List.getElem?_append_right (by simpa using hi)] at h2
        rw [List.getElem?_replicate] at h2
        split at h2 <;> cases h2
    have ha : vs[i]? = some v := by
      unfold start at h2
      rw [List.getElem?_append_left (by simpa using hi), List.getElem?_map] at h2
      cases e : vs[i]? with
      | none => rw [e] at h2; cases h2
      | some a => rw [e] at h2; cases h2; rfl
    obtain ⟨u, hu, rv⟩ := r.get ha
    have hp : ps[i]? = some y := by
      rw [← S.pre, List.getElem?_take_of_lt (by omega)]; exact h1
    have ndP : ps.Nodup := by rw [← S.pre]; exact S.nd.sublist (List.take_sublist _ _)
    refine ⟨u, rv, ?_⟩
    rcases S.par y (List.mem_of_getElem? hp) with k | k
    · exact .inl ⟨k, bindL_get ndP hp hu k⟩
    · obtain ⟨c, e⟩ := cell_has (n := s.heap.objs.size + 1) k
      refine .inr ⟨.inl k, c, e, ?_⟩
      have q := x.cell y c e
      rw [bindC_get ndP hp hu (by show scope.names.lookup y ≠ _; rw [k]; decide)] at q
      exact q
  · exact e0.hok.fresh (Nat.le_of_lt (x.above y c (PySem.mem_of_lookup h)))
  · unfold start
    show _ = N.length
    rw [List.length_append, List.length_map, List.length_replicate]
    omega

/-- THE RULE: a def (or a method) of the text, by its body. The body's reading t is chosen for each entry; it is run at the parameters' values -/
theorem fn_of {CX : CXT} {P : Program} {w : World} {K : PySem.W.Frag} {mg : Str → Option Value} {base : Heap} {k : Nat} {f : Addr} {name qual : Str} {params : Arguments} {body : List Stmt} {scope : Scope} {dV kV doc pm cdv ct oc : Value} {an od : Option Addr}
    {osl : Array (Option Value)} {N ps : List Str} {sp : Sp} (lk : K.lookup f = some ⟨oc, od, .func (PySem.W.fnOf name qual params body scope dV kV doc pm an cdv ct), osl⟩) (hcd : PySem.W.codeIn K cdv qual = true) (S : FnScope N ps scope)
    (len : ∀ vs H Q E, sp vs H Q E → vs.length = ps.length)
    (hbody : ∀ (A : Around) (outer : List Env) (s : Shared) (H : Hp) (vs : List V) (Q : VK) (E : XK), Room k (A.deeper (envOfC qual scope s.heap.objs.size f cdv)) → sp vs H Q E →
      ∃ t, PSs (cxOf CX P w K mg base N qual scope f cdv A outer s H E) body t ∧ t { nx := fun _ H' => Q .non H', rt := Q } (start N vs) H) :
    FnOk P w K mg base CX (k + 1) f (PySem.W.fnOf name qual params body scope dV kV doc pm an cdv ct) ps sp := by
  refine ⟨len, fun A outer s H args us vs Q E hr e0 hb r hsp => ?_⟩
  have hl := len _ _ _ _ hsp
  have KX : K.In s.heap := e0.mod.kin.keeps fun b o e => (e0.bs b o e).1
  have lim : s.heap.NoLimit := e0.mod.nolimit.keeps fun b o e => (e0.bs b o e).1
  have hkind : ∀ y ∈ ps.zip us, scope.names.lookup y.1 = some .local ∨ (scope.names.lookup y.1 = some .cell ∧ ((cellsFrom (s.heap.objs.size + 1) scope.names []).lookup y.1).isSome = true) := fun ⟨n, v⟩ hy => by
    rcases S.par n (List.of_mem_zip hy).1 with q | q
    · exact .inl q
    · exact .inr ⟨q, PySem.W.cellsFrom_some _ _ _ (.inl q)⟩
  refine codeAny_call_function hr.depth (KX _ _ lk) rfl S.co S.gen rfl (PySem.W.codeRec_of KX hcd) (hb _ _ _ _ ?_)
  refine wpAny_newFunctionEnv_cells S.kind hkind fun env he s1 x => ?_
  subst he
  refine ⟨lim.keeps x.toInCall.keep, codeAny_func ?_⟩
  obtain ⟨t, ht, hq⟩ := hbody A outer s H vs Q E (hr.deeper _) hsp
  have I : Inv (cxOf CX P w K mg base N qual scope f cdv A outer s H E) [] (start N vs) H s1 := inv_start S hr.hd e0 hl r x
  refine wpAny_mono (ht [] s1 (start N vs) H _ I hq) (fun fl s' hs => ?_) fun e s' hs => hs
  have fin : ∀ {σ' : St} {H' : Hp} {v : V} {u : Value}, Inv (cxOf CX P w K mg base N qual scope f cdv A outer s H E) [] σ' H' s' → RelV v u → Q v H' → CE outer P w H s Q u s' :=
    fun {σ' H' v u} J rv q => ⟨v, H', J.os, J.bare, J.base, J.hok, rv, q⟩
  cases fl with
  | ret u =>
    obtain ⟨v, σ', H', J, rv, q⟩ := hs
    exact fin J rv q
  | next =>
    obtain ⟨σ', H', J, q⟩ := hs
    exact fin (v := V.non) (u := Value.none) J rfl q
  | brk =>
    obtain ⟨_, _, _, q⟩ := hs
    exact False.elim q
  | cont =>
    obtain ⟨_, _, _, q⟩ := hs
    exact False.elim q
end L2

namespace L2
open PySem PySem.Spec PyProof.Rows
section
variable {X : Cx} {x : Str} {p pos : Pos} {e : Expr} {es : List Expr} {t : TA} {id T : String} {r : List V → Hp → VK → Prop}

def tCB (r : List V → Hp → VK → Prop) (t : TA) : TE := fun σ H Q => t σ H fun vs H1 => r vs H1 Q
/-- f(e, ..), f a built-in function -/
theorem pe_callB (hc : CallR X (.builtin id) r) (hg : Gl X x) (hm : X.mg x = none) (hv : bootBuiltins x = some (.builtin id)) (ha : PA X (e :: es) t) (hn : x ≠ "__name__" := by decide) (hdb : (x == ("__debug__" : Str)) = false := by decide)
    (he : starEach (e :: es) X.env = (false, eval e X.env) :: starEach es X.env := by rfl) (hpl : (backTo pos (starEach es X.env)).any (·.1) = false := by rfl) : PE X (.Call (.Name x p) (e :: es) [] pos) (tCB r t) := by
  intro pins s σ H Q I h
  refine wpAny_Call_Name_kw (ld_blt I hg hm hv ?_ hn hdb)
  exact PyProof.Rows.callWith_builtin1 (thn (ha pos pins s σ H _ I h) fun us s1 ⟨vs, H1, I1, r1, q1⟩ => hc pins s1 σ H1 vs us Q I1 r1 q1) he hpl
/-- T(e, ..), T a built-in type -/
theorem pe_callTy (hc : CallR X (.type T) r) (hg : Gl X x) (hm : X.mg x = none) (hv : bootBuiltins x = some (.type T)) (ha : PA X (e :: es) t) (hn : x ≠ "__name__" := by decide) (hdb : (x == ("__debug__" : Str)) = false := by decide)
    (he : starEach (e :: es) X.env = (false, eval e X.env) :: starEach es X.env := by rfl) (hpl : (backTo pos (starEach es X.env)).any (·.1) = false := by rfl) : PE X (.Call (.Name x p) (e :: es) [] pos) (tCB r t) := by
  intro pins s σ H Q I h
  refine wpAny_Call_Name_kw (ld_blt I hg hm hv ?_ hn hdb)
  exact PyProof.Rows.callWith_type1 (thn (ha pos pins s σ H _ I h) fun us s1 ⟨vs, H1, I1, r1, q1⟩ => hc pins s1 σ H1 vs us Q I1 r1 q1) he hpl
end
end L2

namespace HT
open PySem PyProof.Rows

/-- t < u of tuples of ints -/
def lexLt : List Int → List Int → Bool
  | [], [] => false
  | [], _ :: _ => true
  | _ :: _, [] => false
  | x :: xs, y :: ys => if x = y then lexLt xs ys else decide (x < y)
theorem lexLt_cons (x y : Int) (xs ys : List Int) : lexLt (x :: xs) (y :: ys) = if x = y then lexLt xs ys else decide (x < y) := rfl
theorem rcLt_int (A : Around) (s : Shared) (a : Int) (t : Tok) (c : Int) (u : Tok) (prog : Program) (w : World) (E : Value → Shared → Prop) (Q : Value → Shared → Prop) (h : Q (.bool (decide (a < c))) s) :
    wpAny (model prog w) A (richCompare .Lt (.int a t) (.int c u)) Q E s :=
  (PyProof.Rows.lt_int h : wpAny (model prog w) A (compareOp .Lt (.int a t) (.int c u)) Q E s)

section
open PySem.SeqAt
open PySem.AutoSeq1 (wpAny_loadPart')
open PySem.MeetsSeq PySem.MeetsSeq2 PySem.MeetsSeq3

end

section
variable {prog : Program} {w : World} {A : Around} {E : Value → Shared → Prop} {s : Shared}

/-- t + u, t not empty -/
theorem cat_tup {t b : Addr} {vs ws : List Value} {Q : Value → Shared → Prop} (ht : IsTup s.heap t vs.toArray) (hb : IsTup s.heap b ws.toArray) (hv : vs ≠ [])
    (h1 : ws = [] → Q (.ref t) s) (h2 : ws ≠ [] → Q (.ref s.heap.objs.size) { s with heap := s.heap.push { cls := .type "tuple", data := .seq (vs ++ ws).toArray } })
    (hsz : vs.length + ws.length ≤ sizeLine) : wpAny (model prog w) A (binaryOp .Add (.ref t) (.ref b)) Q E s := by
  obtain ⟨⟨cls, dd, data, sl⟩, ho, hc, n, hd⟩ := id ht
  obtain ⟨⟨cls2, dd2, data2, sl2⟩, ho2, hc2, n2, hd2⟩ := id hb
  simp only at hc hd hc2 hd2
  subst hc hd hc2 hd2
  have e : vs.toArray ++ ws.toArray = (vs ++ ws).toArray := by simp
  by_cases hw : ws = []
  · exact concat_meets ⟨_, ho, rfl⟩ ⟨_, ho2, rfl⟩ noFill_tuple_add seq_tuple_add PySem.F.slot_tuple_add PySem.F.entry_tuple_add (PySem.F.args_tuple_add_2 _ _)
      (tuple_addW1 t b vs.toArray ws.toArray n n2 dd dd2 sl sl2 (by simpa using hv) (by simp [hw])) ⟨ho, ho2, h1 hw⟩
  · refine concat_meets ⟨_, ho, rfl⟩ ⟨_, ho2, rfl⟩ noFill_tuple_add seq_tuple_add PySem.F.slot_tuple_add PySem.F.entry_tuple_add (PySem.F.args_tuple_add_2 _ _)
      (tuple_addW2 t b vs.toArray ws.toArray n n2 dd dd2 sl sl2 (by simpa using hv) (by simpa using hw) (by rw [List.size_toArray, List.size_toArray]; exact hsz)) ⟨ho, ho2, ?_⟩
    rw [e]
    exact h2 hw

/-! ### t[a:b], not the whole -/
/-- a slice's bound as a place among n (d where it is left out) -/
def sIx (n d : Nat) : Option Int → Nat
  | none => d
  | some v => if v < 0 then (v + (n : Int)).toNat else min v.toNat n
theorem sIx_nat (n d k : Nat) : sIx n d (some (k : Int)) = min k n := by
  show (if (k : Int) < 0 then ((k : Int) + (n : Int)).toNat else min (k : Int).toNat n) = min k n
  rw [if_neg (by omega), Int.toNat_natCast]
theorem sIx_le (n d : Nat) (hd : d ≤ n) (o : Option Int) : sIx n d o ≤ n := by
  cases o with
  | none => exact hd
  | some v =>
    show (if v < 0 then (v + (n : Int)).toNat else min v.toNat n) ≤ n
    by_cases hv : v < 0
    · rw [if_pos hv]; omega
    · rw [if_neg hv]; exact Nat.min_le_right _ _
theorem clip_eq (v : Int) (n d : Nat) : (if v < 0 then max (v + (n : Int)) 0 else min v (n : Int)) = ((sIx n d (some v) : Nat) : Int) := by
  show (if v < 0 then max (v + (n : Int)) 0 else min v (n : Int)) = (((if v < 0 then (v + (n : Int)).toNat else min v.toNat n) : Nat) : Int)
  by_cases hv : v < 0
  · simp only [if_pos hv]; omega
  · simp only [if_neg hv]; omega
theorem adjust_gen (lo hi : Option Int) (n : Nat) : Builtin.Slice.sliceAdjust lo hi 1 (n : Int) = (((sIx n 0 lo : Nat) : Int), ((sIx n n hi : Nat) : Int)) := by
  have h1 : ¬ ((1 : Int) < 0) := by omega
  unfold Builtin.Slice.sliceAdjust
  simp only [h1, if_false]
  refine Prod.ext ?_ ?_
  · cases lo with
    | none => rfl
    | some v => exact clip_eq v n 0
  · cases hi with
    | none => rfl
    | some v => exact clip_eq v n n
theorem places_gen (i j : Nat) : Builtin.Slice.slicePlaces (i : Int) (j : Int) 1 = j - i := by
  unfold Builtin.Slice.slicePlaces
  have h1 : (1 : Int) > 0 := by omega
  simp only [h1, if_true, Int.ediv_one]
  split <;> omega
theorem slicePart_ {v : Value} {o : Option Int} {Q : Option Int → Shared → Prop} (p : IsPart v o) (h : Q o s) : wpAny (model prog w) A (Builtin.Slice.slicePartIndex v) Q E s := by
  cases p with
  | none => exact slicePart_none h
  | int i t => exact slicePart_int h
theorem sliceApplied_gen {sl : Addr} {vl vu : Value} {lo hi : Option Int} {n : Nat} {Q : Int × Int × Nat → Shared → Prop} (hs : s.heap.IsSliceOf sl vl vu .none) (pl : IsPart vl lo) (pu : IsPart vu hi)
    (h : Q (((sIx n 0 lo : Nat) : Int), 1, sIx n n hi - sIx n 0 lo) s) : wpAny (model prog w) A (Builtin.Slice.sliceApplied (.ref sl) (pure (n : Int))) Q E s := by
  obtain ⟨os, hos, hcs, hds⟩ := id hs
  unfold Builtin.Slice.sliceApplied Builtin.Slice.sliceFields
  refine wpAny_bind (wpAny_bind (wpAny_field hos hds (x := vl) rfl (wpAny_bind (wpAny_field hos hds (x := vu) rfl (wpAny_bind (wpAny_field hos hds (x := .none) rfl (wpAny_pure ?_)))))))
  refine wpAny_bind (slicePart_none ?_)
  show wpAny _ _ (if ((1 : Int) == 0) = true then _ else _) _ _ s
  rw [if_neg (by decide)]
  refine wpAny_bind (slicePart_ pl (wpAny_bind (slicePart_ pu (wpAny_bind (wpAny_pure ?_)))))
  show wpAny _ _ (match Builtin.Slice.sliceAdjust lo hi 1 (n : Int) with | (lo, hi) => pure (lo, (1 : Int), Builtin.Slice.slicePlaces lo hi 1)) _ _ s
  rw [adjust_gen lo hi n]
  show wpAny _ _ (pure (((sIx n 0 lo : Nat) : Int), (1 : Int), Builtin.Slice.slicePlaces ((sIx n 0 lo : Nat) : Int) ((sIx n n hi : Nat) : Int) 1)) _ _ s
  rw [places_gen]
  exact wpAny_pure h
theorem pick_gen (xs : Array Value) (i k : Nat) : ((List.range k).filterMap fun (m : Nat) => xs[((i : Int) + (m : Int) * 1).toNat]?).toArray = ((xs.toList.drop i).take k).toArray := by
  have e : (fun (m : Nat) => xs[((i : Int) + (m : Int) * 1).toNat]?) = fun m => xs[i + m]? := by
    funext m
    have : ((i : Int) + (m : Int) * 1).toNat = i + m := by omega
    rw [this]
  rw [e]
  have := pick_run xs i k
  rw [List.filterMap_map] at this
  have e2 : ((fun x => xs[x]?) ∘ fun x => i + x) = fun m => xs[i + m]? := rfl
  rw [e2] at this
  rw [this]

theorem getItem_tuple_cut {t sl : Addr} {items : Array Value} {vl vu : Value} {lo hi : Option Int} {Q : Value → Shared → Prop} (ht : IsTup s.heap t items) (hs : s.heap.IsSliceOf sl vl vu .none) (pl : IsPart vl lo) (pu : IsPart vu hi)
    (hw : ¬ (sIx items.size 0 lo = 0 ∧ sIx items.size items.size hi = items.size))
    (h : Q (.ref s.heap.objs.size) { s with heap := s.heap.push { cls := .type "tuple", data := .seq ((items.toList.drop (sIx items.size 0 lo)).take (sIx items.size items.size hi - sIx items.size 0 lo)).toArray } })
    (hsz : items.size ≤ sizeLine) : wpAny (model prog w) A (getItem (.ref t) (.ref sl)) Q E s := by
  have htake : sizeOk (.seq ((items.toList.drop (sIx items.size 0 lo)).take (sIx items.size items.size hi - sIx items.size 0 lo)).toArray) := by
    show ((items.toList.drop (sIx items.size 0 lo)).take (sIx items.size items.size hi - sIx items.size 0 lo)).toArray.size ≤ sizeLine
    rw [List.size_toArray, List.length_take, List.length_drop, Array.length_toList]
    omega
  have hj : sIx items.size items.size hi ≤ items.size := sIx_le _ _ (Nat.le_refl _) hi
  obtain ⟨os, hos, hcs, hds⟩ := id hs
  have hTs : s.TypeIs (.ref sl) "slice" := ⟨os, hos, hcs⟩
  unfold getItem
  try with_reducible refine wpAny_holding ?_
  first | refine wpAny_bind (wpAny_pure ?_) | skip
  refine wpAny_bind (wpAny_sequenceKey ht.typeIs (by decide) ?_)
  refine wpAny_bind (wpAny_callSpecial?_slot (name := Str.ofString "__getitem__") ht.typeIs PyProof.Rows.slot_tuple_getitem
    (wpAny_call_entry PyProof.Rows.slot_tuple_getitem ht.typeIs entry_tuple_getitem ?_ (args_tuple_getitem _ _)))
  show wpAny _ _ (Builtin.Tuple.tupleItemsOf (.ref t) >>= _) _ _ s
  refine wpAny_bind (tupleItemsOf_ ht ?_)
  refine wpAny_bind (wpAny_typeOf hTs ?_)
  rw [if_pos (by decide)]
  refine wpAny_bind (sliceApplied_gen hs pl pu ?_)
  have hno : ¬ ((((sIx items.size 0 lo : Nat) : Int) == 0 && (1 : Int) == 1 && (sIx items.size items.size hi - sIx items.size 0 lo) == items.size) = true) := by
    intro q
    rw [Bool.and_eq_true, Bool.and_eq_true] at q
    have q1 : ((sIx items.size 0 lo : Nat) : Int) = 0 := eq_of_beq q.1.1
    have q2 : sIx items.size items.size hi - sIx items.size 0 lo = items.size := eq_of_beq q.2
    exact hw ⟨by omega, by omega⟩
  show wpAny _ _ (if (((sIx items.size 0 lo : Nat) : Int) == 0 && (1 : Int) == 1 && (sIx items.size items.size hi - sIx items.size 0 lo) == items.size) = true then _ else _) _ _ s
  rw [if_neg hno, pick_gen]
  first
    | exact wpAny_bind (m := Builtin.Tuple.tupleExact _) (wpAny_newObj_type (wpAny_pure ⟨_, rfl, wpAny_pure h⟩) htake)
    | exact wpAny_bind (m := Builtin.Tuple.tupleExact _) (wpAny_newObj_type (wpAny_bind (wpAny_pure (wpAny_pure ⟨_, rfl, wpAny_pure h⟩))) htake)
    | exact wpAny_bind (wpAny_bind (m := Builtin.Tuple.tupleExact _) (wpAny_newObj_type (wpAny_pure (wpAny_pure ⟨_, rfl, wpAny_pure h⟩)) htake))
    | exact wpAny_bind (wpAny_bind (m := Builtin.Tuple.tupleExact _) (wpAny_newObj_type (wpAny_pure ⟨_, rfl, wpAny_pure h⟩) htake))
end
end HT

namespace L2
open PySem PySem.Spec PyProof.Rows

/-! ### the parts of a slice -/
abbrev TO := St → Hp → (Option Int → Hp → Prop) → Prop
/-- a slice's part (left out, or an int) -/
def PO (X : Cx) (e : Option Expr) (t : TO) : Prop :=
  ∀ (pins : List (Addr × Obj)) (s : Shared) (σ : St) (H : Hp) (Q : Option Int → Hp → Prop), Inv X pins σ H s → t σ H Q →
    wpAny (model X.prog X.w) X.A (evalPart e X.env) (fun u s' => ∃ o H', Inv X pins σ H' s' ∧ IsPart u o ∧ Q o H') X.xe s
def tPart (t : TE) : TO := fun σ H Q => t σ H fun x H1 => ∃ i, x = .int i ∧ Q (some i) H1

section
variable {X : Cx} {e : Expr} {te : TE} {lo hi : Option Expr} {tl th : TO} {pos p2 : Pos}

theorem po_some (h : PE X e te) : PO X (some e) (tPart te) := by
  intro pins s σ H Q I hw
  rw [evalPart_some]
  refine thn (h pins s σ H _ I hw) fun u s1 ⟨x, H1, I1, r1, q1⟩ => ?_
  obtain ⟨i, rfl, q⟩ := q1
  obtain ⟨t, rfl⟩ := r1
  exact ⟨some i, H1, I1, .int i t, q⟩

/-- what a slice of a value is, by values: the slice object stands at sl -/
def SlR (X : Cx) (r : V → Option Int → Option Int → Hp → VK → Prop) : Prop :=
  ∀ (pins : List (Addr × Obj)) (s : Shared) (σ : St) (H : Hp) (x : V) (v vl vu : Value) (lo hi : Option Int) (sl : Addr) (Q : VK), Inv X pins σ H s → RelV x v → s.heap.IsSliceOf sl vl vu .none → IsPart vl lo → IsPart vu hi → r x lo hi H Q →
    ∃ T id, typeLookup (.type T) "__getitem__" = pure (some (.builtin id)) ∧ s.TypeIs v T ∧ wpAny (model X.prog X.w) X.A (getItem v (.ref sl)) (EP X pins σ Q) X.xe s
theorem SlR.or {r r' : V → Option Int → Option Int → Hp → VK → Prop} (h : SlR X r) (h' : SlR X r') : SlR X (fun x lo hi H Q => r x lo hi H Q ∨ r' x lo hi H Q) := by
  intro pins s σ H x v vl vu lo hi sl Q I rx hs pl pu q
  rcases q with q | q
  · exact h pins s σ H x v vl vu lo hi sl Q I rx hs pl pu q
  · exact h' pins s σ H x v vl vu lo hi sl Q I rx hs pl pu q
def tSl (r : V → Option Int → Option Int → Hp → VK → Prop) (te : TE) (tl th : TO) : TE := fun σ H Q => te σ H fun x H1 => tl σ H1 fun l H2 => th σ H2 fun u H3 => r x l u H3 Q
/-- a[lo:hi], any a -/
theorem pe_slice {r : V → Option Int → Option Int → Hp → VK → Prop} (hr : SlR X r) (he : PE X e te) (hl : PO X lo tl) (hu : PO X hi th) : PE X (.Subscript e (.Slice lo hi none p2) pos) (tSl r te tl th) := by
  intro pins s σ H Q I h
  refine Subscript_ (thn (he pins s σ H _ I h) fun v s1 ⟨x, H1, I1, r1, q1⟩ => ?_)
  refine wpAny_Slice (thn (hl pins s1 σ H1 _ I1 q1) fun vl s2 ⟨l, H2, I2, pl, q2⟩ => thn (hu pins s2 σ H2 _ I2 q2) fun vu s3 ⟨u, H3, I3, pu, q3⟩ => ?_)
  rw [evalPart_none]
  refine wpAny_pure ?_
  have I4 : Inv X pins σ H3 { s3 with heap := s3.heap.push { cls := .type "slice", data := .fields #[vl, vu, .none] } } := I3.kept (t' := s3.toks) fun b ob q => Heap.get?_push_of_some _ q
  obtain ⟨T, id, hT, ht, hg⟩ := hr pins { s3 with heap := s3.heap.push { cls := .type "slice", data := .fields #[vl, vu, .none] } } σ H3 x v vl vu l u s3.heap.objs.size Q I4 r1 (Heap.IsSliceOf.new ..) pl pu q3
  show wpAny (model X.prog X.w) X.A (subscriptTail e (.Slice lo hi none p2) v (.ref s3.heap.objs.size)) (EP X pins σ Q) X.xe { s3 with heap := s3.heap.push { cls := .type "slice", data := .fields #[vl, vu, .none] } }
  exact tail_any (ops := [.ref s3.heap.objs.size, v]) ht hT hg (by with_unfolding_all rfl)

/-- the items of xs[lo:hi] -/
def cutV (xs : List V) (lo hi : Option Int) : List V := (xs.drop (HT.sIx xs.length 0 lo)).take (HT.sIx xs.length xs.length hi - HT.sIx xs.length 0 lo)
theorem cutV_length (xs : List V) (lo hi : Option Int) : (cutV xs lo hi).length ≤ xs.length := by
  unfold cutV
  rw [List.length_take, List.length_drop]
  omega
/-- t[lo:hi], not the whole of it (the whole would be t itself) -/
def rSlT (K : PySem.W.Frag) : V → Option Int → Option Int → Hp → VK → Prop := fun x lo hi H Q => ∃ a xs, x = .ref a ∧ SqT K H a xs ∧
  ¬ (HT.sIx xs.length 0 lo = 0 ∧ HT.sIx xs.length xs.length hi = xs.length) ∧ ∀ p, H p = none → Q (.ref p) (upd H p (.tup (cutV xs lo hi)))
theorem sl_tup : SlR X (rSlT X.K) := by
  intro pins s σ H x v vl vu lo hi sl Q I rx hs pl pu h
  obtain ⟨a, xs, rfl, hx, hw, q⟩ := h
  cases rx
  obtain ⟨its, r, ht, hz⟩ := I.tuple hx
  have hlen : its.toArray.size = xs.length := by rw [List.size_toArray]; exact r.length.symm
  refine ⟨"tuple", _, PyProof.Rows.slot_tuple_getitem.lookup, ht.typeIs, ?_⟩
  refine HT.getItem_tuple_cut ht hs pl pu (by rw [hlen]; exact hw) ?_ (by rw [hlen]; exact hz)
  rw [hlen]
  refine ⟨.ref s.heap.objs.size, _, I.laid (t' := s.toks) (o := .tup (cutV xs lo hi)) (fun b ob q => Heap.get?_push_of_some _ q) (Nat.le_refl _) ?_, rfl, q _ (I.hok.fresh (Nat.le_refl _))⟩
  exact ⟨Nat.le_trans (cutV_length xs lo hi) hz, _, (r.drop (HT.sIx xs.length 0 lo)).take (HT.sIx xs.length xs.length hi - HT.sIx xs.length 0 lo), IsTup.new _ _⟩

/-! ### t < u, t + u -/
/-- t + u, t not empty: u empty gives t itself -/
def rCatT (K : PySem.W.Frag) : R2 := fun x y H Q => ∃ a b xs ys, x = .ref a ∧ y = .ref b ∧ SqT K H a xs ∧ SqT K H b ys ∧ xs ≠ [] ∧ xs.length + ys.length ≤ sizeLine ∧
  (ys = [] → Q (.ref a) H) ∧ (ys ≠ [] → ∀ p, H p = none → Q (.ref p) (upd H p (.tup (xs ++ ys))))
theorem Vals.nil_iff {xs : List V} {us : List Value} (r : Vals xs us) : us = [] ↔ xs = [] := by
  cases r with
  | nil => simp
  | cons _ _ => simp
theorem op_catT : OpR X (binaryOp .Add) (rCatT X.K) := by
  intro pins s σ H x y v u Q I rx ry h
  obtain ⟨a, b, xs, ys, rfl, rfl, ha, hb, hx, hz, q1, q2⟩ := h
  cases rx
  cases ry
  obtain ⟨its, r1, p1, _⟩ := I.tuple ha
  obtain ⟨its2, r2, p2, _⟩ := I.tuple hb
  refine HT.cat_tup p1 p2 (fun z => hx (r1.nil_iff.mp z)) (fun z => ⟨.ref a, H, I, rfl, q1 (r2.nil_iff.mp z)⟩) (fun z => ?_) (by rw [← r1.length, ← r2.length]; exact hz)
  refine ⟨.ref s.heap.objs.size, _, I.laid (t' := s.toks) (o := .tup (xs ++ ys)) (fun b ob q => Heap.get?_push_of_some _ q) (Nat.le_refl _) ?_, rfl, q2 (fun w => z (r2.nil_iff.mpr w)) _ (I.hok.fresh (Nat.le_refl _))⟩
  exact ⟨by rw [List.length_append]; exact hz, _, r1.append r2, IsTup.new _ _⟩
end
end L2

namespace L2
open PySem PySem.Spec PyProof.Rows

/-! ### places -/
/-- the place that an index of any sign means -/
def ixN (n : Nat) (i : Int) : Option Nat := if 0 ≤ i then (if i < n then some i.toNat else none) else if -(n : Int) ≤ i then some (i + n).toNat else none
def atI {α : Type} (xs : List α) (i : Int) : Option α := (ixN xs.length i).bind fun j => xs[j]?
theorem ixN_seq {n : Nat} {i : Int} {j : Nat} (h : ixN n i = some j) : seqIndex? i n = some j ∧ j < n ∧ -(n : Int) ≤ i ∧ i < n := by
  unfold ixN at h
  by_cases h0 : 0 ≤ i
  · rw [if_pos h0] at h
    by_cases h1 : i < n
    · rw [if_pos h1] at h
      have e : i.toNat = j := Option.some.inj h
      exact ⟨by rw [seqIndex_of h0 h1, e], by omega, by omega, h1⟩
    · rw [if_neg h1] at h; cases h
  · rw [if_neg h0] at h
    by_cases h1 : -(n : Int) ≤ i
    · rw [if_pos h1] at h
      have e : (i + n).toNat = j := Option.some.inj h
      exact ⟨by rw [seqIndex_neg (by omega) h1, e], by omega, h1, by omega⟩
    · rw [if_neg h1] at h; cases h
theorem atI_get {α : Type} {xs : List α} {i : Int} {v : α} (h : atI xs i = some v) : ∃ j, seqIndex? i xs.length = some j ∧ xs[j]? = some v ∧ j < xs.length ∧ -(xs.length : Int) ≤ i ∧ i < xs.length := by
  unfold atI at h
  cases e : ixN xs.length i with
  | none => rw [e] at h; cases h
  | some j =>
    rw [e] at h
    obtain ⟨h1, h2, h3, h4⟩ := ixN_seq e
    exact ⟨j, h1, h, h2, h3, h4⟩
theorem atI_nat {α : Type} {xs : List α} {j : Nat} {v : α} (h : xs[j]? = some v) : atI xs (j : Int) = some v := by
  have hj : j < xs.length := (List.getElem?_eq_some_iff.mp h).1
  have e : ixN xs.length (j : Int) = some j := by
    unfold ixN
    rw [if_pos (by omega), if_pos (by omega)]; simp
  unfold atI; rw [e]; exact h
theorem atI_last {α : Type} (xs : List α) (v : α) : atI (xs ++ [v]) (-1) = some v := by
  have hl : (xs ++ [v]).length = xs.length + 1 := by simp
  have e : ixN (xs ++ [v]).length (-1) = some xs.length := by
    unfold ixN
    rw [hl, if_neg (by decide), if_pos (by omega)]
    congr 1
    omega
  unfold atI
  rw [e]
  show (xs ++ [v])[xs.length]? = some v
  simp

/-! ### what may be subscripted -/
/-- what stands as an index of a plain subscript -/
def PlainIx (b : Expr) : Prop := ∀ o i, subscripted b false o i = operate [o, i] (getItem o i)
/-- a subscript by values -/
def IxR (X : Cx) (r : R2) : Prop :=
  ∀ (value slice : Expr) (pins : List (Addr × Obj)) (s : Shared) (σ : St) (H : Hp) (x y : V) (v u : Value) (Q : VK), Inv X pins σ H s → RelV x v → RelV y u → r x y H Q →
    subscripted slice false v u = operate [v, u] (getItem v u) → wpAny (model X.prog X.w) X.A (subscriptTail value slice v u) (EP X pins σ Q) X.xe s
/-- a call of a builtin's method by values: the receiver, the arguments -/
def MtR (X : Cx) (id : String) (r : V → List V → Hp → VK → Prop) : Prop :=
  ∀ (pins : List (Addr × Obj)) (s : Shared) (σ : St) (H : Hp) (x : V) (xs : List V) (v : Value) (us : List Value) (Q : VK), Inv X pins σ H s → RelV x v → Vals xs us → r x xs H Q →
    wpAny (model X.prog X.w) X.A (call (.builtin id) (v :: us)) (EP X pins σ Q) X.xe s
section
variable {X : Cx} {a b : Expr} {ta tb : TE} {pos : Pos}
theorem IxR.or {r r' : R2} (h : IxR X r) (h' : IxR X r') : IxR X (fun x y H Q => r x y H Q ∨ r' x y H Q) := by
  intro value slice pins s σ H x y v u Q I rx ry q hs
  rcases q with q | q
  · exact h value slice pins s σ H x y v u Q I rx ry q hs
  · exact h' value slice pins s σ H x y v u Q I rx ry q hs
theorem MtR.or {id : String} {r r' : V → List V → Hp → VK → Prop} (h : MtR X id r) (h' : MtR X id r') : MtR X id (fun x xs H Q => r x xs H Q ∨ r' x xs H Q) := by
  intro pins s σ H x xs v us Q I rx rs q
  rcases q with q | q
  · exact h pins s σ H x xs v us Q I rx rs q
  · exact h' pins s σ H x xs v us Q I rx rs q
/-- a[b] -/
theorem pe_ix {r : R2} (hr : IxR X r) (ha : PE X a ta) (hb : PE X b tb) (hs : PlainIx b) : PE X (.Subscript a b pos) (tOp r ta tb) := by
  intro pins s σ H Q I h
  exact Subscript_ (binT ha hb I h fun v u s2 x y H2 I2 rx ry q => hr a b pins s2 σ H2 x y v u Q I2 rx ry q (hs _ _))

def rIxL (K : PySem.W.Frag) : R2 := fun x y H Q => ∃ p xs i v, x = .ref p ∧ y = .int i ∧ SqL K H p xs ∧ atI xs i = some v ∧ Q v H
def rIxT (K : PySem.W.Frag) : R2 := fun x y H Q => ∃ p xs i v, x = .ref p ∧ y = .int i ∧ SqT K H p xs ∧ atI xs i = some v ∧ Q v H
theorem ix_list : IxR X (rIxL X.K) := by
  intro value slice pins s σ H x y v u Q I rx ry h hs
  obtain ⟨p, xs, i, z, rfl, rfl, hq, he, q⟩ := h
  cases rx
  obtain ⟨t, rfl⟩ := ry
  obtain ⟨its, r, pl, hz⟩ := I.list hq
  obtain ⟨j, h1, h2, h3, h4, h5⟩ := atI_get he
  obtain ⟨w, ew, rw'⟩ := r.get h2
  have hl := r.length
  have hn := line63
  have fin : EP X pins σ Q w s := ⟨z, H, I, rw', q⟩
  by_cases h0 : 0 ≤ i
  · have hj : i.toNat = j := by
      rw [seqIndex_of h0 h5] at h1
      exact Option.some.inj h1
    exact item_listR pl.isList h0 (by omega) (by rw [hj]; simpa using ew) fin hs
  · have hj : (i + (its.toArray.size : Int)).toNat = j := by
      rw [seqIndex_neg (by omega) h4] at h1
      rw [List.size_toArray, ← hl]
      exact Option.some.inj h1
    exact subscriptTail_builtinR (x := w) pl.isList.typeIs slot_list_getitem.lookup
      (wpAny_getItem_list_neg (Q := fun r s' => r = w ∧ EP X pins σ Q r s') pl.isList (by omega) (by rw [List.size_toArray] <;> omega) (by omega) (by rw [hj]; simpa using ew) ⟨rfl, fin⟩) hs
theorem ix_tup : IxR X (rIxT X.K) := by
  intro value slice pins s σ H x y v u Q I rx ry h hs
  obtain ⟨p, xs, i, z, rfl, rfl, hq, he, q⟩ := h
  cases rx
  obtain ⟨t, rfl⟩ := ry
  obtain ⟨its, r, pl, hz⟩ := I.tuple hq
  obtain ⟨j, h1, h2, h3, h4, h5⟩ := atI_get he
  obtain ⟨w, ew, rw'⟩ := r.get h2
  have hl := r.length
  have hn := line63
  have fin : EP X pins σ Q w s := ⟨z, H, I, rw', q⟩
  exact subscriptTail_builtinR (x := w) pl.typeIs slot_tuple_getitem.lookup
    (getItem_tuple (j := j) (Q := fun r s' => r = w ∧ EP X pins σ Q r s') pl (by omega) (by omega) (by rw [List.size_toArray, ← hl]; exact h1) (by simpa using ew) ⟨rfl, fin⟩) hs
/-! ### xs[i] = v, any sign -/
theorem Inv.lst {pins : List (Addr × Obj)} {σ : St} {H : Hp} {s : Shared} {p : Addr} {xs : List V} (I : Inv X pins σ H s) (h : H p = some (.lst xs)) :
    ∃ (its : List Value) (n : Nat), Vals xs its ∧ s.heap.get? p = some { cls := .type "list", data := .seq its.toArray n } ∧ xs.length ≤ sizeLine := by
  obtain ⟨z, its, n, r, e⟩ := I.hok p _ h
  exact ⟨its, n, r, e, z⟩
/-! ### slices -/
theorem slice_bounds (lo hi : Option Int) (n : Nat) : (sliceBounds lo hi none n).1 = ((HT.sIx n 0 lo : Nat) : Int) ∧ (sliceBounds lo hi none n).2.1 = ((HT.sIx n n hi : Nat) : Int) ∧ (sliceBounds lo hi none n).2.2 = 1 := by
  refine ⟨?_, ?_, rfl⟩
  · cases lo with
    | none => simp [sliceBounds, HT.sIx]
    | some i =>
      simp only [sliceBounds, HT.sIx, Option.getD_none, show (1 : Int) > 0 by decide, if_true]
      by_cases h : i < 0
      · simp only [h, if_true] <;> omega
      · simp only [h, if_false] <;> omega
  · cases hi with
    | none => simp [sliceBounds, HT.sIx]
    | some i =>
      simp only [sliceBounds, HT.sIx, Option.getD_none, show (1 : Int) > 0 by decide, if_true]
      by_cases h : i < 0
      · simp only [h, if_true] <;> omega
      · simp only [h, if_false] <;> omega
theorem slicePick_cut (its : List Value) (lo hi : Option Int) : slicePick its.toArray lo hi none = ((its.drop (HT.sIx its.length 0 lo)).take (HT.sIx its.length its.length hi - HT.sIx its.length 0 lo)).toArray := by
  obtain ⟨h1, h2, h3⟩ := slice_bounds lo hi its.toArray.size
  unfold slicePick
  rw [h1, h2, h3]
  simp only [sliceRange_one, pick_run, List.size_toArray] <;> rfl
/-- xs[lo:hi] of a list: a new list -/
def rSlL (K : PySem.W.Frag) : V → Option Int → Option Int → Hp → VK → Prop := fun x lo hi H Q => ∃ a xs, x = .ref a ∧ SqL K H a xs ∧ ∀ p, H p = none → Q (.ref p) (upd H p (.lst (cutV xs lo hi)))
theorem sl_list : SlR X (rSlL X.K) := by
  intro pins s σ H x v vl vu lo hi sl Q I rx hs pl pu h
  obtain ⟨a, xs, rfl, hx, q⟩ := h
  cases rx
  obtain ⟨its, r, ht, hz⟩ := I.list hx
  have hlen := r.length
  refine ⟨"list", _, slot_list_getitem.lookup, ht.isList.typeIs, ?_⟩
  refine wpAny_getItem_list_slice ht.isList hs pl pu .none (by simp) ?_ (by rw [List.size_toArray] <;> omega)
  rw [slicePick_cut, ← hlen]
  refine ⟨.ref s.heap.objs.size, _, I.laid (t' := s.toks) (o := .lst (cutV xs lo hi)) (fun b ob q => Heap.get?_push_of_some _ q) (Nat.le_refl _) ?_, rfl, q _ (I.hok.fresh (Nat.le_refl _))⟩
  exact ⟨Nat.le_trans (cutV_length xs lo hi) hz, _, 0, (r.drop (HT.sIx xs.length 0 lo)).take (HT.sIx xs.length xs.length hi - HT.sIx xs.length 0 lo), Heap.get?_push_size _ rfl⟩

/-! ### in, not in: flat items -/
/-! ### len, list(x), tuple(x) of any list or tuple that is read -/
theorem call_len_seq : CallR X (.builtin "len") (fun xs H Q => ∃ p ys, xs = [.ref p] ∧ (SqL X.K H p ys ∨ SqT X.K H p ys) ∧ Q (.int ys.length) H) := by
  intro pins s σ H xs us Q I r h
  obtain ⟨p, ys, rfl, hq, q⟩ := h
  obtain ⟨u, rfl, rx⟩ := vals1 r
  cases rx
  have hn := line63
  rcases hq with hq | hq
  · obtain ⟨its, r', pl, hz⟩ := I.list hq
    have hlen := r'.length
    exact Calls.call_len_list pl.isList (by simp only [List.size_toArray] <;> omega) ⟨.int ys.length, H, I.tok _, ⟨s.toks + 1, by rw [List.size_toArray, hlen]⟩, q⟩
  · obtain ⟨its, r', pl, hz⟩ := I.tuple hq
    have hlen := r'.length
    exact len_tuple pl (by simp only [List.size_toArray] <;> omega) ⟨.int ys.length, H, I.tok _, ⟨s.toks + 1, by rw [List.size_toArray, hlen]⟩, q⟩
theorem CallR.or {f : Value} {r r' : List V → Hp → VK → Prop} (h : CallR X f r) (h' : CallR X f r') : CallR X f (fun xs H Q => r xs H Q ∨ r' xs H Q) := by
  intro pins s σ H xs us Q I rs q
  rcases q with q | q
  · exact h pins s σ H xs us Q I rs q
  · exact h' pins s σ H xs us Q I rs q
theorem call_list_of : CallR X (.type "list") (fun xs H Q => ∃ p ys, xs = [.ref p] ∧ (SqL X.K H p ys ∨ SqT X.K H p ys) ∧ ∀ l, H l = none → Q (.ref l) (upd H l (.lst ys))) := by
  intro pins s σ H xs us Q I r h
  obtain ⟨p, ys, rfl, hq, q⟩ := h
  obtain ⟨u, rfl, rx⟩ := vals1 r
  cases rx
  have fin : ∀ (its : List Value), Vals ys its → ys.length ≤ sizeLine → ∀ (h' : Heap) (c' : Nat), (∀ b o', s.heap.get? b = some o' → h'.get? b = some o') →
      h'.get? s.heap.objs.size = some { cls := .type "list", dict := none, data := .seq its.toArray c', slots := #[] } → EP X pins σ Q (.ref s.heap.objs.size) { s with heap := h' } := fun its r' hz h' c' kp e =>
    ⟨.ref s.heap.objs.size, _, I.laid (t' := s.toks) kp (Nat.le_refl _) (show ObjOk X.prog X.w _ h' _ (.lst ys) from ⟨hz, its, c', r', e⟩), rfl, q _ (I.hok.fresh (Nat.le_refl _))⟩
  rcases hq with hq | hq
  · obtain ⟨its, r', pl, hz⟩ := I.list hq
    have hlen := r'.length
    obtain ⟨o, ho, hc, n, hd⟩ := pl.isList
    exact call_list_seq p (.inl rfl) ho hc hd (fun h' c' kp e => fin its r' hz h' c' kp e) (by simp only [List.size_toArray] <;> omega)
  · obtain ⟨its, r', pl, hz⟩ := I.tuple hq
    have hlen := r'.length
    obtain ⟨o, ho, hc, n, hd⟩ := pl
    exact call_list_seq p (.inr rfl) ho hc hd (fun h' c' kp e => fin its r' hz h' c' kp e) (by simp only [List.size_toArray] <;> omega)
theorem call_tuple_of : CallR X (.type "tuple") (fun xs H Q => ∃ p ys, xs = [.ref p] ∧ ((SqL X.K H p ys ∧ ∀ l, H l = none → Q (.ref l) (upd H l (.tup ys))) ∨ (SqT X.K H p ys ∧ Q (.ref p) H))) := by
  intro pins s σ H xs us Q I r h
  obtain ⟨p, ys, rfl, h⟩ := h
  obtain ⟨u, rfl, rx⟩ := vals1 r
  cases rx
  rcases h with ⟨hq, q⟩ | ⟨hq, q⟩
  · obtain ⟨its, r', pl, hz⟩ := I.list hq
    have hlen := r'.length
    refine call_tuple_list pl.isList (fun h' kp => ?_) (by simp only [List.size_toArray] <;> omega)
    have I1 : Inv X pins σ H { s with heap := h' } := I.kept (t' := s.toks) kp
    have I2 : Inv X pins σ (upd H h'.objs.size (.tup ys)) { s with heap := h'.push { cls := .type "tuple", data := .seq its.toArray } } :=
      I1.laid (t' := s.toks) (fun b o e => Heap.get?_push_of_some _ e) (Nat.le_refl _) (show ObjOk X.prog X.w _ _ _ (.tup ys) from ⟨hz, its, r', IsTup.new _ _⟩)
    exact ⟨.ref h'.objs.size, _, I2, rfl, q _ (I1.hok.fresh (Nat.le_refl _))⟩
  · obtain ⟨its, r', pl, hz⟩ := I.tuple hq
    exact call_tuple_same pl ⟨.ref p, H, I, rfl, q⟩

/-! ### the call of a builtin's method: o.m(..) -/
/-- the value is of that builtin type -/
def tyV (K : PySem.W.Frag) (T : String) (x : V) (H : Hp) : Prop := match x with
  | .str _ => T = "str"
  | .int _ => T = "int"
  | .ref p => (T = "list" ∧ ∃ xs, SqL K H p xs) ∨ (T = "tuple" ∧ ∃ o, K.lookup p = some o ∧ o.cls = .type "tuple" ∧ o.dict = none) ∨
      (T = "dict" ∧ ((∃ kvs, H p = some (.dK kvs)) ∨ ∃ kvs, H p = some (.dT kvs))) ∨ (T = "set" ∧ ∃ S n, H p = some (.set S n))
  | _ => False
theorem tyV_is {pins : List (Addr × Obj)} {σ : St} {H : Hp} {s : Shared} {T : String} {x : V} {v : Value} (I : Inv X pins σ H s) (r : RelV x v) (ty : tyV X.K T x H) :
    s.TypeIs v T ∧ ∀ a, v = .ref a → ∃ ob, s.heap.get? a = some ob ∧ ob.dict = none := by
  cases x with
  | str z =>
    obtain ⟨t, rfl⟩ := r
    cases (show T = "str" from ty)
    exact ⟨typeIs_str s z t, fun _ e => nomatch e⟩
  | int i =>
    obtain ⟨t, rfl⟩ := r
    cases (show T = "int" from ty)
    exact ⟨typeIs_int s i t, fun _ e => nomatch e⟩
  | ref p =>
    cases r
    rcases ty with ⟨rfl, xs, hq⟩ | ⟨rfl, o, hk, hc, hd⟩ | ⟨rfl, hk⟩ | ⟨rfl, S, n, hk⟩
    · obtain ⟨its, _, pl, _⟩ := I.list hq
      refine ⟨pl.isList.typeIs, fun a e => ?_⟩
      cases e
      obtain ⟨o, n, e, c, hd, _⟩ := pl
      exact ⟨o, e, hd⟩
    · refine ⟨⟨o, I.kIn p o hk, hc⟩, fun a e => ?_⟩
      cases e
      exact ⟨o, I.kIn _ o hk, hd⟩
    · have z : ∃ o, s.heap.get? p = some o ∧ o.ExactDict := by
        rcases hk with ⟨kvs, hk⟩ | ⟨kvs, hk⟩
        · obtain ⟨_, _, _, _, o, _, _, e, ex, _⟩ := I.hok p _ hk
          exact ⟨o, e, ex⟩
        · obtain ⟨_, _, _, _, o, _, _, e, ex, _⟩ := I.hok p _ hk
          exact ⟨o, e, ex⟩
      obtain ⟨o, e, ex⟩ := z
      refine ⟨⟨o, e, ex.1⟩, fun a e2 => ?_⟩
      cases e2
      exact ⟨o, e, ex.2.1⟩
    · obtain ⟨o, _, _, _, e, ex, _⟩ := I.hok p _ hk
      refine ⟨⟨o, e, ex.1⟩, fun a e2 => ?_⟩
      cases e2
      exact ⟨o, e, ex.2.1⟩
  | _ => exact False.elim ty
def tBM0 (K : PySem.W.Frag) (T : String) (r : V → List V → Hp → VK → Prop) (to : TE) : TE := fun σ H Q => to σ H fun x H1 => tyV K T x H1 ∧ r x [] H1 Q
def tBM (K : PySem.W.Frag) (T : String) (r : V → List V → Hp → VK → Prop) (to : TE) (t : TA) : TE := fun σ H Q => to σ H fun x H1 => tyV K T x H1 ∧ t σ H1 fun xs H2 => r x xs H2 Q
variable {o e : Expr} {es : List Expr} {to : TE} {t : TA} {name : Str} {apos cpos : Pos} {T id : String} {r : V → List V → Hp → VK → Prop}
theorem pe_bm0 (pa : PlainAttrs T) (slot : Slot T name id) (hty : typeOf (.builtin id) = pure (.type "method_descriptor")) (hm : MtR X id r) (ho : PE X o to)
    (hbase : attributeBase o name X.env (eval o X.env) = eval o X.env := by rfl) (hline : (apos.endLine == cpos.line) = true := by rfl) : PE X (.Call (.Attribute o name apos) [] [] cpos) (tBM0 X.K T r to) := by
  intro pins s σ H Q I h
  refine wpAny_Call_method0_late hbase hline (thn (ho pins s σ H _ I h) fun v s1 ⟨x, H1, I1, r1, ty, q1⟩ => ?_)
  obtain ⟨h1, h2⟩ := tyV_is I1 r1 ty
  exact ⟨T, id, pa, slot, hty, h1, h2, Calls.callWith_builtin rfl (PySem.evalArgs_none (hm pins s1 σ H1 x [] v [] Q I1 r1 .nil q1))⟩
theorem pe_bm (pa : PlainAttrs T) (slot : Slot T name id) (hty : typeOf (.builtin id) = pure (.type "method_descriptor")) (hm : MtR X id r) (ho : PE X o to) (ha : PA X (e :: es) t)
    (hbase : attributeBase o name X.env (eval o X.env) = eval o X.env := by rfl)
    (hfew : ((backTo cpos (starEach (e :: es) X.env)).all (fun x => !x.1) && (backToKw cpos (keywordEach [] X.env)).all (fun x => x.1.isSome)
      && decide ((e :: es).length + ([] : List Keyword).length + (if ([] : List Keyword).isEmpty then 0 else 1) < 30)) = true := by rfl)
    (hline : (apos.endLine == cpos.line) = true := by rfl) (hs : starEach (e :: es) X.env = (false, eval e X.env) :: starEach es X.env := by rfl) (hplain : (backTo cpos (starEach es X.env)).any (·.1) = false := by rfl) :
    PE X (.Call (.Attribute o name apos) (e :: es) [] cpos) (tBM X.K T r to t) := by
  intro pins s σ H Q I h
  refine wpAny_Call_method_late hbase hfew hline rfl (thn (ho pins s σ H _ I h) fun v s1 ⟨x, H1, I1, r1, ty, q1⟩ => ?_)
  obtain ⟨h1, h2⟩ := tyV_is I1 r1 ty
  refine ⟨T, id, pa, slot, hty, h1, h2, ?_⟩
  have hA := ha cpos pins s1 σ H1 _ I1 q1
  rw [hs] at hA ⊢
  refine Calls.callWith_builtin (by show (false || (backTo cpos (starEach es X.env)).any (·.1)) = false; rw [hplain] <;> rfl) (Calls.evalArgs_plain ?_)
  exact thn hA fun us s2 ⟨vs, H2, I2, r2, q2⟩ => hm pins s2 σ H2 x vs v us Q I2 r1 r2 q2
end
end L2

namespace L2
open PySem PySem.Spec PyProof.Rows

def MtM (X : Cx) (id : String) (r : V → List V → Hp → VK → Prop) : Prop :=
  ∀ (pins : List (Addr × Obj)) (s : Shared) (σ : St) (H : Hp) (x : V) (xs : List V) (v : Value) (us : List Value) (Q : VK), Inv X pins σ H s → RelV x v → Vals xs us → r x xs H Q →
    wpAny (model X.prog X.w) X.A (call (.builtin id) (v :: us)) (EP X pins σ Q) X.xe s

/-! ### lists of values -/
theorem Vals.one : ∀ {x : V} {us : List Value}, Vals [x] us → ∃ u, us = [u] ∧ RelV x u
  | _, _, .cons r .nil => ⟨_, rfl, r⟩
theorem Vals.two : ∀ {x y : V} {us : List Value}, Vals [x, y] us → ∃ u v, us = [u, v] ∧ RelV x u ∧ RelV y v
  | _, _, _, .cons r (.cons q .nil) => ⟨_, _, rfl, r, q⟩
theorem Vals.zero : ∀ {us : List Value}, Vals [] us → us = []
  | _, .nil => rfl
theorem Vals.dropLast {xs : List V} {us : List Value} (h : Vals xs us) : Vals xs.dropLast us.dropLast := by
  induction h with
  | nil => exact .nil
  | cons r t ih =>
    cases t with
    | nil => exact .nil
    | cons q t' => exact .cons r ih
theorem Vals.eraseIdx : ∀ {xs : List V} {us : List Value} (i : Nat), Vals xs us → Vals (xs.eraseIdx i) (us.eraseIdx i)
  | _, _, _, .nil => .nil
  | _, _, 0, .cons _ t => t
  | _, _, i + 1, .cons r t => .cons r (Vals.eraseIdx i t)
section
variable {X : Cx} {pins : List (Addr × Obj)} {σ : St} {H : Hp} {s : Shared} {l b : Addr} {xs ys zs : List V}

/-! ### the two steps: a tracked list is rewritten, a new list is laid -/
theorem Inv.lset {its its' : List Value} {n : Nat} {f : Array Value → Array Value} {t' : Nat} (I : Inv X pins σ H s) (hH : H l = some (.lst xs))
    (e : s.heap.get? l = some { cls := .type "list", data := .seq its.toArray n }) (hf : f its.toArray = its'.toArray) (hv : Vals ys its') (hz : ys.length ≤ sizeLine) :
    Inv X pins σ (upd H l (.lst ys)) { s with heap := s.heap.update l (Obj.mapSeq f), toks := t' } := by
  have q := PySem.IsL.update e f
  rw [hf] at q
  refine I.write (x := l) (e := l) (by rw [hH]; exact trivial) (.inl rfl) (fun b' u hb hu => (Heap.get?_update_other s.heap (Obj.mapSeq f) (Ne.symm hb)).trans hu) ⟨_, q⟩ ?_
  exact ⟨hz, its', _, hv, q⟩
theorem Inv.lnew {its : List Value} {t' : Nat} (I : Inv X pins σ H s) (hv : Vals ys its) (hz : ys.length ≤ sizeLine) :
    Inv X pins σ (upd H s.heap.objs.size (.lst ys)) { s with heap := s.heap.push { cls := .type "list", data := .seq its.toArray }, toks := t' } :=
  I.laid (fun _ _ q => Heap.get?_push_of_some _ q) (Nat.le_refl _) ⟨hz, its, 0, hv, Heap.get?_push_size _ rfl⟩
theorem Inv.fresh (I : Inv X pins σ H s) : H s.heap.objs.size = none := I.hok.fresh (Nat.le_refl _)
theorem Inv.lstM (I : Inv X pins σ H s) (hH : H l = some (.lst xs)) : xs.length ≤ sizeLine ∧ ∃ (its : List Value) (n : Nat), Vals xs its ∧ xs.length = its.length ∧ s.heap.get? l = some { cls := .type "list", data := .seq its.toArray n } := by
  obtain ⟨z, its, n, r, e⟩ := I.hok l _ hH
  exact ⟨z, its, n, r, r.length, e⟩

end

section
variable {X : Cx}

/-! ### methods -/
def rAppend : V → List V → Hp → VK → Prop := fun x vs H Q => ∃ l xs y, x = .ref l ∧ vs = [y] ∧ H l = some (.lst xs) ∧ xs.length < sizeLine ∧ Q .non (upd H l (.lst (xs ++ [y])))
theorem mt_append : MtM X "list.append" rAppend := by
  intro pins s σ H x vs v us Q I rx rv h
  obtain ⟨l, xs, y, rfl, rfl, hH, hz, q⟩ := h
  cases rx
  obtain ⟨u, rfl, ru⟩ := rv.one
  obtain ⟨z, its, n, r, hl, e⟩ := I.lstM hH
  refine call_meets F.slot_list_append ⟨_, e, rfl⟩ F.entry_list_append (F.args_list_append_2 _ _) (PySem.list_append l its.toArray n u (by rw [List.size_toArray]; omega)) ⟨e, ?_⟩
  refine ⟨.non, _, I.lset (its' := its ++ [u]) hH e (by simp) (r.append (.cons ru .nil)) ?_, rfl, q⟩
  rw [List.length_append, List.length_singleton]
  omega

def rClear : V → List V → Hp → VK → Prop := fun x vs H Q => ∃ l xs, x = .ref l ∧ vs = [] ∧ H l = some (.lst xs) ∧ Q .non (upd H l (.lst []))
theorem mt_clear : MtM X "list.clear" rClear := by
  intro pins s σ H x vs v us Q I rx rv h
  obtain ⟨l, xs, rfl, rfl, hH, q⟩ := h
  cases rx
  have hus := rv.zero
  subst hus
  obtain ⟨z, its, n, r, hl, e⟩ := I.lstM hH
  refine call_meets F.slot_list_clear ⟨_, e, rfl⟩ F.entry_list_clear (F.args_list_clear_1 _) (AutoSeq1.list_clear_list_0 l its.toArray n (by rw [List.size_toArray]; omega)) ⟨e, ?_⟩
  exact ⟨.non, _, I.lset (its' := []) (ys := []) hH e rfl .nil (Nat.zero_le _), rfl, q⟩

/-! ### list + list, list += list, list * int -/
/-! ### del xs[i] -/
end

/-! ### xs[a:b] = ys -/
section
variable {prog : Program} {w : World} {A : Around} {E : Value → Shared → Prop} {s : Shared}
set_option maxRecDepth 100000 in
end

section
variable {X : Cx}
end
end L2

namespace Att
open PySem PySem.W PySem.Calls PyProof.Rows

/-! ### the script -/
theorem ints_of_wellAll {P : Params} {h : Heap} : ∀ (ns : List Int) (vs : List Value), WellAll P h vs (ns.map WData.int) → IntsAre vs ns := by
  intro ns
  induction ns with
  | nil =>
    intro vs w
    rw [List.map_nil] at w
    cases w
    exact .nil
  | cons n ns ih =>
    intro vs w
    rw [List.map_cons] at w
    cases w with
    | cons a b =>
      cases a
      exact .cons _ _ (ih _ b)

theorem script_of {l : OpenLaw} {n : Nat} (hn : l.most = some n) {P : Params} {h : Heap} {args : List WData} {vals : List Value}
    (hpre : l.row.toRowW.claim.pre args = true) (hwl : WellAll P h vals args) :
    ∃ a vs ns, vals = [Value.ref a] ∧ args = [WData.list (ns.map WData.int)] ∧ h.get? a = some { cls := .type "list", data := .seq vs.toArray } ∧ IntsAre vs ns ∧ ns.length ≤ n := by
  have hsh : WShape.hasAll [] args [.list .int] = true := (pre_splitW hpre).1
  have hc : l.pre.holds [] { args := args } = true := (pre_splitW hpre).2
  obtain ⟨d, r, rfl, h1, h2⟩ := hasAllW_cons hsh
  obtain rfl := hasAllW_nil h2
  obtain ⟨xs, rfl, h3⟩ := hasW_list h1
  obtain ⟨ns, rfl⟩ := items_int h3
  have hlen : ns.length ≤ n := by
    unfold OpenLaw.pre at hc
    have h4 : (WTm.not (.lt (.lit (.int (n : Int))) (.len (.arg 0)))).holds [] { args := [.list (ns.map .int)] } = true := by
      have h4 := (holds_andW hc).1
      rw [hn] at h4
      exact h4
    have h5 := condW_of h4 (w_not (w_lt w_lit (w_len_list (w_arg rfl))))
    rw [List.length_map] at h5
    refine Nat.le_of_not_lt fun q => ?_
    have q' : (n : Int) < ((ns.length : Nat) : Int) := by omega
    first
      | (rw [decide_eq_true q'] at h5; exact absurd h5 (by decide))
      | (simp at h5; omega)
  cases hwl with
  | cons w1 w2 =>
    cases w2
    cases w1 with
    | list ho hall => exact ⟨_, _, ns, rfl, rfl, ho, ints_of_wellAll ns _ hall, hlen⟩

theorem post_true (l : OpenLaw) (args : List WData) : l.row.toRowW.claim.post args (.bool true) args = true :=
  postW_of (r := l.row.toRowW) (X := (true == true))
    (show WShape.has [] (.bool true) .bool = true by first | rfl | decide | simp [WShape.has, WShape.arms, WShape.armsAll])
    (show (WTm.eq .res (.lit (.bool true))).value [] { args := args, res := some (.bool true), after := args } = some (.bool (true == true)) from w_eq_bool (w_res rfl) w_lit) rfl

/-! ### the attachment: holds_open's last premise (the goal 'hc' behind k_head) from a wpAny of the law's body -/
/-! ### rules over ANY heap (no ledger) from facts about the written part K: the library's own take a ledger (News) for what they write -/
section
variable {prog : Program} {w : World} {A : Around} {E : Value → Shared → Prop} {s : Shared} {K : Frag}

/-! the whole heap as the ledger: makes every rule that writes through a ledger a rule over any heap -/
def ledger (h : Heap) (L d : Addr) : List (Addr × Obj) := (List.range h.objs.size).filterMap fun a => if a = L ∨ a = d then none else (h.get? a).map fun o => (a, o)
end
end Att

namespace L2
open PySem PySem.Spec PyProof.Rows

theorem vals_ints : ∀ {vs : List Value} {ns : List Int}, IntsAre vs ns → Vals (ns.map V.int) vs
  | _, _, .nil => .nil
  | _, _, .cons n t h => .cons ⟨t, rfl⟩ (vals_ints h)

/-- nothing is tracked but the script, known to the object (or it is an object of the module) -/
def Only (H : Hp) : Prop := ∀ b, H b = none ∨ ∃ o xs, H b = some (.frz o (.lst xs))

/-- THE HEAD: the law's promise, at the heap behind the top. F, the promise of the law's def, may use that base is part of the heap (so K.In base, base.Ns mainGlobals mg stand in Mod) -/
theorem law_call {P : Program} {w : World} {K : PySem.W.Frag} {mg mb : Str → Option Value} {CX : CXT} {k : Nat} {fa a : Addr} {fd : FuncData} {x : Str} {sp : Sp} {s₁ : Shared} {vs : List Value} {ns : List Int}
    (KX : K.In s₁.heap) (hns : s₁.heap.Ns mainGlobals mg) (hb : s₁.heap.Ns builtinsNs mb) (hbb : ∀ x : Str, x ≠ "__name__" → mb x = bootBuiltins x) (hlim : s₁.heap.NoLimit) (hg : s₁.gens = #[])
    (ha : s₁.heap.get? a = some { cls := .type "list", data := .seq vs.toArray }) (hi : IntsAre vs ns) (hl : ns.length ≤ sizeLine) (hr : Room k callerA)
    (F : ∀ base : Heap, K.In base → base.Ns mainGlobals mg → FnOk P w K mg base CX k fa fd [x] sp) (hbind : ∀ (s : Shared) (u : Value), BindsTo s fd ⟨[u], []⟩ [(x, u)])
    (hsp : ∀ H : Hp, Only H → SqL K H a (ns.map V.int) → sp [.ref a] H (fun v _ => v = .bl true) fun _ _ _ => False)
    (hCX : ∀ H e s', CX [] H s₁ (fun _ _ _ => False) e s' → False) :
    codeAny (model P w) callerA (.call (.ref fa) ⟨[.ref a], []⟩) (fun r s' => r = .ok (.ret (.bool true)) ∧ OldK s₁.heap s'.heap ∧ s'.os = s₁.os ∧ AllBare s'.gens) s₁ := by
  have rv := vals_ints hi
  have lenV := hi.length
  -- from an abstract heap in which nothing but the script may be tracked
  have core : ∀ H : Hp, Only H → SqL K H a (ns.map V.int) → HOk P w H s₁.heap → (∀ b, H b ≠ none → b = a) → (H a ≠ none → K.lookup a = none) →
      codeAny (model P w) callerA (.call (.ref fa) ⟨[.ref a], []⟩) (fun r s' => r = .ok (.ret (.bool true)) ∧ OldK s₁.heap s'.heap ∧ s'.os = s₁.os ∧ AllBare s'.gens) s₁ := by
    intro H hO hS hok hA hK
    have base_of : ∀ {b : Addr} {o : Obj}, s₁.heap.get? b = some o → H b = none → (hidT s₁.heap H).get? b = some o := fun e n => hidT_get e n
    have noA : ∀ {b : Addr} {o : Obj} {es : Array DictEntry} {ep : Nat}, s₁.heap.get? b = some o → o.data = .dict es ep → H b = none := fun {b o es ep} e d => by
      cases q : H b with
      | none => rfl
      | some u =>
        have e' : b = a := hA b (by rw [q]; simp)
        subst e'
        rw [ha] at e; cases e
        have d' : Data.seq vs.toArray _ = Data.dict es ep := d
        cases d'
    have nsK : ∀ {b : Addr} {m : Str → Option Value}, s₁.heap.Ns b m → (hidT s₁.heap H).Ns b m := fun {b m} ⟨o, es, ep, e, d, r⟩ => ⟨o, es, ep, base_of e (noA e d), d, r⟩
    have hKb : K.In (hidT s₁.heap H) := fun b o e => base_of (KX b o e) (by
      cases q : H b with
      | none => rfl
      | some u =>
        have e' : b = a := hA b (by rw [q]; simp)
        subst e'
        rw [hK (by rw [q]; simp)] at e; cases e)
    have hM : Mod K mg (hidT s₁.heap H) := ⟨hKb, nsK hns, ⟨mb, nsK hb, hbb⟩, let ⟨mc, h1, h2⟩ := hlim; ⟨mc, nsK h1, h2⟩⟩
    have e0 : Env0 P w K mg (hidT s₁.heap H) callerA [] s₁ H := ⟨rfl, hM, fun b o e => of_hidT e, Nat.le_of_eq (hidT_size _ _), trivial, fun b hb => absurd (show b ∈ ([] : List Addr) from hb) (by simp), hok, .of_eq hg⟩
    refine codeAny_mono ((F _ hKb (nsK hns)).run callerA [] s₁ H ⟨[.ref a], []⟩ [.ref a] [.ref a] _ _ hr e0 (hbind s₁ (.ref a)) (.cons rfl .nil) (hsp H hO hS)) fun r s' h => ?_
    cases r with
    | error e => exact (hCX H e s' h).elim
    | ok fl =>
      cases fl with
      | next => exact False.elim h
      | brk => exact False.elim h
      | cont => exact False.elim h
      | ret u =>
        obtain ⟨v, H', os, bare, un, hok', r', q⟩ := h
        have q' : v = .bl true := q
        subst q'
        obtain rfl : u = Value.bool true := r'
        refine ⟨rfl, OldK.of_keep fun b o e => ?_, os, bare⟩
        cases q : H b with
        | none => exact un.keep b o e q (by intro z; exact absurd (show b ∈ ([] : List Addr) from z) (by simp)) (by simp)
        | some u =>
          rcases hO b with z | ⟨ob, xs, z⟩
          · rw [q] at z; cases z
          · have z2 := un.frzs b ob _ z
            obtain ⟨e1, _⟩ := hok b _ z
            obtain ⟨e2, _⟩ := hok' b _ z2
            rw [e] at e1; cases e1
            exact e2
  cases hk : K.lookup a with
  | some o =>
    -- the script is one of the module's own objects
    have e := KX a o hk
    rw [ha] at e
    cases e
    refine core (fun _ => none) (fun _ => .inl rfl) (.inr ⟨_, vs.toArray, _, hk, rfl, rfl, rfl, by rw [List.size_toArray, lenV]; exact hl, by simpa using rv⟩) (fun b u z => by have z' : (none : Option HO) = some u := z; cases z') (fun b z => absurd rfl z) fun z => absurd rfl z
  | none =>
    refine core (fun b => if b = a then some (.frz { cls := .type "list", data := .seq vs.toArray } (.lst (ns.map V.int))) else none) (fun b => ?_) (.inl (.inr ⟨{ cls := .type "list", data := .seq vs.toArray }, if_pos rfl⟩)) (fun b u z => ?_) (fun b z => ?_) fun _ => hk
    · by_cases hb : b = a
      · exact .inr ⟨_, _, if_pos hb⟩
      · exact .inl (if_neg hb)
    · by_cases hb : b = a
      · have z' := (if_pos hb).symm.trans z
        cases z'
        subst hb
        exact ⟨ha, by rw [List.length_map]; exact hl, vs, _, rv, ha⟩
      · have z' := (if_neg hb).symm.trans z
        cases z'
    · by_cases hb : b = a
      · exact hb
      · exact absurd (if_neg hb) z
end L2

namespace L2
open PySem PySem.Spec PyProof.Rows

end L2


/-! SHORT WORDS over the layer: a def of the text, its body, what a loop and a test want. -/
namespace L2
open PySem PySem.Spec PyProof.Rows

/-! ### the text by places -/
def defArgs (s : Stmt) : Arguments := match s with
  | .FunctionDef _ a _ _ _ _ _ _ _ _ => a
  | _ => { posonlyargs := [], args := [], vararg := none, kwonlyargs := [], kw_defaults := [], kwarg := none, defaults := [] }
def defBody (s : Stmt) : List Stmt := match s with
  | .FunctionDef _ _ b _ _ _ _ _ _ _ => b
  | _ => []
def defScope (s : Stmt) : Scope := match s with
  | .FunctionDef _ _ _ _ _ _ sc _ _ _ => sc
  | _ => { kind := .function, names := [], isGenerator := false, isCoroutine := false }

/-! ### no exception leaves a def -/
abbrev CX0 : CXT := fun _ _ _ _ _ _ => False
abbrev E0 : XK := fun _ _ _ => False
theorem pass0 {X : Cx} : Passes CX0 X E0 := fun _ _ _ _ _ _ _ h => h.elim

/-! ### a def (or method) of the text as it stands behind the top -/
structure Fun (K : PySem.W.Frag) (x qual : Str) (st : Stmt) (f : Addr) (fd : FuncData) : Prop where
  ex : ∃ (oc : Value) (od : Option Addr) (kV doc pm : Value) (an : Option Addr) (cdv ct : Value) (osl : Array (Option Value)),
    fd = PySem.W.fnOf x qual (defArgs st) (defBody st) (defScope st) .none kV doc pm an cdv ct ∧ K.lookup f = some ⟨oc, od, .func fd, osl⟩ ∧ PySem.W.codeIn K cdv qual = true
  kp : PySem.W.keepIn K (.ref f) = true
section
variable {P : Program} {w : World} {K : PySem.W.Frag} {mg : Str → Option Value} {base : Heap}
/-- THE RULE for a def: its body as a term of rules, and the reading of that term -/
theorem Fun.ok {x qual : Str} {st : Stmt} {f : Addr} {fd : FuncData} {N ps : List Str} {k : Nat} {sp : Sp} (F : Fun K x qual st f fd) (S : FnScope N ps (defScope st)) (len : ∀ vs H Q E, sp vs H Q E → vs.length = ps.length)
    (hbody : ∀ (cdv : Value) (A : Around) (outer : List Env) (s : Shared) (H : Hp) (vs : List V) (Q : VK) (E : XK), Room k (A.deeper (envOfC qual (defScope st) s.heap.objs.size f cdv)) → sp vs H Q E →
      ∃ t, PSs (cxOf CX0 P w K mg base N qual (defScope st) f cdv A outer s H E).nox (defBody st) t ∧ t { nx := fun _ H' => Q .non H', rt := Q } (start N vs) H) : FnOk P w K mg base CX0 (k + 1) f fd ps sp := by
  obtain ⟨oc, od, kV, doc, pm, an, cdv, ct, osl, rfl, lk, hcd⟩ := F.ex
  refine fn_of lk hcd S len fun A outer s H vs Q E hr hsp => ?_
  obtain ⟨t, h, q⟩ := hbody cdv A outer s H vs Q E hr hsp
  exact ⟨t, h.nox, q⟩
/-- how its arguments bind (no defaults): h is «fun _ _ _ _ _ _ us hl => match us, hl with | [_, _], _ => rfl», one _ a parameter -/
theorem Fun.binds {x qual : Str} {st : Stmt} {f : Addr} {fd : FuncData} {ps : List Str} (F : Fun K x qual st f fd)
    (h : ∀ (kV doc pm : Value) (an : Option Addr) (cdv ct : Value) (us : List Value), us.length = ps.length → bindArgs (PySem.W.fnOf x qual (defArgs st) (defBody st) (defScope st) .none kV doc pm an cdv ct) ⟨us, []⟩ = pure (ps.zip us)) : Binds K fd ps [] := by
  obtain ⟨oc, od, kV, doc, pm, an, cdv, ct, osl, rfl, lk, hcd⟩ := F.ex
  exact .all (h kV doc pm an cdv ct)
theorem fun_mk {x qual : Str} {st : Stmt} {f : Addr} {oc : Value} {od an : Option Addr} {osl : Array (Option Value)} {kV doc pm cdv ct : Value} (l : K.lookup f = some ⟨oc, od, .func (PySem.W.fnOf x qual (defArgs st) (defBody st) (defScope st) .none kV doc pm an cdv ct), osl⟩)
    (c : PySem.W.codeIn K cdv qual = true) (k : PySem.W.keepIn K (.ref f) = true) : Fun K x qual st f (PySem.W.fnOf x qual (defArgs st) (defBody st) (defScope st) .none kV doc pm an cdv ct) := ⟨⟨oc, od, kV, doc, pm, an, cdv, ct, osl, rfl, l, c⟩, k⟩
end
theorem small1000 {n : Nat} (h : n ≤ 1000) : n < sizeLine := Nat.lt_of_le_of_lt h (by decide)

/-! ### expressions in short: the name that stands in the i-th slot -/
section
variable {X : Cx}
end

/-! ### tests -/
theorem iteF {A B : Prop} (h : B) : if false = true then A else B := by
  rw [if_neg Bool.false_ne_true]
  exact h
theorem iteT {A B : Prop} (h : A) : if true = true then A else B := by
  rw [if_pos rfl]
  exact h
/-! ### heaps -/
/-- all that was tracked is as it was -/
def Same (H H' : Hp) : Prop := ∀ b o, H b = some o → H' b = some o
theorem Same.refl (H : Hp) : Same H H := fun _ _ h => h
theorem Same.trans {H H1 H2 : Hp} (a : Same H H1) (b : Same H1 H2) : Same H H2 := fun c o h => b c o (a c o h)
theorem Same.free {H H' : Hp} (e : Same H H') {l : Addr} (h : H' l = Option.none) : H l = Option.none := by
  cases q : H l with
  | none => rfl
  | some o =>
    rw [e l o q] at h
    cases h
theorem Same.seq {K : PySem.W.Frag} {H H' : Hp} {a : Addr} {xs : List V} (e : Same H H') (h : SqL K H a xs) : SqL K H' a xs := by
  rcases h with (h | ⟨o, h⟩) | h
  · exact .inl (.inl (e _ _ h))
  · exact .inl (.inr ⟨o, e _ _ h⟩)
  · exact .inr h

end L2
set_option maxHeartbeats 4000000
/-! ### a list comprehension of one clause -/
namespace L2
open PySem PySem.Spec PyProof.Rows

theorem closure_aux {env : Env} (body : (Str × NameKind) → List (Str × Addr) → Sem (ForInStep (List (Str × Addr))))
    (hf : ∀ n k acc c, k = NameKind.free → env.cells.lookup n = some c → body (n, k) acc = pure (.yield ((n, c) :: acc)))
    (hn : ∀ n k acc, k ≠ NameKind.free → body (n, k) acc = pure (.yield acc)) :
    ∀ (names : List (Str × NameKind)) (acc : List (Str × Addr)), (∀ y ∈ names, y.2 = .free → ∃ c, env.cells.lookup y.1 = some c) →
      (∀ y c, acc.lookup y = some c → env.cells.lookup y = some c) →
      ∃ cl, forIn names acc body = pure cl ∧ (∀ y c, cl.lookup y = some c → env.cells.lookup y = some c) ∧ (∀ y, (∃ c, acc.lookup y = some c) → ∃ c, cl.lookup y = some c) ∧ ∀ y, (y, NameKind.free) ∈ names → ∃ c, cl.lookup y = some c
  | [], acc, _, ha => ⟨acc, rfl, ha, fun _ h => h, fun _ h => by cases h⟩
  | (n, k) :: r, acc, h, ha => by
    by_cases hk : k = NameKind.free
    · obtain ⟨c, hc⟩ := h (n, k) List.mem_cons_self hk
      obtain ⟨cl, e, h1, h2, h3⟩ := closure_aux body hf hn r ((n, c) :: acc) (fun y hy => h y (List.mem_cons_of_mem _ hy)) (fun y c' e => by
        rw [List.lookup_cons] at e
        split at e
        · rename_i q
          have q' : y = n := by simpa using q
          subst q'; cases e; exact hc
        · exact ha y c' e)
      refine ⟨cl, ?_, h1, fun y hy => h2 y ?_, fun y hy => ?_⟩
      · rw [List.forIn_cons, hf n k acc c hk hc]
        exact e
      · obtain ⟨c', e'⟩ := hy
        rw [List.lookup_cons]
        split
        · exact ⟨_, rfl⟩
        · exact ⟨_, e'⟩
      · rcases List.mem_cons.mp hy with q | q
        · cases q
          exact h2 _ ⟨c, by rw [List.lookup_cons]; simp⟩
        · exact h3 y q
    · obtain ⟨cl, e, h1, h2, h3⟩ := closure_aux body hf hn r acc (fun y hy => h y (List.mem_cons_of_mem _ hy)) ha
      refine ⟨cl, ?_, h1, h2, fun y hy => ?_⟩
      · rw [List.forIn_cons, hn n k acc hk]
        exact e
      · rcases List.mem_cons.mp hy with q | q
        · cases q; exact absurd rfl hk
        · exact h3 y q
theorem closure_of {sc : Scope} {env : Env} (h : ∀ y ∈ sc.names, y.2 = .free → ∃ c, env.cells.lookup y.1 = some c) :
    ∃ cl, closureFor sc env = pure cl ∧ (∀ y c, cl.lookup y = some c → env.cells.lookup y = some c) ∧ ∀ y, (y, NameKind.free) ∈ sc.names → ∃ c, cl.lookup y = some c := by
  simp only [closureFor]
  obtain ⟨cl, e, h1, _, h3⟩ := closure_aux (env := env) (fun x cs => if (x.2 == NameKind.free) = true then (do let a ← cellOf env x.1; pure (ForInStep.yield ((x.1, a) :: cs))) else pure (ForInStep.yield cs)) (fun n k acc c hk hc => by
      subst hk
      simp only [cellOf, hc, beq_self_eq_true, if_true]; rfl) (fun n k acc hk => by
      have : (k == NameKind.free) = false := by simpa using hk
      simp only [this, Bool.false_eq_true, if_false]) sc.names [] h (fun y c e => by cases e)
  refine ⟨cl, ?_, h1, h3⟩
  exact (congrArg (· >>= fun r => pure r) e).trans rfl

/-- the context of a comprehension's block -/
def compCx (X : Cx) (N' : List Str) (sc : Scope) (cl : List (Str × Addr)) (C : Addr) (fp : List Addr) (pins : List (Addr × Obj)) (s : Shared) (H : Hp) : Cx where
  prog := X.prog
  w := X.w
  K := X.K
  mg := X.mg
  base := X.base
  A := X.A
  N := N'
  s₀ := s
  H₀ := H
  env := compEnvC sc cl C X.env
  outer := X.stack
  stack := X.stack
  ex := fp
  fn := fun _ => false
  calm := X.calm
  pn := X.pn ++ pins
  xe := fun _ _ => False

/-- the tests of a clause -/
def PTs (X : Cx) (ifs : List Expr) (t : TT) : Prop :=
  ∀ (pins : List (Addr × Obj)) (s : Shared) (σ : St) (H : Hp) (Q : Bool → Hp → Prop), Inv X pins σ H s → t σ H Q →
    wpAny (model X.prog X.w) X.A (forIn ifs true fun c r => if r = true then do let ok ← isTrue c X.env (eval c X.env); pure (ForInStep.yield ok) else pure (ForInStep.yield r)) (TP X pins σ Q) X.xe s
def tTru : TT := fun _ H Q => Q true H
theorem pts_nil {X : Cx} : PTs X [] tTru := fun _ _ _ H _ I h => wpAny_tests_nil ⟨H, I, h⟩
theorem pts_one {X : Cx} {c : Expr} {t : TT} (h : PT X c t) : PTs X [c] t := fun pins s σ H Q I q => wpAny_tests_one (h pins s σ H Q I q)

theorem thF {α : Type} {t : Sem α} {Q Q' : α → Shared → Prop} {M : Model} {A : Around} {E : Value → Shared → Prop} {s : Shared} (h : wpAny M A t Q (fun _ _ => False) s) (hQ : ∀ a s, Q a s → Q' a s) : wpAny M A t Q' E s := wpAny_mono h hQ fun _ _ x => x.elim

theorem loop_tests {prog : Program} {w : World} {A : Around} {R : Result → Shared → Prop} {s : Shared} {elt target iter : Expr} {ifs : List Expr} {scope : Scope} {pos : Pos} {it acc : Value} {env : Env} (I : Nat → Shared → Prop)
    (turn : ∀ n s, I n s → wpAny (model prog w) A (pyNext it) (fun r s₁ => match r with
      | none => R (.ok .next) s₁
      | some v => wpAny (model prog w) A (letOwnedTupleGo target it v) (fun _ s₁ => wpAny (model prog w) A (assign target env v) (fun _ s₂ =>
          wpAny (model prog w) A (forIn ifs true fun c r => if r = true then do let ok ← isTrue c env (eval c env); pure (ForInStep.yield ok) else pure (ForInStep.yield r)) (fun ok s₃ =>
            if ok = true then wpAny (model prog w) A (eval elt env) (fun x s₄ =>
              wpAny (model prog w) A (call (.builtin "list.append") [acc, x]) (fun _ s₅ => ∃ m, m < n ∧ I m s₅) (notedBy (model prog w) A env fun e s' => R (.error e) s') s₄) (notedBy (model prog w) A env fun e s' => R (.error e) s') s₃
            else ∃ m, m < n ∧ I m s₃) (notedBy (model prog w) A env fun e s' => R (.error e) s') s₂) (notedBy (model prog w) A env fun e s' => R (.error e) s') s₁) (notedBy (model prog w) A env fun e s' => R (.error e) s') s₁) (notedBy (model prog w) A env fun e s' => R (.error e) s') s)
    (n : Nat) (h : I n s) :
    codeAny (model prog w) A (.compLoop (.ListComp elt [⟨target, iter, ifs, 0⟩] scope pos) 0 it acc env) R s := by
  refine codeAny_loop rfl I (fun n s hI => ?_) n h
  show wpAny _ A ((compTurn (.ListComp elt [⟨target, iter, ifs, 0⟩] scope pos) 0 it acc env).onRaise (fun x => do noteFrame x env; theTreesLotGoes x)) _ _ s
  refine wpAny_noted ?_
  rw [compTurn_list]
  refine wpAny_bind (wpAny_standAt (wpAny_bind (wpAny_mono (turn n s hI) (fun r s₁ h₁ => ?_) fun _ _ h' => h')))
  cases r with
  | none => exact wpAny_pure h₁
  | some v =>
    refine wpAny_bind (wpAny_mono h₁ (fun _ s₁' h₁' => ?_) fun _ _ h' => h')
    refine wpAny_bind (wpAny_mono h₁' (fun _ s₂ h₂ => wpAny_bind (wpAny_mono h₂ (fun ok s₃ h₃ => ?_) fun _ _ h' => h')) fun _ _ h' => h')
    cases ok with
    | false => exact wpAny_pure ⟨rfl, h₃⟩
    | true =>
      exact wpAny_bind (wpAny_bind (wpAny_mono h₃ (fun x s₄ h₄ => wpAny_bind (wpAny_mono h₄ (fun _ s₅ h₅ => wpAny_pure (wpAny_pure ⟨rfl, h₅⟩)) fun _ _ h' => h')) fun _ _ h' => h'))

/-- names of the clause's scope against those of the code around it -/
structure CompOk (X : Cx) (N' : List Str) (k : Nat) (sc : Scope) : Prop where
  calm : X.calm = true
  kind : sc.kind = .function
  nd : X.N.Nodup
  nd' : N'.Nodup
  len : N'.length = X.N.length + k
  ncell : ∀ y ∈ sc.names, y.2 ≠ .cell
  names : ∀ y ∈ sc.names, y.2 = .local → sc.names.lookup y.1 = some .local
  old : ∀ i y, i < X.N.length → N'[i]? = some y → (X.N[i]? = some y ∧ sc.names.lookup y ≠ some .local) ∨ sc.names.lookup y = none
  free : ∀ y ∈ sc.names, y.2 = .free → X.env.kindOf y.1 = some .cell ∨ X.env.kindOf y.1 = some .free

def tCompT (J : It) (wg : TG) (tt : TT) (te : TE) (W : Nat → Nat → List V → St → Hp → Prop) (i m : Nat) (ys : List V) (σ : St) (H : Hp) : Prop :=
  ∀ x H2, J.yld i H x H2 → wg x σ H2 fun σ3 H3 => tt σ3 H3 fun b H4 => if b = true then te σ3 H4 fun v H5 => ys.length < sizeLine ∧ ∃ m', m' < m ∧ W (i + 1) m' (ys ++ [v]) σ3 H5
    else ∃ m', m' < m ∧ W (i + 1) m' ys σ3 H4
def tCompW (k : Nat) (J : It) (wg : TG) (tt : TT) (te : TE) (σ : St) (H : Hp) (Q : VK) : Prop :=
  ∃ W : Nat → Nat → List V → St → Hp → Prop, (∃ m, W 0 m [] (σ ++ List.replicate k none) H) ∧ ∀ i m ys σ' H', W i m ys σ' H' →
    (J.stop i H' ∧ ∀ D, H' D = none → Q (.ref D) (upd H' D (.lst ys))) ∨ (J.go i H' ∧ tCompT J wg tt te W i m ys σ' H')
def tComp (k : Nat) (wi : TI) (wg : TG) (tt : TT) (te : TE) : TE := fun σ H Q => wi σ H fun J H1 => tCompW k J wg tt te σ H1 Q

theorem lookup_relabel {env : Env} : ∀ {names : List (Str × NameKind)} {x : Str} {k : NameKind},
    (names.map fun (n, k) => if (k == NameKind.free && env.scope.kind == .function && env.kindOf n == some .cell) then (n, NameKind.cell) else (n, k)).lookup x = some k →
      (names.lookup x = some k) ∨ (k = .cell ∧ names.lookup x = some .free)
  | [], _, _, h => by simp at h
  | (n, k') :: r, x, k, h => by
    have h' : List.lookup x ((if (k' == NameKind.free && env.scope.kind == .function && env.kindOf n == some .cell) = true then (n, NameKind.cell) else (n, k')) :: (r.map fun (n, k) => if (k == NameKind.free && env.scope.kind == .function && env.kindOf n == some .cell) then (n, NameKind.cell) else (n, k))) = some k := h
    have ih := @lookup_relabel env r x k
    cases hx : x == n with
    | true =>
      by_cases hc : (k' == NameKind.free && env.scope.kind == .function && env.kindOf n == some .cell) = true
      · rw [if_pos hc] at h'
        simp only [List.lookup_cons, hx] at h' ⊢
        cases h'
        have : k' = .free := by
          rw [Bool.and_eq_true, Bool.and_eq_true] at hc
          simpa using hc.1.1
        subst this
        exact .inr ⟨rfl, rfl⟩
      · rw [if_neg hc] at h'
        simp only [List.lookup_cons, hx] at h' ⊢
        exact .inl h'
    | false =>
      by_cases hc : (k' == NameKind.free && env.scope.kind == .function && env.kindOf n == some .cell) = true
      · rw [if_pos hc] at h'
        simp only [List.lookup_cons, hx] at h' ⊢
        exact ih h'
      · rw [if_neg hc] at h'
        simp only [List.lookup_cons, hx] at h' ⊢
        exact ih h'

section
variable {X : Cx} {elt iter : Expr} {ifs : List Expr} {tg : Expr} {N' : List Str} {sc : Scope} {pos : Pos} {wi : TI} {wg : TG} {tt : TT} {te : TE} {k : Nat}

/-- the block's entry -/
theorem comp_inv {pins : List (Addr × Obj)} {σ : St} {H : Hp} {s s' : Shared} {cl : List (Str × Addr)} {fp : List Addr} {m : Str → Option Value} (O : CompOk X N' k sc) (I : Inv X pins σ H s) (hcl1 : ∀ y c, cl.lookup y = some c → X.env.cells.lookup y = some c)
    (hcl2 : ∀ y, (y, NameKind.free) ∈ sc.names → ∃ c, cl.lookup y = some c) (hf : ∀ b ∈ fp, FpOk X pins H b) (hlt : ∀ b ∈ fp, b < s.heap.objs.size) (hos : s'.os = s.os) (hg : s'.gens = s.gens) (hk : ∀ b o, s.heap.get? b = some o → s'.heap.get? b = some o) (hns : s'.heap.Ns s.heap.objs.size m) :
    Inv (compCx X N' sc cl s.heap.objs.size fp pins s H) [] (σ ++ List.replicate k none) H s' := by
  have stk : ∀ b, b ≠ X.env.locals → b ∉ X.fs → b ∉ frs X.stack := fun b h1 h2 hb => by
    rcases List.mem_cons.mp (I.stkSub b hb) with z | z
    · exact h1 z
    · exact h2 z
  have hr : ∀ {y : Str}, (relabel sc X.env).names.lookup y = some .cell ∨ (relabel sc X.env).names.lookup y = some .free → sc.names.lookup y = some .free := fun {y} h => by
    rcases h with h | h
    · rcases lookup_relabel h with q | q
      · exact absurd rfl (O.ncell _ (PySem.mem_of_lookup q))
      · exact q.2
    · rcases lookup_relabel h with q | q
      · exact q
      · exact q.2
  refine ⟨⟨I.ok.mod, O.kind, I.ok.glob, I.ok.blt, Nat.le_refl _, fun y z c h1 h2 => I.ok.inj y z c (hcl1 _ _ h1) (hcl1 _ _ h2), fun y hy => ?_, fun _ _ z => (by cases z), I.ok.hd, I.ok.frames, .inl rfl, fun b hb => ?_, I.bs, Nat.le_trans I.ok.bsz I.sz, fun b o e hb => ?_, fun b hb => ?_, I.stack, I.stkFree⟩,
    hos, ?_, Un.kept hk, ⟨m, hns, fun i y v h1 h2 h3 => ?_⟩, fun y c h => ?_, I.hok.fresh (Nat.le_refl _), fun y c h => I.freeC y c (hcl1 _ _ h), fun p hp => ?_, I.hok.kept hk, ?_⟩
  · exact hcl2 y (PySem.mem_of_lookup (hr hy))
  · have q := hf b hb
    exact ⟨Nat.ne_of_lt (hlt b hb), fun z c e => q.2.2.2.2.1 z c (hcl1 _ _ e)⟩
  · have hb' : b ∈ fp := hb
    rcases (hf b hb').2.2.2.1 with z | z
    · exact I.ok.noex b o e z
    · exact absurd (Nat.lt_of_lt_of_le (Heap.lt_size (I.ok.bs b o e).1) z) (Nat.lt_irrefl _)
  · exact stk b (hf b hb).2.1 (hf b hb).2.2.1
  · rw [hg]; exact I.bare
  · have hl := I.len
    have hi : i < X.N.length := by
      by_cases hi : i < X.N.length
      · exact hi
      · rw [List.getElem?_append_right (by omega)] at h2
        have := List.getElem?_replicate (a := (none : Option V)) (n := k) (i := i - σ.length)
        rw [this] at h2
        split at h2 <;> cases h2
    have h1' : X.N[i]? = some y ∧ sc.names.lookup y ≠ some .local := by
      rcases O.old i y hi h1 with q | q
      · exact q
      · have no : ∀ kk, (relabel sc X.env).names.lookup y ≠ some kk := fun kk z => by
          rcases lookup_relabel z with w | w
          · rw [q] at w; cases w
          · rw [q] at w; cases w.2
        rcases h3 with h3 | h3 | h3
        · exact absurd h3 (no _)
        · exact absurd h3 (no _)
        · exact absurd h3 (no _)
    obtain ⟨h1', h1n⟩ := h1'
    have h2' : σ[i]? = some (some v) := by
      rw [List.getElem?_append_left (by omega)] at h2
      exact h2
    have key : sc.names.lookup y = some .free ∧ ((relabel sc X.env).names.lookup y = some .cell ∨ (relabel sc X.env).names.lookup y = some .free) := by
      rcases h3 with h3 | h3 | h3
      · rcases lookup_relabel h3 with q | q
        · exact absurd q h1n
        · cases q.1
      · exact ⟨hr (.inl h3), .inl h3⟩
      · exact ⟨hr (.inr h3), .inr h3⟩
    obtain ⟨q, kd⟩ := key
    have mem := PySem.mem_of_lookup q
    have kx := O.free _ mem rfl
    obtain ⟨m0, hn, hl'⟩ := I.loc
    obtain ⟨u, r, l⟩ := hl' i y v h1' h2' (by rcases kx with z | z; exact .inr (.inl z); exact .inr (.inr z))
    rcases l with ⟨l, _⟩ | ⟨_, c, e, z⟩
    · rcases kx with z | z
      · rw [l] at z; cases z
      · rw [l] at z; cases z
    · obtain ⟨c', e'⟩ := hcl2 y mem
      have e2 := hcl1 y c' e'
      rw [e] at e2; cases e2
      obtain ⟨o, ho, hd⟩ := z
      exact ⟨u, r, .inr ⟨kd, c, e', o, hk _ _ ho, hd⟩⟩
  · obtain ⟨v, o, ho, hd⟩ := I.cell y c (hcl1 _ _ h)
    exact ⟨v, o, hk _ _ ho, hd⟩
  · have hp' : p ∈ X.pn ++ pins := by
      rcases List.mem_append.mp hp with z | z
      · exact z
      · cases z
    obtain ⟨e, n, ne, nf, d⟩ := I.pin p hp'
    exact ⟨hk _ _ e, n, Nat.ne_of_lt (Heap.lt_size e), stk p.1 ne nf, d⟩
  · show (σ ++ List.replicate k none).length = N'.length
    rw [List.length_append, List.length_replicate, I.len, O.len]

/-- behind the block -/
theorem comp_back {pins : List (Addr × Obj)} {σ σ' : St} {H H' : Hp} {s s1 : Shared} {cl : List (Str × Addr)} {fp : List Addr} {C : Addr} (I : Inv X pins σ H s) (hf : ∀ b ∈ fp, FpOk X pins H b)
    (J : Inv (compCx X N' sc cl C fp pins s H) [] σ' H' s1) : Inv X pins σ H' s1 :=
  I.call' (ch := fp) J.os J.base J.hok J.bare fun b hb => ⟨(hf b hb).2.2.2.1, (hf b hb).2.1, (hf b hb).2.2.2.2.1, (hf b hb).2.2.2.2.2⟩

/-- an object that was not tracked is tracked from here on -/
theorem Inv.track {pins : List (Addr × Obj)} {σ : St} {H : Hp} {s : Shared} {D : Addr} {o : HO} (I : Inv X pins σ H s) (hn : H D = none) (hL : D ≠ X.env.locals) (h1 : D ∈ X.ex ∨ X.s₀.heap.objs.size ≤ D) (h2 : ∀ x c, X.env.cells.lookup x = some c → c ≠ D) (h3 : ∀ p ∈ X.pn ++ pins, p.1 ≠ D)
    (ok : ObjOk X.prog X.w (upd H D o) s.heap D o) : Inv X pins σ (upd H D o) s := by
  have ne : ∀ b u, H b = some u → b ≠ D := fun b u e => ne_of_none e hn
  exact I.step (g' := s.gens) (d' := s.drawn) (t' := s.toks) (ch := [D]) (h' := s.heap) (fun b hb => by
      have e : b = D := by simpa using hb
      subst e
      exact ⟨h1, hL, h2, h3⟩) (fun b o _ _ _ e _ => e) (fun b o _ _ _ e _ => ⟨o.slots, e⟩) (fun b o hc e n => by rw [upd_ne (fun z => hc (by simp [z]))]; exact n) (fun b o _ e => ⟨o, e⟩)
    (fun b xs e => by rw [upd_ne (ne b _ e)]; exact e) (fun b o u e => by rw [upd_ne (ne b _ e)]; exact e) (fun b ps e => ⟨#[], by rw [upd_ne (ne b _ e), e]; simp⟩) (fun m hm => hm) (fun b u e => by
      by_cases hb : b = D
      · subst hb; rw [upd_same] at e; cases e; exact ok
      · rw [upd_ne hb] at e
        exact (I.hok b u e).stay (fun c v _ q => q) (fun c q => by rw [upd_ne (ne c _ q)]; exact q) fun c xs q => by rw [upd_ne (ne c _ q)]; exact q) I.bare

/-- the block runs -/
theorem comp_loop {pins : List (Addr × Obj)} {σ : St} {H : Hp} {s s' : Shared} {cl : List (Str × Addr)} {fp : List Addr} {m : Str → Option Value} {it D : Addr} {tn : Nat → Heap → Prop} {J : It} {R : Result → Shared → Prop} {Qd : List V → Hp → Prop} (O : CompOk X N' k sc)
    (I : Inv X pins σ H s) (hcl1 : ∀ y c, cl.lookup y = some c → X.env.cells.lookup y = some c) (hcl2 : ∀ y, (y, NameKind.free) ∈ sc.names → ∃ c, cl.lookup y = some c) (hf : ∀ b ∈ D :: fp, FpOk X pins H b) (hlt : ∀ b ∈ D :: fp, b < s.heap.objs.size)
    (hos : s'.os = s.os) (hg : s'.gens = s.gens) (hk : ∀ b o, s.heap.get? b = some o → s'.heap.get? b = some o) (hns : s'.heap.Ns s.heap.objs.size m)
    (T : Turn X.prog X.w X.K tg J fp it tn) (hDf : D ∉ fp) (st : tn 0 s'.heap) (hD : s'.heap.PlainList D #[])
    (pg : PG (compCx X N' sc cl s.heap.objs.size (D :: fp) pins s H) tg wg) (hq : PTs (compCx X N' sc cl s.heap.objs.size (D :: fp) pins s H) ifs tt) (he : PE (compCx X N' sc cl s.heap.objs.size (D :: fp) pins s H) elt te)
    (W : Nat → Nat → List V → St → Hp → Prop) (m0 : Nat) (w0 : W 0 m0 [] (σ ++ List.replicate k none) H) (turn : ∀ i m ys σ' H', W i m ys σ' H' → (J.stop i H' ∧ Qd ys H') ∨ (J.go i H' ∧ tCompT J wg tt te W i m ys σ' H'))
    (fin : ∀ s1 H1 σ1 (ys : List V) (its : List Value), Inv (compCx X N' sc cl s.heap.objs.size (D :: fp) pins s H) [] σ1 H1 s1 → H1 D = none → s1.heap.PlainList D its.toArray → Vals ys its → ys.length ≤ sizeLine → Qd ys H1 → R (.ok .next) s1) :
    codeAny (model X.prog X.w) X.A (.compLoop (.ListComp elt [⟨tg, iter, ifs, 0⟩] sc pos) 0 (.ref it) (.ref D) (compEnvC sc cl s.heap.objs.size X.env)) R s' := by
  have I0 : Inv (compCx X N' sc cl s.heap.objs.size (D :: fp) pins s H) [] (σ ++ List.replicate k none) H s' := comp_inv O I hcl1 hcl2 hf hlt hos hg hk hns
  have stk : ∀ b, b ≠ X.env.locals → b ∉ X.fs → b ∉ frs X.stack := fun b h1 h2 hb => by
    rcases List.mem_cons.mp (I.stkSub b hb) with z | z
    · exact h1 z
    · exact h2 z
  have stat : ∀ {H' : Hp}, (∀ b ∈ D :: fp, H' b = none) → ∀ b ∈ D :: fp, FpOk (compCx X N' sc cl s.heap.objs.size (D :: fp) pins s H) [] H' b := fun hn b hb =>
    ⟨hn b hb, Nat.ne_of_lt (hlt b hb), stk b (hf b hb).2.1 (hf b hb).2.2.1, .inl hb, fun z c e => (hf b hb).2.2.2.2.1 z c (hcl1 _ _ e), fun p hp => by
      have hp' : p ∈ X.pn ++ pins := by
        rcases List.mem_append.mp hp with z | z
        · exact z
        · cases z
      exact (hf b hb).2.2.2.2.2 p hp'⟩
  have statF : ∀ {H' : Hp}, (∀ b ∈ D :: fp, H' b = none) → ∀ b ∈ fp, FpOk (compCx X N' sc cl s.heap.objs.size (D :: fp) pins s H) [] H' b := fun hn b hb => stat hn b (List.mem_cons_of_mem _ hb)
  refine loop_tests (fun kk s1 => ∃ i ys its σ' H', Inv (compCx X N' sc cl s.heap.objs.size (D :: fp) pins s H) [] σ' H' s1 ∧ tn i s1.heap ∧ (∀ b ∈ D :: fp, H' b = none) ∧ s1.heap.PlainList D its.toArray ∧ Vals ys its ∧ ys.length ≤ sizeLine ∧ W i kk ys σ' H') ?_ m0 ⟨0, [], [], σ ++ List.replicate k none, H, I0, st, fun b hb => (hf b hb).1, hD, .nil, Nat.zero_le _, w0⟩
  rintro kk s3 ⟨i, ys, its, σ3, H3, I3, st3, fr3, pl3, rv3, hz3, w3⟩
  rcases turn i kk ys σ3 H3 w3 with ⟨stop, qn⟩ | ⟨go, step⟩
  · have J3 := I3.pinned (fp := [D]) (fun b hb => by
      have e : b = D := by simpa using hb
      subst e
      exact stat fr3 b List.mem_cons_self) (fun b hb => by
      have e : b = D := by simpa using hb
      subst e
      obtain ⟨n, e⟩ := pl3
      exact ⟨_, e, fun v z => by cases z⟩)
    have fpo : ∀ b ∈ fp, FpOk (compCx X N' sc cl s.heap.objs.size (D :: fp) pins s H) ([] ++ pinsAt [D] s3.heap) H3 b := fun b hb => by
      obtain ⟨a1, a2, a3, a4, a5, a6⟩ := statF fr3 b hb
      refine ⟨a1, a2, a3, a4, a5, fun p hp => ?_⟩
      rcases List.mem_append.mp hp with z | z
      · exact a6 p (List.mem_append_left _ z)
      · have z' : p ∈ pinsAt [D] s3.heap := by simpa using z
        have := (of_pinsAt z').1
        have e : p.1 = D := by simpa using this
        rw [e]
        intro z2
        subst z2
        exact hDf hb
    refine thn (T.done (compCx X N' sc cl s.heap.objs.size (D :: fp) pins s H) rfl rfl rfl O.calm i _ s3 σ3 H3 _ J3 fpo st3 stop) fun r s4 ⟨hr, I4⟩ => ?_
    subst hr
    obtain ⟨n, e⟩ := pl3
    have e4 := (I4.pin (D, _) (List.mem_append_right _ (List.mem_append_right _ (mem_pinsAt (by simp) e)))).1
    exact fin s4 H3 σ3 ys its I4.unpinned (fr3 D List.mem_cons_self) ⟨n, e4⟩ rv3 hz3 qn
  · have J3 := I3.pinned (fp := [D]) (fun b hb => by
      have e : b = D := by simpa using hb
      subst e
      exact stat fr3 b List.mem_cons_self) (fun b hb => by
      have e : b = D := by simpa using hb
      subst e
      obtain ⟨n, e⟩ := pl3
      exact ⟨_, e, fun v z => by cases z⟩)
    have fpo : ∀ {H' : Hp}, (∀ b ∈ fp, H' b = none) → ∀ b ∈ fp, FpOk (compCx X N' sc cl s.heap.objs.size (D :: fp) pins s H) ([] ++ pinsAt [D] s3.heap) H' b := fun {H'} hn b hb => by
      obtain ⟨_, a2, a3, a4, a5, a6⟩ := statF fr3 b hb
      refine ⟨hn b hb, a2, a3, a4, a5, fun p hp => ?_⟩
      rcases List.mem_append.mp hp with z | z
      · exact a6 p (List.mem_append_left _ z)
      · have z' : p ∈ pinsAt [D] s3.heap := by simpa using z
        have := (of_pinsAt z').1
        have e : p.1 = D := by simpa using this
        rw [e]
        intro z2
        subst z2
        exact hDf hb
    refine thn (T.item (compCx X N' sc cl s.heap.objs.size (D :: fp) pins s H) rfl rfl rfl O.calm i _ s3 σ3 H3 _ J3 (fpo fun b hb => fr3 b (List.mem_cons_of_mem _ hb)) st3 go) fun r s4 ⟨u, hr, h4⟩ => ?_
    subst hr
    refine thn h4 fun _ s5 ⟨y, H5, I5, r5, y5, st5, fr5⟩ => ?_
    have I5' := I5.pinned (fpo fr5) (T.obj _ _ st5)
    have step' := step y H5 y5
    obtain ⟨n3, e3⟩ := pl3
    have dpin : ∀ {σ7 : St} {H7 : Hp} {s7 : Shared}, Inv (compCx X N' sc cl s.heap.objs.size (D :: fp) pins s H) ([] ++ pinsAt [D] s3.heap ++ pinsAt fp s5.heap) σ7 H7 s7 → s7.heap.get? D = some { cls := .type "list", data := .seq its.toArray n3 } ∧ H7 D = none := fun {σ7 H7 s7} I7 => by
      have q := I7.pin (D, _) (List.mem_append_right _ (List.mem_append_left _ (List.mem_append_right _ (mem_pinsAt (by simp) e3))))
      exact ⟨q.1, q.2.1⟩
    have tkeep : ∀ {σ7 : St} {H7 : Hp} {s7 : Shared}, Inv (compCx X N' sc cl s.heap.objs.size (D :: fp) pins s H) ([] ++ pinsAt [D] s3.heap ++ pinsAt fp s5.heap) σ7 H7 s7 → tn (i + 1) s7.heap ∧ ∀ b ∈ D :: fp, H7 b = none := fun {σ7 H7 s7} I7 => by
      refine ⟨T.keep _ _ _ st5 fun b hb o e => (I7.pin (b, o) (List.mem_append_right _ (List.mem_append_right _ (mem_pinsAt hb e)))).1, fun b hb => ?_⟩
      rcases List.mem_cons.mp hb with rfl | hb
      · exact (dpin I7).2
      · obtain ⟨o, e, d⟩ := T.obj _ _ st5 b hb
        exact (I7.pin (b, o) (List.mem_append_right _ (List.mem_append_right _ (mem_pinsAt hb e)))).2.1
    refine thF (pg _ s5 σ3 H5 y u _ I5' r5 step') fun _ s6 ⟨σ6, H6, I6, step6⟩ => ?_
    refine thF (hq _ s6 _ H6 _ I6 step6) fun b s7 ⟨H7, I7, q7⟩ => ?_
    cases b with
    | false =>
      simp only [Bool.false_eq_true, if_false] at q7 ⊢
      obtain ⟨m', hm, w8⟩ := q7
      obtain ⟨t8, f8⟩ := tkeep I7
      exact ⟨m', hm, i + 1, ys, its, _, H7, I7.unpinned.unpinned, t8, f8, ⟨n3, (dpin I7).1⟩, rv3, hz3, w8⟩
    | true =>
      simp only [if_true] at q7 ⊢
      refine thF (he _ s7 _ H7 _ I7 q7) fun v s8 ⟨vv, H8, I8, r8, hz, m', hm, w8⟩ => ?_
      have hlen := rv3.length
      refine wpAny_list_append_plain ⟨n3, (dpin I8).1⟩ (fun h9 pl9 sb9 => ?_) (by rw [List.size_toArray]; omega)
      obtain ⟨t8, f8⟩ := tkeep I8
      have st8 := stat f8 D List.mem_cons_self
      have I9 : Inv (compCx X N' sc cl s.heap.objs.size (D :: fp) pins s H) [] σ6 H8 { s8 with heap := h9 } :=
        I8.unpinned.unpinned.turned (t' := s8.toks) (fun b o hb e => (sb9.2 b hb).trans e) st8.1 st8.2.1 st8.2.2.2.1 st8.2.2.2.2.1 st8.2.2.2.2.2
      refine ⟨m', hm, i + 1, ys ++ [vv], its ++ [v], _, H8, I9, T.keep _ _ _ t8 fun b hb o e => (sb9.2 b (fun z => hDf (z ▸ hb))).trans e, f8, by simpa using pl9, rv3.append (.cons r8 .nil), ?_, w8⟩
      rw [List.length_append, List.length_singleton]
      omega

/-- the block, from the iterator on -/
theorem comp_block {E : Value → Shared → Prop} {pins : List (Addr × Obj)} {σ : St} {H : Hp} {s : Shared} {cl : List (Str × Addr)} {fp : List Addr} {it : Addr} {tn : Nat → Heap → Prop} {J : It} {RR : Value → Addr → Result → Shared → Prop} {Qd : V → Hp → Prop} (O : CompOk X N' k sc)
    (I : Inv X pins σ H s) (hcl1 : ∀ y c, cl.lookup y = some c → X.env.cells.lookup y = some c) (hcl2 : ∀ y, (y, NameKind.free) ∈ sc.names → ∃ c, cl.lookup y = some c) (hf : ∀ b ∈ fp, FpOk X pins H b)
    (T : Turn X.prog X.w X.K tg J fp it tn) (st : tn 0 s.heap)
    (hg : ∀ cl C fp pins s H, PG (compCx X N' sc cl C fp pins s H) tg wg) (hq : ∀ cl C fp pins s H, PTs (compCx X N' sc cl C fp pins s H) ifs tt) (he : ∀ cl C fp pins s H, PE (compCx X N' sc cl C fp pins s H) elt te)
    (turn : tCompW k J wg tt te σ H Qd)
    (fin : ∀ D C s1 H1 m, Inv X pins σ H1 s1 → s1.heap.Ns C m → H1 C = none → C ≠ X.env.locals → (X.s₀.heap.objs.size ≤ C) → (∀ z c, X.env.cells.lookup z = some c → c ≠ C) → (∀ p ∈ X.pn ++ pins, p.1 ≠ C) → Qd (.ref D) H1 → RR (.ref D) C (.ok .next) s1) :
    wpAny (model X.prog X.w) X.A (newList []) (fun acc s₃ => wpAny (model X.prog X.w) X.A (newFunctionEnv sc X.env.globals cl [] X.env.qual none .none (some X.env)) (fun cenv s₄ =>
      codeAny (model X.prog X.w) X.A (.compStart (.ListComp elt [⟨tg, iter, ifs, 0⟩] sc pos) 0 (.ref it) acc { cenv with scope := relabel sc X.env }) (RR acc cenv.locals) s₄) E s₃) E s := by
  refine wpAny_newObj_type (wpAny_newFunctionEnv O.ncell (by intro y hy; simp at hy) (fun h₁ hns₁ hsb₁ => ?_) O.kind)
  dsimp only at hns₁ hsb₁ ⊢
  have hD := I.hok.fresh (Nat.le_refl s.heap.objs.size)
  have I3 : Inv X pins σ H { s with heap := s.heap.push { cls := .type "list", dict := none, data := .seq ([] : List Value).toArray } } :=
    I.kept (t' := s.toks) (fun b u e => Heap.get?_push_of_some _ e)
  have fpl : ∀ b ∈ fp, b < s.heap.objs.size := fun b hb => by
    obtain ⟨o, e, _⟩ := T.obj _ _ st b hb
    exact Heap.lt_size e
  have fD : FpOk X pins H s.heap.objs.size := I.fpOk (Nat.le_refl _) hD
  have hf3 : ∀ b ∈ s.heap.objs.size :: fp, FpOk X pins H b := fun b hb => by
    rcases List.mem_cons.mp hb with rfl | hb
    · exact fD
    · exact hf b hb
  have eD : (s.heap.push { cls := .type "list", dict := none, data := .seq ([] : List Value).toArray }).get? s.heap.objs.size = some { cls := .type "list", dict := none, data := .seq ([] : List Value).toArray } := Heap.get?_push_size _ rfl
  generalize hH2 : s.heap.push { cls := .type "list", dict := none, data := .seq ([] : List Value).toArray } = H2 at hns₁ hsb₁ I3 eD ⊢
  have hC : H2.objs.size = s.heap.objs.size + 1 := by rw [← hH2, Heap.size_push]
  have old3 : ∀ b o, H2.get? b = some o → h₁.get? b = some o := fun b o e => hsb₁.extBut b o (Nat.ne_of_lt (Heap.lt_size e)) (Heap.get?_push_of_some _ e)
  have old2 : ∀ b o, s.heap.get? b = some o → H2.get? b = some o := fun b o e => hH2 ▸ Heap.get?_push_of_some _ e
  obtain ⟨W, ⟨m0, w0⟩, tr⟩ := turn
  have st1 : tn 0 h₁ := T.keep _ _ _ st fun b _ o e => old3 b o (old2 b o e)
  have loop : codeAny (model X.prog X.w) X.A (.compLoop (.ListComp elt [⟨tg, iter, ifs, 0⟩] sc pos) 0 (.ref it) (.ref s.heap.objs.size) (compEnvC sc cl H2.objs.size X.env)) (RR (.ref s.heap.objs.size) H2.objs.size)
      { s with heap := h₁, toks := s.toks + ([] : List (Str × Value)).length } := by
    refine comp_loop (s := { s with heap := H2 }) (s' := { s with heap := h₁, toks := s.toks + ([] : List (Str × Value)).length }) (Qd := fun ys H' => ∀ D, H' D = none → Qd (.ref D) (upd H' D (.lst ys))) O I3 hcl1 hcl2 hf3 (fun b hb => ?_) rfl rfl old3 hns₁ T (fun z => Nat.lt_irrefl _ (fpl _ z)) st1 ⟨0, old3 _ _ eD⟩ (hg _ _ _ _ _ _) (hq _ _ _ _ _ _) (he _ _ _ _ _ _) W m0 w0 tr ?_
    · show b < H2.objs.size
      rw [hC]
      rcases List.mem_cons.mp hb with hb | hb
      · rw [hb]; exact Nat.lt_succ_self _
      · exact Nat.lt_succ_of_lt (fpl b hb)
    intro s1 H1 σ1 ys its J1 hD1 pl1 rv1 hz1 q1
    obtain ⟨m, hn1, _⟩ := J1.loc
    obtain ⟨n1, e1⟩ := pl1
    have I4 := (comp_back I3 hf3 J1).track (D := s.heap.objs.size) (o := .lst ys) hD1 fD.2.1 fD.2.2.2.1 fD.2.2.2.2.1 fD.2.2.2.2.2 ⟨hz1, its, n1, rv1, e1⟩
    refine fin _ _ s1 _ m I4 hn1 (by rw [upd_ne (by show H2.objs.size ≠ s.heap.objs.size; omega)]; exact J1.free) (Nat.ne_of_gt I3.lt) I3.sz (fun z c e h => ?_) (fun p hp h => ?_) (q1 _ hD1)
    · obtain ⟨v, q⟩ := I3.cell z c e
      have := q.lt
      rw [h] at this
      exact Nat.lt_irrefl _ this
    · have := Heap.lt_size (I3.pin p hp).1
      rw [h] at this
      exact Nat.lt_irrefl _ this
  exact codeAny_compStart_list loop (T.self _ 0 _ _ _ st1 loop)

theorem pe_comp (O : CompOk X N' k sc) (hi : PI X tg iter wi) (hg : ∀ cl C fp pins s H, PG (compCx X N' sc cl C fp pins s H) tg wg) (hq : ∀ cl C fp pins s H, PTs (compCx X N' sc cl C fp pins s H) ifs tt) (he : ∀ cl C fp pins s H, PE (compCx X N' sc cl C fp pins s H) elt te)
    (hs : ∀ v, foldedSetIterable iter X.env v = pure v := by intro _; rfl) : PE X (.ListComp elt [⟨tg, iter, ifs, 0⟩] sc pos) (tComp k wi wg tt te) := by
  intro pins s σ H Q I h
  rw [eval_ListComp]
  obtain ⟨cl, hcl, hcl1, hcl2⟩ := closure_of (sc := sc) (env := X.env) (fun y hy hf => I.ok.has y.1 (O.free y hy hf))
  refine wpAny_comprehension_free (use := none) rfl hs hcl O.kind O.names ?_
  refine thn (hi pins s σ H _ I h) fun v s1 h1 => thn h1 fun itv s2 h2 => ?_
  obtain ⟨it, fp, tn, J, H2, e, I2, T, st2, f2, q⟩ := h2
  subst e
  refine comp_block (RR := fun acc C => compPost (model X.prog X.w) X.A X.xe none (EP X pins σ Q) acc C) (Qd := Q) O I2 hcl1 hcl2 f2 T st2 hg hq he q ?_
  intro D C s3 H3 m I3 hn3 hC3 hL hsz hcl3 hp3 q3
  exact ⟨m, hn3, fun h' sb => ⟨.ref D, H3, I3.turned (t' := s3.toks) (fun b o hb e => (sb.2 b hb).trans e) hC3 hL (.inr hsz) hcl3 hp3, rfl, q3⟩⟩

/-- name = [..] -/
theorem ps_comp {j : Nat} {y : Str} {py spos : Pos} (O : CompOk X N' k sc) (hj : X.N[j]? = some y) (hy : X.env.scope.names.lookup y = some .local) (hi : PI X tg iter wi) (hg : ∀ cl C fp pins s H, PG (compCx X N' sc cl C fp pins s H) tg wg) (hq : ∀ cl C fp pins s H, PTs (compCx X N' sc cl C fp pins s H) ifs tt) (he : ∀ cl C fp pins s H, PE (compCx X N' sc cl C fp pins s H) elt te)
    (hsw : swapsWith (.ListComp elt [⟨tg, iter, ifs, 0⟩] sc pos) (some (.Name y py)) spos.line X.env = pure true := by rfl)
    (hs : ∀ v, foldedSetIterable iter X.env v = pure v := by intro _; rfl) : PS X (.Assign [.Name y py] (.ListComp elt [⟨tg, iter, ifs, 0⟩] sc pos) spos) (tAsg (tComp k wi wg tt te) (gName j)) := by
  intro pins s σ H D I h
  rw [exec_Assign_Name_used _ _ _ _ hsw]
  refine wpAny_bind (wpAny_standAt (wpAny_bind ?_))
  show wpAny _ X.A (do let _ ← comprehension (.ListComp elt [⟨tg, iter, ifs, 0⟩] sc pos) sc X.env _ (newList []) false (eval iter X.env) (some (assign (.Name y py) X.env))) _ _ s
  obtain ⟨cl, hcl, hcl1, hcl2⟩ := closure_of (sc := sc) (env := X.env) (fun y hy hf => I.ok.has y.1 (O.free y hy hf))
  refine wpAny_bind (wpAny_mono (wpAny_comprehension_free (use := some (assign (.Name y py) X.env)) (Q := fun _ s' => SP X pins D .next s') rfl hs hcl O.kind O.names ?_) (fun _ s' hq => wpAny_pure (wpAny_pure hq)) fun _ _ e => e)
  refine thn (hi pins s σ H _ I h) fun v s1 h1 => thn h1 fun itv s2 h2 => ?_
  obtain ⟨it, fp, tn, J, H2, e, I2, T, st2, f2, q⟩ := h2
  subst e
  refine comp_block (RR := fun acc C => compPost (model X.prog X.w) X.A X.xe (some (assign (.Name y py) X.env)) (fun _ s' => SP X pins D .next s') acc C) (Qd := fun x H1 => gName j x σ H1 D.nx) O I2 hcl1 hcl2 f2 T st2 hg hq he q ?_
  intro B C s3 H3 m I3 hn3 hC3 hL hsz hcl3 hp3 q3
  refine wpAny_assign_Name (store_ok2 I3 O.nd hj (.inl hy) (v := .ref B) rfl (fun s4 I4 ⟨a, sb, ha⟩ => ?_) (.inr hy))
  have hCa : C ≠ a := by
    rcases ha with ha | ha
    · rw [ha]; exact hL
    · exact Ne.symm (hcl3 _ _ ha)
  refine ⟨m, hn3.sameBut sb hCa, fun h' sb' => ⟨_, H3, I4.turned (t' := s4.toks) (fun b o hb e => (sb'.2 b hb).trans e) hC3 hL (.inr hsz) hcl3 hp3, q3⟩⟩
end
end L2
namespace L2
open PySem PySem.Spec PyProof.Rows
/-! ### keys of dicts: tuples of ints and of tuples of ints -/
abbrev K2 := List (Int ⊕ List Int)
def k2D (k : Int ⊕ List Int) : PyData := match k with
  | .inl i => .int i
  | .inr js => .tuple (js.map .int)
def k2T (ks : K2) : PyData := .tuple (ks.map k2D)
def k2H (k : Int ⊕ List Int) : Int := match k with
  | .inl i => hashInt i
  | .inr js => reduceHash (Builtin.Tuple.tupleHashOf (js.map hashInt))
theorem map_int_inj : ∀ {a b : List Int}, a.map PyData.int = b.map PyData.int → a = b
  | [], [], _ => rfl
  | [], _ :: _, e => by simp at e
  | _ :: _, [], e => by simp at e
  | x :: xs, y :: ys, e => by
    rw [List.map_cons, List.map_cons] at e
    injection e with e1 e2
    injection e1 with e1
    rw [e1, map_int_inj e2]
theorem k2D_inj {a b : Int ⊕ List Int} (e : k2D a = k2D b) : a = b := by
  cases a with
  | inl i => cases b with
    | inl j => injection (show PyData.int i = PyData.int j from e) with e; rw [e]
    | inr js => cases (show PyData.int i = PyData.tuple _ from e)
  | inr is => cases b with
    | inl j => cases (show PyData.tuple _ = PyData.int j from e)
    | inr js => injection (show PyData.tuple (is.map .int) = PyData.tuple (js.map .int) from e) with e; rw [map_int_inj e]
theorem k2Ds_inj : ∀ {a b : K2}, a.map k2D = b.map k2D → a = b
  | [], [], _ => rfl
  | [], _ :: _, e => by simp at e
  | _ :: _, [], e => by simp at e
  | x :: xs, y :: ys, e => by
    rw [List.map_cons, List.map_cons] at e
    injection e with e1 e2
    rw [k2D_inj e1, k2Ds_inj e2]
theorem k2T_inj {a b : K2} (e : k2T a = k2T b) : a = b := by
  injection (show PyData.tuple (a.map k2D) = PyData.tuple (b.map k2D) from e) with e
  exact k2Ds_inj e
theorem can_is (ns : List Int) : PyData.canLayAll0 (ns.map .int) = true ∧ PyData.depthAll (ns.map .int) = 0 := by
  induction ns with
  | nil => exact ⟨rfl, rfl⟩
  | cons n ns ih => exact ⟨ih.1, by show max 0 (PyData.depthAll (ns.map .int)) = 0; rw [ih.2]; rfl⟩
theorem can_k2 (ks : K2) : PyData.canLayAll0 (ks.map k2D) = true ∧ PyData.depthAll (ks.map k2D) ≤ 1 := by
  induction ks with
  | nil => exact ⟨rfl, Nat.zero_le _⟩
  | cons k ks ih =>
    have hk : (k2D k).canLay0 = true ∧ (k2D k).depth ≤ 1 := by
      cases k with
      | inl i => exact ⟨rfl, Nat.zero_le _⟩
      | inr js => exact ⟨(can_is js).1, by show PyData.depthAll (js.map .int) + 1 ≤ 1; rw [(can_is js).2]; exact Nat.le_refl _⟩
    refine ⟨?_, ?_⟩
    · show ((k2D k).canLay0 && PyData.canLayAll0 (ks.map k2D)) = true
      rw [hk.1, ih.1]; rfl
    · show max (k2D k).depth (PyData.depthAll (ks.map k2D)) ≤ 1
      exact Nat.max_le.mpr ⟨hk.2, ih.2⟩
theorem can_k2T (ks : K2) : (k2T ks).canLay0 = true ∧ (k2T ks).depth ≤ 2 := ⟨(can_k2 ks).1, Nat.succ_le_succ (can_k2 ks).2⟩
def Is2 (h : Heap) (ks : K2) (a : Addr) : Prop := ∃ as, Reads h (.ref a) (k2T ks) as
section
variable {prog : Program} {w : World} {A : Around} {E : Value → Shared → Prop} {s : Shared}
theorem Is2.typeIs {ks : K2} {a : Addr} (x : Is2 s.heap ks a) : s.TypeIs (.ref a) "tuple" := by
  obtain ⟨as, r⟩ := x
  cases r with
  | tuple h1 h2 h3 h4 => exact ⟨_, h1, h2⟩
theorem quiet_v {n : Nat} {h : Heap} {v : Value} {as : List Addr} {i : Int} (r : Reads h v (.int i) as) : eqIsQuiet n v = pure true := by
  cases r
  cases n <;> rfl
theorem quiet_tup {m : Nat} {a : Addr} {o : Obj} {items : Array Value} {n : Nat} {Q : Bool → Shared → Prop} (ho : s.heap.get? a = some o) (hc : o.cls = .type "tuple") (hd : o.data = .seq items n)
    (hi : ∀ v ∈ items.toList, ∀ Q' : Bool → Shared → Prop, Q' true s → wpAny (model prog w) A (eqIsQuiet m v) Q' E s) (h : Q true s) : wpAny (model prog w) A (eqIsQuiet (m + 1) (.ref a)) Q E s := by
  have hT : s.TypeIs (.ref a) "tuple" := ⟨o, ho, hc⟩
  unfold eqIsQuiet
  refine wpAny_bind (wpAny_specialOf hT F.slot_tuple_eq.lookup (?_ : wpAny _ _ (isInstance (.ref a) (.type "tuple") >>= _) _ _ s))
  refine wpAny_bind (wpAny_isInstance hT isSubtype_tuple_tuple (id ?_))
  simp only [Bool.not_true, if_false, Bool.false_eq_true]
  refine wpAny_bind (wpAny_seqItems ho hd (wpAny_bind (?_ : wpAny _ _ (forIn items _ _) _ _ s)))
  rw [← Array.forIn_toList]
  refine wpAny_forIn_list _ (fun rest r s' => r.1 = none ∧ s' = s ∧ ∀ v ∈ rest, ∀ Q' : Bool → Shared → Prop, Q' true s → wpAny (model prog w) A (eqIsQuiet m v) Q' E s) _ ?_ ?_ _ _ ⟨rfl, rfl, hi⟩
  · rintro v rest r s' ⟨hr, rfl, hall⟩
    refine wpAny_bind (hall v List.mem_cons_self _ ?_)
    simp only [Bool.not_true, if_false, Bool.false_eq_true]
    exact wpAny_pure ⟨rfl, rfl, fun u hu' => hall u (List.mem_cons_of_mem _ hu')⟩
  · rintro ⟨r1, r2⟩ s' ⟨hr, rfl, _⟩
    simp only at hr
    subst hr
    exact wpAny_pure h
theorem readsAll_each {h : Heap} : ∀ {vs : List Value} {ds : List PyData} {as : List Addr}, ReadsAll h vs ds as → ∀ v ∈ vs, ∃ d ∈ ds, ∃ bs, Reads h v d bs
  | _, _, _, .nil, v, hv => by cases hv
  | _, _, _, .cons r t, v, hv => by
    rcases List.mem_cons.mp hv with rfl | hv
    · exact ⟨_, .head _, _, r⟩
    · obtain ⟨d, hd, bs, q⟩ := readsAll_each t v hv
      exact ⟨d, .tail _ hd, bs, q⟩
theorem Is2.quiet {ks : K2} {a : Addr} {Q : Bool → Shared → Prop} (x : Is2 s.heap ks a) (h : Q true s) : wpAny (model prog w) A (eqIsQuiet 8 (.ref a)) Q E s := by
  obtain ⟨as, r⟩ := x
  cases r with
  | tuple h1 h2 h3 h4 =>
    refine quiet_tup h1 h2 h3 (fun v hv Q' q => ?_) h
    obtain ⟨d, hd, bs, rv⟩ := readsAll_each h4 v hv
    obtain ⟨k, _, rfl⟩ := List.mem_map.mp hd
    cases k with
    | inl i => rw [quiet_v (show Reads s.heap v (.int i) bs from rv)]; exact wpAny_pure q
    | inr js =>
      cases (show Reads s.heap v (.tuple (js.map .int)) bs from rv) with
      | tuple g1 g2 g3 g4 =>
        refine quiet_tup g1 g2 g3 (fun u hu Q2 q2 => ?_) q
        obtain ⟨d, hd, cs, ru⟩ := readsAll_each g4 u hu
        obtain ⟨i, _, rfl⟩ := List.mem_map.mp hd
        rw [quiet_v ru]
        exact wpAny_pure q2
theorem Is2.inj {h : Heap} {a : Addr} {x y : K2} (hx : Is2 h x a) (hy : Is2 h y a) : x = y := by
  obtain ⟨as, r⟩ := hx
  obtain ⟨bs, q⟩ := hy
  exact k2T_inj (SeqAt.Reads.unique _ _ _ _ _ (can_k2T x).1 r q)
/-- reading tuples of ints is not touched where a dict changes -/
theorem readsI_keeps {h h' : Heap} {d : Addr} (k : ∀ b o, b ≠ d → h.get? b = some o → h'.get? b = some o) : ∀ {vs : List Value} {ns : List Int} {as : List Addr}, ReadsAll h vs (ns.map .int) as → ReadsAll h' vs (ns.map .int) as
  | _, [], _, r => by cases r; exact .nil
  | _, n :: ns, _, r => by
    cases r with
    | cons a t => cases a; exact .cons (.int _ _) (readsI_keeps k t)
theorem Is2.keeps {h h' : Heap} {ks : K2} {a d : Addr} {o : Obj} {es : Array DictEntry} {ep : Nat} (x : Is2 h ks a) (ho : h.get? d = some o) (hd : o.data = .dict es ep) (hs : Heap.SameBut d h h') : Is2 h' ks a := by
  have k : ∀ b o, b ≠ d → h.get? b = some o → h'.get? b = some o := fun b o hb e => (hs.2 b hb).trans e
  have ne : ∀ {b : Addr} {ob : Obj} {items : Array Value} {n : Nat}, h.get? b = some ob → ob.data = .seq items n → b ≠ d := fun e q z => by
    subst z
    rw [ho] at e
    cases e
    rw [hd] at q
    cases q
  have item : ∀ {vs : List Value} {ks : K2} {as : List Addr}, ReadsAll h vs (ks.map k2D) as → ReadsAll h' vs (ks.map k2D) as := by
    intro vs ks
    induction ks generalizing vs with
    | nil => intro as r; cases r; exact .nil
    | cons k1 ks ih =>
      intro as r
      cases r with
      | cons a t =>
        refine .cons ?_ (ih t)
        cases k1 with
        | inl i => cases (show Reads h _ (.int i) _ from a); exact .int _ _
        | inr js =>
          cases (show Reads h _ (.tuple (js.map .int)) _ from a) with
          | tuple g1 g2 g3 g4 => exact .tuple (k _ _ (ne g1 g3) g1) g2 g3 (readsI_keeps k g4)
  obtain ⟨as, r⟩ := x
  cases r with
  | tuple h1 h2 h3 h4 => exact ⟨_, .tuple (k _ _ (ne h1 h3) h1) h2 h3 (item h4)⟩
end
/-! a dict with such keys, by its one object: keys, where they stand, values -/
def k2Hash (ks : K2) : Int := reduceHash (Builtin.Tuple.tupleHashOf (ks.map k2H))
abbrev PkV (p : K2 × Addr × V) (q : K2 × Addr × Value) : Prop := p.1 = q.1 ∧ p.2.1 = q.2.1 ∧ RelV p.2.2 q.2.2
def DctAt (a : Addr) (kvs : List (K2 × Addr × V)) (ep : Nat) (h : Heap) : Prop :=
  kvs.length ≤ sizeLine ∧ (a == sysModules) = false ∧ ∃ xs : List (K2 × Addr × Value), Paired PkV kvs xs ∧ ∃ o es, h.get? a = some o ∧ o.ExactDict ∧ o.data = .dict es ep ∧ es.toList = xs.map (fun x => (⟨k2Hash x.1, .ref x.2.1, x.2.2⟩ : DictEntry)) ∧ (xs.map (·.1)).Nodup
def DctO (a : Addr) (kvs : List (K2 × Addr × V)) (ep : Nat) : HO := .ext (DctAt a kvs ep)
theorem DctAt.ok {P : Program} {w : World} {H : Hp} {h : Heap} {a : Addr} {kvs : List (K2 × Addr × V)} {ep : Nat} (d : DctAt a kvs ep h) : ObjOk P w H h a (DctO a kvs ep) := by
  refine ⟨d, ?_, fun h1 h2 ⟨z, y, xs, r, o, es, g1, g2⟩ k => ⟨z, y, xs, r, o, es, k o g1, g2⟩⟩
  obtain ⟨_, _, _, _, o, _, g1, _⟩ := d
  exact ⟨o, g1⟩
theorem DctAt.of {P : Program} {w : World} {H : Hp} {h : Heap} {a : Addr} {kvs : List (K2 × Addr × V)} {ep : Nat} (x : ObjOk P w H h a (DctO a kvs ep)) : DctAt a kvs ep h := x.1
def dkv (kvs : List (K2 × Addr × V)) (ds : List PyData) : List (PyData × PyData) := (kvs.map fun p => k2T p.1).zip ds
theorem dkv_keys {kvs : List (K2 × Addr × V)} {ds : List PyData} (h : kvs.length = ds.length) : (dkv kvs ds).map (·.1) = kvs.map fun p => k2T p.1 := by
  unfold dkv
  rw [List.map_fst_zip (by rw [List.length_map, h]; exact Nat.le_refl _)]
theorem dkv_vals {kvs : List (K2 × Addr × V)} {ds : List PyData} (h : kvs.length = ds.length) : (dkv kvs ds).map (·.2) = ds := by
  unfold dkv
  rw [List.map_snd_zip (by rw [List.length_map, h]; exact Nat.le_refl _)]
theorem PkV.keys {kvs : List (K2 × Addr × V)} {xs : List (K2 × Addr × Value)} (r : Paired PkV kvs xs) : Vals (kvs.map fun p => V.ref p.2.1) (xs.map fun x => Value.ref x.2.1) := by
  induction r with
  | nil => exact .nil
  | cons h t ih => exact .cons (by dsimp only; rw [h.2.1]; rfl) ih
theorem PkV.vals {kvs : List (K2 × Addr × V)} {xs : List (K2 × Addr × Value)} (r : Paired PkV kvs xs) : Vals (kvs.map (·.2.2)) (xs.map (·.2.2)) := by
  induction r with
  | nil => exact .nil
  | cons h t ih => exact .cons h.2.2 ih
end L2
/-! ### what a value is worth, as data; S: the objects that are kept apart, since they may be changed -/
namespace L2
open PySem PySem.Spec PyProof.Rows
abbrev Av := Addr → Prop
def isMut : HO → Bool
  | .lst _ => true
  | .dK _ => true
  | .dT _ => true
  | .ext _ => true
  | _ => false
/-- what is kept apart stands there, a thing that may be changed -/
def Dm (S : Av) (H : Hp) : Prop := ∀ a, S a → ∃ o, H a = some o ∧ isMut o = true
/-- all but S is as it was -/
def Off (S : Av) (H H' : Hp) : Prop := ∀ b o, ¬ S b → H b = some o → H' b = some o
def KqL (K : PySem.W.Frag) (a : Addr) (xs : List V) : Prop := ∃ (o : Obj) (its : Array Value) (n : Nat), K.lookup a = some o ∧ o.cls = .type "list" ∧ o.dict = none ∧ o.data = .seq its n ∧ its.size ≤ sizeLine ∧ Vals xs its.toList
def SqLS (K : PySem.W.Frag) (H : Hp) (S : Av) (a : Addr) (xs : List V) : Prop := (Rd H a (.lst xs) ∧ ¬ S a) ∨ KqL K a xs
mutual
inductive Den (K : PySem.W.Frag) (H : Hp) (S : Av) : V → PyData → Prop
  | none : Den K H S .non .none
  | bool (b : Bool) : Den K H S (.bl b) (.bool b)
  | int (i : Int) : Den K H S (.int i) (.int i)
  | str (x : Str) : Den K H S (.str x) (.str x)
  | list {a : Addr} {xs : List V} {ds : List PyData} : SqLS K H S a xs → DenL K H S xs ds → Den K H S (.ref a) (.list ds)
  | tuple {a : Addr} {xs : List V} {ds : List PyData} : SqT K H a xs → DenL K H S xs ds → Den K H S (.ref a) (.tuple ds)
  | dict {a : Addr} {kvs : List (K2 × Addr × V)} {ep : Nat} {ds : List PyData} : (H a = some (DctO a kvs ep) ∧ ¬ S a) → DenL K H S (kvs.map fun p => V.ref p.2.1) (kvs.map fun p => k2T p.1) → DenL K H S (kvs.map (·.2.2)) ds → Den K H S (.ref a) (.dict (dkv kvs ds))
inductive DenL (K : PySem.W.Frag) (H : Hp) (S : Av) : List V → List PyData → Prop
  | nil : DenL K H S [] []
  | cons {x : V} {d : PyData} {xs : List V} {ds : List PyData} : Den K H S x d → DenL K H S xs ds → DenL K H S (x :: xs) (d :: ds)
end
mutual
def flat : PyData → Bool
  | .none => true
  | .bool _ => true
  | .int _ => true
  | .str _ => true
  | .list _ => false
  | .tuple ds => flatL ds
  | .dict _ => false
def flatL : List PyData → Bool
  | [] => true
  | d :: ds => flat d && flatL ds
end
section
variable {K : PySem.W.Frag} {H H' : Hp} {S S' : Av}
theorem SqLS.sq {a : Addr} {xs : List V} (h : SqLS K H S a xs) : SqL K H a xs := h.imp (·.1) id
theorem SqLS.new {a : Addr} {xs : List V} (h : H a = some (.lst xs)) (n : ¬ S a) : SqLS K H S a xs := .inl ⟨.inl h, n⟩
theorem Dm.free {p : Addr} (m : Dm S H) (h : H p = none) : ¬ S p := fun q => by
  obtain ⟨o, e, _⟩ := m p q
  rw [h] at e; cases e
theorem Dm.same (e : Same H H') (m : Dm S H) : Dm S H' := fun a q => by
  obtain ⟨o, h, w⟩ := m a q
  exact ⟨o, e a o h, w⟩
theorem Dm.sub (m : Dm S H) (h : ∀ a, S' a → S a) : Dm S' H := fun a q => m a (h a q)
theorem Dm.tup {a : Addr} {xs : List V} (m : Dm S H) (h : Rd H a (.tup xs)) : ¬ S a := fun q => by
  obtain ⟨o, e, w⟩ := m a q
  rcases h with h | ⟨u, h⟩
  · rw [h] at e; cases e; cases w
  · rw [h] at e; cases e; cases w
theorem Rd.off {a : Addr} {o : HO} (e : Off S H H') (n : ¬ S a) (h : Rd H a o) : Rd H' a o := by
  rcases h with h | ⟨u, h⟩
  · exact .inl (e _ _ n h)
  · exact .inr ⟨u, e _ _ n h⟩
theorem Rd.dom {a : Addr} {o : HO} (h : Rd H a o) : H a ≠ none := by
  rcases h with h | ⟨u, h⟩ <;> (rw [h]; exact fun z => nomatch z)
theorem Same.off (e : Same H H') : Off S H H' := fun b o _ h => e b o h
theorem SqT.upd {a p : Addr} {o : HO} {xs : List V} (h : SqT K H a xs) (hn : H p = none) : SqT K (upd H p o) a xs := by
  rcases h with (h | ⟨o', h⟩) | h
  · exact .inl (.inl (by rw [upd_ne (ne_of_none h hn)]; exact h))
  · exact .inl (.inr ⟨o', by rw [upd_ne (ne_of_none h hn)]; exact h⟩)
  · exact .inr h
theorem Same.sqT {a : Addr} {xs : List V} (e : Same H H') (h : SqT K H a xs) : SqT K H' a xs := by
  rcases h with (h | ⟨o, h⟩) | h
  · exact .inl (.inl (e _ _ h))
  · exact .inl (.inr ⟨o, e _ _ h⟩)
  · exact .inr h
theorem Same.lay {p : Addr} {o : HO} (hn : H p = none) : Same H (L2.upd H p o) := fun b u q => by rw [upd_ne (ne_of_none q hn)]; exact q
theorem Same.lay' {H0 : Hp} {p : Addr} {o : HO} (e : Same H0 H) (hn : H p = none) : Same H0 (L2.upd H p o) := e.trans (Same.lay hn)
mutual
theorem Den.off (m : Dm S H) (e : Off S H H') : ∀ {v : V} {d : PyData}, Den K H S v d → Den K H' S v d
  | _, _, .none => .none
  | _, _, .bool b => .bool b
  | _, _, .int i => .int i
  | _, _, .str x => .str x
  | _, _, .list h t => .list (h.imp (fun q => ⟨q.1.off e q.2, q.2⟩) id) (DenL.off m e t)
  | _, _, .tuple h t => .tuple (h.imp (fun q => q.off e (m.tup q)) id) (DenL.off m e t)
  | _, _, .dict h k t => .dict ⟨e _ _ h.2 h.1, h.2⟩ (DenL.off m e k) (DenL.off m e t)
theorem DenL.off (m : Dm S H) (e : Off S H H') : ∀ {vs : List V} {ds : List PyData}, DenL K H S vs ds → DenL K H' S vs ds
  | _, _, .nil => .nil
  | _, _, .cons h t => .cons (Den.off m e h) (DenL.off m e t)
end
mutual
theorem Den.same (e : Same H H') : ∀ {v : V} {d : PyData}, Den K H S v d → Den K H' S v d
  | _, _, .none => .none
  | _, _, .bool b => .bool b
  | _, _, .int i => .int i
  | _, _, .str x => .str x
  | _, _, .list h t => .list (h.imp (fun q => ⟨q.1.off (S := S) e.off q.2, q.2⟩) id) (DenL.same e t)
  | _, _, .tuple h t => .tuple (e.sqT h) (DenL.same e t)
  | _, _, .dict h k t => .dict ⟨e _ _ h.1, h.2⟩ (DenL.same e k) (DenL.same e t)
theorem DenL.same (e : Same H H') : ∀ {vs : List V} {ds : List PyData}, DenL K H S vs ds → DenL K H' S vs ds
  | _, _, .nil => .nil
  | _, _, .cons h t => .cons (Den.same e h) (DenL.same e t)
end
mutual
theorem Den.sub (e : ∀ a, H a ≠ none → S' a → S a) : ∀ {v : V} {d : PyData}, Den K H S v d → Den K H S' v d
  | _, _, .none => .none
  | _, _, .bool b => .bool b
  | _, _, .int i => .int i
  | _, _, .str x => .str x
  | _, _, .list h t => .list (h.imp (fun q => ⟨q.1, fun z => q.2 (e _ q.1.dom z)⟩) id) (DenL.sub e t)
  | _, _, .tuple h t => .tuple h (DenL.sub e t)
  | _, _, .dict h k t => .dict ⟨h.1, fun z => h.2 (e _ (by rw [h.1]; exact fun y => nomatch y) z)⟩ (DenL.sub e k) (DenL.sub e t)
theorem DenL.sub (e : ∀ a, H a ≠ none → S' a → S a) : ∀ {vs : List V} {ds : List PyData}, DenL K H S vs ds → DenL K H S' vs ds
  | _, _, .nil => .nil
  | _, _, .cons h t => .cons (Den.sub e h) (DenL.sub e t)
end
mutual
theorem Den.flat : ∀ {v : V} {d : PyData}, L2.flat d = true → Den K H S v d → Den K H S' v d
  | _, _, _, .none => .none
  | _, _, _, .bool b => .bool b
  | _, _, _, .int i => .int i
  | _, _, _, .str x => .str x
  | _, _, f, .list h t => by cases f
  | _, _, f, .tuple h t => .tuple h (DenL.flat (by rw [L2.flat] at f; exact f) t)
  | _, _, f, .dict h k t => by cases f
theorem DenL.flat : ∀ {vs : List V} {ds : List PyData}, flatL ds = true → DenL K H S vs ds → DenL K H S' vs ds
  | _, _, _, .nil => .nil
  | _, _, f, .cons h t => by
    rw [flatL, Bool.and_eq_true] at f
    exact .cons (Den.flat f.1 h) (DenL.flat f.2 t)
end
theorem DenL.length : ∀ {vs : List V} {ds : List PyData}, DenL K H S vs ds → vs.length = ds.length
  | _, _, .nil => rfl
  | _, _, .cons _ t => by rw [List.length_cons, List.length_cons, t.length]
theorem DenL.snoc : ∀ {vs : List V} {ds : List PyData} {v : V} {d : PyData}, DenL K H S vs ds → Den K H S v d → DenL K H S (vs ++ [v]) (ds ++ [d])
  | _, _, _, _, .nil, h => .cons h .nil
  | _, _, _, _, .cons h t, q => .cons h (t.snoc q)
theorem DenL.append : ∀ {vs ws : List V} {ds es : List PyData}, DenL K H S vs ds → DenL K H S ws es → DenL K H S (vs ++ ws) (ds ++ es)
  | _, _, _, _, .nil, h => h
  | _, _, _, _, .cons h t, q => .cons h (t.append q)
theorem DenL.get : ∀ {vs : List V} {ds : List PyData} {i : Nat} {d : PyData}, DenL K H S vs ds → ds[i]? = some d → ∃ v, vs[i]? = some v ∧ Den K H S v d
  | _, _, _, _, .nil, e => by simp at e
  | _, _, 0, _, .cons h _, e => by simp at e; subst e; exact ⟨_, rfl, h⟩
  | _, _, i + 1, d, .cons _ t, e => by
    obtain ⟨v, h1, h2⟩ := DenL.get (i := i) (d := d) t (by simpa using e)
    exact ⟨v, by simpa using h1, h2⟩
theorem DenL.drop : ∀ {vs : List V} {ds : List PyData} (n : Nat), DenL K H S vs ds → DenL K H S (vs.drop n) (ds.drop n)
  | _, _, 0, h => h
  | _, _, _ + 1, .nil => .nil
  | _, _, n + 1, .cons _ t => t.drop n
theorem DenL.take : ∀ {vs : List V} {ds : List PyData} (n : Nat), DenL K H S vs ds → DenL K H S (vs.take n) (ds.take n)
  | _, _, 0, _ => .nil
  | _, _, _ + 1, .nil => .nil
  | _, _, n + 1, .cons h t => .cons h (t.take n)
theorem DenL.ints : ∀ ns : List Int, DenL K H S (ns.map V.int) (ns.map PyData.int)
  | [] => .nil
  | n :: ns => .cons (.int n) (DenL.ints ns)
theorem Den.int_inv {v : V} {i : Int} (h : Den K H S v (.int i)) : v = .int i := by cases h; rfl
theorem Den.bool_inv {v : V} {b : Bool} (h : Den K H S v (.bool b)) : v = .bl b := by cases h; rfl
theorem Den.list_inv {v : V} {ds : List PyData} (h : Den K H S v (.list ds)) : ∃ a xs, v = .ref a ∧ SqLS K H S a xs ∧ DenL K H S xs ds := by
  cases h with
  | list h t => exact ⟨_, _, rfl, h, t⟩
theorem DenL.inv1 {vs : List V} {d : PyData} (h : DenL K H S vs [d]) : ∃ v, vs = [v] ∧ Den K H S v d := by
  cases h with
  | cons a t => cases t; exact ⟨_, rfl, a⟩
end
section
variable {X : Cx} {pins : List (Addr × Obj)} {σ : St} {H : Hp} {s : Shared} {S : Av}
mutual
theorem Den.reads (I : Inv X pins σ H s) : ∀ {v : V} {d : PyData} {u : Value}, Den X.K H S v d → RelV v u → ∃ as, Reads s.heap u d as
  | _, _, u, .none, r => by cases (show u = Value.none from r); exact ⟨_, .none⟩
  | _, _, u, .bool b, r => by cases (show u = Value.bool b from r); exact ⟨_, .bool b⟩
  | _, _, u, .int i, r => by obtain ⟨t, e⟩ := (show ∃ t, u = Value.int i t from r); cases e; exact ⟨_, .int i t⟩
  | _, _, u, .str x, r => by obtain ⟨t, e⟩ := (show ∃ t, u = Value.str x t from r); cases e; exact ⟨_, .str x t⟩
  | _, _, u, @Den.list _ _ _ a xs ds h t, r => by
    cases (show u = Value.ref a from r)
    obtain ⟨its, rv, ⟨o, n, e, c, _, d⟩, _⟩ := I.list h.sq
    obtain ⟨as, q⟩ := DenL.reads I t rv
    exact ⟨_, .list e c d (by simpa using q)⟩
  | _, _, u, @Den.tuple _ _ _ a xs ds h t, r => by
    cases (show u = Value.ref a from r)
    obtain ⟨its, rv, ⟨o, e, c, n, d⟩, _⟩ := I.tuple h
    obtain ⟨as, q⟩ := DenL.reads I t rv
    exact ⟨_, .tuple e c d (by simpa using q)⟩
  | _, _, u, @Den.dict _ _ _ a kvs ep ds h k t, r => by
    cases (show u = Value.ref a from r)
    obtain ⟨_, _, xs, pk, o, es, h1, h2, h3, h4, _⟩ := DctAt.of (I.hok a _ h.1)
    obtain ⟨as, q⟩ := DenL.reads I k (PkV.keys pk)
    obtain ⟨bs, q'⟩ := DenL.reads I t (PkV.vals pk)
    have hl : kvs.length = ds.length := by
      have := t.length
      rwa [List.length_map] at this
    refine ⟨_, .dict h1 h2.1 h3 (as := as) (bs := bs) ?_ ?_⟩
    · rw [h4, List.map_map, dkv_keys hl]; exact q
    · rw [h4, List.map_map, dkv_vals hl]; exact q'
theorem DenL.reads (I : Inv X pins σ H s) : ∀ {vs : List V} {ds : List PyData} {us : List Value}, DenL X.K H S vs ds → Vals vs us → ∃ as, ReadsAll s.heap us ds as
  | _, _, _, .nil, .nil => ⟨_, .nil⟩
  | _, _, _, .cons h t, .cons r rr => by
    obtain ⟨as, q⟩ := Den.reads I h r
    obtain ⟨bs, q'⟩ := DenL.reads I t rr
    exact ⟨_, .cons q q'⟩
end
end
section
variable {X : Cx} {pins : List (Addr × Obj)} {σ : St} {H : Hp} {s : Shared}
/-- == and != of data -/
def rEqD (K : PySem.W.Frag) : R2 := fun x y H Q => ∃ S d e, Den K H S x d ∧ Den K H S y e ∧ SeqAt.shaped d = true ∧ SeqAt.shaped e = true ∧ Q (.bl (PyData.eqv d e)) H
def rNeD (K : PySem.W.Frag) : R2 := fun x y H Q => ∃ S d e, Den K H S x d ∧ Den K H S y e ∧ SeqAt.shaped d = true ∧ SeqAt.shaped e = true ∧ Q (.bl (!PyData.eqv d e)) H
theorem op_eqD {k : Nat} (hr : Room k X.A) : OpR X (compareOp .Eq) (rEqD X.K) := by
  intro pins s σ H x y v u Q I rx ry h
  obtain ⟨S, d, e, h1, h2, s1, s2, q⟩ := h
  obtain ⟨as, q1⟩ := h1.reads I rx
  obtain ⟨bs, q2⟩ := h2.reads I ry
  exact eq_dataH q1 q2 s1 s2 hr.units (fin_bl I q rfl)
theorem op_neD {k : Nat} (hr : Room k X.A) : OpR X (compareOp .NotEq) (rNeD X.K) := by
  intro pins s σ H x y v u Q I rx ry h
  obtain ⟨S, d, e, h1, h2, s1, s2, q⟩ := h
  obtain ⟨as, q1⟩ := h1.reads I rx
  obtain ⟨bs, q2⟩ := h2.reads I ry
  exact ne_dataH q1 q2 s1 s2 hr.units (fin_bl I q rfl)
/-- a product, whatever its factors' sizes (within the machine's) -/
theorem op_mulW : OpR X (binaryOp .Mult) (rI IntMulOk fun i j => .int (i * j)) := opI fun _ _ _ _ _ _ _ hc q => mul_int q hc
/-- isinstance by a built-in type -/
inductive TyD (K : PySem.W.Frag) (H : Hp) : V → String → Prop
  | non : TyD K H .non "NoneType"
  | bl (b : Bool) : TyD K H (.bl b) "bool"
  | int (i : Int) : TyD K H (.int i) "int"
  | str (x : Str) : TyD K H (.str x) "str"
  | lst {a : Addr} {xs : List V} (h : SqL K H a xs) : TyD K H (.ref a) "list"
  | tup {a : Addr} {xs : List V} (h : SqT K H a xs) : TyD K H (.ref a) "tuple"
  | dct {a : Addr} {kvs : List (K2 × Addr × V)} {ep : Nat} (h : H a = some (DctO a kvs ep)) : TyD K H (.ref a) "dict"
def rIsi (K : PySem.W.Frag) : List V → Hp → VK → Prop := fun vs H Q => ∃ x T t b, vs = [x, .ty T] ∧ TyD K H x t ∧ PySem.W.kitOne K (.type t) (.type T) = some b ∧ Q (.bl b) H
theorem call_isi : CallR X (.builtin "isinstance") (rIsi X.K) := by
  intro pins s σ H xs us Q I r h
  obtain ⟨x, T, t, b, rfl, ty, e, q⟩ := h
  obtain ⟨u, c, rfl, ru, rc⟩ := r.two
  cases (show c = Value.type T from rc)
  have fin : ∀ tk, EP X pins σ Q (.bool b) { s with toks := tk } := fun tk => ⟨.bl b, H, I.tok tk, rfl, q⟩
  cases ty with
  | non => cases (show u = Value.none from ru); exact PySem.W.kia_one PySem.W.kitx_none I.kIn True.intro e (fun z => nomatch z) fin
  | bl y => cases (show u = Value.bool y from ru); exact PySem.W.kia_one PySem.W.kitx_bool I.kIn True.intro e (fun z => nomatch z) fin
  | int i => obtain ⟨t, q⟩ := (show ∃ t, u = Value.int i t from ru); cases q; exact PySem.W.kia_one PySem.W.kitx_int I.kIn True.intro e (fun z => nomatch z) fin
  | str y => obtain ⟨t, q⟩ := (show ∃ t, u = Value.str y t from ru); cases q; exact PySem.W.kia_one PySem.W.kitx_str I.kIn True.intro e (fun z => nomatch z) fin
  | @lst a xs ea =>
    cases (show u = Value.ref a from ru)
    obtain ⟨_, _, ⟨o, n, h1, h2, _⟩, _⟩ := I.list ea
    exact PySem.W.kia_one PySem.W.kitx_list I.kIn ⟨o, h1, h2⟩ e (fun z => nomatch z) fin
  | @tup a xs ea =>
    cases (show u = Value.ref a from ru)
    obtain ⟨_, _, ⟨o, h1, h2, _⟩, _⟩ := I.tuple ea
    exact PySem.W.kia_one PySem.W.kitx_tuple I.kIn ⟨o, h1, h2⟩ e (fun z => nomatch z) fin
  | @dct a kvs ep ea =>
    cases (show u = Value.ref a from ru)
    obtain ⟨_, _, _, _, o, _, h1, h2, _⟩ := DctAt.of (I.hok a _ ea)
    exact PySem.W.kia_one PySem.W.kitx_dict I.kIn ⟨o, h1, h2.1⟩ e (fun z => nomatch z) fin
end
end L2
/-! ### pure code: what it is worth, as a function of data -/
namespace L2
open PySem PySem.Spec PyProof.Rows
abbrev Rho := List (Option PyData)
def DenS (K : PySem.W.Frag) (H : Hp) (S : Av) (M : List Nat) (σ : St) (ρ : Rho) : Prop := Dm S H ∧ σ.length = ρ.length ∧ ∀ (i : Nat) (d : PyData), i ∉ M → ρ[i]? = some (some d) → ∃ v, σ[i]? = some (some v) ∧ Den K H S v d
section
variable {K : PySem.W.Frag} {H H' : Hp} {S : Av} {M : List Nat} {σ : St} {ρ : Rho} {v : V} {d : PyData}
theorem DenS.same (e : Same H H') (h : DenS K H S M σ ρ) : DenS K H' S M σ ρ := ⟨h.1.same e, h.2.1, fun i d n q => let ⟨v, a, b⟩ := h.2.2 i d n q; ⟨v, a, b.same e⟩⟩
theorem DenS.set (h : DenS K H S M σ ρ) (q : Den K H S v d) (i : Nat) : DenS K H S M (σ.set i (some v)) (ρ.set i (some d)) := by
  refine ⟨h.1, by rw [List.length_set, List.length_set]; exact h.2.1, fun j e n he => ?_⟩
  by_cases hj : i = j
  · subst hj
    by_cases hi : i < ρ.length
    · rw [List.getElem?_set_self hi] at he
      cases he
      exact ⟨v, List.getElem?_set_self (by rw [h.2.1]; exact hi), q⟩
    · rw [List.set_eq_of_length_le (by omega)] at he
      exact absurd (List.getElem?_eq_some_iff.mp he).1 hi
  · rw [List.getElem?_set_ne hj] at he
    obtain ⟨w, a, b⟩ := h.2.2 j e n he
    exact ⟨w, by rw [List.getElem?_set_ne hj]; exact a, b⟩
theorem DenS.start {vs : List V} {ds : List PyData} (m : Dm S H) (h : DenL K H S vs ds) (N : List Str) : DenS K H S [] (start N vs) (ds.map some ++ List.replicate (N.length - ds.length) none) := by
  have hl := h.length
  refine ⟨m, ?_, fun j e _ he => ?_⟩
  · unfold L2.start
    rw [List.length_append, List.length_append, List.length_map, List.length_map, List.length_replicate, List.length_replicate, hl]
  · by_cases hj : j < ds.length
    · rw [List.getElem?_append_left (by simpa using hj), List.getElem?_map] at he
      cases e1 : ds[j]? with
      | none => rw [e1] at he; cases he
      | some d =>
        rw [e1] at he
        cases he
        obtain ⟨v, a, b⟩ := h.get e1
        refine ⟨v, ?_, b⟩
        unfold L2.start
        rw [List.getElem?_append_left (by rw [List.length_map]; omega), List.getElem?_map, a]
        rfl
    · rw [List.getElem?_append_right (by simpa using hj), List.getElem?_replicate] at he
      split at he <;> cases he
end
def tD (K : PySem.W.Frag) (M : List Nat) (f : Rho → Option PyData) : TE := fun σ H Q => ∃ S ρ d, DenS K H S M σ ρ ∧ f ρ = some d ∧ ∀ v H', Same H H' → Den K H' S v d → Q v H'
def tDA (K : PySem.W.Frag) (M : List Nat) (f : Rho → Option (List PyData)) : TA := fun σ H Q => ∃ S ρ ds, DenS K H S M σ ρ ∧ f ρ = some ds ∧ ∀ vs H', Same H H' → DenL K H' S vs ds → Q vs H'
def tDT (K : PySem.W.Frag) (M : List Nat) (f : Rho → Option Bool) : TT := fun σ H Q => ∃ S ρ b, DenS K H S M σ ρ ∧ f ρ = some b ∧ ∀ H', Same H H' → Q b H'
inductive Out where
  | nx (ρ : Rho) | rt (d : PyData) | bk (ρ : Rho) | ct (ρ : Rho)
def PD (X : Cx) (M : List Nat) (e : Expr) (f : Rho → Option PyData) : Prop := PE X e (tD X.K M f)
def PDA (X : Cx) (M : List Nat) (es : List Expr) (f : Rho → Option (List PyData)) : Prop := PA X es (tDA X.K M f)
def PDT (X : Cx) (M : List Nat) (e : Expr) (f : Rho → Option Bool) : Prop := PT X e (tDT X.K M f)
theorem PE.weak {X : Cx} {e : Expr} {t t' : TE} (h : PE X e t) (w : ∀ σ H Q, t' σ H Q → t σ H Q) : PE X e t' := fun pins s σ H Q I q => h pins s σ H Q I (w σ H Q q)
theorem PT.weak {X : Cx} {e : Expr} {t t' : TT} (h : PT X e t) (w : ∀ σ H Q, t' σ H Q → t σ H Q) : PT X e t' := fun pins s σ H Q I q => h pins s σ H Q I (w σ H Q q)
theorem PW.weak {X : Cx} {e : Expr} {t t' : TT} (h : PW X e t) (w : ∀ σ H Q, t' σ H Q → t σ H Q) : PW X e t' := fun wh pins s σ H Q I q => h wh pins s σ H Q I (w σ H Q q)
theorem PA.weak {X : Cx} {e : List Expr} {t t' : TA} (h : PA X e t) (w : ∀ σ H Q, t' σ H Q → t σ H Q) : PA X e t' := fun pos pins s σ H Q I q => h pos pins s σ H Q I (w σ H Q q)
theorem PS.weak {X : Cx} {e : Stmt} {t t' : TS} (h : PS X e t) (w : ∀ D σ H, t' D σ H → t D σ H) : PS X e t' := fun pins s σ H D I q => h pins s σ H D I (w D σ H q)
theorem PSs.weak {X : Cx} {e : List Stmt} {t t' : TS} (h : PSs X e t) (w : ∀ D σ H, t' D σ H → t D σ H) : PSs X e t' := fun pins s σ H D I q => h pins s σ H D I (w D σ H q)
/-- Option's bind, by its own name -/
def ob {α β : Type} (a : Option α) (f : α → Option β) : Option β := match a with | some x => f x | none => none
theorem ob_some {α β : Type} {a : Option α} {f : α → Option β} {y : β} (h : ob a f = some y) : ∃ x, a = some x ∧ f x = some y := by
  cases a with
  | none => cases h
  | some x => exact ⟨x, rfl, h⟩
/-! names, decided -/
def visB (sc : Scope) (x : Str) : Bool := decide (sc.names.lookup x = some .local) || decide (sc.names.lookup x = some .cell) || decide (sc.names.lookup x = some .free)
def locB (sc : Scope) (x : Str) : Bool := decide (sc.names.lookup x = some .local) || decide (sc.names.lookup x = some .cell)
def glB (sc : Scope) (x : Str) : Bool := decide (sc.names.lookup x = some .globalImplicit)
theorem vis_fn {sc : Scope} {x : Str} (h : visB sc x = true) : Vis sc x := by
  unfold visB at h
  simp only [Bool.or_eq_true, decide_eq_true_eq] at h
  rcases h with (h | h) | h
  · exact .inl h
  · exact .inr (.inl h)
  · exact .inr (.inr h)
theorem loc_fn {sc : Scope} {x : Str} (h : locB sc x = true) : Loc sc x := by
  unfold locB at h
  simp only [Bool.or_eq_true, decide_eq_true_eq] at h
  exact h
theorem gl_fn {X : Cx} {x : Str} (sc : Scope) (hs : X.env.scope = sc) (h : glB sc x = true) : Gl X x := by
  subst hs
  have h' : X.env.scope.names.lookup x = some .globalImplicit := of_decide_eq_true h
  exact h'
theorem relabel_of {env : Env} : ∀ {names : List (Str × NameKind)} {x : Str} {k : NameKind}, names.lookup x = some k →
    (names.map fun (n, k) => if (k == NameKind.free && env.scope.kind == .function && env.kindOf n == some .cell) then (n, NameKind.cell) else (n, k)).lookup x = some k ∨
    (k = .free ∧ (names.map fun (n, k) => if (k == NameKind.free && env.scope.kind == .function && env.kindOf n == some .cell) then (n, NameKind.cell) else (n, k)).lookup x = some .cell)
  | [], _, _, h => by simp at h
  | (n, k') :: r, x, k, h => by
    have ih := @relabel_of env r x k
    show List.lookup x ((if (k' == NameKind.free && env.scope.kind == .function && env.kindOf n == some .cell) = true then (n, NameKind.cell) else (n, k')) :: _) = _ ∨ (_ ∧ List.lookup x ((if (k' == NameKind.free && env.scope.kind == .function && env.kindOf n == some .cell) = true then (n, NameKind.cell) else (n, k')) :: _) = _)
    cases hx : x == n with
    | true =>
      simp only [List.lookup_cons, hx] at h
      cases h
      by_cases hc : (k' == NameKind.free && env.scope.kind == .function && env.kindOf n == some .cell) = true
      · rw [if_pos hc]
        rw [Bool.and_eq_true, Bool.and_eq_true] at hc
        exact .inr ⟨by simpa using hc.1.1, by simp [List.lookup_cons, hx]⟩
      · rw [if_neg hc]
        exact .inl (by simp [List.lookup_cons, hx])
    | false =>
      simp only [List.lookup_cons, hx] at h
      by_cases hc : (k' == NameKind.free && env.scope.kind == .function && env.kindOf n == some .cell) = true
      · rw [if_pos hc]
        simp only [List.lookup_cons, hx]
        exact ih h
      · rw [if_neg hc]
        simp only [List.lookup_cons, hx]
        exact ih h
section
variable {X : Cx} {x : Str} {N' : List Str} {sc : Scope} {cl : List (Str × Addr)} {C : Addr} {fp : List Addr} {pins : List (Addr × Obj)} {s : Shared} {H : Hp}
theorem vis_comp (h : visB sc x = true) : Vis (compCx X N' sc cl C fp pins s H).env.scope x := by
  rcases vis_fn h with h | h | h
  · rcases relabel_of (env := X.env) h with q | q
    · exact .inl q
    · cases q.1
  · rcases relabel_of (env := X.env) h with q | q
    · exact .inr (.inl q)
    · cases q.1
  · rcases relabel_of (env := X.env) h with q | q
    · exact .inr (.inr q)
    · exact .inr (.inl q.2)
theorem gl_comp (h : glB sc x = true) : Gl (compCx X N' sc cl C fp pins s H) x := by
  rcases relabel_of (env := X.env) (of_decide_eq_true h) with q | q
  · exact q
  · cases q.1
end
/-! the functions of which a body is made -/
def vr (i : Nat) : Rho → Option PyData := fun ρ => (ρ[i]?).join
def kd (d : PyData) : Rho → Option PyData := fun _ => some d
def ev1 (fa : Rho → Option PyData) (g : PyData → Option PyData) : Rho → Option PyData := fun ρ => ob (fa ρ) g
def aN : Rho → Option (List PyData) := fun _ => some []
def aC (fa : Rho → Option PyData) (fs : Rho → Option (List PyData)) : Rho → Option (List PyData) := fun ρ => ob (fa ρ) fun x => ob (fs ρ) fun xs => some (x :: xs)
def evA (fs : Rho → Option (List PyData)) (h : List PyData → Option PyData) : Rho → Option PyData := fun ρ => ob (fs ρ) h
def evC (n : Nat) (fs : Rho → Option (List PyData)) (h : List PyData → Option PyData) : Rho → Option PyData := fun ρ => ob (fs ρ) fun ds => if ds.length = n then h ds else none
def evC0 (h : List PyData → Option PyData) : Rho → Option PyData := fun _ => h []
section
variable {X : Cx} {M : List Nat} {a b c : Expr} {es : List Expr} {f g fa fb : Rho → Option PyData} {pos : Pos}
/-! #### expressions -/
theorem pd_var (i : Nat) {x : Str} (hv : Vis X.env.scope x) (hM : i ∉ M) (hN : X.N[i]? = some x := by rfl) (hd : (x == ("__debug__" : Str)) = false := by decide +kernel)
    (hcd : (x == ("__classdict__" : Str)) = false := by decide +kernel) : PD X M (.Name x pos) (vr i) :=
  (pe_var hN hv hd hcd).weak fun σ H Q ⟨S, ρ, d, hs, e, q⟩ => by
    have e : (ρ[i]?).join = some d := e
    have e' : ρ[i]? = some (some d) := by
      cases h : ρ[i]? with
      | none => rw [h] at e; cases e
      | some o => rw [h] at e; exact congrArg some e
    obtain ⟨v, h1, h2⟩ := hs.2.2 i d hM e'
    exact ⟨v, h1, q v H (Same.refl H) h2⟩
theorem pd_int {i j p} : PD X M (.Constant (.int i) j p) (kd (.int i)) := pe_int.weak fun σ H Q ⟨S, _, d, _, e, q⟩ => by cases e; exact q _ H (Same.refl H) (.int i)
theorem pd_bl {i j p} : PD X M (.Constant (.bool i) j p) (kd (.bool i)) := pe_bl.weak fun σ H Q ⟨S, _, d, _, e, q⟩ => by cases e; exact q _ H (Same.refl H) (.bool i)
theorem pd_non {j p} : PD X M (.Constant .none j p) (kd .none) := pe_non.weak fun σ H Q ⟨S, _, d, _, e, q⟩ => by cases e; exact q _ H (Same.refl H) .none
/-- a two-place operation on data -/
def rD2 (K : PySem.W.Frag) (g : PyData → PyData → Option PyData) : R2 := fun x y H Q => ∃ S dx dy d, Dm S H ∧ Den K H S x dx ∧ Den K H S y dy ∧ g dx dy = some d ∧ ∀ v H', Same H H' → Den K H' S v d → Q v H'
def OpD (X : Cx) (f : Value → Value → Sem Value) (g : PyData → PyData → Option PyData) : Prop := OpR X f (rD2 X.K g)
def UnD (X : Cx) (f : Value → Sem Value) (g : PyData → Option PyData) : Prop := UnR X f (fun x H Q => ∃ S dx d, Dm S H ∧ Den X.K H S x dx ∧ g dx = some d ∧ ∀ v H', Same H H' → Den X.K H' S v d → Q v H')
def CallD (X : Cx) (f : Value) (g : List PyData → Option PyData) : Prop := CallR X f (fun vs H Q => ∃ S ds d, Dm S H ∧ DenL X.K H S vs ds ∧ g ds = some d ∧ ∀ v H', Same H H' → Den X.K H' S v d → Q v H')
def ev2 (fa fb : Rho → Option PyData) (g : PyData → PyData → Option PyData) (ρ : Rho) : Option PyData := ob (fa ρ) fun x => ob (fb ρ) fun y => g x y
theorem tD2 {K : PySem.W.Frag} {g : PyData → PyData → Option PyData} : ∀ σ H Q, tD K M (ev2 fa fb g) σ H Q → tOp (rD2 K g) (tD K M fa) (tD K M fb) σ H Q := by
  intro σ H Q ⟨S, ρ, d, hs, e, q⟩
  obtain ⟨x, e1, e⟩ := ob_some e
  obtain ⟨y, e2, e⟩ := ob_some e
  exact ⟨S, ρ, x, hs, e1, fun v H1 g1 d1 => ⟨S, ρ, y, hs.same g1, e2, fun w H2 g2 d2 => ⟨S, x, y, d, hs.1.same (g1.trans g2), d1.same g2, d2, e, fun z H3 g3 d3 => q z H3 (g1.trans (g2.trans g3)) d3⟩⟩⟩
theorem pd_op {op : Operator} {g : PyData → PyData → Option PyData} (ho : OpD X (binaryOp op) g) (ha : PD X M a fa) (hb : PD X M b fb) : PD X M (.BinOp a op b pos) (ev2 fa fb g) := (pe_op ho ha hb).weak tD2
theorem pd_cmp {op : CmpOp} {g : PyData → PyData → Option PyData} (ho : OpD X (compareOp op) g) (ha : PD X M a fa) (hb : PD X M b fb) (hm : behindInMarks op b = false) : PD X M (.Compare a [op] [b] pos) (ev2 fa fb g) := (pe_cmpR ho ha hb hm).weak tD2
theorem pd_un {op : UnaryOp} {g : PyData → Option PyData} (ho : UnD X (unaryOp op) g) (ha : PD X M a fa) : PD X M (.UnaryOp op a pos) (ev1 fa g) :=
  (pe_un ho ha).weak fun σ H Q ⟨S, ρ, d, hs, e, q⟩ => by
    obtain ⟨x, e1, e⟩ := ob_some e
    exact ⟨S, ρ, x, hs, e1, fun v H1 g1 d1 => ⟨S, x, d, hs.1.same g1, d1, e, fun z H3 g3 d3 => q z H3 (g1.trans g3) d3⟩⟩
/-- a subscript -/
def ixD : PyData → PyData → Option PyData
  | .tuple ds, .int i => atI ds i
  | .list ds, .int i => atI ds i
  | _, _ => none
theorem DenL.atI {K : PySem.W.Frag} {H : Hp} {S : Av} {vs : List V} {ds : List PyData} {i : Int} {d : PyData} (h : DenL K H S vs ds) (e : atI ds i = some d) : ∃ v, L2.atI vs i = some v ∧ Den K H S v d := by
  unfold L2.atI at e ⊢
  rw [h.length]
  cases q : ixN ds.length i with
  | none => rw [q] at e; cases e
  | some j => rw [q] at e; exact h.get e
theorem pd_ix (ha : PD X M a fa) (hb : PD X M b fb) (hs : PlainIx b := by intro _ _; rfl) : PD X M (.Subscript a b pos) (ev2 fa fb ixD) :=
  (pe_ix (r := fun x y H Q => rIxL X.K x y H Q ∨ rIxT X.K x y H Q) (ix_list.or ix_tup) ha hb hs).weak fun σ H Q ⟨S, ρ, d, hs, e, q⟩ => by
    obtain ⟨x, e1, e⟩ := ob_some e
    obtain ⟨y, e2, e⟩ := ob_some e
    refine ⟨S, ρ, x, hs, e1, fun v H1 g1 d1 => ⟨S, ρ, y, hs.same g1, e2, fun w H2 g2 d2 => ?_⟩⟩
    have d1' := d1.same g2
    cases d1' with
    | list h t =>
      cases d2 with
      | int i => obtain ⟨z, z1, z2⟩ := t.atI e; exact .inl ⟨_, _, _, _, rfl, rfl, h.sq, z1, q z H2 (g1.trans g2) z2⟩
      | _ => cases e
    | tuple h t =>
      cases d2 with
      | int i => obtain ⟨z, z1, z2⟩ := t.atI e; exact .inr ⟨_, _, _, _, rfl, rfl, h, z1, q z H2 (g1.trans g2) z2⟩
      | _ => cases e
    | _ => cases e
/-! #### argument lists, displays -/
theorem pda_nil : PDA X M [] aN := pa_nil.weak fun σ H Q ⟨S, _, d, _, e, q⟩ => by cases e; exact q [] H (Same.refl H) .nil
theorem pda_cons {fs : Rho → Option (List PyData)} (ha : PD X M a fa) (hr : PDA X M es fs) (hs : starEach (a :: es) X.env = (false, eval a X.env) :: starEach es X.env := by rfl) : PDA X M (a :: es) (aC fa fs) :=
  (pa_cons ha hr hs).weak fun σ H Q ⟨S, ρ, d, hs, e, q⟩ => by
    obtain ⟨x, e1, e⟩ := ob_some e
    obtain ⟨xs, e2, e⟩ := ob_some e
    cases e
    exact ⟨S, ρ, x, hs, e1, fun v H1 g1 d1 => ⟨S, ρ, xs, hs.same g1, e2, fun vs H2 g2 d2 => q _ H2 (g1.trans g2) (.cons (d1.same g2) d2)⟩⟩
def tupD (ds : List PyData) : Option PyData := if ds.length ≤ 1000 then some (.tuple ds) else none
def lstD (ds : List PyData) : Option PyData := if ds.length ≤ 1000 then some (.list ds) else none
theorem tupD_some {ds : List PyData} {d : PyData} (h : tupD ds = some d) : ds.length ≤ 1000 ∧ d = .tuple ds := by
  unfold tupD at h
  split at h
  · rename_i q; cases h; exact ⟨q, rfl⟩
  · cases h
theorem lstD_some {ds : List PyData} {d : PyData} (h : lstD ds = some d) : ds.length ≤ 1000 ∧ d = .list ds := by
  unfold lstD at h
  split at h
  · rename_i q; cases h; exact ⟨q, rfl⟩
  · cases h
theorem pd_tup {fs : Rho → Option (List PyData)} {x1} (h : PDA X M es fs) : PD X M (.Tuple es x1 pos) (evA fs tupD) :=
  (pe_tup h).weak fun σ H Q ⟨S, ρ, d, hs, e, q⟩ => by
    obtain ⟨xs, e1, e⟩ := ob_some e
    obtain ⟨hz, rfl⟩ := tupD_some e
    refine ⟨S, ρ, xs, hs, e1, fun vs H1 g1 d1 => ⟨Nat.le_of_lt (small1000 (by rw [d1.length]; exact hz)), fun p hp => ?_⟩⟩
    exact q _ _ (g1.lay' hp) (.tuple (SqT.of upd_same) (d1.same (Same.lay hp)))
theorem pd_lst {fs : Rho → Option (List PyData)} (h : PDA X M es fs) : PD X M (.List es pos) (evA fs lstD) :=
  (pe_lst h).weak fun σ H Q ⟨S, ρ, d, hs, e, q⟩ => by
    obtain ⟨xs, e1, e⟩ := ob_some e
    obtain ⟨hz, rfl⟩ := lstD_some e
    refine ⟨S, ρ, xs, hs, e1, fun vs H1 g1 d1 => ⟨Nat.le_of_lt (small1000 (by rw [d1.length]; exact hz)), fun p hp => ?_⟩⟩
    exact q _ _ (g1.lay' hp) (.list (SqLS.new upd_same ((hs.1.same g1).free hp)) (d1.same (Same.lay hp)))
/-! #### calls -/
/-- a pure def: its answer as a function of data -/
def spF (K : PySem.W.Frag) (n : Nat) (f : List PyData → Option PyData) : Sp := fun vs H Q _ => ∃ S ds d, Dm S H ∧ DenL K H S vs ds ∧ ds.length = n ∧ f ds = some d ∧ ∀ v H', Same H H' → Den K H' S v d → Q v H'
theorem pd_call {CX : CXT} {k n : Nat} {fn : Addr} {fd : FuncData} {ps : List Str} {h : List PyData → Option PyData} {E : XK} {x : Str} {p : Pos} {fs : Rho → Option (List PyData)} (F : FnOk X.prog X.w X.K X.mg X.base CX k fn fd ps (spF X.K n h)) (hr : Room k X.A) (hg : Gl X x) (hm : X.mg x = some (.ref fn)) (hk : PySem.W.keepIn X.K (.ref fn) = true)
    (hb : Binds X.K fd ps []) (hx : Passes CX X E) (ha : PDA X M (a :: es) fs) (hl : (a :: es).length = n) (hdb : (x == ("__debug__" : Str)) = false := by decide +kernel) (he : starEach (a :: es) X.env = (false, eval a X.env) :: starEach es X.env := by rfl) (hpl : (backTo pos (starEach es X.env)).any (·.1) = false := by rfl) :
    PD X M (.Call (.Name x p) (a :: es) [] pos) (evC n fs h) :=
  (pe_call F hr hg hm hk hb .nil hx ha hdb he hpl).weak fun σ H Q ⟨S, ρ, d, hs, e, q⟩ => by
    obtain ⟨ds, e1, e⟩ := ob_some e
    have e : (if ds.length = n then h ds else none) = some d := e
    split at e
    · rename_i hn
      exact ⟨S, ρ, ds, hs, e1, fun vs H1 g1 d1 => ⟨S, ds, d, hs.1.same g1, by rw [List.append_nil]; exact d1, hn, e, fun v H' g2 d2 => q v H' (g1.trans g2) d2⟩⟩
    · cases e
theorem pd_call0 {CX : CXT} {k : Nat} {fn : Addr} {fd : FuncData} {ps : List Str} {h : List PyData → Option PyData} {E : XK} {x : Str} {p : Pos} (F : FnOk X.prog X.w X.K X.mg X.base CX k fn fd ps (spF X.K 0 h)) (hr : Room k X.A) (hg : Gl X x) (hm : X.mg x = some (.ref fn)) (hk : PySem.W.keepIn X.K (.ref fn) = true)
    (hb : Binds X.K fd ps []) (hx : Passes CX X E) (hdb : (x == ("__debug__" : Str)) = false := by decide +kernel) : PD X M (.Call (.Name x p) [] [] pos) (evC0 h) :=
  (pe_call0 F hr hg hm hk hb .nil hx hdb).weak fun σ H Q ⟨S, ρ, d, hs, e, q⟩ => ⟨S, [], d, hs.1, .nil, rfl, e, fun v H' g2 d2 => q v H' g2 d2⟩
theorem pd_callB {id : String} {x : Str} {p : Pos} {h : List PyData → Option PyData} {fs : Rho → Option (List PyData)} (hc : CallD X (.builtin id) h) (hg : Gl X x) (hm : X.mg x = none) (hv : bootBuiltins x = some (.builtin id)) (ha : PDA X M (a :: es) fs) (hn : x ≠ "__name__" := by decide +kernel) (hdb : (x == ("__debug__" : Str)) = false := by decide +kernel)
    (he : starEach (a :: es) X.env = (false, eval a X.env) :: starEach es X.env := by rfl) (hpl : (backTo pos (starEach es X.env)).any (·.1) = false := by rfl) : PD X M (.Call (.Name x p) (a :: es) [] pos) (evA fs h) :=
  (pe_callB hc hg hm hv ha hn hdb he hpl).weak fun σ H Q ⟨S, ρ, d, hs, e, q⟩ => by
    obtain ⟨ds, e1, e⟩ := ob_some e
    exact ⟨S, ρ, ds, hs, e1, fun vs H1 g1 d1 => ⟨S, ds, d, hs.1.same g1, d1, e, fun v H' g2 d2 => q v H' (g1.trans g2) d2⟩⟩
theorem pd_callTy {T : String} {x : Str} {p : Pos} {h : List PyData → Option PyData} {fs : Rho → Option (List PyData)} (hc : CallD X (.type T) h) (hg : Gl X x) (hm : X.mg x = none) (hv : bootBuiltins x = some (.type T)) (ha : PDA X M (a :: es) fs) (hn : x ≠ "__name__" := by decide +kernel) (hdb : (x == ("__debug__" : Str)) = false := by decide +kernel)
    (he : starEach (a :: es) X.env = (false, eval a X.env) :: starEach es X.env := by rfl) (hpl : (backTo pos (starEach es X.env)).any (·.1) = false := by rfl) : PD X M (.Call (.Name x p) (a :: es) [] pos) (evA fs h) :=
  (pe_callTy hc hg hm hv ha hn hdb he hpl).weak fun σ H Q ⟨S, ρ, d, hs, e, q⟩ => by
    obtain ⟨ds, e1, e⟩ := ob_some e
    exact ⟨S, ρ, ds, hs, e1, fun vs H1 g1 d1 => ⟨S, ds, d, hs.1.same g1, d1, e, fun v H' g2 d2 => q v H' (g1.trans g2) d2⟩⟩
/-! #### isinstance -/
def tyS : PyData → String
  | .none => "NoneType" | .bool _ => "bool" | .int _ => "int" | .str _ => "str" | .list _ => "list" | .tuple _ => "tuple" | .dict _ => "dict"
def isiT (T : String) : PyData → Bool
  | .none => T == "NoneType" || T == "object"
  | .bool _ => T == "bool" || T == "int" || T == "object"
  | .int _ => T == "int" || T == "object"
  | .str _ => T == "str" || T == "object"
  | .list _ => T == "list" || T == "object"
  | .tuple _ => T == "tuple" || T == "object"
  | .dict _ => T == "dict" || T == "object"
def isiD (T : String) (d : PyData) : Option PyData := some (.bool (isiT T d))
def KitOk (K : PySem.W.Frag) (T : String) : Prop := ∀ d : PyData, PySem.W.kitOne K (.type (tyS d)) (.type T) = some (isiT T d)
theorem kit_int (K : PySem.W.Frag) : KitOk K "int" := fun d => by cases d <;> rfl
theorem kit_bool (K : PySem.W.Frag) : KitOk K "bool" := fun d => by cases d <;> rfl
theorem kit_tuple (K : PySem.W.Frag) : KitOk K "tuple" := fun d => by cases d <;> rfl
theorem kit_list (K : PySem.W.Frag) : KitOk K "list" := fun d => by cases d <;> rfl
theorem pd_isi {T : String} {p p2 : Pos} (kit : KitOk X.K T) (hg : Gl X "isinstance") (hm : X.mg "isinstance" = none) (hgT : Gl X (Str.ofString T)) (hmT : X.mg (Str.ofString T) = none) (hvT : bootBuiltins (Str.ofString T) = some (.type T)) (hv : bootBuiltins "isinstance" = some (.builtin "isinstance")) (ha : PD X M a fa) (hnT : Str.ofString T ≠ "__name__" := by decide +kernel) (hdT : (Str.ofString T == ("__debug__" : Str)) = false := by decide +kernel)
    (he : starEach [a, .Name (Str.ofString T) p2] X.env = (false, eval a X.env) :: starEach [.Name (Str.ofString T) p2] X.env := by rfl) (hpl : (backTo pos (starEach [.Name (Str.ofString T) p2] X.env)).any (·.1) = false := by rfl)
    (hs2 : starEach [.Name (Str.ofString T) p2] X.env = (false, eval (.Name (Str.ofString T) p2) X.env) :: starEach [] X.env := by rfl) :
    PD X M (.Call (.Name "isinstance" p) [a, .Name (Str.ofString T) p2] [] pos) (ev1 fa (isiD T)) :=
  (pe_callB call_isi hg hm hv (pa_cons ha (pa_cons (pe_bltn (v := .ty T) hgT hmT hvT rfl hnT hdT) pa_nil hs2) he) (by decide +kernel) (by decide +kernel) he hpl).weak fun σ H Q ⟨S, ρ, d, hs, e, q⟩ => by
    obtain ⟨x, e1, e⟩ := ob_some e
    cases e
    refine ⟨S, ρ, x, hs, e1, fun v H1 g1 d1 => ?_⟩
    have fin := q (.bl (isiT T x)) H1 g1 (.bool _)
    have k := kit x
    show rIsi X.K [v, .ty T] H1 Q
    cases d1 with
    | none => exact ⟨_, _, _, _, rfl, .non, k, fin⟩
    | bool y => exact ⟨_, _, _, _, rfl, .bl y, k, fin⟩
    | int y => exact ⟨_, _, _, _, rfl, .int y, k, fin⟩
    | str y => exact ⟨_, _, _, _, rfl, .str y, k, fin⟩
    | list h t => exact ⟨_, _, _, _, rfl, .lst h.sq, k, fin⟩
    | tuple h t => exact ⟨_, _, _, _, rfl, .tup h, k, fin⟩
    | dict h k2 t => exact ⟨_, _, _, _, rfl, .dct h.1, k, fin⟩
/-! #### operations -/
theorem opD_of {f : Value → Value → Sem Value} {g : PyData → PyData → Option PyData} {r : R2} (h : OpR X f r) (w : ∀ x y dx dy d H S (Q : VK), Dm S H → Den X.K H S x dx → Den X.K H S y dy → g dx dy = some d → (∀ v H', Same H H' → Den X.K H' S v d → Q v H') → r x y H Q) : OpD X f g :=
  fun pins s σ H x y v u Q I rx ry ⟨S, dx, dy, d, m, h1, h2, e, q⟩ => h pins s σ H x y v u Q I rx ry (w x y dx dy d H S Q m h1 h2 e q)
def iiD (h : Int → Int → Option PyData) : PyData → PyData → Option PyData
  | .int i, .int j => h i j
  | _, _ => none
theorem iiD_some {h : Int → Int → Option PyData} {x y d : PyData} (e : iiD h x y = some d) : ∃ i j, x = .int i ∧ y = .int j ∧ h i j = some d := by
  cases x <;> cases y <;> first | exact ⟨_, _, rfl, rfl, e⟩ | cases e
theorem opD_int {f : Value → Value → Sem Value} {gi : Int → Int → Int} (h : OpR X f (rI0 fun i j => .int (gi i j))) : OpD X f (iiD fun i j => some (.int (gi i j))) :=
  opD_of h fun x y dx dy d H S Q m h1 h2 e q => by
    obtain ⟨i, j, rfl, rfl, e⟩ := iiD_some e
    cases h1; cases h2; cases e
    exact ⟨i, j, rfl, rfl, q _ H (Same.refl H) (.int _)⟩
theorem opD_intC {f : Value → Value → Sem Value} {C : Int → Int → Prop} [∀ i j, Decidable (C i j)] {gi : Int → Int → Int} (h : OpR X f (rI C fun i j => .int (gi i j))) : OpD X f (iiD fun i j => if C i j then some (.int (gi i j)) else none) :=
  opD_of h fun x y dx dy d H S Q m h1 h2 e q => by
    obtain ⟨i, j, rfl, rfl, e'⟩ := iiD_some e
    split at e'
    · rename_i c
      cases h1; cases h2; cases e'
      exact ⟨i, j, rfl, rfl, c, q _ H (Same.refl H) (.int _)⟩
    · cases e'
instance (i j : Int) : Decidable (IntMulOk i j) := by unfold IntMulOk; exact inferInstance
instance (i j : Int) : Decidable (CDiv i j) := by unfold CDiv; exact inferInstance
instance (i j : Int) : Decidable (CPow i j) := by unfold CPow; exact inferInstance
def subD : PyData → PyData → Option PyData := iiD fun i j => some (.int (i - j))
def mulD : PyData → PyData → Option PyData := iiD fun i j => if IntMulOk i j then some (.int (i * j)) else none
def fdivD : PyData → PyData → Option PyData := iiD fun i j => if CDiv i j then some (.int (i / j)) else none
def modD : PyData → PyData → Option PyData := iiD fun i j => if 0 < j then some (.int (i % j)) else none
def powD : PyData → PyData → Option PyData := iiD fun i j => if CPow i j then some (.int (i ^ j.toNat)) else none
theorem d_sub : OpD X (binaryOp .Sub) subD := opD_int op_sub
theorem d_mul : OpD X (binaryOp .Mult) mulD := opD_intC op_mulW
theorem d_fdiv : OpD X (binaryOp .FloorDiv) fdivD := opD_intC op_fdiv
theorem d_mod : OpD X (binaryOp .Mod) modD := opD_intC (C := fun _ j => 0 < j) op_mod
theorem d_pow : OpD X (binaryOp .Pow) powD := opD_intC op_pow
def leD : PyData → PyData → Option PyData := iiD fun i j => some (.bool (decide (i ≤ j)))
def gtD : PyData → PyData → Option PyData := iiD fun i j => some (.bool (decide (j < i)))
def geD : PyData → PyData → Option PyData := iiD fun i j => some (.bool (decide (j ≤ i)))
def eqD (x y : PyData) : Option PyData := if SeqAt.shaped x = true ∧ SeqAt.shaped y = true then some (.bool (PyData.eqv x y)) else none
def neD (x y : PyData) : Option PyData := if SeqAt.shaped x = true ∧ SeqAt.shaped y = true then some (.bool (!PyData.eqv x y)) else none
theorem d_eq {k : Nat} (hr : Room k X.A) : OpD X (compareOp .Eq) eqD := opD_of (op_eqD hr) fun x y dx dy d H S Q m h1 h2 e q => by
  unfold eqD at e
  split at e
  · rename_i c; cases e; exact ⟨S, dx, dy, h1, h2, c.1, c.2, q _ H (Same.refl H) (.bool _)⟩
  · cases e
theorem d_ne {k : Nat} (hr : Room k X.A) : OpD X (compareOp .NotEq) neD := opD_of (op_neD hr) fun x y dx dy d H S Q m h1 h2 e q => by
  unfold neD at e
  split at e
  · rename_i c; cases e; exact ⟨S, dx, dy, h1, h2, c.1, c.2, q _ H (Same.refl H) (.bool _)⟩
  · cases e
def negD : PyData → Option PyData
  | .int i => some (.int (-i))
  | _ => none
theorem d_neg : UnD X (unaryOp .USub) negD := fun pins s σ H x v Q I rx ⟨S, dx, d, m, h1, e, q⟩ => un_neg pins s σ H x v Q I rx (by
  cases h1 <;> first | (cases e; exact ⟨_, rfl, q _ H (Same.refl H) (.int _)⟩) | cases e)
/-! #### built-ins -/
def lenD : List PyData → Option PyData
  | [.list ds] => some (.int ds.length)
  | [.tuple ds] => some (.int ds.length)
  | _ => none
theorem b_len : CallD X (.builtin "len") lenD := fun pins s σ H xs us Q I r ⟨S, ds, d, m, h1, e, q⟩ => call_len_seq pins s σ H xs us Q I r (by
  cases h1 with
  | nil => cases e
  | cons a t =>
    cases t with
    | cons a' t' => cases a <;> cases e
    | nil =>
      cases a with
      | list h t => cases e; exact ⟨_, _, rfl, .inl h.sq, by rw [t.length]; exact q _ H (Same.refl H) (.int _)⟩
      | tuple h t => cases e; exact ⟨_, _, rfl, .inr h, by rw [t.length]; exact q _ H (Same.refl H) (.int _)⟩
      | _ => cases e)
def tupleD : List PyData → Option PyData
  | [.list ds] => some (.tuple ds)
  | [.tuple ds] => some (.tuple ds)
  | _ => none
theorem b_tuple : CallD X (.type "tuple") tupleD := fun pins s σ H xs us Q I r ⟨S, ds, d, m, h1, e, q⟩ => call_tuple_of pins s σ H xs us Q I r (by
  cases h1 with
  | nil => cases e
  | cons a t =>
    cases t with
    | cons a' t' => cases a <;> cases e
    | nil =>
      cases a with
      | list h t => cases e; exact ⟨_, _, rfl, .inl ⟨h.sq, fun l hl => q _ _ (Same.lay hl) (.tuple (SqT.of upd_same) (t.same (Same.lay hl)))⟩⟩
      | tuple h t => cases e; exact ⟨_, _, rfl, .inr ⟨h, q _ H (Same.refl H) (.tuple h t)⟩⟩
      | _ => cases e)
def listD : List PyData → Option PyData
  | [.list ds] => some (.list ds)
  | [.tuple ds] => some (.list ds)
  | _ => none
theorem b_list : CallD X (.type "list") listD := fun pins s σ H xs us Q I r ⟨S, ds, d, m, h1, e, q⟩ => call_list_of pins s σ H xs us Q I r (by
  cases h1 with
  | nil => cases e
  | cons a t =>
    cases t with
    | cons a' t' => cases a <;> cases e
    | nil =>
      cases a with
      | list h t => cases e; exact ⟨_, _, rfl, .inl h.sq, fun l hl => q _ _ (Same.lay hl) (.list (SqLS.new upd_same (m.free hl)) (t.same (Same.lay hl)))⟩
      | tuple h t => cases e; exact ⟨_, _, rfl, .inr h, fun l hl => q _ _ (Same.lay hl) (.list (SqLS.new upd_same (m.free hl)) (t.same (Same.lay hl)))⟩
      | _ => cases e)
end
end L2
namespace L2
open PySem PySem.Spec PyProof.Rows
def boolD : PyData → Option Bool
  | .bool b => some b
  | _ => none
def tV (f : Rho → Option PyData) : Rho → Option Bool := fun ρ => ob (f ρ) boolD
def tN (p : Rho → Option Bool) : Rho → Option Bool := fun ρ => ob (p ρ) fun b => some (!b)
def tA (p q : Rho → Option Bool) : Rho → Option Bool := fun ρ => ob (p ρ) fun c => if c = true then q ρ else some false
def tO (p q : Rho → Option Bool) : Rho → Option Bool := fun ρ => ob (p ρ) fun c => if c = true then some true else q ρ
def tT : Rho → Option Bool := fun _ => some true
def vA (fa fb : Rho → Option PyData) : Rho → Option PyData := fun ρ => ob (fa ρ) fun x => ob (boolD x) fun c => if c = true then fb ρ else some (.bool false)
def vO (fa fb : Rho → Option PyData) : Rho → Option PyData := fun ρ => ob (fa ρ) fun x => ob (boolD x) fun c => if c = true then some (.bool true) else fb ρ
def vN (fa : Rho → Option PyData) : Rho → Option PyData := fun ρ => ob (fa ρ) fun x => ob (boolD x) fun c => some (.bool (!c))
def vIf (p : Rho → Option Bool) (fa fb : Rho → Option PyData) : Rho → Option PyData := fun ρ => ob (p ρ) fun x => if x = true then fa ρ else fb ρ
def evI (f : Rho → Option PyData) (h : PyData → Option (List PyData)) : Rho → Option (List PyData) := fun ρ => ob (f ρ) h
def evR (fs : Rho → Option (List PyData)) (h : List PyData → Option (List PyData)) : Rho → Option (List PyData) := fun ρ => ob (fs ρ) h
def sN : Rho → Option Out := fun ρ => some (.nx ρ)
def sRet (f : Rho → Option PyData) : Rho → Option Out := fun ρ => ob (f ρ) fun d => some (.rt d)
def sIf (p : Rho → Option Bool) (u w : Rho → Option Out) : Rho → Option Out := fun ρ => ob (p ρ) fun b => if b = true then u ρ else w ρ
def sSet (i : Nat) (f : Rho → Option PyData) : Rho → Option Out := fun ρ => ob (f ρ) fun d => some (.nx (ρ.set i (some d)))
def sAsg (f : Rho → Option PyData) (g : PyData → Rho → Option Rho) : Rho → Option Out := fun ρ => ob (f ρ) fun d => ob (g d ρ) fun ρ' => some (.nx ρ')
def gNm (i : Nat) : PyData → Rho → Option Rho := fun d ρ => some (ρ.set i (some d))
def gsN : List PyData → Rho → Option Rho := fun ds ρ => match ds with | [] => some ρ | _ => none
def gsC (g1 : PyData → Rho → Option Rho) (g2 : List PyData → Rho → Option Rho) : List PyData → Rho → Option Rho := fun ds ρ => match ds with | d :: r => ob (g1 d ρ) fun ρ' => g2 r ρ' | [] => none
def sBk : Rho → Option Out := fun ρ => some (.bk ρ)
def sCt : Rho → Option Out := fun ρ => some (.ct ρ)
section
variable {X : Cx} {M : List Nat} {a b c : Expr} {es rest : List Expr} {f g fa fb : Rho → Option PyData} {p q : Rho → Option Bool} {pos : Pos}
/-! #### tests -/
theorem boolD_some {d : PyData} {b : Bool} (h : boolD d = some b) : d = .bool b := by cases d <;> first | (cases h; rfl) | cases h
theorem pdt_val (h : PD X M a f) (he : ∀ whole, isTrue a X.env whole = (do let v ← whole; standAt a.pos; holding [v] (truthy v)) := by intro _; rfl) : PDT X M a (tV f) :=
  (pt_val h he).weak fun σ H Q ⟨S, ρ, d, hs, e, q⟩ => by
    obtain ⟨x, e1, e⟩ := ob_some e
    cases boolD_some e
    exact ⟨S, ρ, _, hs, e1, fun v H1 g1 d1 => ⟨d, d1.bool_inv, q H1 g1⟩⟩
theorem pdt_cmp {op : CmpOp} {g : PyData → PyData → Option PyData} (ho : OpD X (compareOp op) g) (ha : PD X M a fa) (hb : PD X M b fb) (hm : behindInMarks op b = false) : PDT X M (.Compare a [op] [b] pos) (tV (ev2 fa fb g)) :=
  (pt_cmpR ho ha hb hm).weak fun σ H Q ⟨S, ρ, d, hs, e, q⟩ => by
    obtain ⟨x, e1, e⟩ := ob_some e
    cases boolD_some e
    exact tD2 σ H _ ⟨S, ρ, _, hs, e1, fun v H1 g1 d1 => ⟨d, d1.bool_inv, q H1 g1⟩⟩
theorem pdt_not (h : PDT X M a p) : PDT X M (.UnaryOp .Not a pos) (tN p) :=
  (pt_not h).weak fun σ H Q ⟨S, ρ, d, hs, e, q⟩ => by
    obtain ⟨x, e1, e⟩ := ob_some e
    cases e
    exact ⟨S, ρ, x, hs, e1, fun H1 g1 => q H1 g1⟩
def PDW (X : Cx) (M : List Nat) (e : Expr) (f : Rho → Option Bool) : Prop := PW X e (tDT X.K M f)
theorem PDW.pdt (h : PDW X M a p) : PDT X M a p := PW.pt h
theorem pdw_and1 (h : PDT X M a p) : PDW X M (.BoolOp .And [a] pos) p := pw_and1 h
theorem pdw_or1 (h : PDT X M a p) : PDW X M (.BoolOp .Or [a] pos) p := pw_or1 h
theorem pdw_and (ha : PDT X M a p) (hb : PDW X M (.BoolOp .And (b :: rest) pos) q) : PDW X M (.BoolOp .And (a :: b :: rest) pos) (tA p q) :=
  (pw_and ha hb).weak fun σ H Q ⟨S, ρ, d, hs, e, w⟩ => by
    obtain ⟨x, e1, e⟩ := ob_some e
    refine ⟨S, ρ, x, hs, e1, fun H1 g1 => ?_⟩
    cases x with
    | true => exact iteT ⟨S, ρ, d, hs.same g1, e, fun H2 g2 => w H2 (g1.trans g2)⟩
    | false => cases e; exact iteF (w H1 g1)
theorem pdw_or (ha : PDT X M a p) (hb : PDW X M (.BoolOp .Or (b :: rest) pos) q) : PDW X M (.BoolOp .Or (a :: b :: rest) pos) (tO p q) :=
  (pw_or ha hb).weak fun σ H Q ⟨S, ρ, d, hs, e, w⟩ => by
    obtain ⟨x, e1, e⟩ := ob_some e
    refine ⟨S, ρ, x, hs, e1, fun H1 g1 => ?_⟩
    cases x with
    | true => cases e; exact iteT (w H1 g1)
    | false => exact iteF ⟨S, ρ, d, hs.same g1, e, fun H2 g2 => w H2 (g1.trans g2)⟩
/-! #### and, or, not, if as values -/
theorem pd_one {op} (h : PD X M a f) : PD X M (.BoolOp op [a] pos) f := pe_one h
theorem pd_and (ha : PD X M a fa) (hb : PD X M (.BoolOp .And (b :: rest) pos) fb) : PD X M (.BoolOp .And (a :: b :: rest) pos) (vA fa fb) :=
  (pe_and ha hb).weak fun σ H Q ⟨S, ρ, d, hs, e, w⟩ => by
    obtain ⟨x, e1, e⟩ := ob_some e
    obtain ⟨c, e2, e⟩ := ob_some e
    cases boolD_some e2
    refine ⟨S, ρ, _, hs, e1, fun v H1 g1 d1 => ⟨c, d1.bool_inv, ?_⟩⟩
    cases c with
    | true => exact iteT ⟨S, ρ, d, hs.same g1, e, fun v H2 g2 d2 => w v H2 (g1.trans g2) d2⟩
    | false => cases e; exact iteF (w _ H1 g1 (.bool false))
theorem pd_not (ha : PD X M a fa) : PD X M (.UnaryOp .Not a pos) (vN fa) :=
  (pe_not ha).weak fun σ H Q ⟨S, ρ, d, hs, e, w⟩ => by
    obtain ⟨x, e1, e⟩ := ob_some e
    obtain ⟨c, e2, e⟩ := ob_some e
    cases boolD_some e2
    cases e
    exact ⟨S, ρ, _, hs, e1, fun v H1 g1 d1 => ⟨c, d1.bool_inv, w _ H1 g1 (.bool _)⟩⟩
theorem pd_ifExp (hc : PDT X M c p) (ha : PD X M a fa) (hb : PD X M b fb) : PD X M (.IfExp c a b pos) (vIf p fa fb) :=
  (pe_ifExp hc ha hb).weak fun σ H Q ⟨S, ρ, d, hs, e, w⟩ => by
    obtain ⟨x, e1, e⟩ := ob_some e
    refine ⟨S, ρ, x, hs, e1, fun H1 g1 => ?_⟩
    cases x with
    | true => exact iteT ⟨S, ρ, d, hs.same g1, e, fun v H2 g2 d2 => w v H2 (g1.trans g2) d2⟩
    | false => exact iteF ⟨S, ρ, d, hs.same g1, e, fun v H2 g2 d2 => w v H2 (g1.trans g2) d2⟩
/-! #### what is walked -/
structure IsIt (K : PySem.W.Frag) (S : Av) (J : It) (H : Hp) (ds : List PyData) : Prop where
  go : ∀ (i : Nat) (H' : Hp), Same H H' → i < ds.length → J.go i H'
  yld : ∀ (i : Nat) (H' : Hp) (x : V) (H2 : Hp), Same H H' → J.yld i H' x H2 → Same H' H2 ∧ ∀ d, ds[i]? = some d → ∀ S' : Av, (∀ y e, Den K H S y e → Den K H2 S' y e) → Den K H2 S' x d
  stop : ∀ H' : Hp, Same H H' → J.stop ds.length H'
theorem IsIt.lst {K : PySem.W.Frag} {H : Hp} {S : Av} {l : Addr} {xs : List V} {ds : List PyData} (h : SqL K H l xs) (t : DenL K H S xs ds) : IsIt K S (Itl K l) H ds where
  go := fun i H' e hi => by
    have hi' : i < xs.length := by rw [t.length]; exact hi
    exact ⟨xs, xs[i], e.seq h, List.getElem?_eq_getElem hi'⟩
  yld := fun i H' x H2 e ⟨e2, q⟩ => ⟨by rw [e2]; exact Same.refl _, fun d hd S' w => by
    obtain ⟨v, h1, h2⟩ := t.get hd
    have := q xs (e.seq h)
    rw [h1] at this
    cases this
    exact w _ _ h2⟩
  stop := fun H' e => ⟨xs, e.seq h, by rw [t.length]; exact Nat.le_refl _⟩
theorem IsIt.tup {K : PySem.W.Frag} {H : Hp} {S : Av} {l : Addr} {xs : List V} {ds : List PyData} (h : SqT K H l xs) (t : DenL K H S xs ds) : IsIt K S (Itt K l) H ds where
  go := fun i H' e hi => by
    have hi' : i < xs.length := by rw [t.length]; exact hi
    exact ⟨xs, xs[i], e.sqT h, List.getElem?_eq_getElem hi'⟩
  yld := fun i H' x H2 e ⟨e2, q⟩ => ⟨by rw [e2]; exact Same.refl _, fun d hd S' w => by
    obtain ⟨v, h1, h2⟩ := t.get hd
    have := q xs (e.sqT h)
    rw [h1] at this
    cases this
    exact w _ _ h2⟩
  stop := fun H' e => ⟨xs, e.sqT h, by rw [t.length]; exact Nat.le_refl _⟩
theorem SqLS.off {K : PySem.W.Frag} {H H' : Hp} {S : Av} {a : Addr} {xs : List V} (e : Off S H H') (h : SqLS K H S a xs) : SqLS K H' S a xs := h.imp (fun q => ⟨q.1.off e q.2, q.2⟩) id
theorem SqT.off {K : PySem.W.Frag} {H H' : Hp} {S : Av} {a : Addr} {xs : List V} (m : Dm S H) (e : Off S H H') (h : SqT K H a xs) : SqT K H' a xs := h.imp (fun q => q.off e (m.tup q)) id
/-- lo, lo + 1, .. : n of them -/
def rngL : Int → Nat → List PyData
  | _, 0 => []
  | lo, n + 1 => .int lo :: rngL (lo + 1) n
theorem rngL_length : ∀ (lo : Int) (n : Nat), (rngL lo n).length = n
  | _, 0 => rfl
  | lo, n + 1 => by rw [rngL, List.length_cons, rngL_length]
theorem rngL_get : ∀ (lo : Int) (n i : Nat) (d : PyData), (rngL lo n)[i]? = some d → d = .int (lo + i)
  | _, 0, _, _, h => by simp [rngL] at h
  | lo, n + 1, 0, d, h => by simp [rngL] at h; subst h; simp
  | lo, n + 1, i + 1, d, h => by
    have := rngL_get (lo + 1) n i d (by simpa [rngL] using h)
    rw [this]
    congr 1
    omega
theorem IsIt.rng {K : PySem.W.Frag} {H : Hp} {S : Av} (lo : Int) (n : Nat) : IsIt K S (Itr lo n) H (rngL lo n) where
  go := fun i H' e hi => by rw [rngL_length] at hi; exact hi
  yld := fun i H' x H2 e ⟨e2, q⟩ => ⟨by rw [e2]; exact Same.refl _, fun d hd _ _ => by
    have q' : x = .int (lo + i) := q
    rw [rngL_get lo n i d hd, q']
    exact .int _⟩
  stop := fun H' e => by rw [rngL_length]; exact Nat.le_refl n
/-- what is walked, at every heap that is the same but for S -/
def tDI (K : PySem.W.Frag) (M : List Nat) (f : Rho → Option (List PyData)) : TI := fun σ H R => ∃ S ρ ds, DenS K H S M σ ρ ∧ f ρ = some ds ∧ ∀ J H', Same H H' → (∀ H2, Off S H' H2 → IsIt K S J H2 ds) → R J H'
def PDI (X : Cx) (M : List Nat) (tg iter : Expr) (f : Rho → Option (List PyData)) : Prop := PI X tg iter (tDI X.K M f)
theorem PI.weak {X : Cx} {tg e : Expr} {t t' : TI} (h : PI X tg e t) (w : ∀ σ H R, t' σ H R → t σ H R) : PI X tg e t' := fun pins s σ H Q I q => h pins s σ H Q I (w σ H Q q)
def iSeq (K : PySem.W.Frag) (tl : TE) : TI := fun σ H R => tl σ H fun x H1 => ∃ a, x = .ref a ∧ (((∃ xs, SqL K H1 a xs) ∧ R (Itl K a) H1) ∨ ((∃ xs, SqT K H1 a xs) ∧ R (Itt K a) H1))
theorem pi_seq {tg l : Expr} {tl : TE} (hl : PE X l tl) : PI X tg l (iSeq X.K tl) := by
  intro pins s σ H R I h
  refine thn (hl pins s σ H _ I h) fun v s1 ⟨x, H1, I1, r1, q1⟩ => ?_
  obtain ⟨a, e, q1⟩ := q1
  subst e
  cases r1
  have fp : ∀ b ∈ [s1.heap.objs.size], FpOk X pins H1 b := fun b hb => by
    have e : b = s1.heap.objs.size := by simpa using hb
    subst e
    exact I1.fpOk (Nat.le_refl _) (I1.hok.fresh (Nat.le_refl _))
  rcases q1 with ⟨⟨xs, hq⟩, q⟩ | ⟨⟨xs, hq⟩, q⟩
  · obtain ⟨its, rv, p, hz⟩ := I1.list hq
    refine wpAny_pyIter_list p.isList ?_
    exact ⟨s1.heap.objs.size, [s1.heap.objs.size], _, _, H1, rfl, I1.kept (t' := s1.toks) fun b o e => Heap.get?_push_of_some _ e, turn_list a _, ⟨_, Heap.get?_push_size _ rfl, rfl, rfl⟩, fp, q⟩
  · obtain ⟨its, rv, p, hz⟩ := I1.tuple hq
    refine wpAny_pyIter_tuple (show s1.heap.IsTuple a its.toArray from p) ?_
    exact ⟨s1.heap.objs.size, [s1.heap.objs.size], _, _, H1, rfl, I1.kept (t' := s1.toks) fun b o e => Heap.get?_push_of_some _ e, turn_tuple a _, ⟨_, Heap.get?_push_size _ rfl, rfl, rfl⟩, fp, q⟩
def seqD : PyData → Option (List PyData)
  | .list ds => some ds
  | .tuple ds => some ds
  | _ => none
theorem pdi_seq {tg : Expr} (h : PD X M a f) : PDI X M tg a (evI f seqD) :=
  (pi_seq h).weak fun σ H R ⟨S, ρ, ds, hs, e, w⟩ => by
    obtain ⟨x, e1, e⟩ := ob_some e
    refine ⟨S, ρ, x, hs, e1, fun v H1 g1 d1 => ?_⟩
    cases d1 with
    | list h t => cases e; exact ⟨_, rfl, .inl ⟨⟨_, h.sq⟩, w _ _ g1 fun H2 o => IsIt.lst (h.off o).sq (t.off (hs.1.same g1) o)⟩⟩
    | tuple h t => cases e; exact ⟨_, rfl, .inr ⟨⟨_, h⟩, w _ _ g1 fun H2 o => IsIt.tup (h.off (hs.1.same g1) o) (t.off (hs.1.same g1) o)⟩⟩
    | _ => cases e
def rng1D : List PyData → Option (List PyData)
  | [.int j] => if -1000 ≤ j ∧ j ≤ 1000 then some (rngL 0 j.toNat) else none
  | _ => none
def rng2D : List PyData → Option (List PyData)
  | [.int i, .int j] => if (-1000 ≤ i ∧ i ≤ 1000) ∧ (-1000 ≤ j ∧ j ≤ 1000) then some (rngL i (j - i).toNat) else none
  | _ => none
theorem pdi_range1 {tg : Expr} {fs : Rho → Option (List PyData)} {p : Pos} (hg : Gl X "range") (hm : X.mg "range" = none) (ha : PDA X M [a] fs) (hs : starEach [a] X.env = [(false, eval a X.env)] := by rfl) : PDI X M tg (.Call (.Name "range" p) [a] [] pos) (evR fs rng1D) :=
  (pi_range1 hg hm ha hs).weak fun σ H R ⟨S, ρ, ds, hs, e, w⟩ => by
    obtain ⟨xs, e1, e⟩ := ob_some e
    refine ⟨S, ρ, xs, hs, e1, fun vs H1 g1 d1 => ?_⟩
    unfold rng1D at e
    split at e
    · rename_i j
      split at e
      · rename_i hj
        cases e
        obtain ⟨v, rfl, q⟩ := d1.inv1
        cases q
        exact ⟨j, rfl, by omega, by omega, w _ _ g1 fun _ _ => IsIt.rng 0 _⟩
      · cases e
    · cases e
/-! #### comprehensions -/
def compD (tt : Rho → Option Bool) (te : Rho → Option PyData) (ρ : Rho) : List PyData → Option (List PyData)
  | [] => some []
  | d :: ds => ob (tt (ρ ++ [some d])) fun b => if b = true then ob (te (ρ ++ [some d])) fun y => ob (compD tt te ρ ds) fun ys => some (y :: ys) else compD tt te ρ ds
def compR (n : Nat) (fi : Rho → Option (List PyData)) (tt : Rho → Option Bool) (te : Rho → Option PyData) (ρ : Rho) : Option PyData :=
  ob (fi ρ) fun ds => if ρ.length = n ∧ ds.length ≤ 1000 then ob (compD tt te ρ ds) fun ys => some (.list ys) else none
def PDTs (X : Cx) (M : List Nat) (ifs : List Expr) (p : Rho → Option Bool) : Prop := PTs X ifs (tDT X.K M p)
theorem pdts_nil : PDTs X M [] tT := fun pins s σ H Q I ⟨S, ρ, b, hs, e, q⟩ => by
  cases e
  exact pts_nil pins s σ H Q I (q H (Same.refl H))
theorem pdts_one (h : PDT X M c p) : PDTs X M [c] p := pts_one h
def lc1 (sc : Scope) (x : Str) : Bool := decide (sc.names.lookup x = some .local)
/-! targets within an expression -/
def tDGc (K : PySem.W.Frag) (M : List Nat) (g : PyData → Rho → Option Rho) : TG := fun v σ H Q => ∃ S ρ d ρ', DenS K H S M σ ρ ∧ Den K H S v d ∧ g d ρ = some ρ' ∧ ∀ σ' H', Same H H' → DenS K H' S M σ' ρ' → Q σ' H'
def PDGc (X : Cx) (M : List Nat) (t : Expr) (g : PyData → Rho → Option Rho) : Prop := PG X t (tDGc X.K M g)
theorem PG.weak {X : Cx} {e : Expr} {t t' : TG} (h : PG X e t) (w : ∀ v σ H Q, t' v σ H Q → t v σ H Q) : PG X e t' := fun pins s σ H v u Q I r q => h pins s σ H v u Q I r (w v σ H Q q)
theorem PGs.weak {X : Cx} {e : List Expr} {t t' : TGs} (h : PGs X e t) (w : ∀ v σ H Q, t' v σ H Q → t v σ H Q) : PGs X e t' := fun pins s σ H v u Q I r q => h pins s σ H v u Q I r (w v σ H Q q)
def unpD (n : Nat) (g : List PyData → Rho → Option Rho) : PyData → Rho → Option Rho
  | .tuple ds, ρ => if ds.length = n then g ds ρ else none
  | _, _ => none
theorem pdgc_name (i : Nat) {x : Str} (hN : X.N.Nodup) (hx : Loc X.env.scope x) (hi : X.N[i]? = some x) (hf : X.fn x = true ∨ X.env.scope.names.lookup x = some .local) : PDGc X M (.Name x pos) (gNm i) :=
  (pg_name hN hi hx hf).weak fun v σ H Q ⟨S, ρ, d, ρ', hs, hd, e, q⟩ => by
    cases e
    exact q _ H (Same.refl H) (hs.set hd i)
/-- the target touches the new slots alone -/
def GIn (n k : Nat) (g : PyData → Rho → Option Rho) : Prop := ∀ d (ρ r ρ1 : Rho), ρ.length = n → r.length = k → g d (ρ ++ r) = some ρ1 → ∃ r', r'.length = k ∧ ρ1 = ρ ++ r'
theorem gin_name {n k i : Nat} (h : n ≤ i) : GIn n k (gNm i) := fun d ρ r ρ1 h1 h2 e => by
  cases e
  refine ⟨r.set (i - n) (some d), by rw [List.length_set]; exact h2, ?_⟩
  rw [List.set_append_right _ _ (by omega), h1]
def compT (k : Nat) (g : PyData → Rho → Option Rho) (tt : Rho → Option Bool) (te : Rho → Option PyData) (ρ : Rho) : List PyData → Option (List PyData)
  | [] => some []
  | d :: ds => ob (g d (ρ ++ List.replicate k none)) fun ρ1 => ob (tt ρ1) fun b => if b = true then ob (te ρ1) fun y => ob (compT k g tt te ρ ds) fun ys => some (y :: ys) else compT k g tt te ρ ds
def compG (n k : Nat) (fi : Rho → Option (List PyData)) (g : PyData → Rho → Option Rho) (tt : Rho → Option Bool) (te : Rho → Option PyData) (ρ : Rho) : Option PyData :=
  ob (fi ρ) fun ds => if ρ.length = n ∧ ds.length ≤ 1000 then ob (compT k g tt te ρ ds) fun ys => some (.list ys) else none
theorem compT_name {tt : Rho → Option Bool} {te : Rho → Option PyData} {ρ : Rho} {n : Nat} (hn : ρ.length = n) : ∀ ds, compT 1 (gNm n) tt te ρ ds = compD tt te ρ ds
  | [] => rfl
  | d :: ds => by
    have e : gNm n d (ρ ++ List.replicate 1 none) = some (ρ ++ [some d]) := by
      show some ((ρ ++ [none]).set n (some d)) = _
      rw [← hn, List.set_append_right _ _ (Nat.le_refl _)]
      simp
    rw [compT, compD, e]
    show (ob (tt (ρ ++ [some d])) fun b => _) = _
    rw [compT_name hn ds]
theorem compG_name (n : Nat) (fi : Rho → Option (List PyData)) (tt : Rho → Option Bool) (te : Rho → Option PyData) : compR n fi tt te = compG n 1 fi (gNm n) tt te := by
  funext ρ
  unfold compR compG
  cases fi ρ with
  | none => rfl
  | some ds =>
    show (if ρ.length = n ∧ ds.length ≤ 1000 then _ else none) = (if ρ.length = n ∧ ds.length ≤ 1000 then _ else none)
    split
    · rename_i h
      rw [compT_name h.1]
    · rfl
theorem DenS.forget {K : PySem.W.Frag} {H : Hp} {S : Av} {σ : St} {ρ r' : Rho} {k : Nat} (h : DenS K H S M σ (ρ ++ r')) (hk : r'.length = k) : DenS K H S M σ (ρ ++ List.replicate k none) := by
  refine ⟨h.1, by rw [h.2.1, List.length_append, List.length_append, List.length_replicate, hk], fun i d hi e => ?_⟩
  by_cases hlt : i < ρ.length
  · rw [List.getElem?_append_left hlt] at e
    exact h.2.2 i d hi (by rw [List.getElem?_append_left hlt]; exact e)
  · rw [List.getElem?_append_right (by omega)] at e
    have := List.getElem?_replicate (a := (none : Option PyData)) (n := k) (i := i - ρ.length)
    rw [this] at e
    split at e <;> cases e
theorem DenS.more {K : PySem.W.Frag} {H : Hp} {S : Av} {σ : St} {ρ : Rho} (k : Nat) (h : DenS K H S M σ ρ) : DenS K H S M (σ ++ List.replicate k none) (ρ ++ List.replicate k none) := by
  refine ⟨h.1, by rw [List.length_append, List.length_append, h.2.1, List.length_replicate, List.length_replicate], fun i d hi e => ?_⟩
  by_cases hlt : i < ρ.length
  · rw [List.getElem?_append_left hlt] at e
    obtain ⟨v, a, b⟩ := h.2.2 i d hi e
    exact ⟨v, by rw [List.getElem?_append_left (by rw [h.2.1]; exact hlt)]; exact a, b⟩
  · rw [List.getElem?_append_right (by omega)] at e
    have := List.getElem?_replicate (a := (none : Option PyData)) (n := k) (i := i - ρ.length)
    rw [this] at e
    split at e <;> cases e
theorem tDcompG {K : PySem.W.Frag} {n k : Nat} {fi : Rho → Option (List PyData)} {g : PyData → Rho → Option Rho} (hg : GIn n k g) : ∀ σ H Q S ρ ds ys, DenS K H S M σ ρ → fi ρ = some ds → ρ.length = n → ds.length ≤ 1000 → compT k g p f ρ ds = some ys → (∀ H' zs, Same H H' → DenL K H' S zs ys → ∀ D, H' D = none → Q (.ref D) (upd H' D (.lst zs))) → tComp k (tDI K M fi) (tDGc K M g) (tDT K M p) (tD K M f) σ H Q := by
  intro σ H Q S ρ ds ys hs e1 hn hz e2 q
  refine ⟨S, ρ, ds, hs, e1, fun J H1 g1 hJ0 => ?_⟩
  have hJ := hJ0 H1 fun _ _ _ z => z
  have z1000 : 1000 < sizeLine := small1000 (Nat.le_refl _)
  refine ⟨fun i m zs σ' H' => m = ds.length - i ∧ i ≤ ds.length ∧ zs.length ≤ i ∧ Same H1 H' ∧ DenS K H' S M σ' (ρ ++ List.replicate k none) ∧ ∃ pre rest, DenL K H' S zs pre ∧ compT k g p f ρ (ds.drop i) = some rest ∧ pre ++ rest = ys, ⟨ds.length, by simp, Nat.zero_le _, Nat.le_refl _, Same.refl _, (hs.same g1).more k, [], ys, .nil, e2, rfl⟩, ?_⟩
  rintro i m zs σ' H' ⟨rfl, hi, hzi, g2, hS, pre, rest, dl, er, rfl⟩
  by_cases hlt : i < ds.length
  · refine .inr ⟨hJ.go i H' g2 hlt, fun x H2 y => ?_⟩
    obtain ⟨g2', yd⟩ := hJ.yld i H' x H2 g2 y
    have hd := yd _ (List.getElem?_eq_getElem hlt) S fun y e q => q.same (g2.trans g2')
    rw [List.drop_eq_getElem_cons hlt] at er
    obtain ⟨ρ1, r1, er⟩ := ob_some er
    obtain ⟨bb, b1, er⟩ := ob_some er
    obtain ⟨r', hr', rfl⟩ := hg _ ρ _ ρ1 hn (List.length_replicate) r1
    have g2 := g2.trans g2'
    have dl := dl.same g2'
    refine ⟨S, _, _, _, hS.same g2', hd, r1, fun σ3 H3 g3 hS3 => ⟨S, _, bb, hS3, b1, fun H4 g4 => ?_⟩⟩
    cases bb with
    | true =>
      rw [if_pos rfl] at er
      obtain ⟨y1, e3, er⟩ := ob_some er
      obtain ⟨ys1, e4, er⟩ := ob_some er
      cases er
      refine iteT ⟨S, _, y1, hS3.same g4, e3, fun v H5 g5 d5 => ⟨by omega, ds.length - (i + 1), by omega, rfl, hlt, by rw [List.length_append, List.length_singleton]; omega, g2.trans (g3.trans (g4.trans g5)), (hS3.same (g4.trans g5)).forget hr', pre ++ [y1], ys1, (dl.same (g3.trans (g4.trans g5))).snoc d5, e4, by simp⟩⟩
    | false =>
      rw [if_neg Bool.false_ne_true] at er
      exact iteF ⟨ds.length - (i + 1), by omega, rfl, hlt, by omega, g2.trans (g3.trans g4), (hS3.same g4).forget hr', pre, rest, dl.same (g3.trans g4), er, rfl⟩
  · have hi' : i = ds.length := by omega
    subst hi'
    rw [List.drop_length] at er
    cases er
    refine .inl ⟨hJ.stop H' g2, fun D hD => q H' zs (g1.trans g2) (by rw [List.append_nil]; exact dl) D hD⟩
theorem compG_some {n k : Nat} {fi : Rho → Option (List PyData)} {g : PyData → Rho → Option Rho} {tt : Rho → Option Bool} {te : Rho → Option PyData} {ρ : Rho} {d : PyData} (e : compG n k fi g tt te ρ = some d) : ∃ ds ys, fi ρ = some ds ∧ ρ.length = n ∧ ds.length ≤ 1000 ∧ compT k g tt te ρ ds = some ys ∧ d = .list ys := by
  obtain ⟨ds, e1, e⟩ := ob_some e
  split at e
  · rename_i hc
    obtain ⟨ys, e2, e⟩ := ob_some e
    cases e
    exact ⟨ds, ys, e1, hc.1, hc.2, e2, rfl⟩
  · cases e
theorem tDcomp {K : PySem.W.Frag} {n k : Nat} {fi : Rho → Option (List PyData)} {g : PyData → Rho → Option Rho} (hg : GIn n k g) : ∀ σ H Q, tD K M (compG n k fi g p f) σ H Q → tComp k (tDI K M fi) (tDGc K M g) (tDT K M p) (tD K M f) σ H Q := by
  intro σ H Q ⟨S, ρ, d, hs, e, q⟩
  obtain ⟨ds, ys, e1, hn, hz, e2, rfl⟩ := compG_some e
  exact tDcompG hg σ H Q S ρ ds ys hs e1 hn hz e2 fun H' zs g2 dl D hD => q _ _ (g2.lay' hD) (.list (SqLS.new upd_same ((hs.1.same g2).free hD)) (dl.same (Same.lay hD)))
section
variable {elt iter tg : Expr} {ifs : List Expr} {x : Str} {N' : List Str} {px : Pos} {sc : Scope} {n k : Nat} {fi : Rho → Option (List PyData)} {g : PyData → Rho → Option Rho}
theorem pg_comp {i : Nat} (O : CompOk X N' k sc) (hx : N'[i]? = some x) (hl : lc1 sc x = true) (cl : List (Str × Addr)) (C : Addr) (fp : List Addr) (pins : List (Addr × Obj)) (s : Shared) (H : Hp) : PDGc (compCx X N' sc cl C fp pins s H) M (.Name x px) (gNm i) :=
  have hloc : (relabel sc X.env).names.lookup x = some .local := lookup_relabel_local (of_decide_eq_true hl)
  pdgc_name (X := compCx X N' sc cl C fp pins s H) i O.nd' (.inl hloc) hx (.inr hloc)
theorem pd_compG (O : CompOk X N' k sc) (gi : GIn n k g) (hi : PDI X M tg iter fi) (hg : ∀ cl C fp pins s H, PDGc (compCx X N' sc cl C fp pins s H) M tg g) (hq : ∀ cl C fp pins s H, PDTs (compCx X N' sc cl C fp pins s H) M ifs p) (he : ∀ cl C fp pins s H, PD (compCx X N' sc cl C fp pins s H) M elt f)
    (hs : ∀ v, foldedSetIterable iter X.env v = pure v := by intro _; rfl) : PD X M (.ListComp elt [⟨tg, iter, ifs, 0⟩] sc pos) (compG n k fi g p f) :=
  (pe_comp (wg := tDGc X.K M g) (tt := tDT X.K M p) (te := tD X.K M f) O hi hg hq he hs).weak (tDcomp gi)
theorem pd_comp (O : CompOk X N' 1 sc) (hx : N'[n]? = some x) (hl : lc1 sc x = true) (hi : PDI X M (.Name x px) iter fi) (hq : ∀ cl C fp pins s H, PDTs (compCx X N' sc cl C fp pins s H) M ifs p) (he : ∀ cl C fp pins s H, PD (compCx X N' sc cl C fp pins s H) M elt f)
    (hs : ∀ v, foldedSetIterable iter X.env v = pure v := by intro _; rfl) : PD X M (.ListComp elt [⟨.Name x px, iter, ifs, 0⟩] sc pos) (compR n fi p f) := by
  rw [compG_name]
  exact pd_compG O (gin_name (Nat.le_refl _)) hi (pg_comp O hx hl) hq he hs
end
end
end L2
namespace L2
open PySem PySem.Spec PyProof.Rows
/-! ### statements: what a def owns -/
/-- a def's frame: the heap at its entry (what was there stays), what its callers keep apart, what a loop walks -/
structure Gm where
  H0 : Hp
  S0 : Av
  lk : Nat → Addr × PyData
def insA (S : Av) (p : Addr) : Av := fun a => S a ∨ a = p
/-- an object that is one's own, by its data -/
inductive OwnO (K : PySem.W.Frag) (H : Hp) (S : Av) (p : Addr) : PyData → Prop
  | lst {xs : List V} {ds : List PyData} : H p = some (.lst xs) → DenL K H S xs ds → OwnO K H S p (.list ds)
  | dct {kvs : List (K2 × Addr × V)} {ep : Nat} {ds : List PyData} : H p = some (DctO p kvs ep) → DenL K H S (kvs.map fun p => V.ref p.2.1) (kvs.map fun p => k2T p.1) → DenL K H S (kvs.map (·.2.2)) ds → OwnO K H S p (.dict (dkv kvs ds))
section
variable {K : PySem.W.Frag} {H H' : Hp} {S S' : Av} {p : Addr} {d : PyData}
theorem OwnO.same (e : Same H H') (h : OwnO K H S p d) : OwnO K H' S p d := by
  cases h with
  | lst h t => exact .lst (e _ _ h) (t.same e)
  | dct h k t => exact .dct (e _ _ h) (k.same e) (t.same e)
theorem OwnO.sub (e : ∀ a, H a ≠ none → S' a → S a) (h : OwnO K H S p d) : OwnO K H S' p d := by
  cases h with
  | lst h t => exact .lst h (t.sub e)
  | dct h k t => exact .dct h (k.sub e) (t.sub e)
theorem OwnO.mut (h : OwnO K H S p d) : ∃ o, H p = some o ∧ isMut o = true := by
  cases h with
  | lst h t => exact ⟨_, h, rfl⟩
  | dct h k t => exact ⟨_, h, rfl⟩
theorem OwnO.dom (h : OwnO K H S p d) : H p ≠ none := by
  obtain ⟨o, e, _⟩ := h.mut
  rw [e]; exact fun z => nomatch z
/-- given out of hand: plain data for whoever keeps nothing of it apart -/
theorem OwnO.den (h : OwnO K H S p d) (n : ¬ S' p) (e : ∀ a, H a ≠ none → S' a → S a) : Den K H S' (.ref p) d := by
  cases h with
  | lst h t => exact .list (SqLS.new h n) (t.sub e)
  | dct h k t => exact .dict ⟨h, n⟩ (k.sub e) (t.sub e)
/-- another own object is changed -/
theorem OwnO.upd {q : Addr} {o : HO} (m : Dm S H) (h : OwnO K H S p d) (hq : S q) (hm : isMut o = true) (ne : p ≠ q) : OwnO K (upd H q o) S p d := by
  have off : Off S H (L2.upd H q o) := fun b u n e => by
    rw [upd_ne (fun z => n (by rw [z]; exact hq))]; exact e
  cases h with
  | lst h t => exact .lst (by rw [upd_ne ne]; exact h) (t.off m off)
  | dct h k t => exact .dct (by rw [upd_ne ne]; exact h) (k.off m off) (t.off m off)
theorem Dm.upd {q : Addr} {o : HO} (m : Dm S H) (hm : isMut o = true) : Dm S (upd H q o) := fun a ha => by
  by_cases e : a = q
  · subst e; exact ⟨o, upd_same, hm⟩
  · rw [upd_ne e]; exact m a ha
theorem Dm.ins (m : Dm S H) (h : ∃ o, H p = some o ∧ isMut o = true) : Dm (insA S p) H := fun a ha => by
  rcases ha with ha | rfl
  · exact m a ha
  · exact h
end
/-! ### things whose lists within are one's own, too: fp all that may be changed -/
inductive Kids (K : PySem.W.Frag) (H : Hp) (S : Av) : List Addr → List PyData → Prop
  | nil : Kids K H S [] []
  | cons {q : Addr} {xs : List V} {es : List PyData} {qs : List Addr} {ds : List PyData} : H q = some (.lst xs) → DenL K H S xs es → q ∉ qs → Kids K H S qs ds → Kids K H S (q :: qs) (.list es :: ds)
inductive DeepO (K : PySem.W.Frag) (H : Hp) (S : Av) : List Addr → Addr → PyData → Prop
  | tpl {p : Addr} {qs : List Addr} {ds : List PyData} : H p = some (.tup (qs.map V.ref)) → Kids K H S qs ds → DeepO K H S qs p (.tuple ds)
  | lst {p : Addr} {qs : List Addr} {ds : List PyData} : H p = some (.lst (qs.map V.ref)) → p ∉ qs → Kids K H S qs ds → DeepO K H S (p :: qs) p (.list ds)
  | dct {p : Addr} {kvs : List (K2 × Addr × V)} {ep : Nat} {qs : List Addr} {ds : List PyData} : H p = some (DctO p kvs ep) → DenL K H S (kvs.map fun p => V.ref p.2.1) (kvs.map fun p => k2T p.1) → kvs.map (·.2.2) = qs.map V.ref → p ∉ qs → Kids K H S qs ds → DeepO K H S (p :: qs) p (.dict (dkv kvs ds))
section
variable {K : PySem.W.Frag} {H H' : Hp} {S S' : Av} {p : Addr} {d : PyData} {fp qs : List Addr} {ds : List PyData}
theorem Kids.same (e : Same H H') : ∀ {qs : List Addr} {ds : List PyData}, Kids K H S qs ds → Kids K H' S qs ds
  | _, _, .nil => .nil
  | _, _, .cons h t n r => .cons (e _ _ h) (t.same e) n (r.same e)
theorem Kids.sub (e : ∀ a, H a ≠ none → S' a → S a) : ∀ {qs : List Addr} {ds : List PyData}, Kids K H S qs ds → Kids K H S' qs ds
  | _, _, .nil => .nil
  | _, _, .cons h t n r => .cons h (t.sub e) n (r.sub e)
theorem Kids.mut : ∀ {qs : List Addr} {ds : List PyData}, Kids K H S qs ds → ∀ q ∈ qs, ∃ o, H q = some o ∧ isMut o = true
  | _, _, .nil, q, hq => absurd hq (by simp)
  | _, _, .cons h t n r, q, hq => by
    rcases List.mem_cons.mp hq with e | hq
    · rw [e]; exact ⟨_, h, rfl⟩
    · exact r.mut q hq
theorem Kids.den (e : ∀ a, H a ≠ none → S' a → S a) : ∀ {qs : List Addr} {ds : List PyData}, (∀ q ∈ qs, ¬ S' q) → Kids K H S qs ds → DenL K H S' (qs.map V.ref) ds
  | _, _, _, .nil => .nil
  | _, _, n, .cons h t _ r => .cons (.list (SqLS.new h (n _ (.head _))) (t.sub e)) (r.den e fun q hq => n q (.tail _ hq))
theorem Kids.upd {q : Addr} {o : HO} (m : Dm S H) (hq : S q) : ∀ {qs : List Addr} {ds : List PyData}, q ∉ qs → Kids K H S qs ds → Kids K (upd H q o) S qs ds
  | _, _, _, .nil => .nil
  | _, _, n, .cons h t n' r => .cons (by rw [upd_ne (fun z => n (by rw [z]; exact .head _))]; exact h) (t.off m fun b u z e => by rw [upd_ne (fun y => z (by rw [y]; exact hq))]; exact e) n' (r.upd m hq fun z => n (.tail _ z))
theorem DeepO.same (e : Same H H') (h : DeepO K H S fp p d) : DeepO K H' S fp p d := by
  cases h with
  | tpl h t => exact .tpl (e _ _ h) (t.same e)
  | lst h n t => exact .lst (e _ _ h) n (t.same e)
  | dct h k v n t => exact .dct (e _ _ h) (k.same e) v n (t.same e)
theorem DeepO.sub (e : ∀ a, H a ≠ none → S' a → S a) (h : DeepO K H S fp p d) : DeepO K H S' fp p d := by
  cases h with
  | tpl h t => exact .tpl h (t.sub e)
  | lst h n t => exact .lst h n (t.sub e)
  | dct h k v n t => exact .dct h (k.sub e) v n (t.sub e)
theorem DeepO.mut (h : DeepO K H S fp p d) : ∀ q ∈ fp, ∃ o, H q = some o ∧ isMut o = true := by
  cases h with
  | tpl h t => exact t.mut
  | lst h n t => exact fun q hq => (List.mem_cons.mp hq).elim (fun e => by rw [e]; exact ⟨_, h, rfl⟩) (t.mut q)
  | dct h k v n t => exact fun q hq => (List.mem_cons.mp hq).elim (fun e => by rw [e]; exact ⟨_, h, rfl⟩) (t.mut q)
theorem DeepO.den (h : DeepO K H S fp p d) (n : ∀ q ∈ fp, ¬ S' q) (e : ∀ a, H a ≠ none → S' a → S a) : Den K H S' (.ref p) d := by
  cases h with
  | tpl h t => exact .tuple (.inl (.inl h)) (t.den e n)
  | lst h _ t => exact .list (SqLS.new h (n _ (.head _))) (t.den e fun q hq => n q (.tail _ hq))
  | dct h k v _ t => exact .dict ⟨h, n _ (.head _)⟩ (k.sub e) (by rw [v]; exact t.den e fun q hq => n q (.tail _ hq))
theorem DeepO.upd {q : Addr} {o : HO} (m : Dm S H) (h : DeepO K H S fp p d) (hq : S q) (ne : q ∉ fp) : DeepO K (upd H q o) S fp p d := by
  have off : Off S H (L2.upd H q o) := fun b u n e => by
    rw [upd_ne (fun z => n (by rw [z]; exact hq))]; exact e
  cases h with
  | tpl h t => exact .tpl (by rw [upd_ne (fun z => m.tup (.inl h) (by rw [z]; exact hq))]; exact h) (t.upd m hq ne)
  | lst h n t => exact .lst (by rw [upd_ne (fun z => ne (by rw [z]; exact .head _))]; exact h) n (t.upd m hq fun z => ne (.tail _ z))
  | dct h k v n t => exact .dct (by rw [upd_ne (fun z => ne (by rw [z]; exact .head _))]; exact h) (k.off m off) v n (t.upd m hq fun z => ne (.tail _ z))
end
/-- slot i is one's own: the thing itself; with the lists within -/
abbrev Flt (M : List Nat) (i : Nat) : Prop := i ∈ M ∧ i + 1000 ∉ M
abbrev Dp (M : List Nat) (i : Nat) : Prop := i ∈ M ∧ i + 1000 ∈ M
abbrev Out0 (M : List Nat) (i : Nat) : Prop := i ∉ M ∧ i + 1000 ∉ M ∧ i < 1000
structure SubM (A B : List Nat) : Prop where
  sub : ∀ i ∈ A, i ∈ B
  dp : ∀ i ∈ A, i + 1000 ∈ B → i + 1000 ∈ A
theorem SubM.flt {A B : List Nat} {i : Nat} (h : SubM A B) (q : Flt A i) : Flt B i := ⟨h.sub i q.1, fun z => q.2 (h.dp i q.1 z)⟩
theorem SubM.deep {A B : List Nat} {i : Nat} (h : SubM A B) (q : Dp A i) : Dp B i := ⟨h.sub i q.1, h.sub _ q.2⟩
def Has (ρ : Rho) (i : Nat) : Prop := ∃ d : PyData, ρ[i]? = some (some d)
structure DeepF (K : PySem.W.Frag) (G : Gm) (M : List Nat) (H : Hp) (S : Av) (σ : St) (ρ : Rho) (F : Nat → List Addr) : Prop where
  own : ∀ i, Dp M i → ∀ d, ρ[i]? = some (some d) → ∃ p, σ[i]? = some (some (.ref p)) ∧ DeepO K H S (F i) p d ∧ ∀ q ∈ F i, S q ∧ ¬ G.S0 q ∧ G.H0 q = none
  disj : ∀ i, Dp M i → ∀ j, Dp M j → Has ρ i → Has ρ j → ∀ q, q ∈ F i → q ∈ F j → i = j
  flat : ∀ i, Flt M i → ∀ j, Dp M j → Has ρ i → Has ρ j → ∀ p, σ[i]? = some (some (.ref p)) → p ∉ F j
structure OwnS (K : PySem.W.Frag) (G : Gm) (M L : List Nat) (H : Hp) (S : Av) (σ : St) (ρ : Rho) : Prop where
  ds : DenS K H S M σ ρ
  s0 : ∀ a, G.S0 a → S a
  h0 : Same G.H0 H
  own : ∀ i, Flt M i → ∀ d, ρ[i]? = some (some d) → ∃ p, σ[i]? = some (some (.ref p)) ∧ OwnO K H S p d ∧ S p ∧ ¬ G.S0 p ∧ (i ∉ L → G.H0 p = none) ∧ (i ∈ L → (p, d) = G.lk i)
  apart : ∀ i, Flt M i → ∀ j, Flt M j → ∀ d e p, ρ[i]? = some (some d) → ρ[j]? = some (some e) → σ[i]? = some (some (.ref p)) → σ[j]? = some (some (.ref p)) → i = j
  bnd : ∀ a, S a → G.S0 a ∨ G.H0 a = none ∨ ∃ i ∈ L, a = (G.lk i).1
  lkd : ∀ i ∈ L, Flt M i ∧ ρ[i]? = some (some (G.lk i).2)
  deep : ∃ F, DeepF K G M H S σ ρ F
section
variable {K : PySem.W.Frag} {G : Gm} {M M' L : List Nat} {H H' : Hp} {S : Av} {σ : St} {ρ : Rho} {v : V} {d : PyData}
theorem OwnS.same (e : Same H H') (h : OwnS K G M L H S σ ρ) : OwnS K G M L H' S σ ρ :=
  ⟨h.ds.same e, h.s0, h.h0.trans e, fun i hi d q => let ⟨p, a, b, c⟩ := h.own i hi d q; ⟨p, a, b.same e, c⟩, h.apart, h.bnd, h.lkd, let ⟨F, f⟩ := h.deep; ⟨F, fun i hi d q => let ⟨p, a, b, c⟩ := f.own i hi d q; ⟨p, a, b.same e, c⟩, f.disj, f.flat⟩⟩
theorem OwnS.lks (h : OwnS K G M L H S σ ρ) : ∀ i ∈ L, S (G.lk i).1 := fun i hi => by
  obtain ⟨hm, e⟩ := h.lkd i hi
  obtain ⟨p, _, _, c, _, _, w⟩ := h.own i hm _ e
  rw [← w hi]; exact c
/-- all of it, as a caller's plain data -/
theorem OwnS.den (h : OwnS K G M L H S σ ρ) : DenS K H G.S0 [] σ ρ := by
  refine ⟨h.ds.1.sub h.s0, h.ds.2.1, fun i d _ q => ?_⟩
  by_cases hi : i ∈ M
  · by_cases hk : i + 1000 ∈ M
    · obtain ⟨F, f⟩ := h.deep
      obtain ⟨p, a, b, c⟩ := f.own i ⟨hi, hk⟩ d q
      exact ⟨_, a, b.den (fun q hq => (c q hq).2.1) fun a _ z => h.s0 a z⟩
    · obtain ⟨p, a, b, c, n, _⟩ := h.own i ⟨hi, hk⟩ d q
      exact ⟨_, a, b.den n fun a _ z => h.s0 a z⟩
  · obtain ⟨v, a, b⟩ := h.ds.2.2 i d hi q
    exact ⟨v, a, b.sub fun a _ z => h.s0 a z⟩
theorem get_set_ne {α : Type} {xs : List α} {i j : Nat} {x : α} (h : i ≠ j) : (xs.set i x)[j]? = xs[j]? := List.getElem?_set_ne h
theorem OwnS.set (h : OwnS K G M L H S σ ρ) (q : Den K H S v d) {i : Nat} (hi : i ∉ M) : OwnS K G M L H S (σ.set i (some v)) (ρ.set i (some d)) := by
  have ne : ∀ j ∈ M, i ≠ j := fun j hj e => hi (by rw [e]; exact hj)
  obtain ⟨F, f⟩ := h.deep
  refine ⟨h.ds.set q i, h.s0, h.h0, fun j hj e he => ?_, fun j hj k hk e e' p h1 h2 h3 h4 => ?_, h.bnd, fun j hj => ⟨(h.lkd j hj).1, by rw [get_set_ne (ne j (h.lkd j hj).1.1)]; exact (h.lkd j hj).2⟩, F, fun j hj e he => ?_, fun j hj k hk h1 h2 => ?_, fun j hj k hk h1 h2 p h3 => ?_⟩
  · rw [get_set_ne (ne j hj.1)] at he ⊢
    exact h.own j hj e he
  · rw [get_set_ne (ne j hj.1)] at h1 h3
    rw [get_set_ne (ne k hk.1)] at h2 h4
    exact h.apart j hj k hk e e' p h1 h2 h3 h4
  · rw [get_set_ne (ne j hj.1)] at he ⊢
    exact f.own j hj e he
  · unfold Has at h1 h2
    rw [get_set_ne (ne j hj.1)] at h1
    rw [get_set_ne (ne k hk.1)] at h2
    exact f.disj j hj k hk h1 h2
  · unfold Has at h1 h2
    rw [get_set_ne (ne j hj.1)] at h1 h3
    rw [get_set_ne (ne k hk.1)] at h2
    exact f.flat j hj k hk h1 h2 p h3
/-- some are given out of hand -/
theorem OwnS.frz (h : OwnS K G M L H S σ ρ) (hs : SubM M' M) (hl : ∀ i ∈ L, i ∈ M → i ∈ M') : ∃ S', OwnS K G M' L H S' σ ρ := by
  obtain ⟨F, f⟩ := h.deep
  have sb : ∀ a, (S a ∧ (¬ ∃ i, Flt M i ∧ i ∉ M' ∧ Has ρ i ∧ σ[i]? = some (some (.ref a))) ∧ ¬ ∃ i, Dp M i ∧ i ∉ M' ∧ Has ρ i ∧ a ∈ F i) → S a := fun a z => z.1
  refine ⟨fun a => S a ∧ (¬ ∃ i, Flt M i ∧ i ∉ M' ∧ Has ρ i ∧ σ[i]? = some (some (.ref a))) ∧ ¬ ∃ i, Dp M i ∧ i ∉ M' ∧ Has ρ i ∧ a ∈ F i, ⟨?_, ?_, ?_⟩, ?_, h.h0, ?_, ?_, ?_, fun i hi => ⟨⟨hl i hi (h.lkd i hi).1.1, fun z => (h.lkd i hi).1.2 (hs.sub _ z)⟩, (h.lkd i hi).2⟩, F, ?_, ?_, ?_⟩
  · exact h.ds.1.sub fun a z => z.1
  · exact h.ds.2.1
  · intro i d hi q
    by_cases hm : i ∈ M
    · by_cases hk : i + 1000 ∈ M
      · obtain ⟨p, a, b, c⟩ := f.own i ⟨hm, hk⟩ d q
        exact ⟨_, a, b.den (fun r hr z => z.2.2 ⟨i, ⟨hm, hk⟩, hi, ⟨d, q⟩, hr⟩) fun a _ z => z.1⟩
      · obtain ⟨p, a, b, c, _⟩ := h.own i ⟨hm, hk⟩ d q
        exact ⟨_, a, b.den (fun z => z.2.1 ⟨i, ⟨hm, hk⟩, hi, ⟨d, q⟩, a⟩) fun a _ z => z.1⟩
    · obtain ⟨v, a, b⟩ := h.ds.2.2 i d hm q
      exact ⟨v, a, b.sub fun a _ z => z.1⟩
  · intro a ha
    refine ⟨h.s0 a ha, fun ⟨i, hm, hi, ⟨d, q⟩, e⟩ => ?_, fun ⟨i, hm, hi, ⟨d, q⟩, e⟩ => ?_⟩
    · obtain ⟨p, e', b, c, n, _⟩ := h.own i hm d q
      rw [e] at e'; cases e'
      exact n ha
    · obtain ⟨p, e', b, c⟩ := f.own i hm d q
      exact (c a e).2.1 ha
  · intro i hi d q
    obtain ⟨p, a, b, c, n, w, w'⟩ := h.own i (hs.flt hi) d q
    refine ⟨p, a, b.sub fun a _ z => z.1, ⟨c, fun ⟨j, hj, hj', ⟨e, q'⟩, a'⟩ => ?_, fun ⟨j, hj, hj', q', a'⟩ => ?_⟩, n, w, w'⟩
    · have := h.apart i (hs.flt hi) j hj d e p q q' a a'
      subst this
      exact hj' hi.1
    · exact f.flat i (hs.flt hi) j hj ⟨d, q⟩ q' p a a'
  · exact fun i hi j hj => h.apart i (hs.flt hi) j (hs.flt hj)
  · exact fun a z => h.bnd a z.1
  · intro i hi d q
    obtain ⟨p, a, b, c⟩ := f.own i (hs.deep hi) d q
    refine ⟨p, a, b.sub fun a _ z => z.1, fun r hr => ⟨⟨(c r hr).1, fun ⟨j, hj, hj', q', a'⟩ => ?_, fun ⟨j, hj, hj', q', a'⟩ => ?_⟩, (c r hr).2⟩⟩
    · exact f.flat j hj i (hs.deep hi) q' ⟨d, q⟩ r a' hr
    · have := f.disj i (hs.deep hi) j hj ⟨d, q⟩ q' r hr a'
      subst this
      exact hj' hi.1
  · exact fun i hi j hj => f.disj i (hs.deep hi) j (hs.deep hj)
  · exact fun i hi j hj => f.flat i (hs.flt hi) j (hs.deep hj)
theorem flt_up {i j : Nat} (hi : Out0 M i) (hj : Flt M j) : Flt (i :: M) j := ⟨.tail _ hj.1, fun z => by rcases List.mem_cons.mp z with e | z; (have := hi.2.2; omega); exact hj.2 z⟩
theorem flt_dn {i j : Nat} (hj : Flt (i :: M) j) (ne : i ≠ j) : Flt M j := ⟨(List.mem_cons.mp hj.1).resolve_left fun z => ne z.symm, fun z => hj.2 (.tail _ z)⟩
theorem dp_dn {i j : Nat} (hi : Out0 M i) (hj : Dp (i :: M) j) : Dp M j := by
  have q : j + 1000 ∈ M := (List.mem_cons.mp hj.2).resolve_left fun z => by have := hi.2.2; omega
  refine ⟨(List.mem_cons.mp hj.1).resolve_left fun z => hi.2.1 (by rw [← z]; exact q), q⟩
/-- a new thing comes into slot i, one's own -/
theorem OwnS.take (h : OwnS K G M L H S σ ρ) {p : Addr} {i : Nat} (hn : H p = none) (e : Same H H') (o : OwnO K H' (insA S p) p d) (hi : Out0 M i) (hl : i ∉ L) (hz : i < ρ.length) : OwnS K G (i :: M) L H' (insA S p) (σ.set i (some (.ref p))) (ρ.set i (some d)) := by
  have np : ¬ S p := h.ds.1.free hn
  have sub : ∀ a, H a ≠ none → insA S p a → S a := fun a ha z => by
    rcases z with z | rfl
    · exact z
    · exact absurd hn ha
  have ne : ∀ j ∈ M, i ≠ j := fun j hj e => hi.1 (by rw [e]; exact hj)
  have hz' : i < σ.length := by rw [h.ds.2.1]; exact hz
  have gi : (ρ.set i (some d))[i]? = some (some d) := List.getElem?_set_self hz
  have gi' : (σ.set i (some (.ref p)))[i]? = some (some (.ref p)) := List.getElem?_set_self hz'
  obtain ⟨F, f⟩ := h.deep
  refine ⟨⟨(h.ds.1.same e).ins o.mut, by rw [List.length_set, List.length_set]; exact h.ds.2.1, fun j d' hj q => ?_⟩, fun a z => .inl (h.s0 a z), h.h0.trans e, fun j hj d' q => ?_, fun j hj k hk d1 d2 q h1 h2 h3 h4 => ?_, fun a z => ?_, fun j hj => ⟨flt_up hi (h.lkd j hj).1, by rw [get_set_ne (fun z => hl (by rw [z]; exact hj))]; exact (h.lkd j hj).2⟩,
    F, fun j hj d' q => ?_, fun j hj k hk h1 h2 => ?_, fun j hj k hk h1 h2 r h3 => ?_⟩
  · have hij : i ≠ j := fun z => hj (by rw [z]; exact .head _)
    rw [get_set_ne hij] at q ⊢
    obtain ⟨v, a, b⟩ := h.ds.2.2 j d' (fun z => hj (.tail _ z)) q
    exact ⟨v, a, (b.sub sub).same e⟩
  · by_cases hij : i = j
    · subst hij
      rw [gi] at q; cases q
      exact ⟨p, gi', o, .inr rfl, fun z => np (h.s0 p z), fun _ => h.h0.free hn, fun z => absurd z hl⟩
    · rw [get_set_ne hij] at q ⊢
      obtain ⟨q', a, b, c, n, w⟩ := h.own j (flt_dn hj hij) d' q
      exact ⟨q', a, (b.sub sub).same e, .inl c, n, w⟩
  · have key : ∀ m, Flt M m → ∀ (d' : PyData) (q : Addr), (ρ.set i (some d))[m]? = some (some d') → (σ.set i (some (.ref p)))[m]? = some (some (.ref q)) → q ≠ p := fun m hm d' q e1 e2 z => by
      rw [get_set_ne (ne m hm.1)] at e1 e2
      obtain ⟨q', a, b, _⟩ := h.own m hm d' e1
      rw [e2] at a; cases a
      subst z
      exact b.dom hn
    by_cases ej : i = j
    · by_cases ek : i = k
      · rw [← ej, ← ek]
      · rw [← ej, gi'] at h3
        cases h3
        exact absurd rfl (key k (flt_dn hk ek) d2 p h2 h4)
    · by_cases ek : i = k
      · rw [← ek, gi'] at h4
        cases h4
        exact absurd rfl (key j (flt_dn hj ej) d1 p h1 h3)
      · rw [get_set_ne ej] at h1 h3
        rw [get_set_ne ek] at h2 h4
        exact h.apart j (flt_dn hj ej) k (flt_dn hk ek) d1 d2 q h1 h2 h3 h4
  · rcases z with z | rfl
    · exact h.bnd a z
    · exact .inr (.inl (h.h0.free hn))
  · have hj' := dp_dn hi hj
    rw [get_set_ne (ne j hj'.1)] at q ⊢
    obtain ⟨q', a, b, c⟩ := f.own j hj' d' q
    exact ⟨q', a, (b.sub sub).same e, fun r hr => ⟨.inl (c r hr).1, (c r hr).2⟩⟩
  · have hj' := dp_dn hi hj
    have hk' := dp_dn hi hk
    unfold Has at h1 h2
    rw [get_set_ne (ne j hj'.1)] at h1
    rw [get_set_ne (ne k hk'.1)] at h2
    exact f.disj j hj' k hk' h1 h2
  · have hk' := dp_dn hi hk
    unfold Has at h1 h2
    rw [get_set_ne (ne k hk'.1)] at h2
    by_cases ej : i = j
    · rw [← ej, gi'] at h3
      cases h3
      obtain ⟨d2, e2⟩ := h2
      obtain ⟨q', a, b, c⟩ := f.own k hk' d2 e2
      intro z
      obtain ⟨o2, z2, _⟩ := b.mut p z
      rw [hn] at z2; cases z2
    · rw [get_set_ne ej] at h1 h3
      exact f.flat j (flt_dn hj ej) k hk' h1 h2 r h3
def insL (S : Av) (fp : List Addr) : Av := fun a => S a ∨ a ∈ fp
theorem Dm.insL {fp : List Addr} (m : Dm S H) (h : ∀ q ∈ fp, ∃ o, H q = some o ∧ isMut o = true) : Dm (insL S fp) H := fun a ha => by
  rcases ha with ha | ha
  · exact m a ha
  · exact h a ha
/-- one's own thing in slot i is changed -/
theorem OwnS.write (h : OwnS K G M L H S σ ρ) {p : Addr} {i : Nat} {o : HO} {d₀ : PyData} (hi : Flt M i) (hl : i ∉ L) (e0 : ρ[i]? = some (some d₀)) (e1 : σ[i]? = some (some (.ref p))) (hm : isMut o = true) (ow : OwnO K (upd H p o) S p d) : OwnS K G M L (upd H p o) S σ (ρ.set i (some d)) := by
  obtain ⟨p', a, b, c, n, w, _⟩ := h.own i hi d₀ e0
  rw [e1] at a; cases a
  have off : Off S H (upd H p o) := fun b u z e => by
    rw [upd_ne (fun y => z (by rw [y]; exact c))]; exact e
  have hz : i < ρ.length := (List.getElem?_eq_some_iff.mp e0).1
  have get : ∀ m d', (ρ.set i (some d))[m]? = some (some d') → ∃ d'', ρ[m]? = some (some d'') := fun m d' q => by
    by_cases him : i = m
    · subst him; exact ⟨_, e0⟩
    · rw [get_set_ne him] at q; exact ⟨_, q⟩
  have get2 : ∀ m, Has (ρ.set i (some d)) m → Has ρ m := fun m ⟨d', q⟩ => get m d' q
  have dne : ∀ j, Dp M j → i ≠ j := fun j hj z => hi.2 (by rw [z]; exact hj.2)
  obtain ⟨F, f⟩ := h.deep
  refine ⟨⟨h.ds.1.upd hm, by rw [List.length_set]; exact h.ds.2.1, fun j d' hj q => ?_⟩, h.s0, fun a u q => ?_, fun j hj d' q => ?_, fun j hj k hk d1 d2 q h1 h2 h3 h4 => ?_, h.bnd, fun j hj => ⟨(h.lkd j hj).1, by rw [get_set_ne (fun z => hl (by rw [z]; exact hj))]; exact (h.lkd j hj).2⟩,
    F, fun j hj d' q => ?_, fun j hj k hk h1 h2 => f.disj j hj k hk (get2 j h1) (get2 k h2), fun j hj k hk h1 h2 => f.flat j hj k hk (get2 j h1) (get2 k h2)⟩
  · have hij : i ≠ j := fun z => hj (by rw [← z]; exact hi.1)
    rw [get_set_ne hij] at q
    obtain ⟨v, a, b⟩ := h.ds.2.2 j d' hj q
    exact ⟨v, a, b.off h.ds.1 off⟩
  · have : a ≠ p := fun z => by subst z; rw [w hl] at q; cases q
    rw [upd_ne this]
    exact h.h0 a u q
  · by_cases hij : i = j
    · subst hij
      rw [List.getElem?_set_self hz] at q; cases q
      exact ⟨p, e1, ow, c, n, w, fun z => absurd z hl⟩
    · rw [get_set_ne hij] at q
      obtain ⟨q', a, b', c', n', w'⟩ := h.own j hj d' q
      have : q' ≠ p := fun z => by subst z; exact hij (h.apart i hi j hj d₀ d' q' e0 q e1 a)
      exact ⟨q', a, b'.upd h.ds.1 c hm this, c', n', w'⟩
  · obtain ⟨x1, y1⟩ := get j d1 h1
    obtain ⟨x2, y2⟩ := get k d2 h2
    exact h.apart j hj k hk x1 x2 q y1 y2 h3 h4
  · rw [get_set_ne (dne j hj)] at q
    obtain ⟨q', a, b', c'⟩ := f.own j hj d' q
    exact ⟨q', a, b'.upd h.ds.1 c (f.flat i hi j hj ⟨_, e0⟩ ⟨_, q⟩ p e1), c'⟩
noncomputable def cut (P : Prop) (o : Option HO) : Option HO := @ite _ P (Classical.propDecidable P) none o
theorem cut_pos {P : Prop} {o : Option HO} (h : P) : cut P o = none := if_pos h
theorem cut_neg {P : Prop} {o : Option HO} (h : ¬ P) : cut P o = o := if_neg h
/-- the frame seen from a loop: all that is not one's own is there to stay -/
noncomputable def Gm.base (G : Gm) (S : Av) (H : Hp) : Gm := { G with H0 := fun a => cut (S a ∧ G.H0 a = none) (H a) }
theorem base_same (h : Same G.H0 H) : Same G.H0 (G.base S H).H0 := fun a o q => (cut_neg (fun z => by rw [q] at z; cases z.2)).trans (h a o q)
theorem base_off : Off S H (G.base S H).H0 := fun a o n q => (cut_neg (fun z => n z.1)).trans q
theorem base_le : Same (G.base S H).H0 H := fun a o q => by
  have q : cut (S a ∧ G.H0 a = none) (H a) = some o := q
  by_cases h : S a ∧ G.H0 a = none
  · rw [cut_pos h] at q; cases q
  · rw [cut_neg h] at q; exact q
theorem OwnS.base (h : OwnS K G M L H S σ ρ) : OwnS K (G.base S H) M L H S σ ρ := by
  obtain ⟨F, f⟩ := h.deep
  refine ⟨h.ds, h.s0, base_le, fun i hi d q => ?_, h.apart, fun a z => ?_, h.lkd, F, fun i hi d q => let ⟨p, a, b, c⟩ := f.own i hi d q; ⟨p, a, b, fun r hr => ⟨(c r hr).1, (c r hr).2.1, cut_pos ⟨(c r hr).1, (c r hr).2.2⟩⟩⟩, f.disj, f.flat⟩
  · obtain ⟨p, a, b, c, n, w, w'⟩ := h.own i hi d q
    exact ⟨p, a, b, c, n, fun hl => cut_pos ⟨c, w hl⟩, w'⟩
  · rcases h.bnd a z with y | y | y
    · exact .inl y
    · exact .inr (.inl (cut_pos ⟨z, y⟩))
    · exact .inr (.inr y)
theorem OwnS.unbase {G' : Gm} (s : Same G.H0 G'.H0) (e : G'.S0 = G.S0) (e' : G'.lk = G.lk) (h : OwnS K G' M L H S σ ρ) : OwnS K G M L H S σ ρ := by
  obtain ⟨F, f⟩ := h.deep
  refine ⟨h.ds, by rw [← e]; exact h.s0, s.trans h.h0, fun i hi d q => ?_, h.apart, fun a z => ?_, by rw [← e']; exact h.lkd, F, fun i hi d q => let ⟨p, a, b, c⟩ := f.own i hi d q; ⟨p, a, b, fun r hr => ⟨(c r hr).1, by rw [← e]; exact (c r hr).2.1, s.free (c r hr).2.2⟩⟩, f.disj, f.flat⟩
  · obtain ⟨p, a, b, c, n, w, w'⟩ := h.own i hi d q
    exact ⟨p, a, b, c, by rw [← e]; exact n, fun hl => s.free (w hl), by rw [← e']; exact w'⟩
  · rcases h.bnd a z with y | y | y
    · exact .inl (by rw [← e]; exact y)
    · exact .inr (.inl (s.free y))
    · exact .inr (.inr (by rw [← e']; exact y))
/-- what a loop walks, behind some turns -/
theorem OwnS.turn {G' : Gm} {S' : Av} {x : V} (s0 : ∀ a, G'.S0 a → S a) (sl : ∀ i ∈ L, S (G'.lk i).1) (h : OwnS K G' M L H S' σ ρ) (q : Den K G'.H0 S x d) : Den K H S' x d := by
  refine (q.sub fun a ha z => ?_).same h.h0
  rcases h.bnd a z with y | y | ⟨i, hi, rfl⟩
  · exact s0 a y
  · exact absurd y ha
  · exact sl i hi
end
end L2
namespace L2
open PySem PySem.Spec PyProof.Rows
/-! ### statements -/
/-- an answer: plain; a new thing that nobody else holds; a new thing with new lists within -/
inductive Fr where
  | pl | nw | dp
/-- what is wanted behind a statement -/
def OutQ (K : PySem.W.Frag) (G : Gm) (M' Mb L : List Nat) (fr : Fr) (D : Ends) : Out → Prop
  | .nx ρ => ∀ σ' H' S', OwnS K G M' L H' S' σ' ρ → D.nx σ' H'
  | .rt d => match fr with
    | .nw => ∀ p H', Same G.H0 H' → G.H0 p = none → ¬ G.S0 p → OwnO K H' (insA G.S0 p) p d → D.rt (.ref p) H'
    | .dp => ∀ p fp H', Same G.H0 H' → (∀ q ∈ fp, G.H0 q = none ∧ ¬ G.S0 q) → DeepO K H' (insL G.S0 fp) fp p d → D.rt (.ref p) H'
    | .pl => ∀ v H', Same G.H0 H' → Den K H' G.S0 v d → D.rt v H'
  | .bk ρ => ∀ σ' H' S', OwnS K G Mb L H' S' σ' ρ → D.bk σ' H'
  | .ct ρ => ∀ σ' H' S', OwnS K G Mb L H' S' σ' ρ → D.ct σ' H'
def tDS (K : PySem.W.Frag) (G : Gm) (M L M' Mb : List Nat) (fr : Fr) (f : Rho → Option Out) : TS := fun D σ H => ∃ S ρ o, OwnS K G M L H S σ ρ ∧ f ρ = some o ∧ OutQ K G M' Mb L fr D o
def PDS (X : Cx) (G : Gm) (M L M' Mb : List Nat) (fr : Fr) (s : Stmt) (f : Rho → Option Out) : Prop := PS X s (tDS X.K G M L M' Mb fr f)
def PDSs (X : Cx) (G : Gm) (M L M' Mb : List Nat) (fr : Fr) (s : List Stmt) (f : Rho → Option Out) : Prop := PSs X s (tDS X.K G M L M' Mb fr f)
/-- the value is a new thing that nobody else holds -/
def tF (K : PySem.W.Frag) (M : List Nat) (f : Rho → Option PyData) : TE := fun σ H Q => ∃ S ρ d, DenS K H S M σ ρ ∧ f ρ = some d ∧ ∀ p H', Same H H' → H p = none → OwnO K H' (insA S p) p d → Q (.ref p) H'
def PF (X : Cx) (M : List Nat) (e : Expr) (f : Rho → Option PyData) : Prop := PE X e (tF X.K M f)
def flatF (f : Rho → Option PyData) : Rho → Option PyData := fun ρ => ob (f ρ) fun d => if flat d = true then some d else none
def flatO : PyData → Bool
  | .list ds => flatL ds
  | _ => false
def flatG (f : Rho → Option PyData) : Rho → Option PyData := fun ρ => ob (f ρ) fun d => if flatO d = true then some d else none
def seqO (u w : Rho → Option Out) (ρ : Rho) : Option Out := ob (u ρ) fun o => match o with | .nx ρ' => w ρ' | o => some o
section
variable {X : Cx} {G : Gm} {M M1 M2 M' Mb L : List Nat} {fr : Fr} {a b c : Expr} {es : List Expr} {f g : Rho → Option PyData} {p : Rho → Option Bool} {pos : Pos} {s1 : Stmt} {ss st1 st2 : List Stmt} {u w : Rho → Option Out}
theorem pd_of_pf (h : PF X M a f) : PD X M a f := h.weak fun σ H Q ⟨S, ρ, d, hs, e, q⟩ => ⟨S, ρ, d, hs, e, fun p H' g n o => q _ H' g (o.den (hs.1.free n) fun a _ z => .inl z)⟩
theorem OwnO.flat {K : PySem.W.Frag} {H : Hp} {S S' : Av} {p : Addr} {d : PyData} (fl : flatO d = true) (h : OwnO K H S p d) : OwnO K H S' p d := by
  cases h with
  | lst h t => exact .lst h (t.flat fl)
  | dct h k t => cases fl
/-! #### one behind the other -/
theorem pds_nil : PDSs X G M L M Mb fr [] sN := pss_nil.weak fun D σ H ⟨S, ρ, o, hs, e, q⟩ => by cases e; exact q σ H S hs
theorem pds_cons (h1 : PDS X G M L M1 Mb fr s1 u) (h2 : PDSs X G M1 L M2 Mb fr ss w) : PDSs X G M L M2 Mb fr (s1 :: ss) (seqO u w) :=
  (pss_cons h1 h2).weak fun D σ H ⟨S, ρ, o, hs, e, q⟩ => by
    obtain ⟨o1, e1, e⟩ := ob_some e
    refine ⟨S, ρ, o1, hs, e1, ?_⟩
    cases o1 with
    | nx ρ' => exact fun σ' H' S' hs' => ⟨S', ρ', o, hs', e, q⟩
    | rt d => cases e; exact q
    | bk d => cases e; exact q
    | ct d => cases e; exact q
theorem pds_one (h1 : PDS X G M L M' Mb fr s1 u) : PDSs X G M L M' Mb fr [s1] u := pss_one h1
def subB (A B : List Nat) : Bool := A.all fun i => B.contains i && (!(B.contains (i + 1000)) || A.contains (i + 1000))
theorem sub_of {A B : List Nat} (h : subB A B = true) : ∀ i ∈ A, i ∈ B := fun i hi => by
  have := List.all_eq_true.mp h i hi
  rw [Bool.and_eq_true] at this
  simpa using this.1
theorem subM_of {A B : List Nat} (h : subB A B = true) : SubM A B := ⟨sub_of h, fun i hi hk => by
  have := List.all_eq_true.mp h i hi
  rw [Bool.and_eq_true, Bool.or_eq_true] at this
  rcases this.2 with z | z
  · rw [Bool.not_eq_true', ← Bool.not_eq_true] at z
    exact absurd (by simpa using hk) z
  · simpa using z⟩
theorem OutQ.drop {K : PySem.W.Frag} {D : Ends} {o : Out} (h1 : subB M1 M' = true) (h2 : subB L M1 = true) (q : OutQ K G M1 Mb L fr D o) : OutQ K G M' Mb L fr D o := by
  cases o with
  | nx ρ => exact fun σ' H' S' hs => let ⟨S2, hs2⟩ := hs.frz (subM_of h1) fun i hi _ => sub_of h2 i hi; q σ' H' S2 hs2
  | rt d => exact q
  | bk ρ => exact q
  | ct ρ => exact q
theorem pds_ret (h : PD X [] a f) : PDS X G M L M' Mb .pl (.Return (some a) pos) (sRet f) :=
  (ps_ret h).weak fun D σ H ⟨S, ρ, o, hs, e, q⟩ => by
    obtain ⟨d, e1, e⟩ := ob_some e
    cases e
    exact ⟨G.S0, ρ, d, hs.den, e1, fun v H' g1 d1 => q v H' (hs.h0.trans g1) d1⟩
theorem pds_retF (h : PF X [] a f) : PDS X G M L M' Mb .nw (.Return (some a) pos) (sRet f) :=
  (ps_ret h).weak fun D σ H ⟨S, ρ, o, hs, e, q⟩ => by
    obtain ⟨d, e1, e⟩ := ob_some e
    cases e
    exact ⟨G.S0, ρ, d, hs.den, e1, fun p H' g1 n o => q p H' (hs.h0.trans g1) (hs.h0.free n) (hs.den.1.free n) o⟩
/-- a name's own thing -/
theorem pe_own (i : Nat) {x : Str} (hv : Vis X.env.scope x) (hN : X.N[i]? = some x := by rfl) (hd : (x == ("__debug__" : Str)) = false := by decide +kernel)
    (hcd : (x == ("__classdict__" : Str)) = false := by decide +kernel) : PE X (.Name x pos) (fun σ H Q => ∃ v, σ[i]? = some (some v) ∧ Q v H) := pe_var hN hv hd hcd
theorem vr_some {i : Nat} {ρ : Rho} {d : PyData} (e : vr i ρ = some d) : ρ[i]? = some (some d) := by
  have e : (ρ[i]?).join = some d := e
  cases h : ρ[i]? with
  | none => rw [h] at e; cases e
  | some o => rw [h] at e; exact congrArg some e
theorem pds_if (hc : PDT X [] c p) (h1 : PDSs X G M L M' Mb fr st1 u) (h2 : PDSs X G M L M' Mb fr st2 w) : PDS X G M L M' Mb fr (.If c st1 st2 pos) (sIf p u w) :=
  (ps_if hc h1 h2).weak fun D σ H ⟨S, ρ, o, hs, e, q⟩ => by
    obtain ⟨d, e1, e⟩ := ob_some e
    refine ⟨G.S0, ρ, d, hs.den, e1, fun H1 g1 => ?_⟩
    cases d with
    | true => exact iteT ⟨S, ρ, o, hs.same g1, e, q⟩
    | false => exact iteF ⟨S, ρ, o, hs.same g1, e, q⟩
/-! #### targets -/
def tDG (K : PySem.W.Frag) (G : Gm) (M L : List Nat) (g : PyData → Rho → Option Rho) : TG := fun v σ H Q => ∃ S ρ d ρ', OwnS K G M L H S σ ρ ∧ Den K H S v d ∧ g d ρ = some ρ' ∧ ∀ σ' H', Same H H' → OwnS K G M L H' S σ' ρ' → Q σ' H'
def tDGs (K : PySem.W.Frag) (G : Gm) (M L : List Nat) (g : List PyData → Rho → Option Rho) : TGs := fun vs σ H Q => ∃ S ρ ds ρ', OwnS K G M L H S σ ρ ∧ DenL K H S vs ds ∧ g ds ρ = some ρ' ∧ ∀ σ' H', Same H H' → OwnS K G M L H' S σ' ρ' → Q σ' H'
def PDG (X : Cx) (G : Gm) (M L : List Nat) (t : Expr) (g : PyData → Rho → Option Rho) : Prop := PG X t (tDG X.K G M L g)
def PDGs (X : Cx) (G : Gm) (M L : List Nat) (t : List Expr) (g : List PyData → Rho → Option Rho) : Prop := PGs X t (tDGs X.K G M L g)
theorem pdg_name (i : Nat) {x : Str} (hN : X.N.Nodup) (hx : Loc X.env.scope x) (hM : i ∉ M) (hi : X.N[i]? = some x := by rfl) (hf : X.fn x = true ∨ X.env.scope.names.lookup x = some .local := by first | exact .inl rfl | exact .inr rfl | assumption) : PDG X G M L (.Name x pos) (gNm i) :=
  (pg_name hN hi hx hf).weak fun v σ H Q ⟨S, ρ, d, ρ', hs, hd, e, q⟩ => by
    cases e
    exact q _ H (Same.refl H) (hs.set hd hM)
theorem pdgs_nil : PDGs X G M L [] gsN :=
  pgs_nil.weak fun v σ H Q ⟨S, ρ, d, ρ', hs, hd, e, q⟩ => by
    cases hd with
    | nil => cases e; exact ⟨rfl, q _ H (Same.refl H) hs⟩
    | cons a t => cases e
theorem pdgs_cons {t : Expr} {ts : List Expr} {g1 : PyData → Rho → Option Rho} {g2 : List PyData → Rho → Option Rho} (h1 : PDG X G M L t g1) (h2 : PDGs X G M L ts g2) (hs : (assignEach (t :: ts) X.env).map (·.2) = assign t X.env :: (assignEach ts X.env).map (·.2) := by rfl) :
    PDGs X G M L (t :: ts) (gsC g1 g2) :=
  (pgs_cons h1 h2 hs).weak fun v σ H Q ⟨S, ρ, d, ρ', hs, hd, e, q⟩ => by
    cases hd with
    | nil => cases e
    | cons a t =>
      obtain ⟨ρ1, e1, e⟩ := ob_some e
      exact ⟨_, _, rfl, S, ρ, _, ρ1, hs, a, e1, fun σ' H' g1 hs' => ⟨S, ρ1, _, ρ', hs', t.same g1, e, fun σ2 H2 g2 hs2 => q σ2 H2 (g1.trans g2) hs2⟩⟩
theorem pdg_tup {ts : List Expr} {k : Nat} {n : Nat} {g : List PyData → Rho → Option Rho} (hc : X.calm = true) (h : PDGs X G M L ts g) (hn : (assignEach ts X.env).length = n := by rfl) (hst : (assignEach ts X.env).findIdx? (·.1) = none := by rfl) : PDG X G M L (.Tuple ts k pos) (unpD n g) :=
  (pg_tup hc h hn hst).weak fun v σ H Q ⟨S, ρ, d, ρ', hs, hd, e, q⟩ => by
    cases hd with
    | @tuple a xs ds h t =>
      have e : (if ds.length = n then g ds ρ else none) = some ρ' := e
      split at e
      · rename_i hl
        exact ⟨_, _, rfl, h, by rw [t.length]; exact hl, S, ρ, _, ρ', hs, t, e, q⟩
      · cases e
    | _ => cases e
theorem pds_asg {tg : Expr} {g : PyData → Rho → Option Rho} (he : PD X M a f) (hg : PDG X G M L tg g) (hs : swapsWithSole [tg] a pos.line X.env = pure false := by rfl) (hw : swappedStores [tg] a X.env = pure none := by rfl)
    (h1 : (assignEach [tg] X.env).map (·.2) = [assign tg X.env] := by rfl) : PDS X G M L M Mb fr (.Assign [tg] a pos) (sAsg f g) :=
  (ps_asg he hg hs hw h1).weak fun D σ H ⟨S, ρ, o, hs, e, q⟩ => by
    obtain ⟨d, e1, e⟩ := ob_some e
    obtain ⟨ρ', e2, e⟩ := ob_some e
    cases e
    exact ⟨S, ρ, d, hs.ds, e1, fun v H1 g1 d1 => ⟨S, ρ, d, ρ', hs.same g1, d1, e2, fun σ2 H2 g2 hs2 => q σ2 H2 S hs2⟩⟩
/-! #### a name gets a value -/
theorem pds_set (i : Nat) {x : Str} {p' : Pos} (hN : X.N.Nodup) (hx : Loc X.env.scope x) (hi : X.N[i]? = some x) (hs : swapsWith a (some (.Name x p')) pos.line X.env = pure false) (hf : X.fn x = true ∨ X.env.scope.names.lookup x = some .local) (hM : i ∉ M) (he : PD X M a f) :
    PDS X G M L M Mb fr (.Assign [.Name x p'] a pos) (sSet i f) :=
  (ps_set hN hi hx he hs hf).weak fun D σ H ⟨S, ρ, o, hs, e, q⟩ => by
    obtain ⟨d, e1, e⟩ := ob_some e
    cases e
    exact ⟨S, ρ, d, hs.ds, e1, fun v H1 g1 d1 => q _ H1 S ((hs.same g1).set d1 hM)⟩
theorem pds_setB (i : Nat) {x : Str} {p' : Pos} (hN : X.N.Nodup) (hx : Loc X.env.scope x) (hi : X.N[i]? = some x) (hs : swapsWith a (some (.Name x p')) pos.line X.env = pure false) (hf : X.fn x = true ∨ X.env.scope.names.lookup x = some .local) (hM : i ∉ M) (he : PD X [] a f) :
    PDS X G M L M Mb fr (.Assign [.Name x p'] a pos) (sSet i (flatF f)) :=
  (ps_set hN hi hx he hs hf).weak fun D σ H ⟨S, ρ, o, hs, e, q⟩ => by
    obtain ⟨d, e1, e⟩ := ob_some e
    cases e
    obtain ⟨d', e3, e4⟩ := ob_some e1
    split at e4
    · rename_i hf
      cases e4
      exact ⟨G.S0, ρ, d, hs.den, e3, fun v H1 g1 d1 => q _ H1 S ((hs.same g1).set (d1.flat hf) hM)⟩
    · cases e4
def sTake (i : Nat) (f : Rho → Option PyData) : Rho → Option Out := fun ρ => if i < ρ.length then ob (f ρ) fun d => some (.nx (ρ.set i (some d))) else none
theorem pds_setF (i : Nat) {x : Str} {p' : Pos} (hN : X.N.Nodup) (hx : Loc X.env.scope x) (hi : X.N[i]? = some x) (hs : swapsWith a (some (.Name x p')) pos.line X.env = pure false) (hf : X.fn x = true ∨ X.env.scope.names.lookup x = some .local) (hM : Out0 M i) (hL : i ∉ L) (he : PF X M a f) :
    PDS X G M L (i :: M) Mb fr (.Assign [.Name x p'] a pos) (sTake i f) :=
  (ps_set hN hi hx he hs hf).weak fun D σ H ⟨S, ρ, o, hs, e, q⟩ => by
    unfold sTake at e
    split at e
    · rename_i hz
      obtain ⟨d, e1, e⟩ := ob_some e
      cases e
      exact ⟨S, ρ, d, hs.ds, e1, fun p H1 g1 n o => q _ H1 _ (hs.take n g1 o hM hL hz)⟩
    · cases e
/-! #### for -/
def forD (g : PyData → Rho → Option Rho) (body : Rho → Option Out) : List PyData → Rho → Option Out
  | [], ρ => some (.nx ρ)
  | d :: ds, ρ => ob (g d ρ) fun ρ1 => ob (body ρ1) fun o => match o with
    | .nx ρ' => forD g body ds ρ'
    | .ct ρ' => forD g body ds ρ'
    | .bk ρ' => some (.nx ρ')
    | .rt r => some (.rt r)
def sFor (fi : Rho → Option (List PyData)) (g : PyData → Rho → Option Rho) (u : Rho → Option Out) : Rho → Option Out := fun ρ => ob (fi ρ) fun ds => forD g u ds ρ
theorem OutQ.based {K : PySem.W.Frag} {G' : Gm} {D : Ends} {o : Out} (s : Same G.H0 G'.H0) (e : G'.S0 = G.S0) (e' : G'.lk = G.lk) (q : OutQ K G M' Mb L fr D o) : OutQ K G' M' Mb L fr D o := by
  cases o with
  | nx ρ => exact fun σ' H' S' hs => q σ' H' S' (hs.unbase s e e')
  | rt d =>
    cases fr with
    | nw => exact fun p H' h0 n n' o => q p H' (s.trans h0) (s.free n) (by rw [← e]; exact n') (by rw [← e]; exact o)
    | dp => exact fun p fp H' h0 n o => q p fp H' (s.trans h0) (fun r hr => ⟨s.free (n r hr).1, by rw [← e]; exact (n r hr).2⟩) (by rw [← e]; exact o)
    | pl => exact fun v H' h0 d => q v H' (s.trans h0) (by rw [← e]; exact d)
  | bk ρ => exact fun σ' H' S' hs => q σ' H' S' (hs.unbase s e e')
  | ct ρ => exact fun σ' H' S' hs => q σ' H' S' (hs.unbase s e e')
theorem pds_for {tg iter : Expr} {body : List Stmt} {fi : Rho → Option (List PyData)} {g : PyData → Rho → Option Rho} (hp : PassesOwn (model X.prog X.w) X.A X.env X.xe) (hc : X.calm = true) (hi : PDI X M tg iter fi) (hg : ∀ G, PDG X G M L tg g) (hb : ∀ G, PDSs X G M L M M fr body u)
    (hs : ∀ x, foldedSetIterable iter X.env x = pure x := by intro _; rfl) : PDS X G M L M Mb fr (.For tg iter body [] pos) (sFor fi g u) := by
  have hg' : PG X tg (fun v σ H Q => ∃ G, tDG X.K G M L g v σ H Q) := fun pins s σ H v u Q I r ⟨G, q⟩ => hg G pins s σ H v u Q I r q
  have hb' : PSs X body (fun D σ H => ∃ G, tDS X.K G M L M M fr u D σ H) := fun pins s σ H D I ⟨G, q⟩ => hb G pins s σ H D I q
  refine (ps_for hp hc hi hg' hb' hs).weak fun D σ H ⟨S, ρ, o, os, e, q⟩ => ?_
  obtain ⟨ds, e1, e⟩ := ob_some e
  refine ⟨S, ρ, ds, os.ds, e1, fun J H1 g1 hJ0 => ?_⟩
  have os1 := os.same g1
  have hJ : IsIt X.K S J ((G.base S H1).H0) ds := hJ0 _ base_off
  have bs : Same G.H0 (G.base S H1).H0 := base_same os1.h0
  have bo := os1.base
  have sl := os1.lks
  generalize hG : G.base S H1 = G1 at hJ bs bo
  have eS : G1.S0 = G.S0 := by rw [← hG]; rfl
  have eL : G1.lk = G.lk := by rw [← hG]; rfl
  have sl1 : ∀ i ∈ L, S (G1.lk i).1 := by rw [eL]; exact sl
  have s01 : ∀ a, G1.S0 a → S a := by rw [eS]; exact os.s0
  refine ⟨fun i m σ' H' => m = ds.length - i ∧ i ≤ ds.length ∧ ∃ S' ρ o, OwnS X.K G1 M L H' S' σ' ρ ∧ forD g u (ds.drop i) ρ = some o ∧ OutQ X.K G M Mb L fr D o, ⟨ds.length, by simp, Nat.zero_le _, S, ρ, o, bo, e, q⟩, ?_⟩
  rintro i m σ' H' ⟨rfl, hi, S', ρ', o', hs', e', q'⟩
  by_cases hlt : i < ds.length
  · rw [List.drop_eq_getElem_cons hlt] at e'
    obtain ⟨ρ1, e2, e'⟩ := ob_some e'
    obtain ⟨o1, e3, e'⟩ := ob_some e'
    have key : ∀ N : St → Hp → Prop, OutQ X.K G1 M M L fr { D with nx := N, ct := N, bk := D.nx } o1 → ∀ x H2, J.yld i H' x H2 → ∃ G, tDG X.K G M L g x σ' H2 fun σ2 H2 => ∃ G, tDS X.K G M L M M fr u { D with nx := N, ct := N, bk := D.nx } σ2 H2 := fun N hN x H2 y => by
      obtain ⟨e4, yd⟩ := hJ.yld i H' x H2 hs'.h0 y
      exact ⟨G1, S', ρ', _, ρ1, hs'.same e4, yd _ (List.getElem?_eq_getElem hlt) S' fun y e q => (hs'.turn s01 sl1 q).same e4, e2, fun σ2 H3 g3 hs3 => ⟨G1, S', ρ1, o1, hs3, e3, hN⟩⟩
    refine .inr ⟨hJ.go i H' hs'.h0 hlt, ?_⟩
    have next : ∀ ρ2, forD g u (ds.drop (i + 1)) ρ2 = some o' → ∃ N : St → Hp → Prop, (∀ σ' H'', N σ' H'' → ∃ m', m' < ds.length - i ∧ (m' = ds.length - (i + 1) ∧ i + 1 ≤ ds.length ∧ ∃ S' ρ o, OwnS X.K G1 M L H'' S' σ' ρ ∧ forD g u (ds.drop (i + 1)) ρ = some o ∧ OutQ X.K G M Mb L fr D o)) ∧ ∀ σ2 H2 S2, OwnS X.K G1 M L H2 S2 σ2 ρ2 → N σ2 H2 := fun ρ2 e4 =>
      ⟨fun σ2 H2 => ∃ S2, OwnS X.K G1 M L H2 S2 σ2 ρ2, fun σ2 H2 ⟨S2, hs3⟩ => ⟨ds.length - (i + 1), by omega, rfl, hlt, S2, ρ2, o', hs3, e4, q'⟩, fun σ2 H2 S2 hs3 => ⟨S2, hs3⟩⟩
    cases o1 with
    | nx ρ2 =>
      obtain ⟨N, n1, n2⟩ := next ρ2 e'
      exact ⟨N, n1, key N fun σ3 H3 S3 hs3 => n2 σ3 H3 S3 hs3⟩
    | ct ρ2 =>
      obtain ⟨N, n1, n2⟩ := next ρ2 e'
      exact ⟨N, n1, key N fun σ3 H3 S3 hs3 => n2 σ3 H3 S3 hs3⟩
    | bk ρ2 =>
      cases e'
      exact ⟨fun _ _ => False, fun _ _ z => z.elim, key _ fun σ3 H3 S3 hs3 => q' σ3 H3 S3 (hs3.unbase bs eS eL)⟩
    | rt r =>
      cases e'
      refine ⟨fun _ _ => False, fun _ _ z => z.elim, key _ ?_⟩
      have q2 : OutQ X.K G1 M Mb L fr D (.rt r) := q'.based bs eS eL
      exact q2
  · have hi' : i = ds.length := by omega
    subst hi'
    rw [List.drop_length] at e'
    cases e'
    exact .inl ⟨hJ.stop H' hs'.h0, q' σ' H' S' (hs'.unbase bs eS eL)⟩
end
end L2
namespace L2
open PySem PySem.Spec PyProof.Rows
/-! ### defs -/
def outD : Out → Option PyData
  | .rt d => some d
  | .nx _ => some .none
  | _ => none
def outF : Out → Option PyData
  | .rt d => some d
  | _ => none
/-- a def's own start -/
def rho0 (n : Nat) (ds : List PyData) : Rho := ds.map some ++ List.replicate (n - ds.length) none
def G0 (H : Hp) (S : Av) : Gm := ⟨H, S, fun _ => (0, .none)⟩
theorem OwnS.start {K : PySem.W.Frag} {H : Hp} {S : Av} {vs : List V} {ds : List PyData} (m : Dm S H) (h : DenL K H S vs ds) (N : List Str) : OwnS K (G0 H S) [] [] H S (start N vs) (rho0 N.length ds) :=
  ⟨DenS.start m h N, fun _ z => z, Same.refl _, (fun _ h => nomatch h.1), (fun _ h => nomatch h.1), fun _ z => .inl z, (fun _ h => nomatch h), fun _ => [], (fun _ h => nomatch h.1), (fun _ h => nomatch h.1), (fun _ h => nomatch h.1)⟩
/-- the promise of a def that hands back a new thing -/
def spN (K : PySem.W.Frag) (n : Nat) (f : List PyData → Option PyData) : Sp := fun vs H Q _ => ∃ S ds d, Dm S H ∧ DenL K H S vs ds ∧ ds.length = n ∧ f ds = some d ∧ ∀ p H', Same H H' → H p = none → OwnO K H' (insA S p) p d → Q (.ref p) H'
/-- a def as it stands behind the top, with or without defaults -/
structure FunG (K : PySem.W.Frag) (x qual : Str) (st : Stmt) (f : Addr) (fd : FuncData) : Prop where
  ex : ∃ (oc dV : Value) (od : Option Addr) (kV doc pm : Value) (an : Option Addr) (cdv ct : Value) (osl : Array (Option Value)),
    fd = PySem.W.fnOf x qual (defArgs st) (defBody st) (defScope st) dV kV doc pm an cdv ct ∧ K.lookup f = some ⟨oc, od, .func fd, osl⟩ ∧ PySem.W.codeIn K cdv qual = true
  kp : PySem.W.keepIn K (.ref f) = true
theorem Fun.g {K : PySem.W.Frag} {x qual : Str} {st : Stmt} {f : Addr} {fd : FuncData} (F : Fun K x qual st f fd) : FunG K x qual st f fd := by
  obtain ⟨oc, od, kV, doc, pm, an, cdv, ct, osl, e, lk, hcd⟩ := F.ex
  exact ⟨⟨oc, _, od, kV, doc, pm, an, cdv, ct, osl, e, lk, hcd⟩, F.kp⟩
theorem fung_mk {K : PySem.W.Frag} {x qual : Str} {st : Stmt} {f : Addr} {oc : Value} {od an : Option Addr} {osl : Array (Option Value)} {dV kV doc pm cdv ct : Value} (l : K.lookup f = some ⟨oc, od, .func (PySem.W.fnOf x qual (defArgs st) (defBody st) (defScope st) dV kV doc pm an cdv ct), osl⟩)
    (c : PySem.W.codeIn K cdv qual = true) (k : PySem.W.keepIn K (.ref f) = true) : FunG K x qual st f (PySem.W.fnOf x qual (defArgs st) (defBody st) (defScope st) dV kV doc pm an cdv ct) := ⟨⟨oc, dV, od, kV, doc, pm, an, cdv, ct, osl, rfl, l, c⟩, k⟩
section
variable {P : Program} {w : World} {K : PySem.W.Frag} {mg : Str → Option Value} {base : Heap}
theorem FunG.ok {x qual : Str} {st : Stmt} {f : Addr} {fd : FuncData} {N ps : List Str} {k : Nat} {sp : Sp} (F : FunG K x qual st f fd) (S : FnScope N ps (defScope st)) (len : ∀ vs H Q E, sp vs H Q E → vs.length = ps.length)
    (hbody : ∀ (cdv : Value) (A : Around) (outer : List Env) (s : Shared) (H : Hp) (vs : List V) (Q : VK) (E : XK), Room k (A.deeper (envOfC qual (defScope st) s.heap.objs.size f cdv)) → sp vs H Q E →
      ∃ t, PSs (cxOf CX0 P w K mg base N qual (defScope st) f cdv A outer s H E).nox (defBody st) t ∧ t { nx := fun _ H' => Q .non H', rt := Q } (start N vs) H) : FnOk P w K mg base CX0 (k + 1) f fd ps sp := by
  obtain ⟨oc, dV, od, kV, doc, pm, an, cdv, ct, osl, rfl, lk, hcd⟩ := F.ex
  refine fn_of lk hcd S len fun A outer s H vs Q E hr hsp => ?_
  obtain ⟨t, h, q⟩ := hbody cdv A outer s H vs Q E hr hsp
  exact ⟨t, h.nox, q⟩
theorem FunG.pure {x qual : Str} {st : Stmt} {f : Addr} {fd : FuncData} {N ps : List Str} {k n : Nat} {u : Rho → Option Out} {M' : List Nat} (F : FunG K x qual st f fd) (S : FnScope N ps (defScope st)) (hn : ps.length = n)
    (hbody : ∀ (cdv : Value) (A : Around) (outer : List Env) (s : Shared) (H : Hp) (E : XK), Room k (A.deeper (envOfC qual (defScope st) s.heap.objs.size f cdv)) → ∀ G : Gm,
      PDSs (cxOf CX0 P w K mg base N qual (defScope st) f cdv A outer s H E).nox G [] [] M' [] .pl (defBody st) u) :
    FnOk P w K mg base CX0 (k + 1) f fd ps (spF K n fun ds => ob (u (rho0 N.length ds)) outD) := by
  refine F.ok S (fun vs H Q E h => ?_) (fun cdv A outer s H vs Q E hr h => ?_)
  · obtain ⟨_, ds, d, _, h1, h2, _⟩ := h
    rw [h1.length, h2, hn]
  · obtain ⟨Sv, ds, d, m, h1, h2, e, q⟩ := h
    obtain ⟨o, e1, e⟩ := ob_some e
    refine ⟨_, hbody cdv A outer s H E hr (G0 H Sv), Sv, rho0 N.length ds, o, OwnS.start m h1 N, e1, ?_⟩
    cases o with
    | rt r => cases e; exact q
    | nx ρ => cases e; exact fun σ' H' S' hs => q _ H' hs.h0 .none
    | bk ρ => cases e
    | ct ρ => cases e
theorem Fun.pure {x qual : Str} {st : Stmt} {f : Addr} {fd : FuncData} {N ps : List Str} {k n : Nat} {u : Rho → Option Out} {M' : List Nat} (F : Fun K x qual st f fd) (S : FnScope N ps (defScope st)) (hn : ps.length = n)
    (hbody : ∀ (cdv : Value) (A : Around) (outer : List Env) (s : Shared) (H : Hp) (E : XK), Room k (A.deeper (envOfC qual (defScope st) s.heap.objs.size f cdv)) → ∀ G : Gm,
      PDSs (cxOf CX0 P w K mg base N qual (defScope st) f cdv A outer s H E).nox G [] [] M' [] .pl (defBody st) u) :
    FnOk P w K mg base CX0 (k + 1) f fd ps (spF K n fun ds => ob (u (rho0 N.length ds)) outD) :=
  F.g.pure S hn hbody
theorem FunG.new {x qual : Str} {st : Stmt} {f : Addr} {fd : FuncData} {N ps : List Str} {k n : Nat} {u : Rho → Option Out} {M' : List Nat} (F : FunG K x qual st f fd) (S : FnScope N ps (defScope st)) (hn : ps.length = n)
    (hbody : ∀ (cdv : Value) (A : Around) (outer : List Env) (s : Shared) (H : Hp) (E : XK), Room k (A.deeper (envOfC qual (defScope st) s.heap.objs.size f cdv)) → ∀ G : Gm,
      PDSs (cxOf CX0 P w K mg base N qual (defScope st) f cdv A outer s H E).nox G [] [] M' [] .nw (defBody st) u) :
    FnOk P w K mg base CX0 (k + 1) f fd ps (spN K n fun ds => ob (u (rho0 N.length ds)) outF) := by
  refine F.ok S (fun vs H Q E h => ?_) (fun cdv A outer s H vs Q E hr h => ?_)
  · obtain ⟨_, ds, d, _, h1, h2, _⟩ := h
    rw [h1.length, h2, hn]
  · obtain ⟨Sv, ds, d, m, h1, h2, e, q⟩ := h
    obtain ⟨o, e1, e⟩ := ob_some e
    refine ⟨_, hbody cdv A outer s H E hr (G0 H Sv), Sv, rho0 N.length ds, o, OwnS.start m h1 N, e1, ?_⟩
    cases o with
    | rt r => cases e; exact fun p H' g n _ o => q p H' g n o
    | nx ρ => cases e
    | bk ρ => cases e
    | ct ρ => cases e
theorem Fun.new {x qual : Str} {st : Stmt} {f : Addr} {fd : FuncData} {N ps : List Str} {k n : Nat} {u : Rho → Option Out} {M' : List Nat} (F : Fun K x qual st f fd) (S : FnScope N ps (defScope st)) (hn : ps.length = n)
    (hbody : ∀ (cdv : Value) (A : Around) (outer : List Env) (s : Shared) (H : Hp) (E : XK), Room k (A.deeper (envOfC qual (defScope st) s.heap.objs.size f cdv)) → ∀ G : Gm,
      PDSs (cxOf CX0 P w K mg base N qual (defScope st) f cdv A outer s H E).nox G [] [] M' [] .nw (defBody st) u) :
    FnOk P w K mg base CX0 (k + 1) f fd ps (spN K n fun ds => ob (u (rho0 N.length ds)) outF) :=
  F.g.new S hn hbody
/-- a def that is known: how it is reached, what it is worth -/
structure Known (P : Program) (w : World) (K : PySem.W.Frag) (mg : Str → Option Value) (base : Heap) (x : Str) (n k : Nat) (h : List PyData → Option PyData) : Prop where
  ex : ∃ (f : Addr) (fd : FuncData) (ps : List Str), FnOk P w K mg base CX0 k f fd ps (spF K n h) ∧ mg x = some (.ref f) ∧ PySem.W.keepIn K (.ref f) = true ∧ Binds K fd ps []
structure KnownN (P : Program) (w : World) (K : PySem.W.Frag) (mg : Str → Option Value) (base : Heap) (x : Str) (n k : Nat) (h : List PyData → Option PyData) : Prop where
  ex : ∃ (f : Addr) (fd : FuncData) (ps : List Str), FnOk P w K mg base CX0 k f fd ps (spN K n h) ∧ mg x = some (.ref f) ∧ PySem.W.keepIn K (.ref f) = true ∧ Binds K fd ps []
theorem KnownN.known {x : Str} {n k : Nat} {h : List PyData → Option PyData} (F : KnownN P w K mg base x n k h) : Known P w K mg base x n k h := by
  obtain ⟨f, fd, ps, F, m, kp, b⟩ := F.ex
  exact ⟨f, fd, ps, F.imp fun vs H Q E ⟨S, ds, d, m, h1, h2, e, q⟩ => ⟨S, ds, d, m, h1, h2, e, fun p H' g n o => q _ H' g (o.den (m.free n) fun a _ z => .inl z)⟩, m, kp, b⟩
end
section
variable {X : Cx} {G : Gm} {M M' Mb L : List Nat} {fr : Fr} {a b c : Expr} {es : List Expr} {f g : Rho → Option PyData} {p : Rho → Option Bool} {pos : Pos} {u : Rho → Option Out}
theorem pd_known {x : Str} {p : Pos} {n k k' : Nat} {h : List PyData → Option PyData} {fs : Rho → Option (List PyData)} (F : Known X.prog X.w X.K X.mg X.base x n k h) (hr : Room k' X.A) (hk : k ≤ k') (hg : Gl X x) (ha : PDA X M (a :: es) fs) (hl : (a :: es).length = n)
    (hdb : (x == ("__debug__" : Str)) = false := by decide +kernel) (he : starEach (a :: es) X.env = (false, eval a X.env) :: starEach es X.env := by rfl) (hpl : (backTo pos (starEach es X.env)).any (·.1) = false := by rfl) :
    PD X M (.Call (.Name x p) (a :: es) [] pos) (evC n fs h) := by
  obtain ⟨f, fd, ps, F, m, kp, b⟩ := F.ex
  exact pd_call F (hr.mono hk) hg m kp b pass0 ha hl hdb he hpl
theorem pd_known0 {x : Str} {p : Pos} {k k' : Nat} {h : List PyData → Option PyData} (F : Known X.prog X.w X.K X.mg X.base x 0 k h) (hr : Room k' X.A) (hk : k ≤ k') (hg : Gl X x) (hdb : (x == ("__debug__" : Str)) = false := by decide +kernel) : PD X M (.Call (.Name x p) [] [] pos) (evC0 h) := by
  obtain ⟨f, fd, ps, F, m, kp, b⟩ := F.ex
  exact pd_call0 F (hr.mono hk) hg m kp b pass0 hdb
/-! #### new things -/
theorem pf_known {x : Str} {p : Pos} {n k k' : Nat} {h : List PyData → Option PyData} {fs : Rho → Option (List PyData)} (F : KnownN X.prog X.w X.K X.mg X.base x n k h) (hr : Room k' X.A) (hk : k ≤ k') (hg : Gl X x) (ha : PDA X M (a :: es) fs) (hl : (a :: es).length = n)
    (hdb : (x == ("__debug__" : Str)) = false := by decide +kernel) (he : starEach (a :: es) X.env = (false, eval a X.env) :: starEach es X.env := by rfl) (hpl : (backTo pos (starEach es X.env)).any (·.1) = false := by rfl) :
    PF X M (.Call (.Name x p) (a :: es) [] pos) (evC n fs h) := by
  obtain ⟨f, fd, ps, F, m, kp, b⟩ := F.ex
  refine (pe_call F (hr.mono hk) hg m kp b .nil pass0 ha hdb he hpl).weak fun σ H Q ⟨S, ρ, d, hs, e, q⟩ => ?_
  obtain ⟨ds, e1, e⟩ := ob_some e
  have e : (if ds.length = n then h ds else none) = some d := e
  split at e
  · rename_i hn
    exact ⟨S, ρ, ds, hs, e1, fun vs H1 g1 d1 => ⟨S, ds, d, hs.1.same g1, by rw [List.append_nil]; exact d1, hn, e, fun p H' g2 n o => q p H' (g1.trans g2) (g1.free n) o⟩⟩
  · cases e
/-- a new list, just laid -/
theorem OwnO.laid {K : PySem.W.Frag} {H : Hp} {S : Av} {p : Addr} {vs : List V} {ds : List PyData} (n : H p = none) (t : DenL K H S vs ds) : OwnO K (L2.upd H p (.lst vs)) (insA S p) p (.list ds) :=
  .lst upd_same ((t.sub fun a ha z => z.elim id fun y => absurd (by rw [y]; exact n) ha).same (Same.lay n))
theorem pf_lst {fs : Rho → Option (List PyData)} (h : PDA X M es fs) : PF X M (.List es pos) (evA fs lstD) :=
  (pe_lst h).weak fun σ H Q ⟨S, ρ, d, hs, e, q⟩ => by
    obtain ⟨xs, e1, e⟩ := ob_some e
    obtain ⟨hz, rfl⟩ := lstD_some e
    exact ⟨S, ρ, xs, hs, e1, fun vs H1 g1 d1 => ⟨Nat.le_of_lt (small1000 (by rw [d1.length]; exact hz)), fun p hp => q _ _ (g1.lay' hp) (g1.free hp) (OwnO.laid hp d1)⟩⟩
/-- a built-in's call that makes a new thing -/
def CallN (X : Cx) (f : Value) (g : List PyData → Option PyData) : Prop := CallR X f (fun vs H Q => ∃ S ds d, Dm S H ∧ DenL X.K H S vs ds ∧ g ds = some d ∧ ∀ p H', Same H H' → H p = none → OwnO X.K H' (insA S p) p d → Q (.ref p) H')
theorem pf_callB {id : String} {x : Str} {p : Pos} {h : List PyData → Option PyData} {fs : Rho → Option (List PyData)} (hc : CallN X (.builtin id) h) (hg : Gl X x) (hm : X.mg x = none) (hv : bootBuiltins x = some (.builtin id)) (ha : PDA X M (a :: es) fs) (hn : x ≠ "__name__" := by decide +kernel) (hdb : (x == ("__debug__" : Str)) = false := by decide +kernel)
    (he : starEach (a :: es) X.env = (false, eval a X.env) :: starEach es X.env := by rfl) (hpl : (backTo pos (starEach es X.env)).any (·.1) = false := by rfl) : PF X M (.Call (.Name x p) (a :: es) [] pos) (evA fs h) :=
  (pe_callB hc hg hm hv ha hn hdb he hpl).weak fun σ H Q ⟨S, ρ, d, hs, e, q⟩ => by
    obtain ⟨ds, e1, e⟩ := ob_some e
    exact ⟨S, ρ, ds, hs, e1, fun vs H1 g1 d1 => ⟨S, ds, d, hs.1.same g1, d1, e, fun p H' g2 n o => q p H' (g1.trans g2) (g1.free n) o⟩⟩
/-! #### a list grows, is emptied -/
def appD : PyData → PyData → Option PyData
  | .list ds, d => if ds.length < 1000 then some (.list (ds ++ [d])) else none
  | _, _ => none
def sApp (i : Nat) (f : Rho → Option PyData) : Rho → Option Out := fun ρ => ob (vr i ρ) fun l => ob (f ρ) fun d => ob (appD l d) fun l' => some (.nx (ρ.set i (some l')))
theorem appD_some {l d l' : PyData} (e : appD l d = some l') : ∃ ds, l = .list ds ∧ ds.length < 1000 ∧ l' = .list (ds ++ [d]) := by
  unfold appD at e
  split at e
  · split at e
    · rename_i hz; cases e; exact ⟨_, rfl, hz, rfl⟩
    · cases e
  · cases e
theorem Off.upd {S : Av} {H : Hp} {p : Addr} {o : HO} (c : S p) : Off S H (L2.upd H p o) := fun b u z e => by
  rw [upd_ne (fun y => z (by rw [y]; exact c))]; exact e
theorem pds_app (i : Nat) {x : Str} {px apos cpos : Pos} (hv : Vis X.env.scope x) (hM : Flt M i) (hL : i ∉ L) (he : PD X M a f) (hN : X.N[i]? = some x := by rfl) (hd : (x == ("__debug__" : Str)) = false := by decide +kernel) (hcd : (x == ("__classdict__" : Str)) = false := by decide +kernel)
    (hbase : attributeBase (.Name x px) "append" X.env (eval (.Name x px) X.env) = eval (.Name x px) X.env := by rfl)
    (hfew : ((backTo cpos (starEach [a] X.env)).all (fun x => !x.1) && (backToKw cpos (keywordEach [] X.env)).all (fun x => x.1.isSome)
      && decide ([a].length + ([] : List Keyword).length + (if ([] : List Keyword).isEmpty then 0 else 1) < 30)) = true := by rfl)
    (hline : (apos.endLine == cpos.line) = true := by rfl) (hs : starEach [a] X.env = (false, eval a X.env) :: starEach [] X.env := by rfl) (hplain : (backTo cpos (starEach [] X.env)).any (·.1) = false := by rfl)
    (hsw : swapsWith (.Call (.Attribute (.Name x px) "append" apos) [a] [] cpos) none pos.line X.env = pure false := by rfl) :
    PDS X G M L M Mb fr (.Expr (.Call (.Attribute (.Name x px) "append" apos) [a] [] cpos) pos) (sApp i f) :=
  (ps_expr (pe_bm PySem.F.plainAttrs_list PySem.F.slot_list_append PySem.F.type_list_append mt_append (pe_own i hv hN hd hcd) (pda_cons he pda_nil hs) hbase hfew hline hs hplain) hsw).weak fun D σ H ⟨S, ρ, o, os, e, q⟩ => by
    obtain ⟨l, e1, e⟩ := ob_some e
    obtain ⟨d, e2, e⟩ := ob_some e
    obtain ⟨l', e3, e⟩ := ob_some e
    cases e
    obtain ⟨ds, rfl, hz, rfl⟩ := appD_some e3
    obtain ⟨pp, a1, b1, c1, n1, w1, _⟩ := os.own i hM _ (vr_some e1)
    cases b1 with
    | @lst xs _ h t =>
      refine ⟨_, a1, .inl ⟨rfl, _, SqL.of h⟩, S, ρ, [d], os.ds, by show ob (f ρ) _ = _; rw [e2]; rfl, fun vs H2 g2 dl => ?_⟩
      obtain ⟨v, rfl, dv⟩ := dl.inv1
      have os2 := os.same g2
      refine ⟨pp, xs, v, rfl, rfl, g2 _ _ h, Nat.lt_of_lt_of_le (by rw [t.length]; exact hz) (Nat.le_of_lt (small1000 (Nat.le_refl _))), ?_⟩
      exact q _ _ _ (os2.write hM hL (vr_some e1) a1 rfl (.lst upd_same (((t.same g2).snoc dv).off os2.ds.1 (Off.upd c1))))
def sClr (i : Nat) : Rho → Option Out := fun ρ => ob (vr i ρ) fun l => match l with | .list _ => some (.nx (ρ.set i (some (.list [])))) | _ => none
theorem pds_clear (i : Nat) {x : Str} {px apos cpos : Pos} (hv : Vis X.env.scope x) (hM : Flt M i) (hL : i ∉ L) (hN : X.N[i]? = some x := by rfl) (hd : (x == ("__debug__" : Str)) = false := by decide +kernel) (hcd : (x == ("__classdict__" : Str)) = false := by decide +kernel)
    (hbase : attributeBase (.Name x px) "clear" X.env (eval (.Name x px) X.env) = eval (.Name x px) X.env := by rfl)
    (hline : (apos.endLine == cpos.line) = true := by rfl) (hsw : swapsWith (.Call (.Attribute (.Name x px) "clear" apos) [] [] cpos) none pos.line X.env = pure false := by rfl) :
    PDS X G M L M Mb fr (.Expr (.Call (.Attribute (.Name x px) "clear" apos) [] [] cpos) pos) (sClr i) :=
  (ps_expr (pe_bm0 PySem.F.plainAttrs_list PySem.F.slot_list_clear PySem.F.type_list_clear mt_clear (pe_own i hv hN hd hcd) hbase hline) hsw).weak fun D σ H ⟨S, ρ, o, os, e, q⟩ => by
    obtain ⟨l, e1, e⟩ := ob_some e
    split at e
    · cases e
      obtain ⟨pp, a1, b1, c1, n1, w1, _⟩ := os.own i hM _ (vr_some e1)
      cases b1 with
      | @lst xs _ h t => exact ⟨_, a1, .inl ⟨rfl, _, SqL.of h⟩, pp, xs, rfl, rfl, h, q _ _ _ (os.write hM hL (vr_some e1) a1 rfl (.lst upd_same .nil))⟩
    · cases e
/-! #### is -/
def isNone : PyData → Bool
  | .none => true
  | _ => false
def isD : PyData → PyData → Option PyData
  | x, .none => some (.bool (isNone x))
  | .bool b, .bool c => some (.bool (b == c))
  | _, _ => none
def isnD : PyData → PyData → Option PyData
  | x, .none => some (.bool (!isNone x))
  | .bool b, .bool c => some (.bool (!(b == c)))
  | _, _ => none
theorem isNone_den {K : PySem.W.Frag} {H : Hp} {S : Av} {v : V} {d : PyData} (h : Den K H S v d) : decide (v = .non) = isNone d := by cases h <;> rfl
theorem d_is : OpD X (compareOp .Is) isD := by
  intro pins s σ H x y v u Q I rx ry ⟨S, dx, dy, d, m, h1, h2, e, q⟩
  unfold isD at e
  split at e
  · cases e; cases h2
    exact op_isN pins s σ H x _ v u Q I rx ry ⟨rfl, by rw [isNone_den h1]; exact q _ H (Same.refl H) (.bool _)⟩
  · cases e; cases h1; cases h2
    cases (show v = Value.bool _ from rx); cases (show u = Value.bool _ from ry)
    exact is_bool (fin_bl I (q _ H (Same.refl H) (.bool _)) rfl)
  · cases e
end
end L2
namespace L2
open PySem PySem.Spec PyProof.Rows
section
variable {X : Cx} {G : Gm} {M M' Mb L : List Nat} {fr : Fr} {a b c : Expr} {es : List Expr} {f g : Rho → Option PyData} {p : Rho → Option Bool} {pos : Pos} {u : Rho → Option Out}
/-! #### a loop over one's own list, which it leaves as it is -/
/-! #### while, at most so many turns -/
/-! #### slices -/
def intD : PyData → Option Int
  | .int i => some i
  | _ => none
def PDO (X : Cx) (M : List Nat) (e : Option Expr) (f : Rho → Option (Option Int)) : Prop := PO X e (fun σ H Q => ∃ S ρ i, DenS X.K H S M σ ρ ∧ f ρ = some i ∧ ∀ H', Same H H' → Q i H')
def oN : Rho → Option (Option Int) := fun _ => some none
def oS (f : Rho → Option PyData) : Rho → Option (Option Int) := fun ρ => ob (f ρ) fun d => ob (intD d) fun i => some (some i)
theorem intD_some {d : PyData} {i : Int} (h : intD d = some i) : d = .int i := by cases d <;> first | (cases h; rfl) | cases h
theorem pdo_some (h : PD X M a f) : PDO X M (some a) (oS f) := fun pins s σ H Q I ⟨S, ρ, i, hs, e, q⟩ => by
  obtain ⟨d, e1, e⟩ := ob_some e
  obtain ⟨j, e2, e⟩ := ob_some e
  cases e
  cases intD_some e2
  exact po_some h pins s σ H Q I ⟨S, ρ, _, hs, e1, fun v H' g d => ⟨j, d.int_inv, q H' g⟩⟩
def cutD (ds : List PyData) (lo hi : Option Int) : List PyData := (ds.drop (HT.sIx ds.length 0 lo)).take (HT.sIx ds.length ds.length hi - HT.sIx ds.length 0 lo)
def sliD (x : PyData) (lo hi : Option Int) : Option PyData := match x with
  | .list ds => some (.list (cutD ds lo hi))
  | .tuple ds => if HT.sIx ds.length 0 lo = 0 ∧ HT.sIx ds.length ds.length hi = ds.length then none else some (.tuple (cutD ds lo hi))
  | _ => none
def evS (fa : Rho → Option PyData) (fl fh : Rho → Option (Option Int)) : Rho → Option PyData := fun ρ => ob (fa ρ) fun x => ob (fl ρ) fun l => ob (fh ρ) fun h => sliD x l h
theorem cutD_den {K : PySem.W.Frag} {H : Hp} {S : Av} {vs : List V} {ds : List PyData} (t : DenL K H S vs ds) (lo hi : Option Int) : DenL K H S (cutV vs lo hi) (cutD ds lo hi) := by
  unfold cutV cutD
  rw [t.length]
  exact (t.drop _).take _
theorem pd_slice {lo hi : Option Expr} {fl fh : Rho → Option (Option Int)} {p2 : Pos} (ha : PD X M a f) (hl : PDO X M lo fl) (hh : PDO X M hi fh) : PD X M (.Subscript a (.Slice lo hi none p2) pos) (evS f fl fh) :=
  (pe_slice (r := fun x lo hi H Q => rSlL X.K x lo hi H Q ∨ rSlT X.K x lo hi H Q) (sl_list.or sl_tup) ha hl hh).weak fun σ H Q ⟨S, ρ, d, hs, e, q⟩ => by
    obtain ⟨x, e1, e⟩ := ob_some e
    obtain ⟨l, e2, e⟩ := ob_some e
    obtain ⟨h, e3, e⟩ := ob_some e
    refine ⟨S, ρ, x, hs, e1, fun v H1 g1 d1 => ⟨S, ρ, l, hs.same g1, e2, fun H2 g2 => ⟨S, ρ, h, hs.same (g1.trans g2), e3, fun H3 g3 => ?_⟩⟩⟩
    have g13 := g1.trans (g2.trans g3)
    have d3 := d1.same (g2.trans g3)
    cases d3 with
    | list hq t =>
      cases e
      exact .inl ⟨_, _, rfl, hq.sq, fun p hp => q _ _ (g13.lay' hp) (.list (SqLS.new upd_same ((hs.1.same g13).free hp)) ((cutD_den t l h).same (Same.lay hp)))⟩
    | @tuple a' xs ds hq t =>
      have e : (if HT.sIx ds.length 0 l = 0 ∧ HT.sIx ds.length ds.length h = ds.length then none else some (PyData.tuple (cutD ds l h))) = some d := e
      split at e
      · cases e
      · rename_i hc
        cases e
        refine .inr ⟨_, _, rfl, hq, by rw [t.length]; exact hc, fun p hp => q _ _ (g13.lay' hp) (.tuple (SqT.of upd_same) ((cutD_den t l h).same (Same.lay hp)))⟩
    | _ => cases e
/-! #### tuple + tuple, beside int + int -/
def add2D (x y : PyData) : Option PyData := match x, y with
  | .int i, .int j => some (.int (i + j))
  | .tuple ds, .tuple es => if ds.length + es.length ≤ 1000 then some (.tuple (ds ++ es)) else none
  | _, _ => none
theorem cat_none {prog : Program} {w : World} {A : Around} {E : Value → Shared → Prop} {s : Shared} {t b : Addr} {vs ws : List Value} {Q : Value → Shared → Prop} (ht : IsTup s.heap t vs.toArray) (hb : IsTup s.heap b ws.toArray) (hv : vs = []) (h : Q (.ref b) s) :
    wpAny (model prog w) A (binaryOp .Add (.ref t) (.ref b)) Q E s := by
  obtain ⟨⟨cls, dd, data, sl⟩, ho, hc, n, hd⟩ := id ht
  obtain ⟨⟨cls2, dd2, data2, sl2⟩, ho2, hc2, n2, hd2⟩ := id hb
  simp only at hc hd hc2 hd2
  subst hc hd hc2 hd2
  exact concat_meets ⟨_, ho, rfl⟩ ⟨_, ho2, rfl⟩ noFill_tuple_add seq_tuple_add PySem.F.slot_tuple_add PySem.F.entry_tuple_add (PySem.F.args_tuple_add_2 _ _) (tuple_addW0 t b vs.toArray ws.toArray n n2 dd dd2 sl sl2 (by simp [hv])) ⟨ho, ho2, h⟩
theorem op_cat0 : OpR X (binaryOp .Add) (fun x y H Q => ∃ a b ys, x = .ref a ∧ y = .ref b ∧ SqT X.K H a [] ∧ SqT X.K H b ys ∧ Q (.ref b) H) := by
  intro pins s σ H x y v u Q I rx ry h
  obtain ⟨a, b, ys, rfl, rfl, ha, hb, q⟩ := h
  cases rx
  cases ry
  obtain ⟨its, r1, p1, _⟩ := I.tuple ha
  obtain ⟨its2, r2, p2, _⟩ := I.tuple hb
  exact cat_none p1 p2 (r1.nil_iff.mpr rfl) ⟨.ref b, H, I, rfl, q⟩
theorem d_add2 : OpD X (binaryOp .Add) add2D := by
  refine opD_of (r := fun x y H Q => rI0 (fun i j => .int (i + j)) x y H Q ∨ (rCatT X.K x y H Q ∨ (∃ a b ys, x = .ref a ∧ y = .ref b ∧ SqT X.K H a [] ∧ SqT X.K H b ys ∧ Q (.ref b) H))) (op_add.or (op_catT.or op_cat0)) fun x y dx dy d H S Q m h1 h2 e q => ?_
  unfold add2D at e
  split at e
  · cases e; cases h1; cases h2
    exact .inl ⟨_, _, rfl, rfl, q _ H (Same.refl H) (.int _)⟩
  · split at e
    · rename_i ds es hc
      cases e
      cases h1 with
      | tuple a1 t1 =>
        cases h2 with
        | tuple a2 t2 =>
          cases ds with
          | nil =>
            cases t1
            exact .inr (.inr ⟨_, _, _, rfl, rfl, a1, a2, q _ H (Same.refl H) (.tuple a2 t2)⟩)
          | cons d0 ds =>
            refine .inr (.inl ⟨_, _, _, _, rfl, rfl, a1, a2, fun z => ?_, ?_, fun z => ?_, fun z p hp => q _ _ (Same.lay hp) (.tuple (SqT.of upd_same) ((t1.append t2).same (Same.lay hp)))⟩)
            · subst z; cases t1
            · rw [t1.length, t2.length]
              exact Nat.le_of_lt (small1000 hc)
            · subst z; cases t2
              rw [List.append_nil] at q
              exact q _ H (Same.refl H) (.tuple a1 t1)
    · cases e
  · cases e
end
end L2
namespace L2
open PySem PySem.Spec PyProof.Rows
section
variable {X : Cx} {G : Gm} {M M1 M' Mb L : List Nat} {fr : Fr} {a b c : Expr} {es : List Expr} {f g : Rho → Option PyData} {p : Rho → Option Bool} {pos : Pos} {u : Rho → Option Out} {ss : List Stmt} {s1 : Stmt}
/-! #### a loop over a range, which hangs on no object -/
def PDR (X : Cx) (tg iter : Expr) (f : Rho → Option (List PyData)) : Prop := PI X tg iter (fun σ H R => ∃ S ρ ds, DenS X.K H S [] σ ρ ∧ f ρ = some ds ∧ ∀ J H', Same H H' → (∀ H2 S2, IsIt X.K S2 J H2 ds) → R J H')
theorem pdr_range1 {tg : Expr} {fs : Rho → Option (List PyData)} {p : Pos} (hg : Gl X "range") (hm : X.mg "range" = none) (ha : PDA X [] [a] fs) (hs : starEach [a] X.env = [(false, eval a X.env)] := by rfl) : PDR X tg (.Call (.Name "range" p) [a] [] pos) (evR fs rng1D) :=
  (pi_range1 hg hm ha hs).weak fun σ H R ⟨S, ρ, ds, hs, e, w⟩ => by
    obtain ⟨xs, e1, e⟩ := ob_some e
    refine ⟨S, ρ, xs, hs, e1, fun vs H1 g1 d1 => ?_⟩
    unfold rng1D at e
    split at e
    · rename_i j
      split at e
      · rename_i hj
        cases e
        obtain ⟨v, rfl, q⟩ := d1.inv1
        cases q
        exact ⟨j, rfl, by omega, by omega, w _ _ g1 fun _ _ => IsIt.rng 0 _⟩
      · cases e
    · cases e
theorem pds_forR {tg iter : Expr} {body : List Stmt} {fi : Rho → Option (List PyData)} {g : PyData → Rho → Option Rho} (hp : PassesOwn (model X.prog X.w) X.A X.env X.xe) (hc : X.calm = true) (hi : PDR X tg iter fi) (hg : PDG X G M L tg g) (hb : PDSs X G M L M M fr body u)
    (hs : ∀ x, foldedSetIterable iter X.env x = pure x := by intro _; rfl) : PDS X G M L M Mb fr (.For tg iter body [] pos) (sFor fi g u) := by
  refine (ps_for hp hc hi hg hb hs).weak fun D σ H ⟨S, ρ, o, os, e, q⟩ => ?_
  obtain ⟨ds, e1, e⟩ := ob_some e
  refine ⟨G.S0, ρ, ds, os.den, e1, fun J H1 g1 hJ => ?_⟩
  refine ⟨fun i m σ' H' => m = ds.length - i ∧ i ≤ ds.length ∧ ∃ S' ρ o, OwnS X.K G M L H' S' σ' ρ ∧ forD g u (ds.drop i) ρ = some o ∧ OutQ X.K G M Mb L fr D o, ⟨ds.length, by simp, Nat.zero_le _, S, ρ, o, os.same g1, e, q⟩, ?_⟩
  rintro i m σ' H' ⟨rfl, hi, S', ρ', o', hs', e', q'⟩
  by_cases hlt : i < ds.length
  · rw [List.drop_eq_getElem_cons hlt] at e'
    obtain ⟨ρ1, e2, e'⟩ := ob_some e'
    obtain ⟨o1, e3, e'⟩ := ob_some e'
    have key : ∀ N : St → Hp → Prop, OutQ X.K G M M L fr { D with nx := N, ct := N, bk := D.nx } o1 → ∀ x H2, J.yld i H' x H2 → tDG X.K G M L g x σ' H2 fun σ2 H2 => tDS X.K G M L M M fr u { D with nx := N, ct := N, bk := D.nx } σ2 H2 := fun N hN x H2 y => by
      obtain ⟨e4, yd⟩ := (hJ H' S').yld i H' x H2 (Same.refl _) y
      exact ⟨S', ρ', _, ρ1, hs'.same e4, yd _ (List.getElem?_eq_getElem hlt) S' fun y e q => q.same e4, e2, fun σ2 H3 g3 hs3 => ⟨S', ρ1, o1, hs3, e3, hN⟩⟩
    refine .inr ⟨(hJ H' S').go i H' (Same.refl _) hlt, ?_⟩
    have next : ∀ ρ2, forD g u (ds.drop (i + 1)) ρ2 = some o' → ∃ N : St → Hp → Prop, (∀ σ' H'', N σ' H'' → ∃ m', m' < ds.length - i ∧ (m' = ds.length - (i + 1) ∧ i + 1 ≤ ds.length ∧ ∃ S' ρ o, OwnS X.K G M L H'' S' σ' ρ ∧ forD g u (ds.drop (i + 1)) ρ = some o ∧ OutQ X.K G M Mb L fr D o)) ∧ ∀ σ2 H2 S2, OwnS X.K G M L H2 S2 σ2 ρ2 → N σ2 H2 := fun ρ2 e4 =>
      ⟨fun σ2 H2 => ∃ S2, OwnS X.K G M L H2 S2 σ2 ρ2, fun σ2 H2 ⟨S2, hs3⟩ => ⟨ds.length - (i + 1), by omega, rfl, hlt, S2, ρ2, o', hs3, e4, q'⟩, fun σ2 H2 S2 hs3 => ⟨S2, hs3⟩⟩
    cases o1 with
    | nx ρ2 =>
      obtain ⟨N, n1, n2⟩ := next ρ2 e'
      exact ⟨N, n1, key N fun σ3 H3 S3 hs3 => n2 σ3 H3 S3 hs3⟩
    | ct ρ2 =>
      obtain ⟨N, n1, n2⟩ := next ρ2 e'
      exact ⟨N, n1, key N fun σ3 H3 S3 hs3 => n2 σ3 H3 S3 hs3⟩
    | bk ρ2 =>
      cases e'
      exact ⟨fun _ _ => False, fun _ _ z => z.elim, key _ fun σ3 H3 S3 hs3 => q' σ3 H3 S3 hs3⟩
    | rt r =>
      cases e'
      have q2 : OutQ X.K G M Mb L fr D (.rt r) := q'
      exact ⟨fun _ _ => False, fun _ _ z => z.elim, key _ q2⟩
  · have hi' : i = ds.length := by omega
    subst hi'
    rw [List.drop_length] at e'
    cases e'
    exact .inl ⟨(hJ H' S').stop H' (Same.refl _), q' σ' H' S' hs'⟩
/-! #### the generator's forms: what hangs on a part that comes first stands behind it -/
end
end L2
namespace L2
open PySem PySem.Spec PyProof.Rows
/-! ### in, sum, all, any -/
def intsOf : List PyData → Option (List Int)
  | [] => some []
  | .int i :: r => ob (intsOf r) fun ns => some (i :: ns)
  | _ :: _ => none
def inOk (ds : List PyData) (x : PyData) : Bool := PyData.canLayAll0 ds && (x.canLay0 && decide (x.depth ≤ 63))
def inL (ds : List PyData) (x : PyData) : Bool := ds.any fun y => PyData.eqv y x
def inD (x y : PyData) : Option PyData := match y with
  | .list ds => if inOk ds x = true then some (.bool (inL ds x)) else none
  | .tuple ds => if inOk ds x = true then some (.bool (inL ds x)) else none
  | _ => none
def ninD (x y : PyData) : Option PyData := match y with
  | .list ds => if inOk ds x = true then some (.bool (!inL ds x)) else none
  | .tuple ds => if inOk ds x = true then some (.bool (!inL ds x)) else none
  | _ => none
section
variable {X : Cx}
theorem inOk_parts {ds : List PyData} {x : PyData} (h : inOk ds x = true) : PyData.canLayAll0 ds = true ∧ x.canLay0 = true ∧ x.depth ≤ 63 := by
  unfold inOk at h
  rw [Bool.and_eq_true, Bool.and_eq_true] at h
  exact ⟨h.1, h.2.1, of_decide_eq_true h.2.2⟩
theorem in_room {A : Around} {ds : List PyData} {x : PyData} (hd : x.depth ≤ 63) (hu : A.units + 64 < cLine) : A.units + 1 + min (PyData.depthAll ds) x.depth < cLine := by
  have := Nat.min_le_right (PyData.depthAll ds) x.depth
  omega
theorem d_notin {k : Nat} (hr : Room k X.A) : OpD X (compareOp .NotIn) ninD := by
  intro pins s σ H x y v u Q I rx ry h
  obtain ⟨S, dx, dy, d, m, h1, h2, e, q⟩ := h
  obtain ⟨as, q1⟩ := h1.reads I rx
  obtain ⟨bs, q2⟩ := h2.reads I ry
  unfold ninD at e
  split at e
  · split at e
    · rename_i hc
      obtain ⟨c1, c2, c3⟩ := inOk_parts hc
      cases e
      exact SeqAt.notIn_list_reads q2 q1 c1 c2 (in_room c3 hr.units) (fin_bl I (q _ H (Same.refl H) (.bool _)) rfl)
    · cases e
  · split at e
    · rename_i hc
      obtain ⟨c1, c2, c3⟩ := inOk_parts hc
      cases e
      exact SeqAt.notIn_tuple_reads q2 q1 c1 c2 (in_room c3 hr.units) (fin_bl I (q _ H (Same.refl H) (.bool _)) rfl)
    · cases e
  · cases e
end
section
variable {X : Cx} {G : Gm} {M M' Mb L : List Nat} {fr : Fr} {f : Rho → Option PyData} {p : Rho → Option Bool} {pos : Pos}
theorem tFcomp {K : PySem.W.Frag} {n k : Nat} {fi : Rho → Option (List PyData)} {g : PyData → Rho → Option Rho} (hg : GIn n k g) : ∀ σ H Q, tF K M (compG n k fi g p f) σ H Q → tComp k (tDI K M fi) (tDGc K M g) (tDT K M p) (tD K M f) σ H Q := by
  intro σ H Q ⟨S, ρ, d, hs, e, q⟩
  obtain ⟨ds, ys, e1, hn, hz, e2, rfl⟩ := compG_some e
  exact tDcompG hg σ H Q S ρ ds ys hs e1 hn hz e2 fun H' zs g2 dl D hD => q _ _ (g2.lay' hD) (g2.free hD) (OwnO.laid hD dl)
variable {elt iter tg : Expr} {ifs : List Expr} {x : Str} {N' : List Str} {px : Pos} {sc : Scope} {n k : Nat} {fi : Rho → Option (List PyData)} {g : PyData → Rho → Option Rho}
def swB (sc₀ sc : Scope) (t : Str) (pt p : Pos) : Bool := decide (sc₀.names.lookup t = some .local) && (pt.line == p.line) && !(sc.names.any fun (n, k) => n == t && (k == .local || k == .cell))
theorem sw_local {sc : Scope} {y : Str} {py : Pos} {sc₀ : Scope} (hsc : X.env.scope = sc₀) (h : swB sc₀ sc y py pos = true) : X.env.scope.names.lookup y = some .local := by
  subst hsc
  unfold swB at h
  rw [Bool.and_eq_true, Bool.and_eq_true] at h
  exact of_decide_eq_true h.1.1
theorem sw_of {elt : Expr} {gens : List Comprehension} {sc : Scope} {y : Str} {py : Pos} {line : Nat} {sc₀ : Scope} (hsc : X.env.scope = sc₀) (h : swB sc₀ sc y py pos = true) (hbk : X.env.blockKind = .function) : swapsWith (.ListComp elt gens sc pos) (some (.Name y py)) line X.env = pure true := by
  have h0 := sw_local hsc h
  subst hsc
  unfold swB at h
  rw [Bool.and_eq_true, Bool.and_eq_true] at h
  show pure (X.env.blockKind == .function && X.env.kindOf y == some .local && py.line == pos.line && !(sc.names.any fun (n, k) => n == y && (k == .local || k == .cell))) = pure true
  have e1 : (X.env.blockKind == ScopeKind.function) = true := by rw [hbk]; rfl
  have e2 : (X.env.kindOf y == some NameKind.local) = true := by
    show (X.env.scope.names.lookup y == some NameKind.local) = true
    rw [h0]; rfl
  rw [e1, e2, h.1.2, h.2]
  rfl
theorem pds_compG (j : Nat) {y : Str} {py spos : Pos} (O : CompOk X N' k sc) (gi : GIn n k g) (sc₀ : Scope) (hsc : X.env.scope = sc₀) (hB : swB sc₀ sc y py pos = true) (hM : Out0 M j) (hL : j ∉ L) (hi : PDI X M tg iter fi) (hg : ∀ cl C fp pins s H, PDGc (compCx X N' sc cl C fp pins s H) M tg g) (hq : ∀ cl C fp pins s H, PDTs (compCx X N' sc cl C fp pins s H) M ifs p) (he : ∀ cl C fp pins s H, PD (compCx X N' sc cl C fp pins s H) M elt f)
    (hj : X.N[j]? = some y := by rfl) (hbk : X.env.blockKind = .function := by rfl)
    (hs : ∀ v, foldedSetIterable iter X.env v = pure v := by intro _; rfl) : PDS X G M L (j :: M) Mb fr (.Assign [.Name y py] (.ListComp elt [⟨tg, iter, ifs, 0⟩] sc pos) spos) (sTake j (compG n k fi g p f)) :=
  (ps_comp (wg := tDGc X.K M g) (tt := tDT X.K M p) (te := tD X.K M f) O hj (sw_local hsc hB) hi hg hq he (sw_of hsc hB hbk) hs).weak fun D σ H ⟨S, ρ, o, hs, e, q⟩ => by
    unfold sTake at e
    split at e
    · rename_i hz
      obtain ⟨d, e1, e⟩ := ob_some e
      cases e
      exact tFcomp gi σ H _ ⟨S, ρ, d, hs.ds, e1, fun p H1 g1 n o => q _ H1 _ (hs.take n g1 o hM hL hz)⟩
    · cases e
theorem pds_comp (j : Nat) {y : Str} {py spos : Pos} (O : CompOk X N' 1 sc) (hx : N'[n]? = some x) (hl : lc1 sc x = true) (sc₀ : Scope) (hsc : X.env.scope = sc₀) (hB : swB sc₀ sc y py pos = true) (hM : Out0 M j) (hL : j ∉ L) (hi : PDI X M (.Name x px) iter fi) (hq : ∀ cl C fp pins s H, PDTs (compCx X N' sc cl C fp pins s H) M ifs p) (he : ∀ cl C fp pins s H, PD (compCx X N' sc cl C fp pins s H) M elt f)
    (hj : X.N[j]? = some y := by rfl) (hbk : X.env.blockKind = .function := by rfl)
    (hs : ∀ v, foldedSetIterable iter X.env v = pure v := by intro _; rfl) : PDS X G M L (j :: M) Mb fr (.Assign [.Name y py] (.ListComp elt [⟨.Name x px, iter, ifs, 0⟩] sc pos) spos) (sTake j (compR n fi p f)) := by
  rw [compG_name]
  exact pds_compG j O (gin_name (Nat.le_refl _)) sc₀ hsc hB hM hL hi (pg_comp O hx hl) hq he hj hbk hs
end
end L2
namespace L2
open PySem PySem.Spec PyProof.Rows
/-! ### comprehensions: the names, decided -/
def compOkB (N N' : List Str) (k : Nat) (sc₀ sc : Scope) : Bool :=
  decide (sc.kind = .function) && decide N.Nodup && decide N'.Nodup && decide (N'.length = N.length + k) && sc.names.all (fun y => decide (y.2 ≠ .cell)) && sc.names.all (fun y => decide (y.2 ≠ .local) || decide (sc.names.lookup y.1 = some .local)) &&
  (N.zip N').all (fun y => (decide (y.1 = y.2) && decide (sc.names.lookup y.2 ≠ some .local)) || decide (sc.names.lookup y.2 = none)) &&
  sc.names.all (fun y => decide (y.2 ≠ .free) || decide (sc₀.names.lookup y.1 = some .cell) || decide (sc₀.names.lookup y.1 = some .free))
theorem CompOk.of {X : Cx} {sc : Scope} {k : Nat} (N N' : List Str) (sc₀ : Scope) (hc : X.calm = true) (hN : X.N = N) (hs : X.env.scope = sc₀) (h : compOkB N N' k sc₀ sc = true) : CompOk X N' k sc := by
  subst hN
  subst hs
  unfold compOkB at h
  simp only [Bool.and_eq_true, decide_eq_true_eq, List.all_eq_true, Bool.or_eq_true] at h
  obtain ⟨⟨⟨⟨⟨⟨⟨h1, h2⟩, h2'⟩, h2l⟩, h3⟩, h4⟩, h7⟩, h8⟩ := h
  refine ⟨hc, h1, h2, h2', h2l, h3, fun y hy q => (h4 y hy).resolve_left (fun z => z q), fun i y hi e => ?_, fun y hy q => ?_⟩
  · have hz : (X.N.zip N')[i]? = some (X.N[i], y) := by
      rw [List.getElem?_zip_eq_some]
      exact ⟨List.getElem?_eq_getElem hi, e⟩
    rcases h7 _ (List.mem_of_getElem? hz) with ⟨q, w⟩ | q
    · refine .inl ⟨?_, w⟩
      rw [List.getElem?_eq_getElem hi]
      exact congrArg some q
    · exact .inr q
  · rcases h8 y hy with (z | z) | z
    · exact absurd q z
    · exact .inl z
    · exact .inr z
/-! ### the script's ints -/
theorem weight_mem : ∀ {ns : List Int} {n : Int}, n ∈ ns → PySem.W.WData.weight (.int n) ≤ PySem.W.WData.weightAll (ns.map .int)
  | m :: ns, n, h => by
    rw [List.map_cons, PySem.W.WData.weightAll]
    rcases List.mem_cons.mp h with rfl | h
    · omega
    · have := weight_mem h
      omega
theorem bits_of_script {ns : List Int} (h : PySem.W.WData.layableAll [.list (ns.map .int)] = true) : ∀ n ∈ ns, Builtin.Int.intBits n ≤ 2 ^ 20 := by
  intro n hn
  have h1 : PySem.W.WData.layable (.list (ns.map .int)) = true := by
    unfold PySem.W.WData.layableAll at h
    simpa using h
  unfold PySem.W.WData.layable at h1
  rw [Bool.and_eq_true] at h1
  have h2 := of_decide_eq_true h1.2
  rw [PySem.W.WData.weight] at h2
  have h3 := Nat.le_trans (weight_mem hn) h2
  rw [PySem.W.WData.weight] at h3
  exact h3
end L2
namespace Att
open PySem PySem.W PySem.Calls PyProof.Rows
theorem attach_callB {l : OpenLaw} {n : Nat} {q : Program} {loose : List Str} {XP : (Str → Option Value) → Heap → Prop} {YP : World → Heap → Prop} {d : DefRec}
    (hn : l.most = some n) (hdf : d.params.defaults = [])
    (call : ∀ (w : World) (s₀ s₁ : Shared) (mg mb : Str → Option Value) (fa : Addr) (o : Obj) (pm cd doc : Value) (a : Addr) (vs : List Value) (ns : List Int),
      Ground q loose [] XP w s₀ mg mb s₁.heap → YP w s₁.heap →
      s₁.heap.get? fa = some o → o.data = .func (docDef d.name d.params d.body d.scope pm cd doc) → s₁.heap.CodeRec cd d.name → mg d.name = some (.ref fa) →
      s₁.heap.get? a = some { cls := .type "list", data := .seq vs.toArray } → IntsAre vs ns → ns.length ≤ n → (∀ k ∈ ns, Builtin.Int.intBits k ≤ 2 ^ 20) → s₁.gens = #[] →
      codeAny (model l.prog w) callerA (.call (.ref fa) ⟨[.ref a], []⟩) (fun r s' => r = .ok (.ret (.bool true)) ∧ OldK s₁.heap s'.heap ∧ s'.os = s₁.os ∧ AllBare s'.gens) s₁) :
    WalkO q loose XP YP l.row.toRowW d [] (fun f vs => PySem.call f vs) := by
  intro w s₀ s₁ mg mb G Y fa o pm cd doc dV kV ho hd hcd hD hmg hg args vals as hpre hlay hrd hwl hlo
  obtain rfl : dV = .none := Dflts.none hD hdf
  obtain rfl : kV = .none := Dflts.noKw hD
  obtain ⟨a, vs, ns, rfl, rfl, hobj, hints, hlen⟩ := script_of hn hpre hwl
  refine enter_call (codeAny_mono (call w s₀ s₁ mg mb fa o pm cd doc a vs ns G Y ho (fd_plain hd) hcd hmg hobj hints hlen (L2.bits_of_script hlay) hg) fun r s' hq => ?_)
  obtain ⟨rfl, h2, h3, h4⟩ := hq
  exact ⟨.inl ⟨.bool true, .bool true, [], rfl, fun _ => rfl, .bool true, post_true l _, fun _ => ⟨List.Pairwise.nil, fun _ hm => (nomatch hm)⟩⟩, h2, h3, h4⟩
end Att
namespace L2
open PySem PySem.Spec PyProof.Rows
/-- what the law's def promises -/
def spLawT (K : PySem.W.Frag) (n : Nat) : Sp := fun vs H Q _ => ∃ (a : Addr) (ns : List Int), vs = [.ref a] ∧ SqL K H a (ns.map V.int) ∧ ns.length ≤ n ∧ (∀ k ∈ ns, Builtin.Int.intBits k ≤ 2 ^ 20) ∧ ∀ H', Q (.bl true) H'
theorem law_true {P : Program} {w : World} {K : PySem.W.Frag} {mg : Str → Option Value} {base : Heap} {CX : CXT} {k n : Nat} {f : Addr} {fd : FuncData} {ps : List Str} {h : List PyData → Option PyData} (F : FnOk P w K mg base CX k f fd ps (spF K 1 h))
    (e : ∀ ns : List Int, ns.length ≤ n → (∀ k ∈ ns, Builtin.Int.intBits k ≤ 2 ^ 20) → h [.list (ns.map .int)] = some (.bool true)) : FnOk P w K mg base CX k f fd ps (spLawT K n) :=
  F.imp fun vs H Q E ⟨a, ns, h1, h2, h3, h4, q⟩ => by
    subst h1
    exact ⟨fun _ => False, [.list (ns.map .int)], .bool true, (fun _ z => z.elim), .cons (.list (h2.imp (fun y => ⟨y, id⟩) id) (DenL.ints ns)) .nil, rfl, e ns h3 h4, fun v H' _ d => by rw [d.bool_inv]; exact q H'⟩
theorem walk_pure {l : PySem.W.OpenLaw} {n k : Nat} {q : Program} {loose : List Str} {XP : (Str → Option Value) → Heap → Prop} {YP : World → Heap → Prop} {d : DefRec} {K : Params → PySem.W.Frag} {x : Str}
    (hn : l.most = some n) (hn2 : n ≤ sizeLine) (hdf : d.params.defaults = []) (hr : Room k callerA)
    (hY : ∀ (w : World) (h : Heap), YP w h → (K w.params).In h)
    (F : ∀ (w : World) (mg : Str → Option Value) (fa : Addr) (h : Heap), (K w.params).In h → h.Ns mainGlobals mg → mg d.name = some (.ref fa) →
      ∃ fd : FuncData, (∀ (s : Shared) (u : Value), BindsTo s fd ⟨[u], []⟩ [(x, u)]) ∧
        ∀ base : Heap, (K w.params).In base → base.Ns mainGlobals mg → FnOk l.prog w (K w.params) mg base CX0 k fa fd [x] (spLawT (K w.params) n)) :
    PySem.W.WalkO q loose XP YP l.row.toRowW d [] (fun f vs => PySem.call f vs) := by
  refine Att.attach_callB hn hdf fun w s₀ s₁ mg mb fa o pm cd doc a vs ns G Y ho hd hcd hmg hobj hints hlen hbits hg => ?_
  have KX := hY w _ Y
  obtain ⟨fd, hb, hF⟩ := F w mg fa _ KX G.T.g hmg
  exact law_call KX G.T.g G.T.b G.T.builtins G.T.nolimit hg hobj hints (Nat.le_trans hlen hn2) hr hF hb (fun H hO hS => ⟨a, ns, rfl, hS, hlen, hbits, fun _ => rfl⟩) fun H e s' h => h
end L2
namespace L2
open PySem PySem.Spec PyProof.Rows
/-! ### less than, of data: ints, tuples of such -/
mutual
def ltX : PyData → PyData → Option Bool
  | .int i, .int j => some (decide (i < j))
  | .tuple xs, .tuple ys => ltXs xs ys
  | _, _ => none
def ltXs : List PyData → List PyData → Option Bool
  | [], [] => some false
  | [], _ :: _ => some true
  | _ :: _, [] => some false
  | x :: xs, y :: ys => if PyData.eqv x y = true then ltXs xs ys else ltX x y
end
def LtAt (A : Around) (s : Shared) (y x : Value) (b : Bool) : Prop := ∀ (prog : Program) (w : World) (E Q : Value → Shared → Prop), Q (.bool b) s → wpAny (model prog w) A (richCompare .Lt y x) Q E s
def LexAt (A : Around) (s : Shared) : List Value → List Value → Bool → Prop
  | [], [], r => r = false
  | [], _ :: _, r => r = true
  | _ :: _, [], r => r = false
  | y :: ys, x :: xs, r => ∃ e, SeqAt.EqAt A s y x e ∧ (e = true → LexAt A s ys xs r) ∧ (e = false → LtAt A s y x r)
section
open PySem.SeqAt
open PySem.AutoSeq1 (wpAny_loadPart')
open PySem.MeetsSeq PySem.MeetsSeq2 PySem.MeetsSeq3
theorem tuple_lt_lex (l b : Addr) (items items2 : Array Value) (n n2 : Nat) (dd dd2 : Option Addr) (sl sl2 : Array (Option Value)) :
    Meets (Builtin.«tuple.__lt__» ⟨[.ref l, .ref b], []⟩)
      (fun A R s => s.heap.get? l = some { cls := .type "tuple", dict := dd, data := .seq items n, slots := sl } ∧ s.heap.get? b = some { cls := .type "tuple", dict := dd2, data := .seq items2 n2, slots := sl2 } ∧
        ∃ r, LexAt A.in1 s items.toList items2.toList r ∧ R (.ok (.ret (.bool r))) s) :=
  .of_wp fun prog w A R s h => by
    obtain ⟨hp, g, d, tk, os⟩ := s; obtain ⟨hl, hb, r, hx, h⟩ := h
    have f2 := AutoSeq1.sub_tuple_tuple
    wp_walk using wpAny_loadPart' hl, wpAny_loadPart' hb, wpAny_forIn_list _ (fun rest b s' => b.1 = none ∧ s' = ⟨hp, g, d, tk, os⟩ ∧ ∃ (vs ws : List Value), rest = vs.zip ws ∧
      LexAt A.in1 ⟨hp, g, d, tk, os⟩ vs ws r ∧ vs.length + items2.size = ws.length + items.size) _
    case turn =>
      rintro ⟨y, x⟩ rest b s' ⟨hb', rfl, vs, ws, hz, hlx, hlen⟩
      cases vs with
      | nil => rw [List.zip_nil_left] at hz; cases hz
      | cons v vs =>
        cases ws with
        | nil => rw [List.zip_nil_right] at hz; cases hz
        | cons u ws =>
          rw [List.zip_cons_cons] at hz
          injection hz with hyx hrest
          injection hyx with hy hx'
          subst hy hx'
          simp only [List.length_cons] at hlen
          obtain ⟨e, he, h1, h2⟩ := hlx
          refine wpAny_bind (he prog w _ _ ?_)
          cases e with
          | true =>
            wp_walk
            exact ⟨rfl, rfl, _, _, hrest, h1 rfl, by omega⟩
          | false =>
            have hri := h2 rfl prog w
            wp_walk using hri
            exact ⟨_, rfl, by simpa using h⟩
    case fin =>
      rintro ⟨b1, b2⟩ s' ⟨hb', rfl, vs, ws, hz, hlx, hlen⟩
      simp only at hb'
      subst hb'
      have hv : r = decide (items.size < items2.size) := by
        cases vs with
        | nil =>
          cases ws with
          | nil =>
            simp only [List.length_nil] at hlen
            rw [show r = false from hlx]
            exact (decide_eq_false (by omega)).symm
          | cons c hw =>
            simp only [List.length_nil, List.length_cons] at hlen
            rw [show r = true from hlx]
            exact (decide_eq_true (by omega)).symm
        | cons a hv =>
          cases ws with
          | nil =>
            simp only [List.length_nil, List.length_cons] at hlen
            rw [show r = false from hlx]
            exact (decide_eq_false (by omega)).symm
          | cons c hw =>
            rw [List.zip_cons_cons] at hz
            cases hz
      rw [hv] at h
      wp_walk
      exact ⟨_, rfl, by simpa [Builtin.Tuple.tupleCompareSizes] using h⟩
    case h =>
      exact ⟨rfl, rfl, items.toList, items2.toList, rfl, hx, by simp [Nat.add_comm]⟩
end
theorem ltAt_tup {A : Around} {s : Shared} {l b : Addr} {items items2 : Array Value} {r : Bool} (hl : IsTup s.heap l items) (hb : IsTup s.heap b items2) (hu : A.units < cLine) (h : LexAt A.in1 s items.toList items2.toList r) : LtAt A s (.ref l) (.ref b) r := fun prog w E Q q => by
  obtain ⟨⟨cls, dd, data, sl⟩, ho, hc, n, hd⟩ := id hl
  obtain ⟨⟨cls2, dd2, data2, sl2⟩, ho2, hc2, n2, hd2⟩ := id hb
  simp only at hc hd hc2 hd2
  subst hc hd hc2 hd2
  exact richCompare_meets_room (op := .Lt) ⟨_, ho, rfl⟩ ⟨_, ho2, rfl⟩ PySem.F.slot_tuple_lt PySem.F.entry_tuple_lt (PySem.F.args_tuple_lt_2 _ _) (tuple_lt_lex l b items items2 n n2 dd dd2 sl sl2)
    ⟨ho, ho2, r, h, show Value.bool r ≠ Value.notImplemented ∧ Q (.bool r) s from ⟨(fun x => nomatch x), q⟩⟩ hu
theorem lexAt_reads {A : Around} {s : Shared} {m : Nat} (hu : A.units + m + 1 < cLine) (hit : ∀ (x y : PyData) (a b : Value) (as bs : List Addr) (r : Bool), x.depth ≤ m → Reads s.heap a x as → Reads s.heap b y bs → x.canLay0 = true → y.canLay0 = true → ltX x y = some r → LtAt A s a b r) :
    ∀ (xs ys : List PyData) (vs ws : List Value) (as bs : List Addr) (r : Bool), PyData.depthAll xs ≤ m → ReadsAll s.heap vs xs as → ReadsAll s.heap ws ys bs → PyData.canLayAll0 xs = true → PyData.canLayAll0 ys = true → ltXs xs ys = some r → LexAt A s vs ws r := by
  intro xs
  induction xs with
  | nil =>
    intro ys vs ws as bs r _ h1 h2 _ _ e
    cases h1
    cases ys with
    | nil => cases h2; rw [ltXs] at e; cases e; rfl
    | cons y ys => cases h2; rw [ltXs] at e; cases e; rfl
  | cons x xs ih =>
    intro ys vs ws as bs r hm h1 h2 c1 c2 e
    cases h1 with
    | cons rx rxs =>
      cases ys with
      | nil => cases h2; rw [ltXs] at e; cases e; rfl
      | cons y ys =>
        cases h2 with
        | cons ry rys =>
          have c1' : x.canLay0 = true ∧ PyData.canLayAll0 xs = true := by simpa [PyData.canLayAll0] using c1
          have c2' : y.canLay0 = true ∧ PyData.canLayAll0 ys = true := by simpa [PyData.canLayAll0] using c2
          have hd : max x.depth (PyData.depthAll xs) ≤ m := by rw [PyData.depthAll] at hm; exact hm
          have m1 := Nat.le_trans (Nat.le_max_left x.depth (PyData.depthAll xs)) hd
          have m2 := Nat.le_trans (Nat.le_max_right x.depth (PyData.depthAll xs)) hd
          rw [ltXs] at e
          refine ⟨PyData.eqv x y, SeqAt.eqAt_reads x y A s _ _ _ _ rx ry c1'.1 c2'.1 (by have := Nat.min_le_left x.depth y.depth; omega), fun q => ?_, fun q => ?_⟩
          · rw [if_pos q] at e
            exact ih ys _ _ _ _ r m2 rxs rys c1'.2 c2'.2 e
          · rw [if_neg (by rw [q]; exact Bool.false_ne_true)] at e
            exact hit x y _ _ _ _ r m1 rx ry c1'.1 c2'.1 e
theorem ltAt_reads : ∀ (n : Nat) (da db : PyData) (A : Around) (s : Shared) (a b : Value) (as bs : List Addr) (r : Bool), da.depth ≤ n → Reads s.heap a da as → Reads s.heap b db bs → da.canLay0 = true → db.canLay0 = true → A.units + n + 1 < cLine → ltX da db = some r → LtAt A s a b r := by
  intro n
  induction n with
  | zero =>
    intro da db A s a b as bs r hd ra rb ca cb hu e
    cases da with
    | int i =>
      cases db with
      | int j =>
        cases ra; cases rb
        rw [ltX] at e
        cases e
        exact fun prog w E Q q => HT.rcLt_int A s i _ j _ prog w E Q q
      | _ => simp [ltX] at e
    | tuple xs =>
      rw [PyData.depth] at hd
      omega
    | _ => simp [ltX] at e
  | succ n ih =>
    intro da db A s a b as bs r hd ra rb ca cb hu e
    cases da with
    | int i =>
      cases db with
      | int j =>
        cases ra; cases rb
        rw [ltX] at e
        cases e
        exact fun prog w E Q q => HT.rcLt_int A s i _ j _ prog w E Q q
      | _ => simp [ltX] at e
    | tuple xs =>
      cases db with
      | tuple ys =>
        rw [PyData.depth] at hd
        rw [ltX] at e
        cases ra with
        | tuple e1 c1 d1 t1 =>
          cases rb with
          | tuple e2 c2 d2 t2 =>
            refine ltAt_tup ⟨_, e1, c1, _, d1⟩ ⟨_, e2, c2, _, d2⟩ (by omega) ?_
            exact lexAt_reads (m := n) (by show A.units + 1 + n + 1 < cLine; omega) (fun x y a b as bs r hx r1 r2 k1 k2 e => ih x y A.in1 s a b as bs r hx r1 r2 k1 k2 (by show A.units + 1 + n + 1 < cLine; omega) e)
              xs ys _ _ _ _ r (by omega) t1 t2 (by simpa [PyData.canLay0] using ca) (by simpa [PyData.canLay0] using cb) e
      | _ => simp [ltX] at e
    | _ => simp [ltX] at e
def ltD2 (x y : PyData) : Option PyData := if SeqAt.shaped x = true ∧ SeqAt.shaped y = true ∧ x.depth ≤ 60 then ob (ltX x y) fun r => some (.bool r) else none
theorem d_lt2 {X : Cx} {k : Nat} (hr : Room k X.A) : OpD X (compareOp .Lt) ltD2 := by
  intro pins s σ H x y v u Q I rx ry ⟨S, dx, dy, d, m, h1, h2, e, q⟩
  obtain ⟨as, q1⟩ := h1.reads I rx
  obtain ⟨bs, q2⟩ := h2.reads I ry
  unfold ltD2 at e
  split at e
  · rename_i hc
    obtain ⟨r, e1, e⟩ := ob_some e
    cases e
    have hu := hr.units
    exact ltAt_reads 60 dx dy X.A s v u as bs r hc.2.2 q1 q2 (SeqAt.canLay_of_shaped hc.1) (SeqAt.canLay_of_shaped hc.2.1) (by omega) e1 X.prog X.w X.xe _ (fin_bl I (q _ H (Same.refl H) (.bool r)) rfl)
  · cases e
end L2
namespace L2
open PySem PySem.Spec PyProof.Rows PySem.W
/-! ### sorted, of data -/
/-- a run of the asking tree, by a given answer -/
def runC {α : Type} (lt : Nat → Nat → Option Bool) : KasT α → Option α
  | .ret a => some a
  | .ask i j k => ob (lt i j) fun b => runC lt (k b)
theorem runC_wp {α : Type} {cmp : Nat → Nat → (Bool → Shared → Prop) → Shared → Prop} {lt : Nat → Nat → Option Bool} {s : Shared} {Q : α → Shared → Prop} (hc : ∀ i j b C, lt i j = some b → C b s → cmp i j C s) :
    ∀ (t : KasT α) (a : α), runC lt t = some a → Q a s → t.kasWp cmp Q s
  | .ret x, a, e, q => by cases e; exact q
  | .ask i j k, a, e, q => by
    obtain ⟨b, e1, e2⟩ := ob_some e
    exact hc i j b _ e1 (runC_wp hc (k b) a e2 q)
section
variable {prog : Program} {w : World} {A : Around} {E : Value → Shared → Prop} {s : Shared}
/-- the heap at the asking: all but the list itself is kept -/
def Kept (a : Addr) (s s' : Shared) : Prop := ∀ b o, b ≠ a → s.heap.get? b = some o → s'.heap.get? b = some o
theorem sort_shell {a : Addr} {vs : List Value} {n : Nat} {P : PySem.Fin → Shared → Prop} {κ : SortKind} {p : Array Nat} (ho : s.heap.get? a = some (seqObj "list" vs.toArray n)) (h2 : 2 ≤ vs.length) (h64 : vs.length < 64)
    (hk : ∀ (s' : Shared) (Q : SortKind → Shared → Prop), Kept a s s' → Q κ s' → wpAny (model prog w) A (keyKind' vs.toArray) Q E s')
    (hr : ∀ (s' : Shared) (G : Array Nat → Shared → Prop), Kept a s s' → G p s' → (kas_sort vs.length).kasWp (kas_ask prog w A κ vs) G s')
    (h : P (.done (.ret .none)) { s with heap := sortedHeap s.heap a vs (p.toList.map fun i => vs.getD i Value.none).toArray }) :
    wpAny (model prog w) A (Builtin.«list.sort» ⟨[.ref a], []⟩) P E s := by
  have small : vs.length ≤ sizeLine := by rw [sizeLine_eq]; omega
  have lt := Heap.lt_size ho
  obtain ⟨e1, o1⟩ : ∃ e1, (s.heap.update a (Obj.mapSeq fun _ => #[])).get? a = some (seqObj "list" #[] e1) := ⟨_, get?_update_seq ho fun _ => #[]⟩
  rw [list_sort_plain]
  refine wpAny_bind (listItems_at ho rfl (wpAny_bind (listUpdate_at ho rfl (wpAny_bind (seqEpoch_at o1 rfl (wpAny_bind ?_))) (by simpa using small) (Nat.zero_le _))))
  refine wpAny_newTuple (wpAny_bind (wpAny_newList (wpAny_holding ?_) (Nat.zero_le _))) (by simpa using small)
  obtain ⟨h6, hE⟩ : ∃ h6, h6 = ((s.heap.update a (Obj.mapSeq fun _ => (#[] : Array Value))).push (seqObj "tuple" vs.toArray 0)).push (seqObj "list" #[] 0) := ⟨_, rfl⟩
  have kp : Kept a s { s with heap := h6 } := fun b o ne e => by
    show h6.get? b = some o
    rw [hE]
    refine Heap.get?_push_of_some _ (Heap.get?_push_of_some _ ?_)
    rw [Heap.get?_update_ne _ _ _ _ ne]
    exact e
  have o6 : h6.get? a = some (seqObj "list" #[] e1) := by
    rw [hE]
    exact Heap.get?_push_of_some _ (Heap.get?_push_of_some _ o1)
  show wpAny (model prog w) A _ P E { s with heap := ((s.heap.update a (Obj.mapSeq fun _ => (#[] : Array Value))).push (seqObj "tuple" vs.toArray 0)).push (seqObj "list" #[] 0) }
  rw [← hE]
  have n2 : ¬ vs.toArray.size < 2 := by rw [List.size_toArray]; omega
  dsimp only
  rw [if_neg n2, if_neg n2]
  refine wpAny_bind (hk _ _ kp ?_)
  refine wpAny_bind (wpAny_mono (kat_run (Q := fun st' s' => s' = { s with heap := h6 } ∧ arrOf st' = p.map (kas_item (vs.toArray.zip vs.toArray)) ∧ failedOf st' = none ∧ p.size = vs.length) rfl h2 h64
    (fun p' st' s' z har hf hg => ⟨hg.1, by rw [← hg.2]; exact har, hf, by rw [← hg.2]; exact z⟩) (hr _ (fun p' s' => s' = { s with heap := h6 } ∧ p' = p) kp ⟨rfl, rfl⟩)) ?_ fun _ _ e => e)
  rintro ⟨⟨⟩, st'⟩ s' ⟨rfl, har, hf, hz⟩
  dsimp only
  rw [kat_snds rfl har]
  refine wpAny_bind (seqEpoch_at o6 rfl (wpAny_bind (listUpdate_at o6 rfl ?_ (Nat.zero_le _) (by rw [List.size_toArray, List.length_map, Array.length_toList, hz]; omega))))
  rw [hf]
  simp only [bne_self_eq_false, Bool.false_eq_true, if_false]
  refine wpAny_pure ?_
  rw [hE]
  exact h
theorem sort_small {a : Addr} {vs : List Value} {n : Nat} {P : PySem.Fin → Shared → Prop} (ho : s.heap.get? a = some (seqObj "list" vs.toArray n)) (h2 : vs.length < 2)
    (h : P (.done (.ret .none)) { s with heap := sortedHeap s.heap a vs vs.toArray }) : wpAny (model prog w) A (Builtin.«list.sort» ⟨[.ref a], []⟩) P E s := by
  have small : vs.length ≤ sizeLine := by rw [sizeLine_eq]; omega
  obtain ⟨e1, o1⟩ : ∃ e1, (s.heap.update a (Obj.mapSeq fun _ => #[])).get? a = some (seqObj "list" #[] e1) := ⟨_, get?_update_seq ho fun _ => #[]⟩
  rw [list_sort_plain]
  refine wpAny_bind (listItems_at ho rfl (wpAny_bind (listUpdate_at ho rfl (wpAny_bind (seqEpoch_at o1 rfl (wpAny_bind ?_))) (by simpa using small) (Nat.zero_le _))))
  refine wpAny_newTuple (wpAny_bind (wpAny_newList (wpAny_holding ?_) (Nat.zero_le _))) (by simpa using small)
  obtain ⟨h6, hE⟩ : ∃ h6, h6 = ((s.heap.update a (Obj.mapSeq fun _ => (#[] : Array Value))).push (seqObj "tuple" vs.toArray 0)).push (seqObj "list" #[] 0) := ⟨_, rfl⟩
  have o6 : h6.get? a = some (seqObj "list" #[] e1) := by
    rw [hE]
    exact Heap.get?_push_of_some _ (Heap.get?_push_of_some _ o1)
  show wpAny (model prog w) A _ P E { s with heap := ((s.heap.update a (Obj.mapSeq fun _ => (#[] : Array Value))).push (seqObj "tuple" vs.toArray 0)).push (seqObj "list" #[] 0) }
  rw [← hE]
  have n2 : vs.toArray.size < 2 := by rw [List.size_toArray]; omega
  dsimp only
  rw [if_pos n2, if_pos n2]
  refine wpAny_bind (wpAny_pure ?_)
  rw [StateT.run_pure]
  refine wpAny_bind (wpAny_pure ?_)
  dsimp only
  have eo : Array.map (fun x => x.2) (vs.toArray.zip vs.toArray) = vs.toArray := by
    apply Array.toList_inj.mp
    simp [List.map_snd_zip]
  show wpAny (model prog w) A (seqEpoch a >>= _) P E { s with heap := h6 }
  refine wpAny_bind (seqEpoch_at o6 rfl (wpAny_bind ?_))
  rw [show Array.map (fun x => x.2) (arrOf (SortSt.mk' general' (vs.toArray.zip vs.toArray) #[] 7 none)) = vs.toArray from eo]
  refine listUpdate_at o6 rfl ?_ (Nat.zero_le _) (by rw [List.size_toArray]; omega)
  simp only [bne_self_eq_false, Bool.false_eq_true, if_false]
  refine wpAny_pure ?_
  rw [hE]
  exact h
theorem sorted_shell {l : Addr} {vs : List Value} {Q : Value → Shared → Prop} {κ : SortKind} {p : Array Nat} (hl : s.heap.IsList l vs.toArray) (h2 : 2 ≤ vs.length) (h64 : vs.length < 64)
    (hk : ∀ (s' : Shared) (Q : SortKind → Shared → Prop), (∀ b o, s.heap.get? b = some o → s'.heap.get? b = some o) → Q κ s' → wpAny (model prog w) A.in1.in1 (keyKind' vs.toArray) Q (fun _ _ => False) s')
    (hr : ∀ (s' : Shared) (G : Array Nat → Shared → Prop), (∀ b o, s.heap.get? b = some o → s'.heap.get? b = some o) → G p s' → (kas_sort vs.length).kasWp (kas_ask prog w A.in1.in1 κ vs) G s')
    (h : Q (.ref (s.heap.objs.size + 1)) { s with heap := sortedAll s.heap vs (p.toList.map fun i => vs.getD i Value.none).toArray }) :
    wpAny (model prog w) A (call (.builtin "sorted") [.ref l]) Q E s := by
  have small : vs.length ≤ sizeLine := by rw [sizeLine_eq]; omega
  refine Calls.call_function_entry kind_sorted plain_sorted entry_sorted (args_sorted1 _) ?_
  unfold Builtin.«sorted»
  refine wpAny_bind (m := checkCount "sorted" 1 1 _) (wpAny_pure (wpAny_bind (collect_list hl (wpAny_bind (wpAny_newList ?_ (by simpa using small))) (by simpa using small))))
  have zz : ((s.heap.push (seqObj "list" #[] 0)).update s.heap.objs.size (Obj.mapSeq (· ++ vs.toArray))).objs.size = s.heap.objs.size + 1 := by rw [Heap.size_update, size_push']
  obtain ⟨h3, hH⟩ : ∃ h3, h3 = ((s.heap.push (seqObj "list" #[] 0)).update s.heap.objs.size (Obj.mapSeq (· ++ vs.toArray))).push (seqObj "list" vs.toArray 0) := ⟨_, rfl⟩
  have oL : h3.get? (s.heap.objs.size + 1) = some (seqObj "list" vs.toArray 0) := by
    rw [hH, ← zz]
    exact Heap.get?_push_size _ rfl
  have keep : ∀ b o, s.heap.get? b = some o → h3.get? b = some o := fun b o e => by
    rw [hH]
    have hlt := Heap.lt_size e
    refine Heap.get?_push_of_some _ ?_
    rw [Heap.get?_update_ne _ _ _ _ (Nat.ne_of_lt hlt)]
    exact Heap.get?_push_of_some _ e
  show wpAny _ _ _ _ _ { s with heap := ((s.heap.push (seqObj "list" #[] 0)).update s.heap.objs.size (Obj.mapSeq (· ++ vs.toArray))).push (seqObj "list" vs.toArray 0) }
  rw [zz, ← hH]
  have k2 : ∀ s' : Shared, Kept (s.heap.objs.size + 1) { s with heap := h3 } s' → ∀ b o, s.heap.get? b = some o → s'.heap.get? b = some o := fun s' kp b o e => kp b o (Nat.ne_of_lt (Nat.lt_succ_of_lt (Heap.lt_size e))) (keep b o e)
  refine wpAny_bind (wpAny_holding (wpAny_call_entry slot_list_sort ⟨_, oL, rfl⟩ entry_list_sort (sort_shell (κ := κ) (p := p) oL h2 h64 (fun s' Q kp q => wpAny_mono (hk s' Q (k2 s' kp) q) (fun _ _ z => z) fun _ _ z => z.elim) (fun s' G kp q => hr s' G (k2 s' kp) q) ⟨_, rfl, ?_⟩) (args_list_sort _)))
  refine wpAny_pure ⟨_, rfl, ?_⟩
  have hA : sortedHeap h3 (s.heap.objs.size + 1) vs (p.toList.map fun i => vs.getD i Value.none).toArray = sortedAll s.heap vs (p.toList.map fun i => vs.getD i Value.none).toArray := by
    rw [hH]
    rfl
  rw [hA]
  exact h
theorem sorted_small {l : Addr} {vs : List Value} {Q : Value → Shared → Prop} (hl : s.heap.IsList l vs.toArray) (h2 : vs.length < 2)
    (h : Q (.ref (s.heap.objs.size + 1)) { s with heap := sortedAll s.heap vs vs.toArray }) :
    wpAny (model prog w) A (call (.builtin "sorted") [.ref l]) Q E s := by
  have small : vs.length ≤ sizeLine := by rw [sizeLine_eq]; omega
  refine Calls.call_function_entry kind_sorted plain_sorted entry_sorted (args_sorted1 _) ?_
  unfold Builtin.«sorted»
  refine wpAny_bind (m := checkCount "sorted" 1 1 _) (wpAny_pure (wpAny_bind (collect_list hl (wpAny_bind (wpAny_newList ?_ (by simpa using small))) (by simpa using small))))
  have zz : ((s.heap.push (seqObj "list" #[] 0)).update s.heap.objs.size (Obj.mapSeq (· ++ vs.toArray))).objs.size = s.heap.objs.size + 1 := by rw [Heap.size_update, size_push']
  obtain ⟨h3, hH⟩ : ∃ h3, h3 = ((s.heap.push (seqObj "list" #[] 0)).update s.heap.objs.size (Obj.mapSeq (· ++ vs.toArray))).push (seqObj "list" vs.toArray 0) := ⟨_, rfl⟩
  have oL : h3.get? (s.heap.objs.size + 1) = some (seqObj "list" vs.toArray 0) := by
    rw [hH, ← zz]
    exact Heap.get?_push_size _ rfl
  show wpAny _ _ _ _ _ { s with heap := ((s.heap.push (seqObj "list" #[] 0)).update s.heap.objs.size (Obj.mapSeq (· ++ vs.toArray))).push (seqObj "list" vs.toArray 0) }
  rw [zz, ← hH]
  refine wpAny_bind (wpAny_holding (wpAny_call_entry slot_list_sort ⟨_, oL, rfl⟩ entry_list_sort (sort_small oL h2 ⟨_, rfl, ?_⟩) (args_list_sort _)))
  refine wpAny_pure ⟨_, rfl, ?_⟩
  have hA : sortedHeap h3 (s.heap.objs.size + 1) vs vs.toArray = sortedAll s.heap vs vs.toArray := by
    rw [hH]
    rfl
  rw [hA]
  exact h
end
end L2
namespace L2
open PySem PySem.Spec PyProof.Rows PySem.W
def ltAtD (ds : List PyData) (i j : Nat) : Option Bool := match ds[i]?, ds[j]? with
  | some x, some y => ltX x y
  | _, _ => none
/-- the kind of a key: 0 a tuple that begins with an int, 1 one that begins with a tuple, 2 an int -/
def keyD : PyData → Nat
  | .tuple (.int _ :: _) => 0
  | .tuple (.tuple _ :: _) => 1
  | .int _ => 2
  | _ => 3
def pickD (ds : List PyData) (p : Array Nat) : Option PyData := if (p.toList.all fun i => decide (i < ds.length)) = true ∧ p.toList.length ≤ 1000 then some (.list (p.toList.map fun i => ds.getD i .none)) else none
def sortOk (k : Nat) (ds : List PyData) : Bool := (ds.all fun d => keyD d == k) && (decide (2 ≤ ds.length) && (decide (ds.length < 64) && (PyData.canLayAll0 ds && decide (PyData.depthAll ds ≤ 50))))
def sortedD : List PyData → Option PyData
  | [.list ds] => if ds.length < 2 then some (.list ds) else if sortOk 0 ds = true ∨ sortOk 1 ds = true then ob (runC (ltAtD ds) (kas_sort ds.length)) fun p => pickD ds p else none
  | _ => none
section
variable {prog : Program} {w : World} {A : Around} {s : Shared}
theorem katLex_reads {b fin : Bool} {m : Nat} {Q : Bool → Shared → Prop} {r : Bool} (hu : A.units + m + 1 < cLine) (q : Q r s) :
    ∀ (xs ys : List PyData) (vs ws : List Value) (as bs : List Addr) (i : Nat), PyData.depthAll xs ≤ m → ReadsAll s.heap vs xs as → ReadsAll s.heap ws ys bs → PyData.canLayAll0 xs = true → PyData.canLayAll0 ys = true → ltXs xs ys = some r →
      (b = true → i = 0 → ∀ x y, xs.head? = some x → ys.head? = some y → ∃ n k, x = .int n ∧ y = .int k) → fin = decide (xs.length < ys.length) → KatLex prog w A b fin Q (vs.zip ws) i s := by
  intro xs
  induction xs with
  | nil =>
    intro ys vs ws as bs i _ h1 h2 _ _ e _ hf
    cases h1
    rw [List.zip_nil_left]
    refine kat_nil ?_
    cases ys with
    | nil => rw [ltXs] at e; cases e; rw [hf]; simpa using q
    | cons y ys => rw [ltXs] at e; cases e; rw [hf]; simpa using q
  | cons x xs ih =>
    intro ys vs ws as bs i hm h1 h2 c1 c2 e hb hf
    cases h1 with
    | cons rx rxs =>
      cases ys with
      | nil =>
        cases h2
        rw [List.zip_nil_right]
        refine kat_nil ?_
        rw [ltXs] at e; cases e; rw [hf]; simpa using q
      | cons y ys =>
        cases h2 with
        | cons ry rys =>
          have c1' : x.canLay0 = true ∧ PyData.canLayAll0 xs = true := by simpa [PyData.canLayAll0] using c1
          have c2' : y.canLay0 = true ∧ PyData.canLayAll0 ys = true := by simpa [PyData.canLayAll0] using c2
          have hd : max x.depth (PyData.depthAll xs) ≤ m := by rw [PyData.depthAll] at hm; exact hm
          have m1 := Nat.le_trans (Nat.le_max_left x.depth (PyData.depthAll xs)) hd
          have m2 := Nat.le_trans (Nat.le_max_right x.depth (PyData.depthAll xs)) hd
          rw [ltXs] at e
          rw [List.zip_cons_cons]
          refine kat_cons (SeqAt.eqAt_reads x y A s _ _ _ _ rx ry c1'.1 c2'.1 (by have := Nat.min_le_left x.depth y.depth; omega) prog w _ _ (kat_go (fun z => ?_) fun z => ?_))
          · rw [if_pos z] at e
            refine kat_yes (ih ys _ _ _ _ (i + 1) m2 rxs rys c1'.2 c2'.2 e (fun _ z => by omega) ?_)
            rw [hf, List.length_cons, List.length_cons]
            exact decide_eq_decide.mpr (by omega)
          · rw [if_neg (by rw [z]; exact Bool.false_ne_true)] at e
            refine kat_no ?_
            cases hbi : (b && i == 0) with
            | true =>
              rw [Bool.and_eq_true] at hbi
              obtain ⟨n, k, rfl, rfl⟩ := hb hbi.1 (by simpa using hbi.2) x y rfl rfl
              cases rx; cases ry
              rw [ltX] at e
              cases e
              exact oneLt_int q
            | false =>
              exact kat_one _ _ (ltAt_reads m x y A s _ _ _ _ r m1 rx ry c1'.1 c2'.1 hu e prog w _ _ q)
theorem rAll_len {h : Heap} : ∀ {vs : List Value} {ds : List PyData} {as : List Addr}, ReadsAll h vs ds as → vs.length = ds.length
  | _, _, _, .nil => rfl
  | _, _, _, .cons _ t => by rw [List.length_cons, List.length_cons, rAll_len t]
theorem rAll_get {h : Heap} : ∀ {vs : List Value} {ds : List PyData} {as : List Addr} {i : Nat} {d : PyData}, ReadsAll h vs ds as → ds[i]? = some d → ∃ v bs, vs[i]? = some v ∧ Reads h v d bs
  | _, _, _, _, _, .nil, e => by simp at e
  | _, _, _, 0, _, .cons r _, e => by simp at e; subst e; exact ⟨_, _, rfl, r⟩
  | _, _, _, i + 1, d, .cons _ t, e => by
    obtain ⟨v, bs, h1, h2⟩ := rAll_get (i := i) (d := d) t (by simpa using e)
    exact ⟨v, bs, by simpa using h1, h2⟩
theorem canAll_get : ∀ {ds : List PyData} {i : Nat} {d : PyData}, PyData.canLayAll0 ds = true → ds[i]? = some d → d.canLay0 = true ∧ d.depth ≤ PyData.depthAll ds
  | [], _, _, _, e => by simp at e
  | x :: xs, 0, d, h, e => by
    have h' : x.canLay0 = true ∧ PyData.canLayAll0 xs = true := by simpa [PyData.canLayAll0] using h
    simp at e
    subst e
    exact ⟨h'.1, by rw [PyData.depthAll]; exact Nat.le_max_left _ _⟩
  | x :: xs, i + 1, d, h, e => by
    have h' : x.canLay0 = true ∧ PyData.canLayAll0 xs = true := by simpa [PyData.canLayAll0] using h
    obtain ⟨h1, h2⟩ := canAll_get (i := i) (d := d) h'.2 (by simpa using e)
    exact ⟨h1, Nat.le_trans h2 (by rw [PyData.depthAll]; exact Nat.le_max_right _ _)⟩
/-- the tuples' firsts -/
theorem katTups_of {h : Heap} {k : Nat} (hk : k < 2) : ∀ {vs : List Value} {ds : List PyData} {as : List Addr}, ReadsAll h vs ds as → (ds.all fun d => keyD d == k) = true → ∃ fs : List Value, KatTups h vs fs ∧ fs.length = vs.length ∧ ∀ (M : Model), ∀ f ∈ fs, Looks M h (typeOf f) (if k = 0 then Value.type "int" else Value.type "tuple")
  | _, _, _, .nil, _ => ⟨[], trivial, rfl, fun _ _ z => nomatch z⟩
  | _, d :: ds, _, .cons (d := _) r t, e => by
    rw [List.all_cons, Bool.and_eq_true] at e
    obtain ⟨fs, h1, h2, h3⟩ := katTups_of hk t e.2
    have e1 : keyD d = k := by simpa using e.1
    cases d with
    | tuple xs =>
      cases r with
      | @tuple a o its n xs' as' g1 g2 g3 g4 =>
        cases xs with
        | nil => rw [show keyD (.tuple []) = 3 from rfl] at e1; omega
        | cons x xs =>
          obtain ⟨v, rv, q1, rx⟩ := rAll_get (i := 0) g4 rfl
          have h0 : its[0]? = some v := by rw [← Array.getElem?_toList]; exact q1
          refine ⟨v :: fs, KatTups.cons g1 g2 g3 h0 h1, by rw [List.length_cons, List.length_cons, h2], fun M f hf => ?_⟩
          rcases List.mem_cons.mp hf with rfl | hf
          · cases x with
            | int n =>
              cases rx
              rw [show keyD (.tuple (.int n :: xs)) = 0 from rfl] at e1
              rw [if_pos e1.symm]
              exact Looks.of_pure rfl
            | tuple ys =>
              rw [show keyD (.tuple (.tuple ys :: xs)) = 1 from rfl] at e1
              cases rx with
              | tuple k1 k2 k3 k4 =>
                rw [if_neg (by omega), ← k2]
                exact (Looks.ld k1).andThen .now
            | none => rw [show keyD (.tuple (.none :: xs)) = 3 from rfl] at e1; omega
            | bool _ => rw [show keyD (.tuple (.bool _ :: xs)) = 3 from rfl] at e1; omega
            | str _ => rw [show keyD (.tuple (.str _ :: xs)) = 3 from rfl] at e1; omega
            | list _ => rw [show keyD (.tuple (.list _ :: xs)) = 3 from rfl] at e1; omega
            | dict _ => rw [show keyD (.tuple (.dict _ :: xs)) = 3 from rfl] at e1; omega
          · exact h3 M f hf
    | int n => rw [show keyD (.int n) = 2 from rfl] at e1; omega
    | none => rw [show keyD .none = 3 from rfl] at e1; omega
    | bool _ => rw [show keyD (.bool _) = 3 from rfl] at e1; omega
    | str _ => rw [show keyD (.str _) = 3 from rfl] at e1; omega
    | list _ => rw [show keyD (.list _) = 3 from rfl] at e1; omega
    | dict _ => rw [show keyD (.dict _) = 3 from rfl] at e1; omega
end
end L2
namespace L2
open PySem PySem.Spec PyProof.Rows PySem.W
section
variable {h h' : Heap}
mutual
theorem readsKeep (k : ∀ b o, h.get? b = some o → h'.get? b = some o) : ∀ {d : PyData} {v : Value} {as : List Addr}, Reads h v d as → d.canLay0 = true → Reads h' v d as
  | .none, _, _, r, _ => by cases r; exact .none
  | .bool _, _, _, r, _ => by cases r; exact .bool _
  | .int _, _, _, r, _ => by cases r; exact .int _ _
  | .str _, _, _, r, _ => by cases r; exact .str _ _
  | .list xs, _, _, r, c => by
    cases r with
    | list e q g t => exact .list (k _ _ e) q g (readsAllKeep k t (by simpa [PyData.canLay0] using c))
  | .tuple xs, _, _, r, c => by
    cases r with
    | tuple e q g t => exact .tuple (k _ _ e) q g (readsAllKeep k t (by simpa [PyData.canLay0] using c))
  | .dict _, _, _, _, c => by simp [PyData.canLay0] at c
theorem readsAllKeep (k : ∀ b o, h.get? b = some o → h'.get? b = some o) : ∀ {ds : List PyData} {vs : List Value} {as : List Addr}, ReadsAll h vs ds as → PyData.canLayAll0 ds = true → ReadsAll h' vs ds as
  | [], _, _, r, _ => by cases r; exact .nil
  | d :: ds, _, _, r, c => by
    have c' : d.canLay0 = true ∧ PyData.canLayAll0 ds = true := by simpa [PyData.canLayAll0] using c
    cases r with
    | cons r t => exact .cons (readsKeep k r c'.1) (readsAllKeep k t c'.2)
end
end
theorem ltX_tups {x y : PyData} {r : Bool} (hx : keyD x < 2) (e : ltX x y = some r) : ∃ xs ys, x = .tuple xs ∧ y = .tuple ys ∧ ltXs xs ys = some r := by
  cases x with
  | tuple xs =>
    cases y with
    | tuple ys => rw [ltX] at e; exact ⟨xs, ys, rfl, rfl, e⟩
    | _ => simp [ltX] at e
  | int n => simp [keyD] at hx
  | _ => simp [ltX] at e
theorem key_heads {k : Nat} {xs : List PyData} (e : keyD (.tuple xs) = k) (h0 : k = 0) : ∀ x, xs.head? = some x → ∃ n, x = .int n := by
  intro x hx
  cases xs with
  | nil => cases hx
  | cons y ys =>
    cases hx
    cases x with
    | int n => exact ⟨n, rfl⟩
    | _ => (first | (simp [keyD] at e; omega) | (simp only [keyD] at e; omega))
theorem getD_some {α : Type} {xs : List α} {i : Nat} {x d : α} (e : xs[i]? = some x) : xs.getD i d = x := by rw [List.getD_eq_getElem?_getD, e]; rfl
theorem n_sorted {X : Cx} {k : Nat} (hr : Room k X.A) : CallN X (.builtin "sorted") sortedD := by
  intro pins s σ H xs us Q I r ⟨S, ds, d, m, h1, e, q⟩
  unfold sortedD at e
  split at e
  · rename_i ds
    split at e
    · rename_i hlt
      cases e
      obtain ⟨v, rfl, hv⟩ := h1.inv1
      obtain ⟨a, ys, rfl, hs, ht⟩ := hv.list_inv
      obtain ⟨u, rfl, ru⟩ := vals1 r
      cases (show u = Value.ref a from ru)
      obtain ⟨its, rv, pl, hz⟩ := I.list hs.sq
      have hlen := rv.length
      have hl2 := ht.length
      refine sorted_small pl.isList (by omega) ?_
      obtain ⟨en, ob⟩ := sortedAll_at s.heap its its.toArray
      have hfr : H (s.heap.objs.size + 1) = none := I.hok.fresh (Nat.le_succ _)
      exact ⟨.ref (s.heap.objs.size + 1), _, I.laid (t' := s.toks) (o := .lst ys) (fun b o e => sortedAll_old e) (Nat.le_succ _) ⟨hz, _, en, rv, ob⟩, rfl, q _ _ (Same.lay hfr) hfr (OwnO.laid hfr ht)⟩
    split at e
    · rename_i hok
      obtain ⟨p, e1, e2⟩ := ob_some e
      obtain ⟨v, rfl, hv⟩ := h1.inv1
      obtain ⟨a, ys, rfl, hs, ht⟩ := hv.list_inv
      obtain ⟨u, rfl, ru⟩ := vals1 r
      cases (show u = Value.ref a from ru)
      obtain ⟨its, rv, pl, hz⟩ := I.list hs.sq
      obtain ⟨as, ra⟩ := ht.reads I rv
      have hlen := rAll_len ra
      obtain ⟨kk, hk2, hk⟩ : ∃ kk, kk < 2 ∧ sortOk kk ds = true := hok.elim (fun z => ⟨0, by decide, z⟩) fun z => ⟨1, by decide, z⟩
      unfold sortOk at hk
      simp only [Bool.and_eq_true, decide_eq_true_eq] at hk
      obtain ⟨hall, l2, l64, hcan, hdep⟩ := hk
      unfold pickD at e2
      split at e2
      · rename_i hin
        cases e2
        have hin' : ∀ i ∈ p.toList, i < ds.length := fun i hi => by
          have := List.all_eq_true.mp hin.1 i hi
          simpa using this
        have hu := hr.units
        obtain ⟨T, hT⟩ : ∃ T, T = (if kk = 0 then Value.type "int" else Value.type "tuple") := ⟨_, rfl⟩
        have hT2 : (T == T) = true := by rw [hT]; split <;> rfl
        have hb : (T != Value.type "tuple") = true → kk = 0 := fun z => by
          rw [hT] at z
          by_cases h0 : kk = 0
          · exact h0
          · rw [if_neg h0] at z; exact absurd z (by decide)
        refine sorted_shell (κ := tuples' (T != Value.type "tuple")) (p := p) pl.isList (by omega) (by omega) (fun s' Q' keep q' => ?_) (fun s' G keep g => ?_) ?_
        · obtain ⟨fs, t1, t2, t3⟩ := katTups_of hk2 (readsAllKeep keep ra hcan) hall
          exact kat_kind t1 (by omega) (fun f hf => by rw [hT]; exact t3 _ f hf) hT2 q'
        · have ra' := readsAllKeep keep ra hcan
          rw [hlen]
          refine runC_wp (fun i j b C el hC => ?_) _ p e1 g
          unfold ltAtD at el
          split at el
          · rename_i x y ex ey
            obtain ⟨vx, bx, gx, rx⟩ := rAll_get ra' ex
            obtain ⟨vy, byy, gy, ry⟩ := rAll_get ra' ey
            obtain ⟨cx, dx⟩ := canAll_get hcan ex
            obtain ⟨cy, dy⟩ := canAll_get hcan ey
            have kx : keyD x = kk := by
              have := List.all_eq_true.mp hall x (List.mem_of_getElem? ex)
              simpa using this
            have ky : keyD y = kk := by
              have := List.all_eq_true.mp hall y (List.mem_of_getElem? ey)
              simpa using this
            obtain ⟨xs, ys', rfl, rfl, elx⟩ := ltX_tups (by omega) el
            show kas_ask X.prog X.w X.A.in1.in1 _ its i j C s'
            unfold kas_ask
            rw [getD_some gx, getD_some gy]
            cases rx with
            | @tuple ax ox ax1 nx _ _ x1 x2 x3 x4 =>
              cases ry with
              | @tuple ay oy ay1 ny _ _ y1 y2 y3 y4 =>
                have dxs : PyData.depthAll xs ≤ 50 := by rw [PyData.depth] at dx; omega
                refine kat_lt x1 x3 y1 y3 (katLex_reads (m := 50) (by show X.A.units + 1 + 1 + 50 + 1 < cLine; omega) hC xs ys' _ _ _ _ 0 dxs x4 y4 (by simpa [PyData.canLay0] using cx) (by simpa [PyData.canLay0] using cy) elx (fun hbb _ x y hx hy => ?_) ?_)
                · have h0 := hb hbb
                  obtain ⟨n1, rfl⟩ := key_heads kx h0 x hx
                  obtain ⟨n2, rfl⟩ := key_heads ky h0 y hy
                  exact ⟨n1, n2, rfl, rfl⟩
                · have z1 := rAll_len x4
                  have z2 := rAll_len y4
                  rw [Array.length_toList] at z1 z2
                  rw [z1, z2]
          · cases el
        · obtain ⟨en, ob⟩ := sortedAll_at s.heap its (p.toList.map fun i => its.getD i Value.none).toArray
          have hfr : H (s.heap.objs.size + 1) = none := I.hok.fresh (Nat.le_succ _)
          have dl : DenL X.K H S (p.toList.map fun i => ys.getD i .non) (p.toList.map fun i => ds.getD i .none) := by
            generalize p.toList = pl at hin'
            induction pl with
            | nil => exact .nil
            | cons i pl ih =>
              have hi := hin' i (.head _)
              obtain ⟨vy, gy, dy⟩ := ht.get (List.getElem?_eq_getElem hi)
              rw [List.map_cons, List.map_cons, getD_some gy, getD_some (List.getElem?_eq_getElem hi)]
              exact .cons dy (ih fun j hj => hin' j (.tail _ hj))
          have vl : Vals (p.toList.map fun i => ys.getD i .non) (p.toList.map fun i => its.getD i Value.none) := by
            generalize p.toList = pl at hin'
            induction pl with
            | nil => exact .nil
            | cons i pl ih =>
              have hi : i < ys.length := by rw [ht.length]; exact hin' i (.head _)
              obtain ⟨w, gw, rw'⟩ := rv.get (List.getElem?_eq_getElem hi)
              rw [List.map_cons, List.map_cons, getD_some (List.getElem?_eq_getElem hi), getD_some gw]
              exact .cons rw' (ih fun j hj => hin' j (.tail _ hj))
          have zz : (p.toList.map fun i => ys.getD i V.non).length ≤ sizeLine := by rw [List.length_map]; exact Nat.le_of_lt (small1000 hin.2)
          refine ⟨.ref (s.heap.objs.size + 1), _, I.laid (t' := s.toks) (o := .lst (p.toList.map fun i => ys.getD i .non)) (fun b o e => sortedAll_old e) (Nat.le_succ _) ⟨zz, _, en, vl, ob⟩, rfl, q _ _ (Same.lay hfr) hfr (OwnO.laid hfr dl)⟩
      · cases e2
    · cases e
  · cases e
end L2
namespace L2
open PySem PySem.Spec PyProof.Rows
/-! ### a name of the module's top that holds plain data -/
end L2
namespace L2
open PySem
theorem boot_sortedD : bootBuiltins "sorted" = some (.builtin "sorted") := by decide +kernel
end L2
namespace L2
open PySem PySem.Spec PyProof.Rows
/-! ### evaluation, and sizes -/
theorem ob_s {α β : Type} (x : α) (f : α → Option β) : ob (some x) f = f x := rfl
theorem vr_z (o : Option PyData) (ρ : Rho) : vr 0 (o :: ρ) = o := rfl
theorem vr_s (n : Nat) (o : Option PyData) (ρ : Rho) : vr (n + 1) (o :: ρ) = vr n ρ := rfl
theorem atI0 {α : Type} (x : α) (xs : List α) : atI (x :: xs) 0 = some x := by simp [atI, ixN]
theorem atI_succ {α : Type} (x : α) (xs : List α) (k : Nat) : atI (x :: xs) ((k : Int) + 1) = atI xs (k : Int) := by
  unfold atI ixN
  have h1 : (0 : Int) ≤ (k : Int) + 1 := by omega
  have h2 : (0 : Int) ≤ (k : Int) := by omega
  rw [if_pos h1, if_pos h2]
  by_cases h : (k : Int) < xs.length
  · have h' : (k : Int) + 1 < ((x :: xs).length : Int) := by rw [List.length_cons]; omega
    rw [if_pos h, if_pos h']
    have e1 : ((k : Int) + 1).toNat = k + 1 := by omega
    have e2 : (k : Int).toNat = k := by omega
    rw [e1, e2]
    rfl
  · have h' : ¬ (k : Int) + 1 < ((x :: xs).length : Int) := by rw [List.length_cons]; omega
    rw [if_neg h, if_neg h']
    rfl
theorem atI1 {α : Type} (x y : α) (xs : List α) : atI (x :: y :: xs) 1 = some y := (atI_succ x (y :: xs) 0).trans (atI0 y xs)
theorem atI2 {α : Type} (x y z : α) (xs : List α) : atI (x :: y :: z :: xs) 2 = some z := (atI_succ x (y :: z :: xs) 1).trans (atI1 y z xs)
theorem atI3 {α : Type} (x y z a : α) (xs : List α) : atI (x :: y :: z :: a :: xs) 3 = some a := (atI_succ x (y :: z :: a :: xs) 2).trans (atI2 y z a xs)
theorem atI4 {α : Type} (x y z a b : α) (xs : List α) : atI (x :: y :: z :: a :: b :: xs) 4 = some b := (atI_succ x (y :: z :: a :: b :: xs) 3).trans (atI3 y z a b xs)
theorem atI5 {α : Type} (x y z a b c : α) (xs : List α) : atI (x :: y :: z :: a :: b :: c :: xs) 5 = some c := (atI_succ x (y :: z :: a :: b :: c :: xs) 4).trans (atI4 y z a b c xs)
theorem mulD_ok {i j : Int} (h : IntMulOk i j) : mulD (.int i) (.int j) = some (.int (i * j)) := by
  show (if IntMulOk i j then some (PyData.int (i * j)) else none) = _
  rw [if_pos h]
/-- the size of an int -/
def Bd (n : Nat) (i : Int) : Prop := Builtin.Int.intBits i ≤ n
theorem Bd.ok {n m : Nat} {i j : Int} (h : Bd n i) (g : Bd m j) (e : n + m ≤ 134217728 := by decide) : IntMulOk i j := IntMulOk.of_le h g e
theorem Bd.mul {n m : Nat} {i j : Int} (h : Bd n i) (g : Bd m j) : Bd (n + m) (i * j) := intBits_mul_le h g
theorem Bd.add {n m : Nat} {i j : Int} (h : Bd n i) (g : Bd m j) : Bd (max n m + 1) (i + j) := intBits_add_le h g
theorem Bd.sub {n m : Nat} {i j : Int} (h : Bd n i) (g : Bd m j) : Bd (max n m + 1) (i - j) := intBits_sub_le h g
theorem Bd.neg {n : Nat} {i : Int} (h : Bd n i) : Bd n (-i) := intBits_neg_le h
theorem Bd.mono {n m : Nat} {i : Int} (h : Bd n i) (e : n ≤ m := by decide) : Bd m i := Nat.le_trans h e
theorem Bd.of {n : Nat} {i : Int} (h : i.natAbs < 2 ^ n) : Bd n i := intBits_le_iff.mpr h
theorem Bd.div {n : Nat} {i k : Int} (hk : 0 ≤ k) (h : Bd n i) : Bd n (i / k) := by
  rw [← Int.fdiv_eq_ediv_of_nonneg i hk]
  exact intBits_fdiv_le h
theorem natLit (n : Nat) : ((no_index (OfNat.ofNat n) : Nat) : Int) = (OfNat.ofNat n : Int) := rfl
theorem eqD_int (i j : Int) : eqD (.int i) (.int j) = some (.bool (i == j)) := rfl
theorem neD_int (i j : Int) : neD (.int i) (.int j) = some (.bool (!(i == j))) := rfl
theorem pow_a : powD (.int 7919) (.int 8) = some (.int (7919 ^ 8)) := rfl
theorem pow_b : powD (.int 10) (.int 30) = some (.int (10 ^ 30)) := rfl
theorem mod_pos (i : Int) {j : Int} (h : 0 < j) : modD (.int i) (.int j) = some (.int (i % j)) := by
  show (if 0 < j then some (PyData.int (i % j)) else none) = _
  rw [if_pos h]
theorem fdiv_pos (i : Int) {j : Int} (h : 0 < j) (h2 : j < 1073741824) : fdivD (.int i) (.int j) = some (.int (i / j)) := by
  show (if CDiv i j then some (PyData.int (i / j)) else none) = _
  rw [if_pos ⟨h, h2⟩]
/-! evaluation, head first: what stands behind is not looked at ahead of time -/
def bindO (o : Option Out) (w : Rho → Option Out) : Option Out := match o with | some (.nx ρ') => w ρ' | o => o
theorem seqO_b (u w : Rho → Option Out) (ρ : Rho) : seqO u w ρ = bindO (u ρ) w := by
  unfold seqO ob bindO
  cases u ρ with
  | none => rfl
  | some o => cases o <;> rfl
theorem bindO_nx (ρ : Rho) (w : Rho → Option Out) : bindO (some (.nx ρ)) w = w ρ := rfl
theorem bindO_rt (d : PyData) (w : Rho → Option Out) : bindO (some (.rt d)) w = some (.rt d) := rfl
theorem bindO_bk (ρ : Rho) (w : Rho → Option Out) : bindO (some (.bk ρ)) w = some (.bk ρ) := rfl
theorem bindO_ct (ρ : Rho) (w : Rho → Option Out) : bindO (some (.ct ρ)) w = some (.ct ρ) := rfl
def ifO {α : Type} (b : Option Bool) (u w : Rho → Option α) (ρ : Rho) : Option α := match b with | some true => u ρ | some false => w ρ | none => none
theorem ifO_t {α : Type} (u w : Rho → Option α) (ρ : Rho) : ifO (some true) u w ρ = u ρ := rfl
theorem ifO_f {α : Type} (u w : Rho → Option α) (ρ : Rho) : ifO (some false) u w ρ = w ρ := rfl
theorem sIf_b (p : Rho → Option Bool) (u w : Rho → Option Out) (ρ : Rho) : sIf p u w ρ = ifO (p ρ) u w ρ := by
  unfold sIf ob ifO
  cases p ρ with
  | none => rfl
  | some b => cases b <;> rfl
theorem vIf_b (p : Rho → Option Bool) (u w : Rho → Option PyData) (ρ : Rho) : vIf p u w ρ = ifO (p ρ) u w ρ := by
  unfold vIf ob ifO
  cases p ρ with
  | none => rfl
  | some b => cases b <;> rfl
theorem tA_b (p q : Rho → Option Bool) (ρ : Rho) : tA p q ρ = ifO (p ρ) q (fun _ => some false) ρ := by
  unfold tA ob ifO
  cases p ρ with
  | none => rfl
  | some b => cases b <;> rfl
theorem tO_b (p q : Rho → Option Bool) (ρ : Rho) : tO p q ρ = ifO (p ρ) (fun _ => some true) q ρ := by
  unfold tO ob ifO
  cases p ρ with
  | none => rfl
  | some b => cases b <;> rfl
theorem vA_b (f g : Rho → Option PyData) (ρ : Rho) : vA f g ρ = ifO (ob (f ρ) boolD) g (fun _ => some (.bool false)) ρ := by
  unfold vA ob ifO
  cases f ρ with
  | none => rfl
  | some x =>
    dsimp only
    cases boolD x with
    | none => rfl
    | some b => cases b <;> rfl
theorem vO_b (f g : Rho → Option PyData) (ρ : Rho) : vO f g ρ = ifO (ob (f ρ) boolD) (fun _ => some (.bool true)) g ρ := by
  unfold vO ob ifO
  cases f ρ with
  | none => rfl
  | some x =>
    dsimp only
    cases boolD x with
    | none => rfl
    | some b => cases b <;> rfl
def setO (o : Option PyData) (i : Nat) (ρ : Rho) : Option Out := match o with | some d => some (.nx (ρ.set i (some d))) | none => none
theorem sSet_b (i : Nat) (f : Rho → Option PyData) (ρ : Rho) : sSet i f ρ = setO (f ρ) i ρ := by
  unfold sSet ob setO
  cases f ρ <;> rfl
theorem setO_s (d : PyData) (i : Nat) (ρ : Rho) : setO (some d) i ρ = some (.nx (ρ.set i (some d))) := rfl
def binO (a b : Option PyData) (g : PyData → PyData → Option PyData) : Option PyData := match a, b with | some x, some y => g x y | _, _ => none
theorem ev2_b (fa fb : Rho → Option PyData) (g : PyData → PyData → Option PyData) (ρ : Rho) : ev2 fa fb g ρ = binO (fa ρ) (fb ρ) g := by
  unfold ev2 ob binO
  cases fa ρ <;> cases fb ρ <;> rfl
theorem binO_s (x y : PyData) (g : PyData → PyData → Option PyData) : binO (some x) (some y) g = g x y := rfl
def consO (a : Option PyData) (b : Option (List PyData)) : Option (List PyData) := match a, b with | some x, some xs => some (x :: xs) | _, _ => none
theorem aC_b (fa : Rho → Option PyData) (fs : Rho → Option (List PyData)) (ρ : Rho) : aC fa fs ρ = consO (fa ρ) (fs ρ) := by
  unfold aC ob consO
  cases fa ρ <;> cases fs ρ <;> rfl
theorem consO_s (x : PyData) (xs : List PyData) : consO (some x) (some xs) = some (x :: xs) := rfl
def callO (n : Nat) (a : Option (List PyData)) (h : List PyData → Option PyData) : Option PyData := match a with | some ds => if ds.length = n then h ds else none | none => none
theorem evC_b (n : Nat) (fs : Rho → Option (List PyData)) (h : List PyData → Option PyData) (ρ : Rho) : evC n fs h ρ = callO n (fs ρ) h := by
  unfold evC ob callO
  cases fs ρ <;> rfl
theorem callO_s (n : Nat) (ds : List PyData) (h : List PyData → Option PyData) : callO n (some ds) h = if ds.length = n then h ds else none := rfl
def compO (b : Option Bool) (tt : Rho → Option Bool) (te : Rho → Option PyData) (ρ : Rho) (d : PyData) (ds : List PyData) : Option (List PyData) := match b with | some true => consO (te (ρ ++ [some d])) (compD tt te ρ ds) | some false => compD tt te ρ ds | none => none
theorem compD_c (tt : Rho → Option Bool) (te : Rho → Option PyData) (ρ : Rho) (d : PyData) (ds : List PyData) : compD tt te ρ (d :: ds) = compO (tt (ρ ++ [some d])) tt te ρ d ds := by
  rw [compD]
  unfold ob compO consO
  cases tt (ρ ++ [some d]) with
  | none => rfl
  | some b =>
    cases b with
    | false => rfl
    | true =>
      dsimp only [if_true]
      rw [if_pos rfl]
      cases te (ρ ++ [some d]) <;> cases compD tt te ρ ds <;> rfl
theorem compD_n (tt : Rho → Option Bool) (te : Rho → Option PyData) (ρ : Rho) : compD tt te ρ [] = some [] := rfl
theorem compO_t (tt : Rho → Option Bool) (te : Rho → Option PyData) (ρ : Rho) (d : PyData) (ds : List PyData) : compO (some true) tt te ρ d ds = consO (te (ρ ++ [some d])) (compD tt te ρ ds) := rfl
theorem compO_f (tt : Rho → Option Bool) (te : Rho → Option PyData) (ρ : Rho) (d : PyData) (ds : List PyData) : compO (some false) tt te ρ d ds = compD tt te ρ ds := rfl
def listO (a : Option (List PyData)) : Option PyData := match a with | some ys => some (.list ys) | none => none
def comRO (a : Option (List PyData)) (n : Nat) (tt : Rho → Option Bool) (te : Rho → Option PyData) (ρ : Rho) : Option PyData := match a with | some ds => if ρ.length = n ∧ ds.length ≤ 1000 then listO (compD tt te ρ ds) else none | none => none
theorem compR_b (n : Nat) (fi : Rho → Option (List PyData)) (tt : Rho → Option Bool) (te : Rho → Option PyData) (ρ : Rho) : compR n fi tt te ρ = comRO (fi ρ) n tt te ρ := by
  unfold compR ob comRO listO
  cases fi ρ with
  | none => rfl
  | some ds =>
    dsimp only
    split
    · cases compD tt te ρ ds <;> rfl
    · rfl
theorem comRO_s (ds : List PyData) (n : Nat) (tt : Rho → Option Bool) (te : Rho → Option PyData) (ρ : Rho) : comRO (some ds) n tt te ρ = if ρ.length = n ∧ ds.length ≤ 1000 then listO (compD tt te ρ ds) else none := rfl
theorem listO_s (ds : List PyData) : listO (some ds) = some (.list ds) := rfl
def forI (a : Option (List PyData)) (g : PyData → Rho → Option Rho) (u : Rho → Option Out) (ρ : Rho) : Option Out := match a with | some ds => forD g u ds ρ | none => none
theorem sFor_b (fi : Rho → Option (List PyData)) (g : PyData → Rho → Option Rho) (u : Rho → Option Out) (ρ : Rho) : sFor fi g u ρ = forI (fi ρ) g u ρ := by
  unfold sFor ob forI
  cases fi ρ <;> rfl
theorem forI_s (ds : List PyData) (g : PyData → Rho → Option Rho) (u : Rho → Option Out) (ρ : Rho) : forI (some ds) g u ρ = forD g u ds ρ := rfl
def forO (o : Option Out) (g : PyData → Rho → Option Rho) (u : Rho → Option Out) (ds : List PyData) : Option Out := match o with
  | some (.nx ρ') => forD g u ds ρ'
  | some (.ct ρ') => forD g u ds ρ'
  | some (.bk ρ') => some (.nx ρ')
  | some (.rt r) => some (.rt r)
  | none => none
theorem forD_c (g : PyData → Rho → Option Rho) (u : Rho → Option Out) (d : PyData) (ds : List PyData) (ρ : Rho) : forD g u (d :: ds) ρ = forO (ob (g d ρ) u) g u ds := by
  rw [forD]
  unfold ob forO
  cases g d ρ with
  | none => rfl
  | some ρ1 =>
    dsimp only
    cases u ρ1 with
    | none => rfl
    | some o => cases o <;> rfl
theorem forD_n (g : PyData → Rho → Option Rho) (u : Rho → Option Out) (ρ : Rho) : forD g u [] ρ = some (.nx ρ) := rfl
theorem forO_nx (ρ : Rho) (g : PyData → Rho → Option Rho) (u : Rho → Option Out) (ds : List PyData) : forO (some (.nx ρ)) g u ds = forD g u ds ρ := rfl
theorem forO_ct (ρ : Rho) (g : PyData → Rho → Option Rho) (u : Rho → Option Out) (ds : List PyData) : forO (some (.ct ρ)) g u ds = forD g u ds ρ := rfl
theorem forO_bk (ρ : Rho) (g : PyData → Rho → Option Rho) (u : Rho → Option Out) (ds : List PyData) : forO (some (.bk ρ)) g u ds = some (.nx ρ) := rfl
theorem forO_rt (d : PyData) (g : PyData → Rho → Option Rho) (u : Rho → Option Out) (ds : List PyData) : forO (some (.rt d)) g u ds = some (.rt d) := rfl
def nxO (o : Option Rho) : Option Out := match o with | some ρ => some (.nx ρ) | none => none
def asgO (o : Option PyData) (g : PyData → Rho → Option Rho) (ρ : Rho) : Option Out := match o with | some d => nxO (g d ρ) | none => none
theorem sAsg_b (f : Rho → Option PyData) (g : PyData → Rho → Option Rho) (ρ : Rho) : sAsg f g ρ = asgO (f ρ) g ρ := by
  unfold sAsg ob asgO nxO
  cases f ρ with
  | none => rfl
  | some d => dsimp only; cases g d ρ <;> rfl
theorem asgO_s (d : PyData) (g : PyData → Rho → Option Rho) (ρ : Rho) : asgO (some d) g ρ = nxO (g d ρ) := rfl
theorem nxO_s (ρ : Rho) : nxO (some ρ) = some (.nx ρ) := rfl
def retO (o : Option PyData) : Option Out := match o with | some d => some (.rt d) | none => none
theorem sRet_b (f : Rho → Option PyData) (ρ : Rho) : sRet f ρ = retO (f ρ) := by
  unfold sRet ob retO
  cases f ρ <;> rfl
theorem retO_s (d : PyData) : retO (some d) = some (.rt d) := rfl
theorem gsN_n (ρ : Rho) : gsN [] ρ = some ρ := rfl
theorem gsC_c (g1 : PyData → Rho → Option Rho) (g2 : List PyData → Rho → Option Rho) (d : PyData) (r : List PyData) (ρ : Rho) : gsC g1 g2 (d :: r) ρ = ob (g1 d ρ) (g2 r) := rfl
theorem unpD_t (n : Nat) (g : List PyData → Rho → Option Rho) (ds : List PyData) (ρ : Rho) : unpD n g (.tuple ds) ρ = if ds.length = n then g ds ρ else none := rfl
theorem seqD_l (ds : List PyData) : seqD (.list ds) = some ds := rfl
theorem seqD_t (ds : List PyData) : seqD (.tuple ds) = some ds := rfl
theorem ixD_l (ds : List PyData) (i : Int) : ixD (.list ds) (.int i) = atI ds i := rfl
theorem ixD_t (ds : List PyData) (i : Int) : ixD (.tuple ds) (.int i) = atI ds i := rfl
theorem lenD_l (ds : List PyData) : lenD [.list ds] = some (.int ds.length) := rfl
theorem lenD_t (ds : List PyData) : lenD [.tuple ds] = some (.int ds.length) := rfl
theorem tupleD_l (ds : List PyData) : tupleD [.list ds] = some (.tuple ds) := rfl
theorem tupleD_t (ds : List PyData) : tupleD [.tuple ds] = some (.tuple ds) := rfl
theorem listD_l (ds : List PyData) : listD [.list ds] = some (.list ds) := rfl
theorem listD_t (ds : List PyData) : listD [.tuple ds] = some (.list ds) := rfl
theorem boolD_b (b : Bool) : boolD (.bool b) = some b := rfl
theorem outD_r (d : PyData) : outD (.rt d) = some d := rfl
theorem outD_n (ρ : Rho) : outD (.nx ρ) = some .none := rfl
theorem addD_i (i j : Int) : add2D (.int i) (.int j) = some (.int (i + j)) := rfl
def takO (b : Bool) (o : Option PyData) (i : Nat) (ρ : Rho) : Option Out := match b, o with | true, some d => some (.nx (ρ.set i (some d))) | _, _ => none
theorem sTake_b (i : Nat) (f : Rho → Option PyData) (ρ : Rho) : sTake i f ρ = takO (decide (i < ρ.length)) (f ρ) i ρ := by
  unfold sTake ob takO
  by_cases h : i < ρ.length
  · rw [if_pos h, decide_eq_true h]
    cases f ρ <;> rfl
  · rw [if_neg h, decide_eq_false h]
theorem takO_t (d : PyData) (i : Nat) (ρ : Rho) : takO true (some d) i ρ = some (.nx (ρ.set i (some d))) := rfl
def flaO (o : Option PyData) : Option PyData := match o with | some d => if flat d = true then some d else none | none => none
theorem flatF_b (f : Rho → Option PyData) (ρ : Rho) : flatF f ρ = flaO (f ρ) := by
  unfold flatF ob flaO
  cases f ρ <;> rfl
theorem flaO_s (d : PyData) : flaO (some d) = if flat d = true then some d else none := rfl
def flgO (o : Option PyData) : Option PyData := match o with | some d => if flatO d = true then some d else none | none => none
theorem flatG_b (f : Rho → Option PyData) (ρ : Rho) : flatG f ρ = flgO (f ρ) := by
  unfold flatG ob flgO
  cases f ρ <;> rfl
theorem flgO_s (d : PyData) : flgO (some d) = if flatO d = true then some d else none := rfl
def appO (l d : Option PyData) (i : Nat) (ρ : Rho) : Option Out := match l, d with | some x, some y => setO (appD x y) i ρ | _, _ => none
theorem sApp_b (i : Nat) (f : Rho → Option PyData) (ρ : Rho) : sApp i f ρ = appO (vr i ρ) (f ρ) i ρ := by
  unfold sApp ob appO setO
  cases vr i ρ with
  | none => rfl
  | some x =>
    cases f ρ with
    | none => rfl
    | some y => dsimp only; cases appD x y <;> rfl
theorem appO_s (x y : PyData) (i : Nat) (ρ : Rho) : appO (some x) (some y) i ρ = setO (appD x y) i ρ := rfl
theorem appD_l (ds : List PyData) (d : PyData) : appD (.list ds) d = if ds.length < 1000 then some (.list (ds ++ [d])) else none := rfl
def clrO (l : Option PyData) (i : Nat) (ρ : Rho) : Option Out := match l with | some (.list _) => some (.nx (ρ.set i (some (.list [])))) | _ => none
theorem sClr_b (i : Nat) (ρ : Rho) : sClr i ρ = clrO (vr i ρ) i ρ := by
  unfold sClr ob clrO
  cases vr i ρ with
  | none => rfl
  | some x => cases x <;> rfl
theorem clrO_s (ds : List PyData) (i : Nat) (ρ : Rho) : clrO (some (.list ds)) i ρ = some (.nx (ρ.set i (some (.list [])))) := rfl
theorem outF_r (d : PyData) : outF (.rt d) = some d := rfl
theorem isD_n (x : PyData) : isD x .none = some (.bool (isNone x)) := by cases x <;> rfl
theorem isnD_n (x : PyData) : isnD x .none = some (.bool (!isNone x)) := by cases x <;> rfl
theorem isD_b (b c : Bool) : isD (.bool b) (.bool c) = some (.bool (b == c)) := rfl
theorem isnD_b (b c : Bool) : isnD (.bool b) (.bool c) = some (.bool (!(b == c))) := rfl
def sliO (a : Option PyData) (l h : Option (Option Int)) : Option PyData := match a, l, h with | some x, some l, some h => sliD x l h | _, _, _ => none
theorem evS_b (fa : Rho → Option PyData) (fl fh : Rho → Option (Option Int)) (ρ : Rho) : evS fa fl fh ρ = sliO (fa ρ) (fl ρ) (fh ρ) := by
  unfold evS ob sliO
  cases fa ρ <;> cases fl ρ <;> cases fh ρ <;> rfl
theorem sliO_s (x : PyData) (l h : Option Int) : sliO (some x) (some l) (some h) = sliD x l h := rfl
def prtO (a : Option PyData) : Option (Option Int) := match a with | some (.int i) => some (some i) | _ => none
theorem oS_b (f : Rho → Option PyData) (ρ : Rho) : oS f ρ = prtO (f ρ) := by
  unfold oS ob prtO
  cases f ρ with
  | none => rfl
  | some d => cases d <;> rfl
theorem prtO_s (i : Int) : prtO (some (.int i)) = some (some i) := rfl
theorem subD_i (i j : Int) : subD (.int i) (.int j) = some (.int (i - j)) := rfl
theorem negD_i (i : Int) : negD (.int i) = some (.int (-i)) := rfl
theorem ltD2_i (i j : Int) : ltD2 (.int i) (.int j) = some (.bool (decide (i < j))) := by
  show (if _ then ob (ltX (.int i) (.int j)) _ else none) = _
  rw [if_pos ⟨rfl, rfl, Nat.zero_le 60⟩, ltX]
  rfl
theorem leD_i (i j : Int) : leD (.int i) (.int j) = some (.bool (decide (i ≤ j))) := rfl
theorem gtD_i (i j : Int) : gtD (.int i) (.int j) = some (.bool (decide (j < i))) := rfl
theorem geD_i (i j : Int) : geD (.int i) (.int j) = some (.bool (decide (j ≤ i))) := rfl
theorem isiT_t (T : String) (ds : List PyData) : isiT T (.tuple ds) = (T == "tuple" || T == "object") := rfl
theorem isiT_l (T : String) (ds : List PyData) : isiT T (.list ds) = (T == "list" || T == "object") := rfl
theorem isiT_i (T : String) (i : Int) : isiT T (.int i) = (T == "int" || T == "object") := rfl
theorem isiT_b (T : String) (b : Bool) : isiT T (.bool b) = (T == "bool" || T == "int" || T == "object") := rfl
theorem isiT_s (T : String) (x : Str) : isiT T (.str x) = (T == "str" || T == "object") := rfl
theorem isiT_n (T : String) : isiT T .none = (T == "NoneType" || T == "object") := rfl
theorem rng1D_i (j : Int) : rng1D [.int j] = if -1000 ≤ j ∧ j ≤ 1000 then some (rngL 0 j.toNat) else none := rfl
theorem rng2D_i (i j : Int) : rng2D [.int i, .int j] = if (-1000 ≤ i ∧ i ≤ 1000) ∧ (-1000 ≤ j ∧ j ≤ 1000) then some (rngL i (j - i).toNat) else none := rfl
/-- three numbers -/
def S3 (a b c : Int) : PyData := .tuple [.int a, .int b, .int c]
def T3 (p q r : PyData) : PyData := .tuple [p, q, r]
theorem eqv_S3 (a b c : Int) : PyData.eqv (S3 a b c) (S3 a b c) = true := by
  show ((a == a) && ((b == b) && ((c == c) && true))) = true
  simp
end L2
namespace L2
open PySem PySem.Spec PyProof.Rows
/-! ### more ways in which one's own list is changed; x += e -/
section
variable {X : Cx} {G : Gm} {M M' Mb L : List Nat} {fr : Fr} {a b c : Expr} {es : List Expr} {f fk g : Rho → Option PyData} {pos : Pos} {u : Rho → Option Out}
theorem DenL.set {K : PySem.W.Frag} {H : Hp} {S : Av} : ∀ {vs : List V} {ds : List PyData} {v : V} {d : PyData} (j : Nat), DenL K H S vs ds → Den K H S v d → DenL K H S (vs.set j v) (ds.set j d)
  | _, _, _, _, _, .nil, _ => .nil
  | _, _, _, _, 0, .cons _ t, q => .cons q t
  | _, _, _, _, j + 1, .cons h t, q => .cons h (t.set j q)
theorem DenL.dropLast {K : PySem.W.Frag} {H : Hp} {S : Av} : ∀ {vs : List V} {ds : List PyData}, DenL K H S vs ds → DenL K H S vs.dropLast ds.dropLast
  | _, _, .nil => .nil
  | _, _, .cons h .nil => .nil
  | _, _, .cons h (.cons h2 t) => .cons h (DenL.dropLast (.cons h2 t))
/-- xs[k] = e -/
def setD : PyData → PyData → PyData → Option PyData
  | .list ds, .int k, d => ob (ixN ds.length k) fun j => some (.list (ds.set j d))
  | _, _, _ => none
def sPut (i : Nat) (fk f : Rho → Option PyData) : Rho → Option Out := fun ρ => ob (f ρ) fun d => ob (vr i ρ) fun l => ob (fk ρ) fun k => ob (setD l k d) fun l' => some (.nx (ρ.set i (some l')))
/-- y = xs.pop() -/
def popD : PyData → Option (PyData × PyData)
  | .list ds => ob (ds[ds.length - 1]?) fun d => some (d, .list ds.dropLast)
  | _ => none
def sPop (i j : Nat) : Rho → Option Out := fun ρ => ob (vr i ρ) fun l => ob (popD l) fun r => some (.nx ((ρ.set i (some r.2)).set j (some r.1)))
/-- y = xs.pop(k) -/
def popAtD : PyData → PyData → Option (PyData × PyData)
  | .list ds, .int k => ob (if -1000 ≤ k ∧ k ≤ 1000 then seqIndex? k ds.length else none) fun n => ob (ds[n]?) fun d => some (d, .list (ds.eraseIdx n))
  | _, _ => none
def sPopAt (i j : Nat) (fk : Rho → Option PyData) : Rho → Option Out := fun ρ => ob (vr i ρ) fun l => ob (fk ρ) fun k => ob (popAtD l k) fun r => some (.nx ((ρ.set i (some r.2)).set j (some r.1)))
/-- x += e, x -= e, of ints -/
def sAug (i : Nat) (f : Rho → Option PyData) (h : Int → Int → Int) : Rho → Option Out := fun ρ => ob (vr i ρ) fun x => ob (f ρ) fun y => ob (iiD (fun a b => some (.int (h a b))) x y) fun z => some (.nx (ρ.set i (some z)))
end
end L2
namespace L2
open PySem
/-! evaluation of these, head first -/
def putO (d l k : Option PyData) (i : Nat) (ρ : Rho) : Option Out := match d, l, k with | some d, some l, some k => setO (setD l k d) i ρ | _, _, _ => none
theorem sPut_b (i : Nat) (fk f : Rho → Option PyData) (ρ : Rho) : sPut i fk f ρ = putO (f ρ) (vr i ρ) (fk ρ) i ρ := by
  unfold sPut ob putO setO
  cases f ρ with
  | none => rfl
  | some d =>
    cases vr i ρ with
    | none => rfl
    | some l =>
      cases fk ρ with
      | none => rfl
      | some k => dsimp only; cases setD l k d <;> rfl
theorem putO_s (d l k : PyData) (i : Nat) (ρ : Rho) : putO (some d) (some l) (some k) i ρ = setO (setD l k d) i ρ := rfl
theorem setD_l (ds : List PyData) (k : Int) (d : PyData) : setD (.list ds) (.int k) d = ob (ixN ds.length k) fun j => some (.list (ds.set j d)) := rfl
def popO (r : Option (PyData × PyData)) (i j : Nat) (ρ : Rho) : Option Out := match r with | some r => some (.nx ((ρ.set i (some r.2)).set j (some r.1))) | none => none
theorem sPop_b (i j : Nat) (ρ : Rho) : sPop i j ρ = popO (ob (vr i ρ) popD) i j ρ := by
  unfold sPop ob popO
  cases vr i ρ with
  | none => rfl
  | some l => dsimp only; cases popD l <;> rfl
def popA (l k : Option PyData) : Option (PyData × PyData) := match l, k with | some l, some k => popAtD l k | _, _ => none
theorem sPopAt_b (i j : Nat) (fk : Rho → Option PyData) (ρ : Rho) : sPopAt i j fk ρ = popO (popA (vr i ρ) (fk ρ)) i j ρ := by
  unfold sPopAt ob popO popA
  cases vr i ρ with
  | none => rfl
  | some l =>
    cases fk ρ with
    | none => rfl
    | some k => dsimp only; cases popAtD l k <;> rfl
theorem popO_s (r : PyData × PyData) (i j : Nat) (ρ : Rho) : popO (some r) i j ρ = some (.nx ((ρ.set i (some r.2)).set j (some r.1))) := rfl
theorem popA_s (l k : PyData) : popA (some l) (some k) = popAtD l k := rfl
def augO (x y : Option PyData) (h : Int → Int → Int) (i : Nat) (ρ : Rho) : Option Out := match x, y with | some x, some y => setO (iiD (fun a b => some (.int (h a b))) x y) i ρ | _, _ => none
theorem sAug_b (i : Nat) (f : Rho → Option PyData) (h : Int → Int → Int) (ρ : Rho) : sAug i f h ρ = augO (vr i ρ) (f ρ) h i ρ := by
  unfold sAug ob augO setO
  cases vr i ρ with
  | none => rfl
  | some x =>
    cases f ρ with
    | none => rfl
    | some y => dsimp only; cases iiD (fun a b => some (PyData.int (h a b))) x y <;> rfl
theorem augO_i (a b : Int) (h : Int → Int → Int) (i : Nat) (ρ : Rho) : augO (some (.int a)) (some (.int b)) h i ρ = some (.nx (ρ.set i (some (.int (h a b))))) := rfl
end L2
namespace L2
open PySem PySem.Spec PyProof.Rows
/-! ### abs, max, min of written arguments (ints) -/
section
variable {X : Cx}
def absD : List PyData → Option PyData
  | [.int i] => some (.int (if i < 0 then -i else i))
  | _ => none
theorem absD_i (i : Int) : absD [.int i] = some (.int (if i < 0 then -i else i)) := rfl
end
end L2
namespace L2
open PySem PySem.Spec PyProof.Rows
/-! ### a op b op c -/
def evCh (fa fb fc : Rho → Option PyData) (g g' : PyData → PyData → Option PyData) : Rho → Option PyData := fun ρ => ob (fa ρ) fun x => ob (fb ρ) fun y => ob (g x y) fun z => ob (boolD z) fun k => if k = true then ob (fc ρ) fun w => g' y w else some (.bool false)
section
variable {X : Cx} {M : List Nat} {a b c : Expr} {fa fb fc : Rho → Option PyData} {pos : Pos} {op op' : CmpOp} {g g' : PyData → PyData → Option PyData}
end
/-! evaluation -/
def chO (y : Option PyData) (k : Option PyData) (fc : Rho → Option PyData) (g' : PyData → PyData → Option PyData) (ρ : Rho) : Option PyData := match y, k with
  | some y, some (.bool true) => ob (fc ρ) (g' y)
  | some _, some (.bool false) => some (.bool false)
  | _, _ => none
theorem evCh_b (fa fb fc : Rho → Option PyData) (g g' : PyData → PyData → Option PyData) (ρ : Rho) : evCh fa fb fc g g' ρ = chO (fb ρ) (binO (fa ρ) (fb ρ) g) fc g' ρ := by
  unfold evCh ob chO binO boolD
  cases fa ρ with
  | none => cases fb ρ <;> rfl
  | some x =>
    cases fb ρ with
    | none => rfl
    | some y =>
      dsimp only
      cases g x y with
      | none => rfl
      | some z =>
        cases z with
        | bool k => cases k <;> rfl
        | _ => rfl
theorem chO_t (y : PyData) (fc : Rho → Option PyData) (g' : PyData → PyData → Option PyData) (ρ : Rho) : chO (some y) (some (.bool true)) fc g' ρ = ob (fc ρ) (g' y) := rfl
theorem chO_f (y : PyData) (fc : Rho → Option PyData) (g' : PyData → PyData → Option PyData) (ρ : Rho) : chO (some y) (some (.bool false)) fc g' ρ = some (.bool false) := rfl
end L2
namespace L2
open PySem PySem.Spec PyProof.Rows
/-! ### xs.index(e), list + list, xs.extend(new), xs.pop() and xs.pop(k) as statements, int(truth) -/
section
variable {X : Cx} {G : Gm} {M M' Mb L : List Nat} {fr : Fr} {a b c : Expr} {es : List Expr} {f fk g : Rho → Option PyData} {pos : Pos} {u : Rho → Option Out}
/-! #### + -/
def add3D (x y : PyData) : Option PyData := match x, y with
  | .int i, .int j => some (.int (i + j))
  | .list ds, .list es => if ds.length + es.length ≤ 1000 then some (.list (ds ++ es)) else none
  | x, y => add2D x y
def rCatL (K : PySem.W.Frag) : R2 := fun x y H Q => ∃ l b xs zs, x = .ref l ∧ y = .ref b ∧ SqL K H l xs ∧ SqL K H b zs ∧ xs.length + zs.length ≤ sizeLine ∧ ∀ p, H p = none → Q (.ref p) (upd H p (.lst (xs ++ zs)))
theorem op_catL : OpR X (binaryOp .Add) (rCatL X.K) := by
  intro pins s σ H x y v u Q I rx ry h
  obtain ⟨l, b, xs, zs, rfl, rfl, hH, hB, hz, q⟩ := h
  cases rx
  cases ry
  obtain ⟨its, r, ⟨⟨cls, dd, data, sl⟩, n, g1, g2, _, g3⟩, _⟩ := I.list hH
  obtain ⟨its2, r2, ⟨⟨cls2, dd2, data2, sl2⟩, n2, k1, k2, _, k3⟩, _⟩ := I.list hB
  simp only at g2 g3 k2 k3
  subst g2 g3 k2 k3
  have ea : its.toArray ++ its2.toArray = (its ++ its2).toArray := by simp
  have l1 := r.length
  have l2 := r2.length
  refine concat_meets ⟨_, g1, rfl⟩ ⟨_, k1, rfl⟩ noFill_list_add seq_list_add PySem.F.slot_list_add PySem.F.entry_list_add (PySem.F.args_list_add_2 _ _) (list_addW l b its.toArray its2.toArray n n2 dd dd2 sl sl2 (by rw [List.size_toArray, List.size_toArray]; omega)) ⟨g1, k1, ?_⟩
  rw [ea]
  exact ⟨.ref _, _, I.lnew (t' := s.toks) (r.append r2) (by rw [List.length_append]; omega), rfl, q _ I.fresh⟩
theorem d_catL : OpD X (binaryOp .Add) (fun x y => match x, y with | .list ds, .list es => if ds.length + es.length ≤ 1000 then some (.list (ds ++ es)) else none | _, _ => none) := by
  refine opD_of op_catL fun x y dx dy d H S Q m h1 h2 e q => ?_
  split at e
  · split at e
    · rename_i ds es hc
      cases e
      cases h1 with
      | list a1 t1 =>
        cases h2 with
        | list a2 t2 =>
          exact ⟨_, _, _, _, rfl, rfl, a1.sq, a2.sq, by rw [t1.length, t2.length]; exact Nat.le_of_lt (small1000 hc), fun p hp => q _ _ (Same.lay hp) (.list (SqLS.new upd_same (m.free hp)) ((t1.append t2).same (Same.lay hp)))⟩
    · cases e
  · cases e
theorem d_add3 : OpD X (binaryOp .Add) add3D := by
  intro pins s σ H x y v u Q I rx ry h
  obtain ⟨S, dx, dy, d, m, h1, h2, e, q⟩ := h
  unfold add3D at e
  split at e
  · exact d_add2 pins s σ H x y v u Q I rx ry ⟨S, _, _, d, m, h1, h2, e, q⟩
  · exact d_catL pins s σ H x y v u Q I rx ry ⟨S, _, _, d, m, h1, h2, e, q⟩
  · exact d_add2 pins s σ H x y v u Q I rx ry ⟨S, _, _, d, m, h1, h2, e, q⟩
theorem add3D_i (i j : Int) : add3D (.int i) (.int j) = some (.int (i + j)) := rfl
/-! #### int(truth) -/
def toIntD : List PyData → Option PyData
  | [.int i] => some (.int i)
  | [.bool k] => some (.int (if k then 1 else 0))
  | _ => none
/-! #### statements -/
def sPopS (i : Nat) : Rho → Option Out := fun ρ => ob (vr i ρ) fun l => ob (popD l) fun r => some (.nx (ρ.set i (some r.2)))
def sPopAtS (i : Nat) (fk : Rho → Option PyData) : Rho → Option Out := fun ρ => ob (vr i ρ) fun l => ob (fk ρ) fun k => ob (popAtD l k) fun r => some (.nx (ρ.set i (some r.2)))
/-- xs.extend(e), e a new list -/
def extD (l e : PyData) : Option PyData := match l, e with
  | .list ds, .list es => if ds.length + es.length ≤ 1000 then some (.list (ds ++ es)) else none
  | _, _ => none
def sExt (i : Nat) (f : Rho → Option PyData) : Rho → Option Out := fun ρ => ob (vr i ρ) fun l => ob (f ρ) fun k => ob (extD l k) fun r => some (.nx (ρ.set i (some r)))
end
/-! evaluation -/
def popS (r : Option (PyData × PyData)) (i : Nat) (ρ : Rho) : Option Out := match r with | some r => some (.nx (ρ.set i (some r.2))) | none => none
theorem sPopS_b (i : Nat) (ρ : Rho) : sPopS i ρ = popS (ob (vr i ρ) popD) i ρ := by
  unfold sPopS ob popS
  cases vr i ρ with
  | none => rfl
  | some l => dsimp only; cases popD l <;> rfl
theorem popS_s (r : PyData × PyData) (i : Nat) (ρ : Rho) : popS (some r) i ρ = some (.nx (ρ.set i (some r.2))) := rfl
theorem sPopAtS_b (i : Nat) (fk : Rho → Option PyData) (ρ : Rho) : sPopAtS i fk ρ = popS (popA (vr i ρ) (fk ρ)) i ρ := by
  unfold sPopAtS ob popS popA
  cases vr i ρ with
  | none => rfl
  | some l =>
    cases fk ρ with
    | none => rfl
    | some k => dsimp only; cases popAtD l k <;> rfl
def extO (l k : Option PyData) (i : Nat) (ρ : Rho) : Option Out := match l, k with | some l, some k => setO (extD l k) i ρ | _, _ => none
theorem sExt_b (i : Nat) (f : Rho → Option PyData) (ρ : Rho) : sExt i f ρ = extO (vr i ρ) (f ρ) i ρ := by
  unfold sExt ob extO setO
  cases vr i ρ with
  | none => rfl
  | some l =>
    cases f ρ with
    | none => rfl
    | some k => dsimp only; cases extD l k <;> rfl
theorem extO_s (l k : PyData) (i : Nat) (ρ : Rho) : extO (some l) (some k) i ρ = setO (extD l k) i ρ := rfl
theorem toIntD_b (k : Bool) : toIntD [.bool k] = some (.int (if k then 1 else 0)) := rfl
end L2
namespace L2
open PySem PySem.Spec PyProof.Rows
/-! ### enumerate(xs) of a list or a tuple, walked by a target of two -/
section
variable {prog : Program} {w : World} {A : Around} {E : Value → Shared → Prop} {s : Shared}
end
section
variable {X : Cx} {pins : List (Addr × Obj)} {σ : St} {H : Hp} {s : Shared}
end
/-- the list (b: or tuple) at a -/
def SqB (K : PySem.W.Frag) (H : Hp) (b : Bool) (a : Addr) (xs : List V) : Prop := if b = true then SqT K H a xs else SqL K H a xs
def ItB (h : Heap) (b : Bool) (it a : Addr) (i : Nat) : Prop := if b = true then h.IsTupleIter it a i else h.IsListIter it a i
section
variable {X : Cx} {pins : List (Addr × Obj)} {σ : St} {H : Hp} {s : Shared}
theorem SqB.inj {b : Bool} {a : Addr} {xs ys : List V} (I : Inv X pins σ H s) (h1 : SqB X.K H b a xs) (h2 : SqB X.K H b a ys) : xs = ys := by
  cases b with
  | true => exact I.tuple_inj h1 h2
  | false => exact I.list_inj h1 h2
theorem ItB.but {h h' : Heap} {b : Bool} {it a e : Addr} {i : Nat} (q : ItB h b it a i) (n : it ≠ e) (hs : ∀ c o, c ≠ e → h.get? c = some o → h'.get? c = some o) : ItB h' b it a i := by
  cases b with
  | true => obtain ⟨o, ho, r⟩ := (show h.IsTupleIter it a i from q); exact (show h'.IsTupleIter it a i from ⟨o, hs _ o n ho, r⟩)
  | false => obtain ⟨o, ho, r⟩ := (show h.IsListIter it a i from q); exact (show h'.IsListIter it a i from ⟨o, hs _ o n ho, r⟩)
theorem ItB.obj {h : Heap} {b : Bool} {it a : Addr} {i : Nat} (q : ItB h b it a i) : ∃ o, h.get? it = some o ∧ ∀ v, o.data ≠ .cell v := by
  cases b with
  | true => obtain ⟨o, ho, c, d⟩ := (show h.IsTupleIter it a i from q); exact ⟨o, ho, fun v z => by rw [d] at z; cases z⟩
  | false => obtain ⟨o, ho, c, d⟩ := (show h.IsListIter it a i from q); exact ⟨o, ho, fun v z => by rw [d] at z; cases z⟩
end
end L2
namespace L2
open PySem PySem.Spec PyProof.Rows
section
variable {X : Cx} {pins : List (Addr × Obj)} {σ : St} {H : Hp} {s : Shared}
end
section
variable {X : Cx} {M : List Nat} {a : Expr} {es : List Expr} {f : Rho → Option PyData} {pos : Pos}
/-- (0, x0), (1, x1), .. -/
def enL : Nat → List PyData → List PyData
  | _, [] => []
  | n, d :: ds => .tuple [.int (n : Nat), d] :: enL (n + 1) ds
theorem SqB.same {K : PySem.W.Frag} {H H' : Hp} {b : Bool} {l : Addr} {xs : List V} (e : Same H H') (h : SqB K H b l xs) : SqB K H' b l xs := by
  cases b with
  | true => exact e.sqT h
  | false => exact e.seq h
def enumD : PyData → Option (List PyData)
  | .list ds => some (enL 0 ds)
  | .tuple ds => some (enL 0 ds)
  | _ => none
theorem enumD_l (ds : List PyData) : enumD (.list ds) = some (enL 0 ds) := rfl
theorem enumD_t (ds : List PyData) : enumD (.tuple ds) = some (enL 0 ds) := rfl
theorem enL_n (n : Nat) : enL n [] = [] := rfl
theorem enL_c (n : Nat) (d : PyData) (ds : List PyData) : enL n (d :: ds) = .tuple [.int (n : Nat), d] :: enL (n + 1) ds := rfl
/-! evaluation of a comprehension with a target of several names -/
def comTO (o : Option Rho) (k : Nat) (g : PyData → Rho → Option Rho) (tt : Rho → Option Bool) (te : Rho → Option PyData) (ρ : Rho) (ds : List PyData) : Option (List PyData) := match o with
  | some ρ1 => (match tt ρ1 with | some true => consO (te ρ1) (compT k g tt te ρ ds) | some false => compT k g tt te ρ ds | none => none)
  | none => none
theorem compT_c (k : Nat) (g : PyData → Rho → Option Rho) (tt : Rho → Option Bool) (te : Rho → Option PyData) (ρ : Rho) (d : PyData) (ds : List PyData) : compT k g tt te ρ (d :: ds) = comTO (g d (ρ ++ List.replicate k none)) k g tt te ρ ds := by
  rw [compT]
  unfold ob comTO consO
  cases g d (ρ ++ List.replicate k none) with
  | none => rfl
  | some ρ1 =>
    dsimp only
    cases tt ρ1 with
    | none => rfl
    | some b =>
      cases b with
      | false => rfl
      | true => cases te ρ1 <;> cases compT k g tt te ρ ds <;> rfl
theorem compT_n (k : Nat) (g : PyData → Rho → Option Rho) (tt : Rho → Option Bool) (te : Rho → Option PyData) (ρ : Rho) : compT k g tt te ρ [] = some [] := rfl
def comTI (b : Option Bool) (y : Option PyData) (r : Option (List PyData)) : Option (List PyData) := match b with | some true => consO y r | some false => r | none => none
theorem comTO_s (ρ1 : Rho) (k : Nat) (g : PyData → Rho → Option Rho) (tt : Rho → Option Bool) (te : Rho → Option PyData) (ρ : Rho) (ds : List PyData) : comTO (some ρ1) k g tt te ρ ds = comTI (tt ρ1) (te ρ1) (compT k g tt te ρ ds) := by
  unfold comTO comTI
  rfl
theorem comTI_t (y : Option PyData) (r : Option (List PyData)) : comTI (some true) y r = consO y r := rfl
theorem comTI_f (y : Option PyData) (r : Option (List PyData)) : comTI (some false) y r = r := rfl
def comGO (a : Option (List PyData)) (n k : Nat) (g : PyData → Rho → Option Rho) (tt : Rho → Option Bool) (te : Rho → Option PyData) (ρ : Rho) : Option PyData := match a with | some ds => if ρ.length = n ∧ ds.length ≤ 1000 then listO (compT k g tt te ρ ds) else none | none => none
theorem compG_b (n k : Nat) (fi : Rho → Option (List PyData)) (g : PyData → Rho → Option Rho) (tt : Rho → Option Bool) (te : Rho → Option PyData) (ρ : Rho) : compG n k fi g tt te ρ = comGO (fi ρ) n k g tt te ρ := by
  unfold compG ob comGO listO
  cases fi ρ with
  | none => rfl
  | some ds =>
    dsimp only
    split
    · cases compT k g tt te ρ ds <;> rfl
    · rfl
theorem comGO_s (ds : List PyData) (n k : Nat) (g : PyData → Rho → Option Rho) (tt : Rho → Option Bool) (te : Rho → Option PyData) (ρ : Rho) : comGO (some ds) n k g tt te ρ = if ρ.length = n ∧ ds.length ≤ 1000 then listO (compT k g tt te ρ ds) else none := rfl
end
end L2
namespace L2
open PySem PySem.Spec PyProof.Rows
/-! ### dicts whose keys are tuples (of ints, of tuples of ints) -/
def k1Of : PyData → Option (Int ⊕ List Int)
  | .int i => some (.inl i)
  | .tuple ds => ob (intsOf ds) fun js => some (.inr js)
  | _ => none
def k1sOf : List PyData → Option K2
  | [] => some []
  | d :: ds => ob (k1Of d) fun k => ob (k1sOf ds) fun ks => some (k :: ks)
def k2Of : PyData → Option K2
  | .tuple ds => k1sOf ds
  | _ => none
def findD (kvs : List (PyData × PyData)) (ks : K2) : Option PyData := (kvs.find? fun p => PyData.eqv p.1 (k2T ks)).map (·.2)
def putD (kvs : List (PyData × PyData)) (ks : K2) (v : PyData) : List (PyData × PyData) :=
  if (findD kvs ks).isSome = true then kvs.map (fun p => if PyData.eqv p.1 (k2T ks) = true then (p.1, v) else p) else kvs ++ [(k2T ks, v)]
section
variable {K : PySem.W.Frag} {H : Hp} {S : Av}
end
section
variable {X : Cx} {pins : List (Addr × Obj)} {σ : St} {H : Hp} {s : Shared} {S : Av}
end
/-! #### what is done with them -/
def dputD (d k v : PyData) : Option PyData := match d with
  | .dict kvs => ob (k2Of k) fun ks => if kvs.length < 1000 then some (.dict (putD kvs ks v)) else none
  | _ => none
section
variable {X : Cx} {pins : List (Addr × Obj)} {σ : St} {H : Hp} {s : Shared} {S : Av} {A : Around} {E : Value → Shared → Prop}
end
end L2
namespace L2
open PySem PySem.Spec PyProof.Rows
/-! ### the keys of a dict, walked -/
section
variable {prog : Program} {w : World} {A : Around} {E : Value → Shared → Prop} {s : Shared}
end
/-- the keys of the dict at a -/
def Itd (a : Addr) (kvs : List (K2 × Addr × V)) (ep : Nat) : It :=
  ⟨fun i H => H a = some (DctO a kvs ep) ∧ i < kvs.length, fun i H x H' => H' = H ∧ ∃ p, kvs[i]? = some p ∧ x = .ref p.2.1, fun i H => H a = some (DctO a kvs ep) ∧ kvs.length ≤ i⟩
section
variable {X : Cx} {M : List Nat} {a : Expr} {f : Rho → Option PyData}
theorem IsIt.dct {K : PySem.W.Frag} {H : Hp} {S : Av} {l : Addr} {kvs : List (K2 × Addr × V)} {ep : Nat} (h : H l = some (DctO l kvs ep)) (k : DenL K H S (kvs.map fun p => V.ref p.2.1) (kvs.map fun p => k2T p.1)) : IsIt K S (Itd l kvs ep) H (kvs.map fun p => k2T p.1) where
  go := fun i H' e hi => ⟨e _ _ h, by rwa [List.length_map] at hi⟩
  yld := fun i H' x H2 e ⟨e2, p, hp, ex⟩ => ⟨by rw [e2]; exact Same.refl _, fun d hd S' w => by
    obtain ⟨v, h1, h2⟩ := k.get hd
    rw [List.getElem?_map, hp] at h1
    cases h1
    rw [ex]
    exact w _ _ h2⟩
  stop := fun H' e => ⟨e _ _ h, by rw [List.length_map]; exact Nat.le_refl _⟩
end
end L2
namespace L2
open PySem PySem.Spec PyProof.Rows
/-! ### dicts in expressions and statements -/
section
variable {X : Cx} {G : Gm} {M M' Mb L : List Nat} {fr : Fr} {a b c : Expr} {es : List Expr} {f fk fx g fa fb : Rho → Option PyData} {pos : Pos} {u : Rho → Option Out}
/-! #### {} -/
/-! #### d.get(k, x) -/
def ev3 (f g h : Rho → Option PyData) (r : PyData → PyData → PyData → Option PyData) : Rho → Option PyData := fun ρ => ob (f ρ) fun x => ob (g ρ) fun y => ob (h ρ) fun z => r x y z
/-! #### d[k] = v -/
def sDput (i : Nat) (fk f : Rho → Option PyData) : Rho → Option Out := fun ρ => ob (f ρ) fun d => ob (vr i ρ) fun l => ob (fk ρ) fun k => ob (dputD l k d) fun l' => some (.nx (ρ.set i (some l')))
end
end L2
namespace L2
open PySem PySem.Spec PyProof.Rows
/-! ### raise, where nothing is claimed of it -/
section
variable {X : Cx} {G : Gm} {M M' Mb L : List Nat} {fr : Fr} {a b c : Expr} {es : List Expr} {f fk g : Rho → Option PyData} {pos : Pos} {u : Rho → Option Out}
end
/-! ### t.index(e) -/
end L2
namespace L2
open PySem PySem.Spec PyProof.Rows
/-! ### new things with new lists within -/
def isLst : PyData → Bool
  | .list _ => true
  | _ => false
def vC (f : Rho → Option PyData) (fs : Rho → Option (List PyData)) : Rho → Option (List PyData) := fun ρ => ob (f ρ) fun d => ob (fs ρ) fun ds => if isLst d = true then some (d :: ds) else none
theorem Kids.length {K : PySem.W.Frag} {H : Hp} {S : Av} : ∀ {qs : List Addr} {ds : List PyData}, Kids K H S qs ds → qs.length = ds.length
  | _, _, .nil => rfl
  | _, _, .cons _ _ _ r => by rw [List.length_cons, List.length_cons, r.length]
/-- the child at a place -/
theorem Kids.get {K : PySem.W.Frag} {H : Hp} {S : Av} : ∀ {qs : List Addr} {ds : List PyData} {i : Nat} {d : PyData}, Kids K H S qs ds → ds[i]? = some d → ∃ q xs es, qs[i]? = some q ∧ d = .list es ∧ H q = some (.lst xs) ∧ DenL K H S xs es
  | _, _, _, _, .nil, e => by simp at e
  | _, _, 0, _, .cons h t _ _, e => by simp at e; subst e; exact ⟨_, _, _, rfl, rfl, h, t⟩
  | _, _, i + 1, d, .cons _ _ _ r, e => by
    obtain ⟨q, xs, es, h1, h2⟩ := Kids.get (i := i) (d := d) r (by simpa using e)
    exact ⟨q, xs, es, by simpa using h1, h2⟩
section
variable {X : Cx} {G : Gm} {M M' Mb L : List Nat} {fr : Fr} {a b c : Expr} {es : List Expr} {f fk g : Rho → Option PyData} {pos : Pos} {u : Rho → Option Out} {fs : Rho → Option (List PyData)}
def sTakeD (i : Nat) (f : Rho → Option PyData) : Rho → Option Out := fun ρ => if i < ρ.length ∧ ρ.length ≤ 1000 then ob (f ρ) fun d => some (.nx (ρ.set i (some d))) else none
/-- the promise of a def that hands back a new thing with new lists within -/
def spD (K : PySem.W.Frag) (n : Nat) (f : List PyData → Option PyData) : Sp := fun vs H Q _ => ∃ S ds d, Dm S H ∧ DenL K H S vs ds ∧ ds.length = n ∧ f ds = some d ∧ ∀ p fp H', Same H H' → (∀ q ∈ fp, H q = none) → DeepO K H' (insL S fp) fp p d → Q (.ref p) H'
theorem FunG.deep {P : Program} {w : World} {K : PySem.W.Frag} {mg : Str → Option Value} {base : Heap} {x qual : Str} {st : Stmt} {f : Addr} {fd : FuncData} {N ps : List Str} {k n : Nat} {u : Rho → Option Out} {M' : List Nat} (F : FunG K x qual st f fd) (S : FnScope N ps (defScope st)) (hn : ps.length = n)
    (hbody : ∀ (cdv : Value) (A : Around) (outer : List Env) (s : Shared) (H : Hp) (E : XK), Room k (A.deeper (envOfC qual (defScope st) s.heap.objs.size f cdv)) → ∀ G : Gm,
      PDSs (cxOf CX0 P w K mg base N qual (defScope st) f cdv A outer s H E).nox G [] [] M' [] .dp (defBody st) u) :
    FnOk P w K mg base CX0 (k + 1) f fd ps (spD K n fun ds => ob (u (rho0 N.length ds)) outF) := by
  refine F.ok S (fun vs H Q E h => ?_) (fun cdv A outer s H vs Q E hr h => ?_)
  · obtain ⟨_, ds, d, _, h1, h2, _⟩ := h
    rw [h1.length, h2, hn]
  · obtain ⟨Sv, ds, d, m, h1, h2, e, q⟩ := h
    obtain ⟨o, e1, e⟩ := ob_some e
    refine ⟨_, hbody cdv A outer s H E hr (G0 H Sv), Sv, rho0 N.length ds, o, OwnS.start m h1 N, e1, ?_⟩
    cases o with
    | rt r => cases e; exact fun p fp H' g n o => q p fp H' g (fun r hr => (n r hr).1) o
    | nx ρ => cases e
    | bk ρ => cases e
    | ct ρ => cases e
theorem Fun.deep {P : Program} {w : World} {K : PySem.W.Frag} {mg : Str → Option Value} {base : Heap} {x qual : Str} {st : Stmt} {f : Addr} {fd : FuncData} {N ps : List Str} {k n : Nat} {u : Rho → Option Out} {M' : List Nat} (F : Fun K x qual st f fd) (S : FnScope N ps (defScope st)) (hn : ps.length = n)
    (hbody : ∀ (cdv : Value) (A : Around) (outer : List Env) (s : Shared) (H : Hp) (E : XK), Room k (A.deeper (envOfC qual (defScope st) s.heap.objs.size f cdv)) → ∀ G : Gm,
      PDSs (cxOf CX0 P w K mg base N qual (defScope st) f cdv A outer s H E).nox G [] [] M' [] .dp (defBody st) u) :
    FnOk P w K mg base CX0 (k + 1) f fd ps (spD K n fun ds => ob (u (rho0 N.length ds)) outF) :=
  F.g.deep S hn hbody
structure KnownD (P : Program) (w : World) (K : PySem.W.Frag) (mg : Str → Option Value) (base : Heap) (x : Str) (n k : Nat) (h : List PyData → Option PyData) : Prop where
  ex : ∃ (f : Addr) (fd : FuncData) (ps : List Str), FnOk P w K mg base CX0 k f fd ps (spD K n h) ∧ mg x = some (.ref f) ∧ PySem.W.keepIn K (.ref f) = true ∧ Binds K fd ps []
theorem KnownD.known {P : Program} {w : World} {K : PySem.W.Frag} {mg : Str → Option Value} {base : Heap} {x : Str} {n k : Nat} {h : List PyData → Option PyData} (F : KnownD P w K mg base x n k h) : Known P w K mg base x n k h := by
  obtain ⟨f, fd, ps, F, m, kp, b⟩ := F.ex
  exact ⟨f, fd, ps, F.imp fun vs H Q E ⟨S, ds, d, m, h1, h2, e, q⟩ => ⟨S, ds, d, m, h1, h2, e, fun p fp H' g n o => q _ H' g (o.den (fun r hr => m.free (n r hr)) fun a _ z => .inl z)⟩, m, kp, b⟩
/-! #### the lists within are changed -/
def kidOf : PyData → PyData → Option Nat
  | .tuple ds, .int k => ixN ds.length k
  | .list ds, .int k => ixN ds.length k
  | _, _ => none
def kidAt : PyData → Nat → Option PyData
  | .tuple ds, j => ds[j]?
  | .list ds, j => ds[j]?
  | _, _ => none
def kidSet : PyData → Nat → PyData → PyData
  | .tuple ds, j, l => .tuple (ds.set j l)
  | .list ds, j, l => .list (ds.set j l)
  | d, _, _ => d
theorem DeepF.same {K : PySem.W.Frag} {H H' : Hp} {S : Av} {σ : St} {ρ : Rho} {F : Nat → List Addr} (e : Same H H') (f : DeepF K G M H S σ ρ F) : DeepF K G M H' S σ ρ F :=
  ⟨fun i hi d q => let ⟨p, a, b, c⟩ := f.own i hi d q; ⟨p, a, b.same e, c⟩, f.disj, f.flat⟩
theorem atI_map {qs : List Addr} {j : Nat} {k : Int} {q : Addr} {n : Nat} (h : n = qs.length) (e : ixN n k = some j) (e' : qs[j]? = some q) : atI (qs.map V.ref) k = some (.ref q) := by
  unfold atI
  rw [List.length_map, ← h, e]
  show (qs.map V.ref)[j]? = _
  rw [List.getElem?_map, e']; rfl
def sKApp (i : Nat) (fk f : Rho → Option PyData) : Rho → Option Out := fun ρ => ob (vr i ρ) fun c => ob (fk ρ) fun k => ob (kidOf c k) fun j => ob (kidAt c j) fun l => ob (f ρ) fun d => ob (appD l d) fun l' => some (.nx (ρ.set i (some (kidSet c j l'))))
def sKClr (i : Nat) (fk : Rho → Option PyData) : Rho → Option Out := fun ρ => ob (vr i ρ) fun c => ob (fk ρ) fun k => ob (kidOf c k) fun j => ob (kidAt c j) fun _ => some (.nx (ρ.set i (some (kidSet c j (.list [])))))
end
end L2
namespace L2
open PySem PySem.Spec PyProof.Rows
/-! ### calls that leave the last parameters to their defaults -/
def dfl (h : List PyData → Option PyData) (dds : List PyData) : List PyData → Option PyData := fun ds => h (ds ++ dds)
theorem dfl_b (h : List PyData → Option PyData) (dds ds : List PyData) : dfl h dds ds = h (ds ++ dds) := rfl
structure KnownX (P : Program) (w : World) (K : PySem.W.Frag) (mg : Str → Option Value) (base : Heap) (x : Str) (n k : Nat) (h : List PyData → Option PyData) (dds : List PyData) : Prop where
  ex : ∃ (f : Addr) (fd : FuncData) (ps : List Str) (us : List Value) (dvs : List V), FnOk P w K mg base CX0 k f fd ps (spF K n h) ∧ mg x = some (.ref f) ∧ PySem.W.keepIn K (.ref f) = true ∧ Binds K fd ps us ∧ Vals dvs us ∧ ∀ (H : Hp) (S : Av), DenL K H S dvs dds
structure KnownNX (P : Program) (w : World) (K : PySem.W.Frag) (mg : Str → Option Value) (base : Heap) (x : Str) (n k : Nat) (h : List PyData → Option PyData) (dds : List PyData) : Prop where
  ex : ∃ (f : Addr) (fd : FuncData) (ps : List Str) (us : List Value) (dvs : List V), FnOk P w K mg base CX0 k f fd ps (spN K n h) ∧ mg x = some (.ref f) ∧ PySem.W.keepIn K (.ref f) = true ∧ Binds K fd ps us ∧ Vals dvs us ∧ ∀ (H : Hp) (S : Av), DenL K H S dvs dds
theorem KnownNX.known {P : Program} {w : World} {K : PySem.W.Frag} {mg : Str → Option Value} {base : Heap} {x : Str} {n k : Nat} {h : List PyData → Option PyData} {dds : List PyData} (F : KnownNX P w K mg base x n k h dds) : KnownX P w K mg base x n k h dds := by
  obtain ⟨f, fd, ps, us, dvs, F, m, kp, b, v, t⟩ := F.ex
  exact ⟨f, fd, ps, us, dvs, F.imp fun vs H Q E ⟨S, ds, d, m, h1, h2, e, q⟩ => ⟨S, ds, d, m, h1, h2, e, fun p H' g n o => q _ H' g (o.den (m.free n) fun a _ z => .inl z)⟩, m, kp, b, v, t⟩
/-- how the arguments of a def with defaults bind: u given ones and the last of the defaults -/
theorem binds_dflt {K : PySem.W.Frag} {fd : FuncData} {ps : List Str} {us : List Value} {T : Addr} {oc : Value} {od : Option Addr} {items : Array Value} {n j : Nat} {sl : Array (Option Value)} (ht : K.lookup T = some ⟨oc, od, .seq items n, sl⟩) (hd : fd.defaults = .ref T) (hj : j + us.length = ps.length)
    (h : ∀ xs : List Value, xs.length = j → ∃ k : Option (Array Value) → Sem (List (Str × Value)), bindArgs fd ⟨xs, []⟩ = seqItems? fd.defaults >>= k ∧ k (some items) = pure (ps.zip (xs ++ us))) : Binds K fd ps us := fun s xs KX hl => by
  obtain ⟨k, h1, h2⟩ := h xs (by rw [List.length_append] at hl; omega)
  exact BindsTo.of_defaults hd (KX _ _ ht) rfl h1 h2
section
variable {X : Cx} {M : List Nat} {a : Expr} {es : List Expr} {pos : Pos}
theorem pd_knownX {x : Str} {p : Pos} {n j k k' : Nat} {h : List PyData → Option PyData} {dds : List PyData} {fs : Rho → Option (List PyData)} (F : KnownX X.prog X.w X.K X.mg X.base x n k h dds) (hr : Room k' X.A) (hk : k ≤ k') (hg : Gl X x) (ha : PDA X M (a :: es) fs) (hl : (a :: es).length = j) (hj : j + dds.length = n)
    (hdb : (x == ("__debug__" : Str)) = false := by decide +kernel) (he : starEach (a :: es) X.env = (false, eval a X.env) :: starEach es X.env := by rfl) (hpl : (backTo pos (starEach es X.env)).any (·.1) = false := by rfl) :
    PD X M (.Call (.Name x p) (a :: es) [] pos) (evC j fs (dfl h dds)) := by
  obtain ⟨f, fd, ps, us, dvs, F, m, kp, b, v, t⟩ := F.ex
  refine (pe_call F (hr.mono hk) hg m kp b v pass0 ha hdb he hpl).weak fun σ H Q ⟨S, ρ, d, hs, e, q⟩ => ?_
  obtain ⟨ds, e1, e⟩ := ob_some e
  have e : (if ds.length = j then h (ds ++ dds) else none) = some d := e
  split at e
  · rename_i hn
    exact ⟨S, ρ, ds, hs, e1, fun vs H1 g1 d1 => ⟨S, ds ++ dds, d, hs.1.same g1, d1.append (t H1 S), by rw [List.length_append, hn]; exact hj, e, fun v H' g2 d2 => q v H' (g1.trans g2) d2⟩⟩
  · cases e
end
end L2
namespace L2
open PySem PySem.Spec PyProof.Rows
/-! ### zip(xs, ys) of two lists, walked by a target of two -/
section
variable {X : Cx} {pins : List (Addr × Obj)} {σ : St} {H : Hp} {s : Shared}
end
/-- the pair of the two lists' things at turn i -/
def Itz (K : PySem.W.Frag) (a b : Addr) : It :=
  ⟨fun i H => ∃ xs ys x y, SqL K H a xs ∧ SqL K H b ys ∧ xs[i]? = some x ∧ ys[i]? = some y,
   fun i H v H' => ∃ p x y, H p = none ∧ v = .ref p ∧ H' = upd H p (.tup [x, y]) ∧ (∀ xs, SqL K H a xs → xs[i]? = some x) ∧ ∀ ys, SqL K H b ys → ys[i]? = some y,
   fun i H => ∃ xs ys, SqL K H a xs ∧ SqL K H b ys ∧ (xs[i]? = none ∨ ys[i]? = none)⟩
section
variable {X : Cx} {M : List Nat} {a b : Expr} {es : List Expr} {f fa fb : Rho → Option PyData} {pos : Pos}
/-- (x0, y0), (x1, y1), .. -/
def zpL : List PyData → List PyData → List PyData
  | d :: ds, e :: es => .tuple [d, e] :: zpL ds es
  | _, _ => []
theorem zpL_get : ∀ (ds es : List PyData) (i : Nat) (d : PyData), (zpL ds es)[i]? = some d → ∃ x y, ds[i]? = some x ∧ es[i]? = some y ∧ d = .tuple [x, y]
  | [], _, _, _, h => by simp [zpL] at h
  | _ :: _, [], _, _, h => by simp [zpL] at h
  | x :: ds, y :: es, 0, d, h => by simp [zpL] at h; exact ⟨x, y, rfl, rfl, h.symm⟩
  | x :: ds, y :: es, i + 1, d, h => by
    obtain ⟨x', y', h1, h2, h3⟩ := zpL_get ds es i d (by simpa [zpL] using h)
    exact ⟨x', y', by simpa using h1, by simpa using h2, h3⟩
theorem zpL_end : ∀ (ds es : List PyData), ds[(zpL ds es).length]? = none ∨ es[(zpL ds es).length]? = none
  | [], _ => .inl rfl
  | _ :: _, [] => .inr rfl
  | x :: ds, y :: es => by
    rcases zpL_end ds es with h | h
    · left; simpa [zpL] using h
    · right; simpa [zpL] using h
theorem IsIt.zip {K : PySem.W.Frag} {H : Hp} {S : Av} {l m : Addr} {xs ys : List V} {ds es : List PyData} (h : SqL K H l xs) (t : DenL K H S xs ds) (h' : SqL K H m ys) (t' : DenL K H S ys es) : IsIt K S (Itz K l m) H (zpL ds es) where
  go := fun i H' e hi => by
    obtain ⟨d, hd⟩ : ∃ d, (zpL ds es)[i]? = some d := ⟨_, List.getElem?_eq_getElem hi⟩
    obtain ⟨x, y, h1, h2, _⟩ := zpL_get ds es i d hd
    obtain ⟨v, h3, _⟩ := t.get h1
    obtain ⟨w, h4, _⟩ := t'.get h2
    exact ⟨xs, ys, v, w, e.seq h, e.seq h', h3, h4⟩
  yld := fun i H' x H2 e ⟨p, y1, y2, hp, ex, e2, q1, q2⟩ => by
    subst ex e2
    refine ⟨Same.lay hp, fun d hd S' w => ?_⟩
    obtain ⟨d1, d2, h1, h2, rfl⟩ := zpL_get ds es i d hd
    obtain ⟨v1, h3, r1⟩ := t.get h1
    obtain ⟨v2, h4, r2⟩ := t'.get h2
    have e3 := q1 xs (e.seq h)
    have e4 := q2 ys (e.seq h')
    rw [h3] at e3
    rw [h4] at e4
    cases e3
    cases e4
    exact .tuple (SqT.of upd_same) (.cons (w _ _ r1) (.cons (w _ _ r2) .nil))
  stop := fun H' e => ⟨xs, ys, e.seq h, e.seq h', by
    have a := t.length
    have b := t'.length
    rcases zpL_end ds es with z | z
    · left; rw [List.getElem?_eq_none_iff] at z ⊢; omega
    · right; rw [List.getElem?_eq_none_iff] at z ⊢; omega⟩
def zipD : PyData → PyData → Option (List PyData)
  | .list ds, .list es => some (zpL ds es)
  | _, _ => none
def evI2 (fa fb : Rho → Option PyData) (g : PyData → PyData → Option (List PyData)) (ρ : Rho) : Option (List PyData) := ob (fa ρ) fun x => ob (fb ρ) fun y => g x y
theorem zipD_ll (ds es : List PyData) : zipD (.list ds) (.list es) = some (zpL ds es) := rfl
theorem zpL_c (d e : PyData) (ds es : List PyData) : zpL (d :: ds) (e :: es) = .tuple [d, e] :: zpL ds es := rfl
theorem zpL_nl (es : List PyData) : zpL [] es = [] := by cases es <;> rfl
theorem zpL_nr (ds : List PyData) : zpL ds [] = [] := by cases ds <;> rfl
end
end L2
namespace L2
open PySem PySem.Spec PyProof.Rows
/-! ### T.index(e), T a constant tuple of the module -/
section
variable {X : Cx} {G : Gm} {M M' Mb L : List Nat} {fr : Fr} {a b c : Expr} {es : List Expr} {f fk g : Rho → Option PyData} {pos : Pos} {u : Rho → Option Out}
end
end L2
namespace L2
open PySem PySem.Spec PyProof.Rows
/-! ### greater than, of data: ints, tuples of such -/
mutual
def gtX : PyData → PyData → Option Bool
  | .int i, .int j => some (decide (i > j))
  | .tuple xs, .tuple ys => gtXs xs ys
  | _, _ => none
def gtXs : List PyData → List PyData → Option Bool
  | [], [] => some false
  | [], _ :: _ => some false
  | _ :: _, [] => some true
  | x :: xs, y :: ys => if PyData.eqv x y = true then gtXs xs ys else gtX x y
end
section
open PySem.SeqAt
open PySem.AutoSeq1 (wpAny_loadPart')
open PySem.MeetsSeq PySem.MeetsSeq2 PySem.MeetsSeq3
end
end L2
namespace L2
open PySem PySem.Spec PyProof.Rows
/-! ### min, max: of two, of a list, with a default; ints and tuples of such -/
section
variable {prog : Program} {w : World} {A : Around} {R : Result → Shared → Prop} {it : Addr} {fp wr : List Addr} {n : Nat} {P : Nat → Value → Prop} {St : Nat → Heap → Prop} {h0 : Heap}
end
section
variable {s : Shared} {prog : Program} {w : World} {A : Around} {E : Value → Shared → Prop}
end
section
variable {prog : Program} {w : World} {A : Around} {R : Result → Shared → Prop} {it : Addr} {fp wr : List Addr} {n : Nat} {P : Nat → Value → Prop} {St : Nat → Heap → Prop} {h0 : Heap}
end
section
variable {s : Shared} {prog : Program} {w : World} {A : Around} {E : Value → Shared → Prop}
end
section
variable {X : Cx}
def minT2D : List PyData → Option PyData
  | [x, y] => if SeqAt.shaped x = true ∧ SeqAt.shaped y = true ∧ y.depth ≤ 50 then ob (ltX y x) fun r => some (if r = true then y else x) else none
  | _ => none
def maxT2D : List PyData → Option PyData
  | [x, y] => if SeqAt.shaped x = true ∧ SeqAt.shaped y = true ∧ y.depth ≤ 50 then ob (gtX y x) fun r => some (if r = true then y else x) else none
  | _ => none
theorem minT2D_c (x y : PyData) : minT2D [x, y] = if SeqAt.shaped x = true ∧ SeqAt.shaped y = true ∧ y.depth ≤ 50 then ob (ltX y x) fun r => some (if r = true then y else x) else none := rfl
theorem maxT2D_c (x y : PyData) : maxT2D [x, y] = if SeqAt.shaped x = true ∧ SeqAt.shaped y = true ∧ y.depth ≤ 50 then ob (gtX y x) fun r => some (if r = true then y else x) else none := rfl
theorem minT2D_i (i j : Int) : minT2D [.int i, .int j] = some (.int (if j < i then j else i)) := by
  have c : SeqAt.shaped (.int i) = true ∧ SeqAt.shaped (.int j) = true ∧ (PyData.int j).depth ≤ 50 := ⟨rfl, rfl, Nat.zero_le _⟩
  rw [minT2D_c, if_pos c, ltX]
  by_cases h : j < i
  · rw [if_pos h, decide_eq_true h]; rfl
  · rw [if_neg h, decide_eq_false h]; rfl
theorem maxT2D_i (i j : Int) : maxT2D [.int i, .int j] = some (.int (if j > i then j else i)) := by
  have c : SeqAt.shaped (.int i) = true ∧ SeqAt.shaped (.int j) = true ∧ (PyData.int j).depth ≤ 50 := ⟨rfl, rfl, Nat.zero_le _⟩
  rw [maxT2D_c, if_pos c, gtX]
  by_cases h : j > i
  · rw [if_pos h, decide_eq_true h]; rfl
  · rw [if_neg h, decide_eq_false h]; rfl
end
end L2
namespace L2
open PySem
/-! ### evaluation of what has come later -/
theorem sTakeD_b (i : Nat) (f : Rho → Option PyData) (ρ : Rho) : sTakeD i f ρ = takO (decide (i < ρ.length ∧ ρ.length ≤ 1000)) (f ρ) i ρ := by
  unfold sTakeD ob takO
  by_cases h : i < ρ.length ∧ ρ.length ≤ 1000
  · rw [if_pos h, decide_eq_true h]
    cases f ρ <;> rfl
  · rw [if_neg h, decide_eq_false h]
def vcO (a : Option PyData) (b : Option (List PyData)) : Option (List PyData) := match a, b with | some x, some xs => if isLst x = true then some (x :: xs) else none | _, _ => none
theorem vC_b (f : Rho → Option PyData) (fs : Rho → Option (List PyData)) (ρ : Rho) : vC f fs ρ = vcO (f ρ) (fs ρ) := by
  unfold vC ob vcO
  cases f ρ <;> cases fs ρ <;> rfl
theorem vcO_s (ds es : List PyData) : vcO (some (.list ds)) (some es) = some (.list ds :: es) := rfl
def bi2O (a b : Option PyData) (g : PyData → PyData → Option (List PyData)) : Option (List PyData) := match a, b with | some x, some y => g x y | _, _ => none
theorem evI2_b (fa fb : Rho → Option PyData) (g : PyData → PyData → Option (List PyData)) (ρ : Rho) : evI2 fa fb g ρ = bi2O (fa ρ) (fb ρ) g := by
  unfold evI2 ob bi2O
  cases fa ρ <;> cases fb ρ <;> rfl
theorem bi2O_s (x y : PyData) (g : PyData → PyData → Option (List PyData)) : bi2O (some x) (some y) g = g x y := rfl
def kapO (c k d : Option PyData) (i : Nat) (ρ : Rho) : Option Out := match c, k, d with
  | some c, some k, some d => ob (kidOf c k) fun j => ob (kidAt c j) fun l => ob (appD l d) fun l' => some (.nx (ρ.set i (some (kidSet c j l'))))
  | _, _, _ => none
theorem sKApp_b (i : Nat) (fk f : Rho → Option PyData) (ρ : Rho) : sKApp i fk f ρ = kapO (vr i ρ) (fk ρ) (f ρ) i ρ := by
  unfold sKApp kapO
  cases vr i ρ with
  | none => rfl
  | some c =>
    cases fk ρ with
    | none => rfl
    | some k =>
      cases f ρ with
      | some d => rfl
      | none =>
        show ob (kidOf c k) _ = none
        cases kidOf c k with
        | none => rfl
        | some j =>
          show ob (kidAt c j) _ = none
          cases kidAt c j <;> rfl
def kclO (c k : Option PyData) (i : Nat) (ρ : Rho) : Option Out := match c, k with
  | some c, some k => ob (kidOf c k) fun j => ob (kidAt c j) fun _ => some (.nx (ρ.set i (some (kidSet c j (.list [])))))
  | _, _ => none
theorem sKClr_b (i : Nat) (fk : Rho → Option PyData) (ρ : Rho) : sKClr i fk ρ = kclO (vr i ρ) (fk ρ) i ρ := by
  unfold sKClr kclO
  cases vr i ρ with
  | none => rfl
  | some c => cases fk ρ <;> rfl
def nxdO (o : Option PyData) (i : Nat) (ρ : Rho) : Option Out := match o with | some l => some (.nx (ρ.set i (some l))) | none => none
theorem nxdO_s (l : PyData) (i : Nat) (ρ : Rho) : nxdO (some l) i ρ = some (.nx (ρ.set i (some l))) := rfl
def dpO (d l k : Option PyData) (i : Nat) (ρ : Rho) : Option Out := match d, l, k with | some d, some l, some k => nxdO (dputD l k d) i ρ | _, _, _ => none
theorem dpO_s (d l k : PyData) (i : Nat) (ρ : Rho) : dpO (some d) (some l) (some k) i ρ = nxdO (dputD l k d) i ρ := rfl
theorem sDput_b (i : Nat) (fk f : Rho → Option PyData) (ρ : Rho) : sDput i fk f ρ = dpO (f ρ) (vr i ρ) (fk ρ) i ρ := by
  unfold sDput dpO ob
  cases f ρ with
  | none => rfl
  | some d =>
    cases vr i ρ with
    | none => rfl
    | some l =>
      cases fk ρ with
      | none => rfl
      | some k =>
        dsimp only
        unfold nxdO
        cases dputD l k d <;> rfl
def triO (a b c : Option PyData) (r : PyData → PyData → PyData → Option PyData) : Option PyData := match a, b, c with | some x, some y, some z => r x y z | _, _, _ => none
theorem triO_s (x y z : PyData) (r : PyData → PyData → PyData → Option PyData) : triO (some x) (some y) (some z) r = r x y z := rfl
theorem ev3_b (f g h : Rho → Option PyData) (r : PyData → PyData → PyData → Option PyData) (ρ : Rho) : ev3 f g h r ρ = triO (f ρ) (g ρ) (h ρ) r := by
  unfold ev3 triO ob
  cases f ρ <;> cases g ρ <;> cases h ρ <;> rfl
theorem kapO_t0 (a b : List PyData) (d : PyData) (i : Nat) (ρ : Rho) : kapO (some (.tuple [.list a, .list b])) (some (.int 0)) (some d) i ρ = if a.length < 1000 then some (.nx (ρ.set i (some (.tuple [.list (a ++ [d]), .list b])))) else none := by
  show ob (appD (.list a) d) _ = _
  rw [appD_l]
  split <;> rfl
theorem kapO_t1 (a b : List PyData) (d : PyData) (i : Nat) (ρ : Rho) : kapO (some (.tuple [.list a, .list b])) (some (.int 1)) (some d) i ρ = if b.length < 1000 then some (.nx (ρ.set i (some (.tuple [.list a, .list (b ++ [d])])))) else none := by
  show ob (appD (.list b) d) _ = _
  rw [appD_l]
  split <;> rfl
theorem kclO_t0 (a b : List PyData) (i : Nat) (ρ : Rho) : kclO (some (.tuple [.list a, .list b])) (some (.int 0)) i ρ = some (.nx (ρ.set i (some (.tuple [.list [], .list b])))) := rfl
theorem kclO_t1 (a b : List PyData) (i : Nat) (ρ : Rho) : kclO (some (.tuple [.list a, .list b])) (some (.int 1)) i ρ = some (.nx (ρ.set i (some (.tuple [.list a, .list []])))) := rfl
end L2
namespace L2
open PySem PySem.Spec PyProof.Rows
/-! ### [new list for ..]: a list of new lists -/
theorem Kids.snoc {K : PySem.W.Frag} {H : Hp} {S : Av} {p : Addr} {xs : List V} {es : List PyData} (h : H p = some (.lst xs)) (t : DenL K H S xs es) : ∀ {qs : List Addr} {ds : List PyData}, p ∉ qs → Kids K H S qs ds → Kids K H S (qs ++ [p]) (ds ++ [.list es])
  | _, _, _, .nil => .cons h t (fun z => nomatch z) .nil
  | _, _, n, .cons h' t' n' r => .cons h' t' (fun z => (List.mem_append.mp z).elim n' fun z => n (by rw [List.mem_singleton.mp z]; exact .head _)) (Kids.snoc h t (fun z => n (.tail _ z)) r)
section
variable {X : Cx} {G : Gm} {M M' Mb L : List Nat} {fr : Fr} {f : Rho → Option PyData} {p : Rho → Option Bool} {pos : Pos}
variable {elt iter tg : Expr} {ifs : List Expr} {x : Str} {N' : List Str} {px : Pos} {sc : Scope} {n k : Nat} {fi : Rho → Option (List PyData)} {g : PyData → Rho → Option Rho}
end
end L2
namespace L2
open PySem PySem.W PyProof.Rows
/-! ### the run of the asking tree is a sorted permutation -/
theorem runC_bind {α β : Type} {lt : Nat → Nat → Option Bool} {f : α → KasT β} : ∀ (t : KasT α), runC lt (t.bind f) = ob (runC lt t) fun a => runC lt (f a)
  | .ret _ => rfl
  | .ask i j k => by
    show ob (lt i j) (fun b => runC lt ((k b).bind f)) = ob (ob (lt i j) fun b => runC lt (k b)) _
    cases lt i j with
    | none => rfl
    | some b => exact runC_bind (k b)
structure IOrd (n : Nat) (lt : Nat → Nat → Option Bool) (blt : Nat → Nat → Bool) : Prop where
  ask : ∀ i j, i < n → j < n → lt i j = some (blt i j)
  irr : ∀ i, blt i i = false
  tr : ∀ i j k, blt i j = true → blt j k = true → blt i k = true
  neg : ∀ i j k, blt i k = true → blt i j = true ∨ blt j k = true
def gp (p : Array Nat) (i : Nat) : Nat := p.getD i 0
def PermN (n : Nat) (p : Array Nat) : Prop := p.toList.Perm (List.range n)
def UpTo (blt : Nat → Nat → Bool) (p : Array Nat) (m : Nat) : Prop := ∀ i j, i ≤ j → j < m → blt (gp p j) (gp p i) = false
section
variable {n : Nat} {lt : Nat → Nat → Option Bool} {blt : Nat → Nat → Bool} {p : Array Nat}
theorem PermN.size (h : PermN n p) : p.size = n := by
  have := h.length_eq
  rw [Array.length_toList, List.length_range] at this
  exact this
theorem PermN.inb (h : PermN n p) {i : Nat} (hi : i < n) : gp p i < n := by
  have hs := h.size
  have e : gp p i = p[i]'(by omega) := by simp [gp, Array.getD, hs, hi]
  have hm : p[i]'(by omega) ∈ p.toList := by simp
  have := h.mem_iff.mp hm
  rw [e]
  exact List.mem_range.mp this
theorem gp_of {q : Array Nat} {i j : Nat} (h : q[i]? = p[j]?) : gp q i = gp p j := by
  unfold gp
  simp only [Array.getD_eq_getD_getElem?, h]
theorem IOrd.le_tr (O : IOrd n lt blt) {a b c : Nat} (h1 : blt b a = false) (h2 : blt c b = false) : blt c a = false := by
  cases h : blt c a with
  | false => rfl
  | true =>
    rcases O.neg c b a h with z | z
    · rw [h2] at z; cases z
    · rw [h1] at z; cases z
theorem IOrd.asym (O : IOrd n lt blt) {a b : Nat} (h : blt a b = true) : blt b a = false := by
  cases z : blt b a with
  | false => rfl
  | true =>
    have := O.tr a b a h z
    rw [O.irr] at this
    cases this
theorem place_run (O : IOrd n lt blt) (hp : PermN n p) {k : Nat} (hk : k < n) (hs : UpTo blt p k) : ∀ (f l r : Nat), r - l ≤ f → l ≤ r → r ≤ k → (∀ i, i < l → blt (gp p k) (gp p i) = false) → (∀ i, r ≤ i → i < k → blt (gp p k) (gp p i) = true) →
    ∃ m, runC lt (kas_place p k f l r) = some m ∧ m ≤ k ∧ (∀ i, i < m → blt (gp p k) (gp p i) = false) ∧ (∀ i, m ≤ i → i < k → blt (gp p k) (gp p i) = true) := by
  intro f
  induction f with
  | zero =>
    intro l r h1 h2 h3 h4 h5
    exact ⟨l, rfl, by omega, h4, fun i hi hi2 => h5 i (by omega) hi2⟩
  | succ f ih =>
    intro l r h1 h2 h3 h4 h5
    unfold kas_place
    by_cases hlr : l ≥ r
    · rw [if_pos hlr]
      exact ⟨l, rfl, by omega, h4, fun i hi hi2 => h5 i (by omega) hi2⟩
    · rw [if_neg hlr]
      have hm : (l + r) / 2 < k := by omega
      have ea := O.ask (gp p k) (gp p ((l + r) / 2)) (hp.inb hk) (hp.inb (by omega))
      show ∃ m, ob (lt (gp p k) (gp p ((l + r) / 2))) (fun c => runC lt (if c = true then kas_place p k f l ((l + r) / 2) else kas_place p k f ((l + r) / 2 + 1) r)) = some m ∧ _
      rw [ea]
      cases hb : blt (gp p k) (gp p ((l + r) / 2)) with
      | true =>
        refine ih l ((l + r) / 2) (by omega) (by omega) (by omega) h4 fun i hi hi2 => ?_
        cases z : blt (gp p k) (gp p i) with
        | true => rfl
        | false =>
          have := hs ((l + r) / 2) i hi hi2
          have q := O.le_tr this z
          rw [hb] at q
          cases q
      | false =>
        refine ih ((l + r) / 2 + 1) r (by omega) (by omega) h3 (fun i hi => ?_) h5
        exact O.le_tr (hs i ((l + r) / 2) (by omega) hm) hb
theorem permN_of {q : Array Nat} (h : PermN n p) (hq : q.Perm p) : PermN n q := (Array.perm_iff_toList_perm.mp hq).trans h
theorem gp_bubble {k m : Nat} (hk : k < p.size) (hm : m ≤ k) (i : Nat) : gp (bubble p k (k - m)) i = if i = m then gp p k else if m < i ∧ i ≤ k then gp p (i - 1) else gp p i := by
  have e := getElem?_bubble hk (k - m) (by omega) i
  have hkm : k - (k - m) = m := by omega
  rw [hkm] at e
  by_cases h1 : i = m
  · rw [if_pos h1] at e ⊢; exact gp_of e
  · rw [if_neg h1] at e ⊢
    by_cases h2 : m < i ∧ i ≤ k
    · rw [if_pos h2] at e ⊢; exact gp_of e
    · rw [if_neg h2] at e ⊢; exact gp_of e
theorem gp_rev {i j : Nat} (hj : j ≤ p.size) (k : Nat) : gp (kas_rev p i j) k = if i ≤ k ∧ k < j then gp p (i + j - 1 - k) else gp p k := by
  have e := getElem?_mirror_all (i := i) hj k
  unfold kas_rev
  by_cases h1 : i ≤ k ∧ k < j
  · rw [if_pos h1] at e ⊢; exact gp_of e
  · rw [if_neg h1] at e ⊢; exact gp_of e
theorem permN_rev (h : PermN n p) (i j : Nat) : PermN n (kas_rev p i j) := permN_of h (mirror_perm _ _ _ _)
theorem bin_run (O : IOrd n lt blt) : ∀ (f : Nat) (p : Array Nat) (k : Nat), PermN n p → UpTo blt p k → k + f = n → ∃ p', runC lt (kas_bin f p k) = some p' ∧ PermN n p' ∧ UpTo blt p' n := by
  intro f
  induction f with
  | zero => exact fun p k hp hs e => ⟨p, rfl, hp, by rw [← e]; exact hs⟩
  | succ f ih =>
    intro p k hp hs e
    have hk : k < n := by omega
    obtain ⟨m, e1, h1, h2, h3⟩ := place_run O hp hk hs k 0 k (by omega) (by omega) (by omega) (fun i hi => by omega) (fun i hi hi2 => by omega)
    have hz := hp.size
    obtain ⟨p', e2, h4, h5⟩ := ih (bubble p k (k - m)) (k + 1) (permN_of hp (bubble_perm _ _ _)) (fun i j hij hj => by
      rw [gp_bubble (by omega) h1, gp_bubble (by omega) h1]
      by_cases a1 : j = m
      · rw [if_pos a1]
        by_cases a2 : i = m
        · rw [if_pos a2]; exact O.irr _
        · rw [if_neg a2, if_neg (by omega)]
          exact h2 i (by omega)
      · rw [if_neg a1]
        by_cases a3 : m < j ∧ j ≤ k
        · rw [if_pos a3]
          by_cases a2 : i = m
          · rw [if_pos a2]
            exact O.asym (h3 (j - 1) (by omega) (by omega))
          · rw [if_neg a2]
            by_cases a4 : m < i ∧ i ≤ k
            · rw [if_pos a4]
              exact hs (i - 1) (j - 1) (by omega) (by omega)
            · rw [if_neg a4]
              exact hs i (j - 1) (by omega) (by omega)
        · rw [if_neg a3, if_neg (by omega), if_neg (by omega)]
          exact hs i j hij (by omega)) (by omega)
    refine ⟨p', ?_, h4, h5⟩
    unfold kas_bin
    rw [runC_bind, e1]
    exact e2
theorem asc_run (O : IOrd n lt blt) (hp : PermN n p) : ∀ (f m : Nat), 1 ≤ m → m + f ≤ n → UpTo blt p m → ∃ m', runC lt (kas_asc p f m) = some m' ∧ m ≤ m' ∧ m' ≤ m + f ∧ UpTo blt p m' ∧ (m' < m + f → blt (gp p m') (gp p (m' - 1)) = true) := by
  intro f
  induction f with
  | zero => exact fun m h1 h2 hs => ⟨m, rfl, by omega, by omega, hs, fun z => by omega⟩
  | succ f ih =>
    intro m h1 h2 hs
    have ea := O.ask (gp p m) (gp p (m - 1)) (hp.inb (by omega)) (hp.inb (by omega))
    unfold kas_asc
    show ∃ m', ob (lt (gp p m) (gp p (m - 1))) (fun c => runC lt (if c = true then .ret m else kas_asc p f (m + 1))) = some m' ∧ _
    rw [ea]
    cases hb : blt (gp p m) (gp p (m - 1)) with
    | true => exact ⟨m, rfl, by omega, by omega, hs, fun _ => hb⟩
    | false =>
      obtain ⟨m', e1, h3, h4, h5, h6⟩ := ih (m + 1) (by omega) (by omega) (fun i j hij hj => by
        by_cases hjm : j = m
        · subst hjm
          by_cases hi : i = j
          · subst hi; exact O.irr _
          · exact O.le_tr (hs i (j - 1) (by omega) (by omega)) hb
        · exact hs i j hij (by omega))
      exact ⟨m', e1, by omega, by omega, h5, fun z => h6 (by omega)⟩
def DownTo (blt : Nat → Nat → Bool) (p : Array Nat) (m : Nat) : Prop := ∀ i j, i ≤ j → j < m → blt (gp p i) (gp p j) = false
def EqSeg (blt : Nat → Nat → Bool) (p : Array Nat) (a b : Nat) : Prop := ∀ i j, a ≤ i → i < b → a ≤ j → j < b → blt (gp p i) (gp p j) = false
theorem down_rev (hp : PermN n p) {m a : Nat} (hm : m ≤ n) (ha : a ≤ m) (hd : DownTo blt p m) (hs : EqSeg blt p a m) : DownTo blt (kas_rev p a m) m ∧ ∀ i, i < m → ∃ i', i' < m ∧ gp (kas_rev p a m) i = gp p i' := by
  have hz := hp.size
  refine ⟨fun i j hij hj => ?_, fun i hi => ?_⟩
  · rw [gp_rev (by omega), gp_rev (by omega)]
    by_cases h1 : a ≤ i ∧ i < m
    · rw [if_pos h1, if_pos (by omega)]
      exact hs _ _ (by omega) (by omega) (by omega) (by omega)
    · rw [if_neg h1]
      by_cases h2 : a ≤ j ∧ j < m
      · rw [if_pos h2]; exact hd _ _ (by omega) (by omega)
      · rw [if_neg h2]; exact hd _ _ hij hj
  · rw [gp_rev (by omega)]
    by_cases h1 : a ≤ i ∧ i < m
    · rw [if_pos h1]; exact ⟨_, by omega, rfl⟩
    · rw [if_neg h1]; exact ⟨i, hi, rfl⟩
theorem desc_run (O : IOrd n lt blt) : ∀ (f : Nat) (p : Array Nat) (m q : Nat), PermN n p → m + f ≤ n → q + 1 ≤ m → DownTo blt p m → EqSeg blt p (m - (q + 1)) m →
    ∃ p' m' q', runC lt (kas_desc f p m q) = some (p', m', q') ∧ PermN n p' ∧ m ≤ m' ∧ m' ≤ m + f ∧ q' + 1 ≤ m' ∧ DownTo blt p' m' ∧ EqSeg blt p' (m' - (q' + 1)) m' := by
  intro f
  induction f with
  | zero => exact fun p m q hp _ hq hd hs => ⟨p, m, q, rfl, hp, by omega, by omega, hq, hd, hs⟩
  | succ f ih =>
    intro p m q hp hm hq hd hs
    have hz := hp.size
    have e1 := O.ask (gp p m) (gp p (m - 1)) (hp.inb (by omega)) (hp.inb (by omega))
    have e2 := O.ask (gp p (m - 1)) (gp p m) (hp.inb (by omega)) (hp.inb (by omega))
    unfold kas_desc
    show ∃ p' m' q', ob (lt (gp p m) (gp p (m - 1))) (fun c => runC lt (if c = true then (if q > 0 then kas_desc f (kas_rev p (m - (q + 1)) m) (m + 1) 0 else kas_desc f p (m + 1) 0)
      else .ask (p.getD (m - 1) 0) (p.getD m 0) fun d => if d = true then .ret (p, m, q) else kas_desc f p (m + 1) (q + 1))) = some (p', m', q') ∧ _
    rw [e1]
    cases hb : blt (gp p m) (gp p (m - 1)) with
    | true =>
      have below : ∀ i, i < m → blt (gp p i) (gp p m) = false := fun i hi => O.le_tr (O.asym hb) (hd i (m - 1) (by omega) (by omega))
      show ∃ p' m' q', runC lt (if q > 0 then kas_desc f (kas_rev p (m - (q + 1)) m) (m + 1) 0 else kas_desc f p (m + 1) 0) = some (p', m', q') ∧ _
      by_cases hq0 : q > 0
      · rw [if_pos hq0]
        obtain ⟨d1, d2⟩ := down_rev (blt := blt) hp (m := m) (a := m - (q + 1)) (by omega) (by omega) hd hs
        have gm : gp (kas_rev p (m - (q + 1)) m) m = gp p m := by rw [gp_rev (by omega), if_neg (by omega)]
        obtain ⟨p', m', q', r1, r2, r3, r4, r5, r6, r7⟩ := ih (kas_rev p (m - (q + 1)) m) (m + 1) 0 (permN_rev hp _ _) (by omega) (by omega) (fun i j hij hj => by
          by_cases hjm : j = m
          · subst hjm
            by_cases hi : i = j
            · subst hi; exact O.irr _
            · obtain ⟨i', hi', ei⟩ := d2 i (by omega)
              rw [ei, gm]
              exact below i' hi'
          · exact d1 i j hij (by omega)) (fun i j h1 h2 h3 h4 => by
            have : i = m := by omega
            have : j = m := by omega
            subst i; subst j; exact O.irr _)
        exact ⟨p', m', q', r1, r2, by omega, by omega, r5, r6, r7⟩
      · rw [if_neg hq0]
        obtain ⟨p', m', q', r1, r2, r3, r4, r5, r6, r7⟩ := ih p (m + 1) 0 hp (by omega) (by omega) (fun i j hij hj => by
          by_cases hjm : j = m
          · subst hjm
            by_cases hi : i = j
            · subst hi; exact O.irr _
            · exact below i (by omega)
          · exact hd i j hij (by omega)) (fun i j h1 h2 h3 h4 => by
            have : i = m := by omega
            have : j = m := by omega
            subst i; subst j; exact O.irr _)
        exact ⟨p', m', q', r1, r2, by omega, by omega, r5, r6, r7⟩
    | false =>
      show ∃ p' m' q', ob (lt (gp p (m - 1)) (gp p m)) (fun d => runC lt (if d = true then .ret (p, m, q) else kas_desc f p (m + 1) (q + 1))) = some (p', m', q') ∧ _
      rw [e2]
      cases hd2 : blt (gp p (m - 1)) (gp p m) with
      | true => exact ⟨p, m, q, rfl, hp, by omega, by omega, hq, hd, hs⟩
      | false =>
        obtain ⟨p', m', q', r1, r2, r3, r4, r5, r6, r7⟩ := ih p (m + 1) (q + 1) hp (by omega) (by omega) (fun i j hij hj => by
          by_cases hjm : j = m
          · subst hjm
            by_cases hi : i = j
            · subst hi; exact O.irr _
            · exact O.le_tr hd2 (hd i (j - 1) (by omega) (by omega))
          · exact hd i j hij (by omega)) (fun i j h1 h2 h3 h4 => by
            have s1 : ∀ i, m - (q + 1) ≤ i → i < m → blt (gp p i) (gp p m) = false ∧ blt (gp p m) (gp p i) = false := fun i a b =>
              ⟨O.le_tr hd2 (hs i (m - 1) a b (by omega) (by omega)), O.le_tr (hs (m - 1) i (by omega) (by omega) a b) hb⟩
            by_cases hi : i = m
            · subst hi
              by_cases hj : j = i
              · subst hj; exact O.irr _
              · exact (s1 j (by omega) (by omega)).2
            · by_cases hj : j = m
              · subst hj; exact (s1 i (by omega) (by omega)).1
              · exact hs i j (by omega) (by omega) (by omega) (by omega))
        exact ⟨p', m', q', r1, r2, by omega, by omega, r5, r6, r7⟩
theorem tail3_run (O : IOrd n lt blt) (hp : PermN n p) {m : Nat} (h1 : 1 ≤ m) (h2 : m ≤ n) (hd : DownTo blt p m) : ∃ m' p', runC lt (kas_tail3 m n p) = some (m', p') ∧ PermN n p' ∧ 1 ≤ m' ∧ m' ≤ n ∧ UpTo blt p' m' := by
  have hz := hp.size
  obtain ⟨m', e1, h3, h4, h5, _⟩ := asc_run O (permN_rev hp 0 m) (n - m) m h1 (by omega) (fun i j hij hj => by
    rw [gp_rev (by omega), gp_rev (by omega), if_pos (by omega), if_pos (by omega)]
    exact hd _ _ (by omega) (by omega))
  refine ⟨m', kas_rev p 0 m, ?_, permN_rev hp 0 m, by omega, by omega, h5⟩
  unfold kas_tail3
  rw [runC_bind, e1]
  rfl
theorem descPart_run (O : IOrd n lt blt) (hp : PermN n p) {k : Nat} (h2 : k + 1 ≤ n) (hd : DownTo blt p (k + 1)) : ∃ m' p', runC lt (kas_descPart k n p) = some (m', p') ∧ PermN n p' ∧ 1 ≤ m' ∧ m' ≤ n ∧ UpTo blt p' m' := by
  obtain ⟨p1, m1, q1, e1, r2, r3, r4, r5, r6, r7⟩ := desc_run O (n - (k + 1)) p (k + 1) 0 hp (by omega) (by omega) hd (fun i j a1 a2 a3 a4 => by
    have : i = k := by omega
    have : j = k := by omega
    subst i; subst j; exact O.irr _)
  unfold kas_descPart
  rw [runC_bind, e1]
  show ∃ m' p', runC lt (if q1 > 0 then kas_tail3 m1 n (kas_rev p1 (m1 - (q1 + 1)) m1) else kas_tail3 m1 n p1) = some (m', p') ∧ _
  by_cases hq : q1 > 0
  · rw [if_pos hq]
    exact tail3_run O (permN_rev r2 _ _) (by omega) (by omega) (down_rev r2 (by omega) (by omega) r6 r7).1
  · rw [if_neg hq]
    exact tail3_run O r2 (by omega) (by omega) r6
theorem count_run (O : IOrd n lt blt) (hp : PermN n p) (hn : 1 ≤ n) : ∃ m' p', runC lt (kas_count n p) = some (m', p') ∧ PermN n p' ∧ 1 ≤ m' ∧ m' ≤ n ∧ UpTo blt p' m' := by
  have hz := hp.size
  obtain ⟨m, e1, h3, h4, h5, h6⟩ := asc_run O hp (n - 1) 1 (by omega) (by omega) (fun i j hij hj => by
    have : i = 0 := by omega
    have : j = 0 := by omega
    subst i; subst j; exact O.irr _)
  unfold kas_count
  rw [runC_bind, e1]
  show ∃ m' p', runC lt (if (m == n) = true then .ret (m, p) else if m > 1 then .ask (p.getD 0 0) (p.getD (m - 1) 0) fun c => if c = true then .ret (m, p) else kas_descPart m n (kas_rev p 0 m) else kas_descPart m n p) = some (m', p') ∧ _
  by_cases hmn : m = n
  · rw [if_pos (by simpa using hmn)]
    exact ⟨m, p, rfl, hp, by omega, by omega, h5⟩
  · rw [if_neg (by simpa using hmn)]
    have hb := h6 (by omega)
    by_cases hm1 : m > 1
    · rw [if_pos hm1]
      have ea := O.ask (gp p 0) (gp p (m - 1)) (hp.inb (by omega)) (hp.inb (by omega))
      show ∃ m' p', ob (lt (gp p 0) (gp p (m - 1))) (fun c => runC lt (if c = true then .ret (m, p) else kas_descPart m n (kas_rev p 0 m))) = some (m', p') ∧ _
      rw [ea]
      cases hc : blt (gp p 0) (gp p (m - 1)) with
      | true => exact ⟨m, p, rfl, hp, by omega, by omega, h5⟩
      | false =>
        refine descPart_run O (permN_rev hp 0 m) (by omega) (fun i j hij hj => ?_)
        by_cases hjm : j = m
        · by_cases hi : i = j
          · rw [hi]; exact O.irr _
          · rw [gp_rev (by omega), gp_rev (by omega), if_pos (by omega), if_neg (by omega), hjm]
            exact O.le_tr (O.asym hb) (O.le_tr hc (h5 0 (0 + m - 1 - i) (by omega) (by omega)))
        · rw [gp_rev (by omega), gp_rev (by omega), if_pos (by omega), if_pos (by omega)]
          exact h5 _ _ (by omega) (by omega)
    · rw [if_neg hm1]
      have hm : m = 1 := by omega
      subst hm
      refine descPart_run O hp (by omega) (fun i j hij hj => ?_)
      by_cases hi : i = j
      · rw [hi]; exact O.irr _
      · have e0 : i = 0 := by omega
        have ej : j = 1 := by omega
        rw [e0, ej]
        exact O.asym hb
/-- the whole: a permutation, in order -/
theorem sort_run (O : IOrd n lt blt) (hn : 1 ≤ n) : ∃ p', runC lt (kas_sort n) = some p' ∧ PermN n p' ∧ UpTo blt p' n := by
  obtain ⟨m, p, e1, h1, h2, h3, h4⟩ := count_run O (p := (List.range n).toArray) (show PermN n _ from by unfold PermN; exact List.Perm.refl _) hn
  unfold kas_sort
  rw [runC_bind, e1]
  show ∃ p', runC lt (if m < n then kas_bin (n - max m 1) p (max m 1) else .ret p) = some p' ∧ _
  have hmax : max m 1 = m := by omega
  by_cases hm : m < n
  · rw [if_pos hm, hmax]
    exact bin_run O (n - m) p m h1 h4 (by omega)
  · rw [if_neg hm]
    have : m = n := by omega
    subst this
    exact ⟨p, rfl, h1, h4⟩
end
end L2
namespace L2
open PySem PySem.W PyProof.Rows
/-! ### sorted, of lists of tuples of ints -/
def tI (ns : List Int) : PyData := .tuple (ns.map .int)
theorem lexLt_irr : ∀ xs : List Int, HT.lexLt xs xs = false
  | [] => rfl
  | x :: xs => by rw [HT.lexLt_cons, if_pos rfl]; exact lexLt_irr xs
theorem lexLt_tr : ∀ xs ys zs : List Int, HT.lexLt xs ys = true → HT.lexLt ys zs = true → HT.lexLt xs zs = true
  | [], [], _, h, _ => by cases h
  | [], _ :: _, [], _, h => by cases h
  | [], _ :: _, _ :: _, _, _ => rfl
  | _ :: _, [], _, h, _ => by cases h
  | _ :: _, _ :: _, [], _, h => by cases h
  | x :: xs, y :: ys, z :: zs, h1, h2 => by
    rw [HT.lexLt_cons] at h1 h2 ⊢
    by_cases e1 : x = y
    · rw [if_pos e1] at h1
      by_cases e2 : y = z
      · rw [if_pos e2] at h2
        rw [if_pos (e1.trans e2)]
        exact lexLt_tr xs ys zs h1 h2
      · rw [if_neg e2] at h2
        rw [if_neg (by rw [e1]; exact e2), e1]
        exact h2
    · rw [if_neg e1] at h1
      have h1' := of_decide_eq_true h1
      by_cases e2 : y = z
      · rw [if_neg (by rw [← e2]; exact e1), ← e2]
        exact h1
      · rw [if_neg e2] at h2
        have h2' := of_decide_eq_true h2
        rw [if_neg (by omega)]
        exact decide_eq_true (by omega)
theorem lexLt_neg : ∀ xs ys zs : List Int, HT.lexLt xs zs = true → HT.lexLt xs ys = true ∨ HT.lexLt ys zs = true
  | [], [], zs, h => .inr h
  | [], _ :: _, _, _ => .inl rfl
  | _ :: _, _, [], h => by cases h
  | _ :: _, [], _ :: _, _ => .inr rfl
  | x :: xs, y :: ys, z :: zs, h => by
    rw [HT.lexLt_cons] at h ⊢
    rw [HT.lexLt_cons]
    by_cases e1 : x = z
    · rw [if_pos e1] at h
      subst e1
      by_cases e2 : x = y
      · subst e2
        rw [if_pos rfl, if_pos rfl]
        exact lexLt_neg xs ys zs h
      · rw [if_neg e2, if_neg (fun z => e2 z.symm)]
        by_cases hl : x < y
        · exact .inl (decide_eq_true hl)
        · exact .inr (decide_eq_true (by omega))
    · rw [if_neg e1] at h
      have h' := of_decide_eq_true h
      by_cases e2 : x = y
      · subst e2
        rw [if_neg e1]
        exact .inr h
      · rw [if_neg e2]
        by_cases hl : x < y
        · exact .inl (decide_eq_true hl)
        · right
          rw [if_neg (by omega)]
          exact decide_eq_true (by omega)
theorem lexLt_tot : ∀ xs ys : List Int, HT.lexLt xs ys = false → HT.lexLt ys xs = false → xs = ys
  | [], [], _, _ => rfl
  | [], _ :: _, h, _ => by cases h
  | _ :: _, [], _, h => by cases h
  | x :: xs, y :: ys, h1, h2 => by
    rw [HT.lexLt_cons] at h1 h2
    by_cases e : x = y
    · subst e
      rw [if_pos rfl] at h1 h2
      rw [lexLt_tot xs ys h1 h2]
    · rw [if_neg e] at h1
      rw [if_neg (fun z => e z.symm)] at h2
      have a1 := of_decide_eq_false h1
      have a2 := of_decide_eq_false h2
      omega
theorem ltXs_ints : ∀ xs ys : List Int, ltXs (xs.map .int) (ys.map .int) = some (HT.lexLt xs ys)
  | [], [] => by rw [List.map_nil, ltXs]; rfl
  | [], _ :: _ => by rw [List.map_nil, List.map_cons, ltXs]; rfl
  | _ :: _, [] => by rw [List.map_nil, List.map_cons, ltXs]; rfl
  | x :: xs, y :: ys => by
    rw [List.map_cons, List.map_cons, ltXs, HT.lexLt_cons]
    have e : PyData.eqv (.int x) (.int y) = (x == y) := rfl
    rw [e]
    by_cases h : x = y
    · rw [if_pos (by simpa using h), if_pos h]
      exact ltXs_ints xs ys
    · rw [if_neg (by simpa using h), if_neg h, ltX]
theorem ltX_ints (xs ys : List Int) : ltX (tI xs) (tI ys) = some (HT.lexLt xs ys) := by
  unfold tI
  rw [ltX]
  exact ltXs_ints xs ys
theorem perm_range_map {α : Type} (xs : List α) (d : α) : (List.range xs.length).map (fun i => xs.getD i d) = xs := by
  apply List.ext_getElem
  · simp
  · intro i h1 h2
    simp [List.getD_eq_getElem?_getD, h2]
/-- what sorted tells of tuples of ints: they themselves, in order -/
theorem sortedD_ints {nss : List (List Int)} (hok : sortOk 0 (nss.map tI) = true) : ∃ mss : List (List Int), sortedD [.list (nss.map tI)] = some (.list (mss.map tI)) ∧ mss.Perm nss ∧ mss.Pairwise (fun a b => HT.lexLt b a = false) := by
  have hn : 2 ≤ nss.length ∧ nss.length < 64 := by
    unfold sortOk at hok
    simp only [Bool.and_eq_true, decide_eq_true_eq, List.length_map] at hok
    exact ⟨hok.2.1, hok.2.2.1⟩
  have O : IOrd nss.length (ltAtD (nss.map tI)) (fun i j => HT.lexLt (nss.getD i []) (nss.getD j [])) := by
    refine ⟨fun i j hi hj => ?_, fun i => lexLt_irr _, fun i j k => lexLt_tr _ _ _, fun i j k => lexLt_neg _ _ _⟩
    unfold ltAtD
    rw [List.getElem?_map, List.getElem?_map, List.getElem?_eq_getElem hi, List.getElem?_eq_getElem hj]
    show ltX (tI nss[i]) (tI nss[j]) = _
    rw [ltX_ints, getD_some (List.getElem?_eq_getElem hi), getD_some (List.getElem?_eq_getElem hj)]
  obtain ⟨p, e1, hp, hs⟩ := sort_run O (by omega)
  have hin : ∀ i ∈ p.toList, i < nss.length := fun i hi => List.mem_range.mp (hp.mem_iff.mp hi)
  refine ⟨p.toList.map fun i => nss.getD i [], ?_, ?_, ?_⟩
  · show (if (nss.map tI).length < 2 then some (PyData.list (nss.map tI)) else if sortOk 0 (nss.map tI) = true ∨ sortOk 1 (nss.map tI) = true then ob (runC (ltAtD (nss.map tI)) (kas_sort (nss.map tI).length)) fun p => pickD (nss.map tI) p else none) = _
    rw [if_neg (by rw [List.length_map]; omega), if_pos (.inl hok), List.length_map, e1]
    show pickD (nss.map tI) p = _
    unfold pickD
    rw [if_pos ⟨List.all_eq_true.mpr fun i hi => by rw [List.length_map]; exact decide_eq_true (hin i hi), by rw [Array.length_toList, hp.size]; omega⟩]
    congr 2
    rw [List.map_map]
    refine List.map_congr_left fun i hi => ?_
    have hi' := hin i hi
    show (nss.map tI).getD i .none = tI (nss.getD i [])
    rw [getD_some (show (nss.map tI)[i]? = some (tI nss[i]) from by rw [List.getElem?_map, List.getElem?_eq_getElem hi']; rfl), getD_some (List.getElem?_eq_getElem hi')]
  · have := hp.map (fun i => nss.getD i [])
    rw [perm_range_map] at this
    exact this
  · rw [List.pairwise_map, List.pairwise_iff_getElem]
    intro i j hi hj hij
    have hsz := hp.size
    rw [Array.length_toList] at hi hj
    have := hs i j (by omega) (by omega)
    have g1 : gp p i = p.toList[i]'(by rw [Array.length_toList]; exact hi) := by simp [gp, Array.getD, hi]
    have g2 : gp p j = p.toList[j]'(by rw [Array.length_toList]; exact hj) := by simp [gp, Array.getD, hj]
    rw [g1, g2] at this
    exact this
theorem can_ints : ∀ ns : List Int, PyData.canLayAll0 (ns.map .int) = true ∧ PyData.depthAll (ns.map .int) = 0
  | [] => ⟨rfl, rfl⟩
  | n :: ns => by
    obtain ⟨h1, h2⟩ := can_ints ns
    rw [List.map_cons]
    exact ⟨by simp [PyData.canLayAll0, PyData.canLay0, h1], by simp [PyData.depthAll, PyData.depth, h2]⟩
theorem can_tups : ∀ nss : List (List Int), PyData.canLayAll0 (nss.map tI) = true ∧ PyData.depthAll (nss.map tI) ≤ 1
  | [] => ⟨rfl, Nat.zero_le _⟩
  | ns :: nss => by
    obtain ⟨h1, h2⟩ := can_tups nss
    obtain ⟨h3, h4⟩ := can_ints ns
    rw [List.map_cons]
    refine ⟨by simp [PyData.canLayAll0, tI, PyData.canLay0, h1, h3], ?_⟩
    rw [PyData.depthAll, show (tI ns).depth = 1 from by simp [tI, PyData.depth, h4]]
    omega
theorem sortOk_tups {nss : List (List Int)} (h2 : 2 ≤ nss.length) (h64 : nss.length < 64) (hne : ∀ ns ∈ nss, ns ≠ []) : sortOk 0 (nss.map tI) = true := by
  obtain ⟨h3, h4⟩ := can_tups nss
  unfold sortOk
  simp only [Bool.and_eq_true, decide_eq_true_eq, List.length_map]
  refine ⟨List.all_eq_true.mpr fun d hd => ?_, h2, h64, h3, by omega⟩
  obtain ⟨ns, hn, rfl⟩ := List.mem_map.mp hd
  cases ns with
  | nil => exact absurd rfl (hne [] hn)
  | cons n ns => rfl
/-- sorted of fewer than 64 tuples of ints, none of them empty -/
theorem sortedD_tups {nss : List (List Int)} (h64 : nss.length < 64) (hne : ∀ ns ∈ nss, ns ≠ []) : ∃ mss : List (List Int), sortedD [.list (nss.map tI)] = some (.list (mss.map tI)) ∧ mss.Perm nss ∧ mss.Pairwise (fun a b => HT.lexLt b a = false) := by
  by_cases h2 : 2 ≤ nss.length
  · exact sortedD_ints (sortOk_tups h2 h64 hne)
  · refine ⟨nss, ?_, List.Perm.refl _, ?_⟩
    · show (if (nss.map tI).length < 2 then some (PyData.list (nss.map tI)) else _) = _
      rw [if_pos (by rw [List.length_map]; omega)]
    · match nss, h2 with
      | [], _ => exact .nil
      | [a], _ => exact .cons (fun _ z => nomatch z) .nil
      | _ :: _ :: _, h2 => exact absurd (by simp) h2
/-- two lists in order of the same members are one -/
theorem sorted_unique : ∀ {as bs : List (List Int)}, as.Perm bs → as.Pairwise (fun a b => HT.lexLt b a = false) → bs.Pairwise (fun a b => HT.lexLt b a = false) → as = bs
  | [], bs, h, _, _ => (List.nil_perm.mp h).symm
  | a :: as, [], h, _, _ => absurd h (by simp)
  | a :: as, b :: bs, h, h1, h2 => by
    rw [List.pairwise_cons] at h1 h2
    have e : a = b := by
      have ma : a ∈ b :: bs := h.mem_iff.mp (.head _)
      have mb : b ∈ a :: as := h.mem_iff.mpr (.head _)
      rcases List.mem_cons.mp ma with z | z
      · exact z
      · rcases List.mem_cons.mp mb with y | y
        · exact y.symm
        · exact lexLt_tot a b (h2.1 a z) (h1.1 b y)
    subst e
    rw [sorted_unique h.cons_inv h1.2 h2.2]
end L2
-- MARK: what is proved
namespace SF
open PySem L2
def top (i : Nat) : Stmt := PySem.Challenge.pw_sheetfold_k31_solids_turned.main.body.getD i (.Pass ⟨0, 0, 0, 0⟩)
/-! added -/
abbrev s_added : Stmt := top 1
abbrev N_added : List Str := ["one", "other"]
theorem sc_added : FnScope N_added ["one", "other"] (defScope s_added) := ⟨rfl, rfl, rfl, by decide +kernel, rfl, by decide +kernel, by decide +kernel⟩
theorem v_added_0 : visB (defScope s_added) "one" = true := by decide +kernel
theorem lo_added_0 : locB (defScope s_added) "one" = true := by decide +kernel
theorem v_added_1 : visB (defScope s_added) "other" = true := by decide +kernel
theorem lo_added_1 : locB (defScope s_added) "other" = true := by decide +kernel
def u_added : Rho → Option Out := (sRet (evA (aC (ev2 (ev2 (vr 0) (kd (.int 0)) ixD) (ev2 (vr 1) (kd (.int 0)) ixD) add3D) (aC (ev2 (ev2 (vr 0) (kd (.int 1)) ixD) (ev2 (vr 1) (kd (.int 1)) ixD) add3D) (aC (ev2 (ev2 (vr 0) (kd (.int 2)) ixD) (ev2 (vr 1) (kd (.int 2)) ixD) add3D) aN))) tupD))
def f_added (ds : List PyData) : Option PyData := ob (u_added (rho0 N_added.length ds)) outD
theorem k_added {P : Program} {w : World} {K : PySem.W.Frag} {mg : Str → Option Value} {base : Heap} {f : Addr} {fd : FuncData} (F : Fun K "added" "added" s_added f fd) (m : mg "added" = some (.ref f)) (b : Binds K fd ["one", "other"] []) : Known P w K mg base "added" 2 1 f_added := by
  refine ⟨f, fd, ["one", "other"], F.pure (k := 0) (u := u_added) (M' := []) sc_added rfl (fun cdv A outer s H E hr G => ?_), m, F.kp, b⟩
  refine pds_one ?_
  refine pds_ret ?_
  refine pd_tup ?_
  refine pda_cons ?_ ?_
  refine pd_op d_add3 ?_ ?_
  refine pd_ix ?_ ?_
  exact pd_var 0 (vis_fn v_added_0) (by decide)
  exact pd_int
  refine pd_ix ?_ ?_
  exact pd_var 1 (vis_fn v_added_1) (by decide)
  exact pd_int
  refine pda_cons ?_ ?_
  refine pd_op d_add3 ?_ ?_
  refine pd_ix ?_ ?_
  exact pd_var 0 (vis_fn v_added_0) (by decide)
  exact pd_int
  refine pd_ix ?_ ?_
  exact pd_var 1 (vis_fn v_added_1) (by decide)
  exact pd_int
  refine pda_cons ?_ ?_
  refine pd_op d_add3 ?_ ?_
  refine pd_ix ?_ ?_
  exact pd_var 0 (vis_fn v_added_0) (by decide)
  exact pd_int
  refine pd_ix ?_ ?_
  exact pd_var 1 (vis_fn v_added_1) (by decide)
  exact pd_int
  exact pda_nil
/-! turned -/
abbrev s_turned : Stmt := top 2
abbrev N_turned : List Str := ["turn", "spot"]
theorem sc_turned : FnScope N_turned ["turn", "spot"] (defScope s_turned) := ⟨rfl, rfl, rfl, by decide +kernel, rfl, by decide +kernel, by decide +kernel⟩
theorem v_turned_0 : visB (defScope s_turned) "turn" = true := by decide +kernel
theorem lo_turned_0 : locB (defScope s_turned) "turn" = true := by decide +kernel
theorem v_turned_1 : visB (defScope s_turned) "spot" = true := by decide +kernel
theorem lo_turned_1 : locB (defScope s_turned) "spot" = true := by decide +kernel
theorem gl_turned_range : glB (defScope s_turned) "range" = true := by decide +kernel
theorem gl_turned_tuple : glB (defScope s_turned) "tuple" = true := by decide +kernel
def u_turned : Rho → Option Out := (sRet (evA (aC (compR 2 (evR (aC (kd (.int 3)) aN) rng1D) tT (ev2 (ev2 (ev2 (ev2 (vr 1) (kd (.int 0)) ixD) (ev2 (ev2 (vr 0) (kd (.int 0)) ixD) (vr 2) ixD) mulD) (ev2 (ev2 (vr 1) (kd (.int 1)) ixD) (ev2 (ev2 (vr 0) (kd (.int 1)) ixD) (vr 2) ixD) mulD) add3D) (ev2 (ev2 (vr 1) (kd (.int 2)) ixD) (ev2 (ev2 (vr 0) (kd (.int 2)) ixD) (vr 2) ixD) mulD) add3D)) aN) tupleD))
def f_turned (ds : List PyData) : Option PyData := ob (u_turned (rho0 N_turned.length ds)) outD
theorem k_turned {P : Program} {w : World} {K : PySem.W.Frag} {mg : Str → Option Value} {base : Heap} {f : Addr} {fd : FuncData} (F : Fun K "turned" "turned" s_turned f fd) (m : mg "turned" = some (.ref f)) (b : Binds K fd ["turn", "spot"] []) (z_tuple : mg "tuple" = none) (z_range : mg "range" = none) : Known P w K mg base "turned" 2 1 f_turned := by
  refine ⟨f, fd, ["turn", "spot"], F.pure (k := 0) (u := u_turned) (M' := []) sc_turned rfl (fun cdv A outer s H E hr G => ?_), m, F.kp, b⟩
  refine pds_one ?_
  refine pds_ret ?_
  refine pd_callTy b_tuple (gl_fn (defScope s_turned) rfl gl_turned_tuple) z_tuple rfl ?_
  refine pda_cons ?_ ?_
  refine pd_comp (CompOk.of (k := 1) N_turned ["turn", "spot", "k"] (defScope s_turned) rfl rfl rfl (by decide +kernel)) rfl (by decide +kernel) ?_ (fun _ _ _ _ _ _ => ?_) (fun _ _ _ _ _ _ => ?_)
  refine pdi_range1 (gl_fn (defScope s_turned) rfl gl_turned_range) z_range ?_
  refine pda_cons ?_ ?_
  exact pd_int
  exact pda_nil
  exact pdts_nil
  refine pd_op d_add3 ?_ ?_
  refine pd_op d_add3 ?_ ?_
  refine pd_op d_mul ?_ ?_
  refine pd_ix ?_ ?_
  exact pd_var 1 (vis_comp (by decide +kernel)) (by decide)
  exact pd_int
  refine pd_ix ?_ ?_
  refine pd_ix ?_ ?_
  exact pd_var 0 (vis_comp (by decide +kernel)) (by decide)
  exact pd_int
  exact pd_var 2 (vis_comp (by decide +kernel)) (by decide)
  refine pd_op d_mul ?_ ?_
  refine pd_ix ?_ ?_
  exact pd_var 1 (vis_comp (by decide +kernel)) (by decide)
  exact pd_int
  refine pd_ix ?_ ?_
  refine pd_ix ?_ ?_
  exact pd_var 0 (vis_comp (by decide +kernel)) (by decide)
  exact pd_int
  exact pd_var 2 (vis_comp (by decide +kernel)) (by decide)
  refine pd_op d_mul ?_ ?_
  refine pd_ix ?_ ?_
  exact pd_var 1 (vis_comp (by decide +kernel)) (by decide)
  exact pd_int
  refine pd_ix ?_ ?_
  refine pd_ix ?_ ?_
  exact pd_var 0 (vis_comp (by decide +kernel)) (by decide)
  exact pd_int
  exact pd_var 2 (vis_comp (by decide +kernel)) (by decide)
  exact pda_nil
/-! joined_turns -/
abbrev s_joined_turns : Stmt := top 3
abbrev N_joined_turns : List Str := ["first", "second"]
theorem sc_joined_turns : FnScope N_joined_turns ["first", "second"] (defScope s_joined_turns) := ⟨rfl, rfl, rfl, by decide +kernel, rfl, by decide +kernel, by decide +kernel⟩
theorem v_joined_turns_0 : visB (defScope s_joined_turns) "first" = true := by decide +kernel
theorem lo_joined_turns_0 : locB (defScope s_joined_turns) "first" = true := by decide +kernel
theorem v_joined_turns_1 : visB (defScope s_joined_turns) "second" = true := by decide +kernel
theorem lo_joined_turns_1 : locB (defScope s_joined_turns) "second" = true := by decide +kernel
theorem gl_joined_turns_turned : glB (defScope s_joined_turns) "turned" = true := by decide +kernel
def u_joined_turns : Rho → Option Out := (sRet (evA (aC (evC 2 (aC (vr 1) (aC (ev2 (vr 0) (kd (.int 0)) ixD) aN)) f_turned) (aC (evC 2 (aC (vr 1) (aC (ev2 (vr 0) (kd (.int 1)) ixD) aN)) f_turned) (aC (evC 2 (aC (vr 1) (aC (ev2 (vr 0) (kd (.int 2)) ixD) aN)) f_turned) aN))) tupD))
def f_joined_turns (ds : List PyData) : Option PyData := ob (u_joined_turns (rho0 N_joined_turns.length ds)) outD
theorem k_joined_turns {P : Program} {w : World} {K : PySem.W.Frag} {mg : Str → Option Value} {base : Heap} {f : Addr} {fd : FuncData} (F : Fun K "joined_turns" "joined_turns" s_joined_turns f fd) (m : mg "joined_turns" = some (.ref f)) (b : Binds K fd ["first", "second"] []) (K_turned : Known P w K mg base "turned" 2 1 f_turned) : Known P w K mg base "joined_turns" 2 2 f_joined_turns := by
  refine ⟨f, fd, ["first", "second"], F.pure (k := 1) (u := u_joined_turns) (M' := []) sc_joined_turns rfl (fun cdv A outer s H E hr G => ?_), m, F.kp, b⟩
  refine pds_one ?_
  refine pds_ret ?_
  refine pd_tup ?_
  refine pda_cons ?_ ?_
  refine pd_known K_turned hr (by decide) (gl_fn (defScope s_joined_turns) rfl gl_joined_turns_turned) ?_ rfl
  refine pda_cons ?_ ?_
  exact pd_var 1 (vis_fn v_joined_turns_1) (by decide)
  refine pda_cons ?_ ?_
  refine pd_ix ?_ ?_
  exact pd_var 0 (vis_fn v_joined_turns_0) (by decide)
  exact pd_int
  exact pda_nil
  refine pda_cons ?_ ?_
  refine pd_known K_turned hr (by decide) (gl_fn (defScope s_joined_turns) rfl gl_joined_turns_turned) ?_ rfl
  refine pda_cons ?_ ?_
  exact pd_var 1 (vis_fn v_joined_turns_1) (by decide)
  refine pda_cons ?_ ?_
  refine pd_ix ?_ ?_
  exact pd_var 0 (vis_fn v_joined_turns_0) (by decide)
  exact pd_int
  exact pda_nil
  refine pda_cons ?_ ?_
  refine pd_known K_turned hr (by decide) (gl_fn (defScope s_joined_turns) rfl gl_joined_turns_turned) ?_ rfl
  refine pda_cons ?_ ?_
  exact pd_var 1 (vis_fn v_joined_turns_1) (by decide)
  refine pda_cons ?_ ?_
  refine pd_ix ?_ ?_
  exact pd_var 0 (vis_fn v_joined_turns_0) (by decide)
  exact pd_int
  exact pda_nil
  exact pda_nil
/-! middle_of -/
abbrev s_middle_of : Stmt := top 5
abbrev N_middle_of : List Str := ["cube"]
theorem sc_middle_of : FnScope N_middle_of ["cube"] (defScope s_middle_of) := ⟨rfl, rfl, rfl, by decide +kernel, rfl, by decide +kernel, by decide +kernel⟩
theorem v_middle_of_0 : visB (defScope s_middle_of) "cube" = true := by decide +kernel
theorem lo_middle_of_0 : locB (defScope s_middle_of) "cube" = true := by decide +kernel
def u_middle_of : Rho → Option Out := (sRet (evA (aC (ev2 (ev2 (kd (.int 2)) (ev2 (vr 0) (kd (.int 0)) ixD) mulD) (kd (.int 1)) add3D) (aC (ev2 (ev2 (kd (.int 2)) (ev2 (vr 0) (kd (.int 1)) ixD) mulD) (kd (.int 1)) add3D) (aC (ev2 (ev2 (kd (.int 2)) (ev2 (vr 0) (kd (.int 2)) ixD) mulD) (kd (.int 1)) add3D) aN))) tupD))
def f_middle_of (ds : List PyData) : Option PyData := ob (u_middle_of (rho0 N_middle_of.length ds)) outD
theorem k_middle_of {P : Program} {w : World} {K : PySem.W.Frag} {mg : Str → Option Value} {base : Heap} {f : Addr} {fd : FuncData} (F : Fun K "middle_of" "middle_of" s_middle_of f fd) (m : mg "middle_of" = some (.ref f)) (b : Binds K fd ["cube"] []) : Known P w K mg base "middle_of" 1 1 f_middle_of := by
  refine ⟨f, fd, ["cube"], F.pure (k := 0) (u := u_middle_of) (M' := []) sc_middle_of rfl (fun cdv A outer s H E hr G => ?_), m, F.kp, b⟩
  refine pds_one ?_
  refine pds_ret ?_
  refine pd_tup ?_
  refine pda_cons ?_ ?_
  refine pd_op d_add3 ?_ ?_
  refine pd_op d_mul ?_ ?_
  exact pd_int
  refine pd_ix ?_ ?_
  exact pd_var 0 (vis_fn v_middle_of_0) (by decide)
  exact pd_int
  exact pd_int
  refine pda_cons ?_ ?_
  refine pd_op d_add3 ?_ ?_
  refine pd_op d_mul ?_ ?_
  exact pd_int
  refine pd_ix ?_ ?_
  exact pd_var 0 (vis_fn v_middle_of_0) (by decide)
  exact pd_int
  exact pd_int
  refine pda_cons ?_ ?_
  refine pd_op d_add3 ?_ ?_
  refine pd_op d_mul ?_ ?_
  exact pd_int
  refine pd_ix ?_ ?_
  exact pd_var 0 (vis_fn v_middle_of_0) (by decide)
  exact pd_int
  exact pd_int
  exact pda_nil
/-! cube_of -/
abbrev s_cube_of : Stmt := top 6
abbrev N_cube_of : List Str := ["spot"]
theorem sc_cube_of : FnScope N_cube_of ["spot"] (defScope s_cube_of) := ⟨rfl, rfl, rfl, by decide +kernel, rfl, by decide +kernel, by decide +kernel⟩
theorem v_cube_of_0 : visB (defScope s_cube_of) "spot" = true := by decide +kernel
theorem lo_cube_of_0 : locB (defScope s_cube_of) "spot" = true := by decide +kernel
def u_cube_of : Rho → Option Out := (sRet (evA (aC (ev2 (ev2 (vr 0) (kd (.int 0)) ixD) (kd (.int 2)) fdivD) (aC (ev2 (ev2 (vr 0) (kd (.int 1)) ixD) (kd (.int 2)) fdivD) (aC (ev2 (ev2 (vr 0) (kd (.int 2)) ixD) (kd (.int 2)) fdivD) aN))) tupD))
def f_cube_of (ds : List PyData) : Option PyData := ob (u_cube_of (rho0 N_cube_of.length ds)) outD
theorem k_cube_of {P : Program} {w : World} {K : PySem.W.Frag} {mg : Str → Option Value} {base : Heap} {f : Addr} {fd : FuncData} (F : Fun K "cube_of" "cube_of" s_cube_of f fd) (m : mg "cube_of" = some (.ref f)) (b : Binds K fd ["spot"] []) : Known P w K mg base "cube_of" 1 1 f_cube_of := by
  refine ⟨f, fd, ["spot"], F.pure (k := 0) (u := u_cube_of) (M' := []) sc_cube_of rfl (fun cdv A outer s H E hr G => ?_), m, F.kp, b⟩
  refine pds_one ?_
  refine pds_ret ?_
  refine pd_tup ?_
  refine pda_cons ?_ ?_
  refine pd_op d_fdiv ?_ ?_
  refine pd_ix ?_ ?_
  exact pd_var 0 (vis_fn v_cube_of_0) (by decide)
  exact pd_int
  exact pd_int
  refine pda_cons ?_ ?_
  refine pd_op d_fdiv ?_ ?_
  refine pd_ix ?_ ?_
  exact pd_var 0 (vis_fn v_cube_of_0) (by decide)
  exact pd_int
  exact pd_int
  refine pda_cons ?_ ?_
  refine pd_op d_fdiv ?_ ?_
  refine pd_ix ?_ ?_
  exact pd_var 0 (vis_fn v_cube_of_0) (by decide)
  exact pd_int
  exact pd_int
  exact pda_nil
/-! solid_turned -/
abbrev s_solid_turned : Stmt := top 8
abbrev N_solid_turned : List Str := ["solid", "turn", "shift", "by"]
theorem sc_solid_turned : FnScope N_solid_turned ["solid", "turn", "shift"] (defScope s_solid_turned) := ⟨rfl, rfl, rfl, by decide +kernel, rfl, by decide +kernel, by decide +kernel⟩
theorem v_solid_turned_0 : visB (defScope s_solid_turned) "solid" = true := by decide +kernel
theorem lo_solid_turned_0 : locB (defScope s_solid_turned) "solid" = true := by decide +kernel
theorem v_solid_turned_1 : visB (defScope s_solid_turned) "turn" = true := by decide +kernel
theorem lo_solid_turned_1 : locB (defScope s_solid_turned) "turn" = true := by decide +kernel
theorem v_solid_turned_2 : visB (defScope s_solid_turned) "shift" = true := by decide +kernel
theorem lo_solid_turned_2 : locB (defScope s_solid_turned) "shift" = true := by decide +kernel
theorem v_solid_turned_3 : visB (defScope s_solid_turned) "by" = true := by decide +kernel
theorem lo_solid_turned_3 : locB (defScope s_solid_turned) "by" = true := by decide +kernel
theorem gl_solid_turned_sorted : glB (defScope s_solid_turned) "sorted" = true := by decide +kernel
def u_solid_turned : Rho → Option Out := (seqO (sSet 3 (vIf (tV (ev2 (vr 2) (kd .none) isD)) (evA (aC (kd (.int 0)) (aC (kd (.int 0)) (aC (kd (.int 0)) aN))) tupD) (vr 2))) (sRet (evA (aC (compR 4 (evI (vr 0) seqD) tT (evC 2 (aC (evC 1 (aC (evC 2 (aC (vr 1) (aC (evC 1 (aC (vr 4) aN) f_middle_of) aN)) f_turned) aN) f_cube_of) (aC (vr 3) aN)) f_added)) aN) sortedD)))
def f_solid_turned (ds : List PyData) : Option PyData := ob (u_solid_turned (rho0 N_solid_turned.length ds)) outF
theorem o_solid_turned {P : Program} {w : World} {K : PySem.W.Frag} {mg : Str → Option Value} {base : Heap} {f : Addr} {fd : FuncData} (F : FunG K "solid_turned" "solid_turned" s_solid_turned f fd) (K_added : Known P w K mg base "added" 2 1 f_added) (K_cube_of : Known P w K mg base "cube_of" 1 1 f_cube_of) (K_turned : Known P w K mg base "turned" 2 1 f_turned) (K_middle_of : Known P w K mg base "middle_of" 1 1 f_middle_of) (z_sorted : mg "sorted" = none) : FnOk P w K mg base CX0 2 f fd ["solid", "turn", "shift"] (spN K 3 f_solid_turned) := by
  refine F.new (k := 1) (u := u_solid_turned) (M' := []) sc_solid_turned rfl (fun cdv A outer s H E hr G => ?_)
  refine pds_cons (M1 := []) ?_ ?_
  refine pds_set 3 ?_ ?_ ?_ ?_ ?_ ?_ ?_
  · exact sc_solid_turned.nd
  · exact (loc_fn lo_solid_turned_3)
  · rfl
  · rfl
  · exact .inl rfl
  · decide
  refine pd_ifExp ?_ ?_ ?_
  refine pdt_cmp d_is ?_ ?_ (nomark _)
  exact pd_var 2 (vis_fn v_solid_turned_2) (by decide)
  exact pd_non
  refine pd_tup ?_
  refine pda_cons ?_ ?_
  exact pd_int
  refine pda_cons ?_ ?_
  exact pd_int
  refine pda_cons ?_ ?_
  exact pd_int
  exact pda_nil
  exact pd_var 2 (vis_fn v_solid_turned_2) (by decide)
  refine pds_one ?_
  refine pds_retF ?_
  refine pf_callB (n_sorted hr) (gl_fn (defScope s_solid_turned) rfl gl_solid_turned_sorted) z_sorted boot_sortedD ?_
  refine pda_cons ?_ ?_
  refine pd_comp (CompOk.of (k := 1) N_solid_turned ["solid", "turn", "shift", "by", "cube"] (defScope s_solid_turned) rfl rfl rfl (by decide +kernel)) rfl (by decide +kernel) ?_ (fun _ _ _ _ _ _ => ?_) (fun _ _ _ _ _ _ => ?_)
  refine pdi_seq ?_
  exact pd_var 0 (vis_fn v_solid_turned_0) (by decide)
  exact pdts_nil
  refine pd_known K_added hr (by decide) (gl_comp (by decide +kernel)) ?_ rfl
  refine pda_cons ?_ ?_
  refine pd_known K_cube_of hr (by decide) (gl_comp (by decide +kernel)) ?_ rfl
  refine pda_cons ?_ ?_
  refine pd_known K_turned hr (by decide) (gl_comp (by decide +kernel)) ?_ rfl
  refine pda_cons ?_ ?_
  exact pd_var 1 (vis_comp (by decide +kernel)) (by decide)
  refine pda_cons ?_ ?_
  refine pd_known K_middle_of hr (by decide) (gl_comp (by decide +kernel)) ?_ rfl
  refine pda_cons ?_ ?_
  exact pd_var 4 (vis_comp (by decide +kernel)) (by decide)
  exact pda_nil
  exact pda_nil
  exact pda_nil
  refine pda_cons ?_ ?_
  exact pd_var 3 (vis_comp (by decide +kernel)) (by decide)
  exact pda_nil
  exact pda_nil
/-! _law_cell_at -/
abbrev s__law_cell_at : Stmt := top 10
abbrev N__law_cell_at : List Str := ["_law_script", "_law_k"]
theorem sc__law_cell_at : FnScope N__law_cell_at ["_law_script", "_law_k"] (defScope s__law_cell_at) := ⟨rfl, rfl, rfl, by decide +kernel, rfl, by decide +kernel, by decide +kernel⟩
theorem v__law_cell_at_0 : visB (defScope s__law_cell_at) "_law_script" = true := by decide +kernel
theorem lo__law_cell_at_0 : locB (defScope s__law_cell_at) "_law_script" = true := by decide +kernel
theorem v__law_cell_at_1 : visB (defScope s__law_cell_at) "_law_k" = true := by decide +kernel
theorem lo__law_cell_at_1 : locB (defScope s__law_cell_at) "_law_k" = true := by decide +kernel
theorem gl__law_cell_at_len : glB (defScope s__law_cell_at) "len" = true := by decide +kernel
def u__law_cell_at : Rho → Option Out := (seqO (sIf (tV (ev2 (vr 1) (evA (aC (vr 0) aN) lenD) ltD2)) (sRet (ev2 (vr 0) (vr 1) ixD)) sN) (sRet (kd (.int 0))))
def f__law_cell_at (ds : List PyData) : Option PyData := ob (u__law_cell_at (rho0 N__law_cell_at.length ds)) outD
theorem k__law_cell_at {P : Program} {w : World} {K : PySem.W.Frag} {mg : Str → Option Value} {base : Heap} {f : Addr} {fd : FuncData} (F : Fun K "_law_cell_at" "_law_cell_at" s__law_cell_at f fd) (m : mg "_law_cell_at" = some (.ref f)) (b : Binds K fd ["_law_script", "_law_k"] []) (z_len : mg "len" = none) : Known P w K mg base "_law_cell_at" 2 1 f__law_cell_at := by
  refine ⟨f, fd, ["_law_script", "_law_k"], F.pure (k := 0) (u := u__law_cell_at) (M' := []) sc__law_cell_at rfl (fun cdv A outer s H E hr G => ?_), m, F.kp, b⟩
  refine pds_cons (M1 := []) ?_ ?_
  refine pds_if ?_ ?_ ?_
  refine pdt_cmp (d_lt2 hr) ?_ ?_ (nomark _)
  exact pd_var 1 (vis_fn v__law_cell_at_1) (by decide)
  refine pd_callB b_len (gl_fn (defScope s__law_cell_at) rfl gl__law_cell_at_len) z_len PySem.boot_len ?_
  refine pda_cons ?_ ?_
  exact pd_var 0 (vis_fn v__law_cell_at_0) (by decide)
  exact pda_nil
  refine pds_one ?_
  refine pds_ret ?_
  refine pd_ix ?_ ?_
  exact pd_var 0 (vis_fn v__law_cell_at_0) (by decide)
  exact pd_var 1 (vis_fn v__law_cell_at_1) (by decide)
  exact pds_nil
  refine pds_one ?_
  refine pds_ret ?_
  exact pd_int
/-! _law_whole -/
abbrev s__law_whole : Stmt := top 11
abbrev N__law_whole : List Str := ["_law_found"]
theorem sc__law_whole : FnScope N__law_whole ["_law_found"] (defScope s__law_whole) := ⟨rfl, rfl, rfl, by decide +kernel, rfl, by decide +kernel, by decide +kernel⟩
theorem v__law_whole_0 : visB (defScope s__law_whole) "_law_found" = true := by decide +kernel
theorem lo__law_whole_0 : locB (defScope s__law_whole) "_law_found" = true := by decide +kernel
theorem gl__law_whole_isinstance : glB (defScope s__law_whole) "isinstance" = true := by decide +kernel
theorem gl__law_whole_int : glB (defScope s__law_whole) "int" = true := by decide +kernel
theorem gl__law_whole_bool : glB (defScope s__law_whole) "bool" = true := by decide +kernel
def u__law_whole : Rho → Option Out := (sRet (vA (ev1 (vr 0) (isiD "int")) (vN (ev1 (vr 0) (isiD "bool")))))
def f__law_whole (ds : List PyData) : Option PyData := ob (u__law_whole (rho0 N__law_whole.length ds)) outD
theorem k__law_whole {P : Program} {w : World} {K : PySem.W.Frag} {mg : Str → Option Value} {base : Heap} {f : Addr} {fd : FuncData} (F : Fun K "_law_whole" "_law_whole" s__law_whole f fd) (m : mg "_law_whole" = some (.ref f)) (b : Binds K fd ["_law_found"] []) (z_isinstance : mg "isinstance" = none) (z_int : mg "int" = none) (z_bool : mg "bool" = none) : Known P w K mg base "_law_whole" 1 1 f__law_whole := by
  refine ⟨f, fd, ["_law_found"], F.pure (k := 0) (u := u__law_whole) (M' := []) sc__law_whole rfl (fun cdv A outer s H E hr G => ?_), m, F.kp, b⟩
  refine pds_one ?_
  refine pds_ret ?_
  refine pd_and ?_ ?_
  refine pd_isi (T := "int") (kit_int _) (gl_fn (defScope s__law_whole) rfl gl__law_whole_isinstance) z_isinstance (gl_fn (defScope s__law_whole) rfl gl__law_whole_int) z_int rfl rfl ?_
  exact pd_var 0 (vis_fn v__law_whole_0) (by decide)
  refine pd_one ?_
  refine pd_not ?_
  refine pd_isi (T := "bool") (kit_bool _) (gl_fn (defScope s__law_whole) rfl gl__law_whole_isinstance) z_isinstance (gl_fn (defScope s__law_whole) rfl gl__law_whole_bool) z_bool rfl rfl ?_
  exact pd_var 0 (vis_fn v__law_whole_0) (by decide)
/-! _law_triple -/
abbrev s__law_triple : Stmt := top 12
abbrev N__law_triple : List Str := ["_law_found", "_law_due_here", "_law_number"]
theorem sc__law_triple : FnScope N__law_triple ["_law_found", "_law_due_here"] (defScope s__law_triple) := ⟨rfl, rfl, rfl, by decide +kernel, rfl, by decide +kernel, by decide +kernel⟩
theorem v__law_triple_0 : visB (defScope s__law_triple) "_law_found" = true := by decide +kernel
theorem lo__law_triple_0 : locB (defScope s__law_triple) "_law_found" = true := by decide +kernel
theorem v__law_triple_1 : visB (defScope s__law_triple) "_law_due_here" = true := by decide +kernel
theorem lo__law_triple_1 : locB (defScope s__law_triple) "_law_due_here" = true := by decide +kernel
theorem v__law_triple_2 : visB (defScope s__law_triple) "_law_number" = true := by decide +kernel
theorem lo__law_triple_2 : locB (defScope s__law_triple) "_law_number" = true := by decide +kernel
theorem gl__law_triple_isinstance : glB (defScope s__law_triple) "isinstance" = true := by decide +kernel
theorem gl__law_triple_tuple : glB (defScope s__law_triple) "tuple" = true := by decide +kernel
theorem gl__law_triple_len : glB (defScope s__law_triple) "len" = true := by decide +kernel
theorem gl__law_triple__law_whole : glB (defScope s__law_triple) "_law_whole" = true := by decide +kernel
def u__law_triple : Rho → Option Out := (seqO (sIf (tO (tN (tV (ev1 (vr 0) (isiD "tuple")))) (tV (ev2 (evA (aC (vr 0) aN) lenD) (evA (aC (vr 1) aN) lenD) neD))) (sRet (kd (.bool false))) sN) (seqO (sFor (evI (vr 0) seqD) (gNm 2) (sIf (tN (tV (evC 1 (aC (vr 2) aN) f__law_whole))) (sRet (kd (.bool false))) sN)) (sRet (ev2 (vr 0) (vr 1) eqD))))
def f__law_triple (ds : List PyData) : Option PyData := ob (u__law_triple (rho0 N__law_triple.length ds)) outD
theorem k__law_triple {P : Program} {w : World} {K : PySem.W.Frag} {mg : Str → Option Value} {base : Heap} {f : Addr} {fd : FuncData} (F : Fun K "_law_triple" "_law_triple" s__law_triple f fd) (m : mg "_law_triple" = some (.ref f)) (b : Binds K fd ["_law_found", "_law_due_here"] []) (K__law_whole : Known P w K mg base "_law_whole" 1 1 f__law_whole) (z_isinstance : mg "isinstance" = none) (z_tuple : mg "tuple" = none) (z_len : mg "len" = none) : Known P w K mg base "_law_triple" 2 2 f__law_triple := by
  refine ⟨f, fd, ["_law_found", "_law_due_here"], F.pure (k := 1) (u := u__law_triple) (M' := []) sc__law_triple rfl (fun cdv A outer s H E hr G => ?_), m, F.kp, b⟩
  refine pds_cons (M1 := []) ?_ ?_
  refine pds_if ?_ ?_ ?_
  refine PDW.pdt ?_
  refine pdw_or ?_ ?_
  refine pdt_not ?_
  refine pdt_val ?_
  refine pd_isi (T := "tuple") (kit_tuple _) (gl_fn (defScope s__law_triple) rfl gl__law_triple_isinstance) z_isinstance (gl_fn (defScope s__law_triple) rfl gl__law_triple_tuple) z_tuple rfl rfl ?_
  exact pd_var 0 (vis_fn v__law_triple_0) (by decide)
  refine pdw_or1 ?_
  refine pdt_cmp (d_ne hr) ?_ ?_ (nomark _)
  refine pd_callB b_len (gl_fn (defScope s__law_triple) rfl gl__law_triple_len) z_len PySem.boot_len ?_
  refine pda_cons ?_ ?_
  exact pd_var 0 (vis_fn v__law_triple_0) (by decide)
  exact pda_nil
  refine pd_callB b_len (gl_fn (defScope s__law_triple) rfl gl__law_triple_len) z_len PySem.boot_len ?_
  refine pda_cons ?_ ?_
  exact pd_var 1 (vis_fn v__law_triple_1) (by decide)
  exact pda_nil
  refine pds_one ?_
  refine pds_ret ?_
  exact pd_bl
  exact pds_nil
  refine pds_cons (M1 := []) ?_ ?_
  refine pds_for PassesOwn.never rfl ?_ (fun _ => ?_) (fun _ => ?_)
  refine pdi_seq ?_
  exact pd_var 0 (vis_fn v__law_triple_0) (by decide)
  exact pdg_name 2 sc__law_triple.nd (loc_fn lo__law_triple_2) (by decide)
  refine pds_one ?_
  refine pds_if ?_ ?_ ?_
  refine pdt_not ?_
  refine pdt_val ?_
  refine pd_known K__law_whole hr (by decide) (gl_fn (defScope s__law_triple) rfl gl__law_triple__law_whole) ?_ rfl
  refine pda_cons ?_ ?_
  exact pd_var 2 (vis_fn v__law_triple_2) (by decide)
  exact pda_nil
  refine pds_one ?_
  refine pds_ret ?_
  exact pd_bl
  exact pds_nil
  refine pds_one ?_
  refine pds_ret ?_
  refine pd_cmp (d_eq hr) ?_ ?_ (nomark _)
  exact pd_var 0 (vis_fn v__law_triple_0) (by decide)
  exact pd_var 1 (vis_fn v__law_triple_1) (by decide)
/-! _law_offset -/
abbrev s__law_offset : Stmt := top 13
abbrev N__law_offset : List Str := ["_law_cell", "_law_rest"]
theorem sc__law_offset : FnScope N__law_offset ["_law_cell"] (defScope s__law_offset) := ⟨rfl, rfl, rfl, by decide +kernel, rfl, by decide +kernel, by decide +kernel⟩
theorem v__law_offset_0 : visB (defScope s__law_offset) "_law_cell" = true := by decide +kernel
theorem lo__law_offset_0 : locB (defScope s__law_offset) "_law_cell" = true := by decide +kernel
theorem v__law_offset_1 : visB (defScope s__law_offset) "_law_rest" = true := by decide +kernel
theorem lo__law_offset_1 : locB (defScope s__law_offset) "_law_rest" = true := by decide +kernel
def u__law_offset : Rho → Option Out := (seqO (sSet 1 (ev2 (vr 0) (kd (.int 3)) fdivD)) (seqO (sIf (tV (ev2 (ev2 (vr 0) (kd (.int 3)) modD) (kd (.int 1)) eqD)) (sRet (ev2 (ev2 (ev2 (vr 1) (ev2 (kd (.int 7919)) (kd (.int 6)) powD) mulD) (ev2 (ev2 (kd (.int 2)) (ev2 (kd (.int 10)) (kd (.int 19)) powD) mulD) (kd (.int 1)) add3D) modD) (ev2 (kd (.int 10)) (kd (.int 19)) powD) subD)) sN) (seqO (sIf (tV (ev2 (ev2 (vr 0) (kd (.int 3)) modD) (kd (.int 2)) eqD)) (sRet (ev2 (evA (aC (ev2 (kd (.int 10)) (kd (.int 19)) powD) (aC (ev1 (ev2 (kd (.int 10)) (kd (.int 19)) powD) negD) aN)) lstD) (ev2 (vr 1) (kd (.int 2)) modD) ixD)) sN) (sRet (ev2 (ev2 (vr 1) (kd (.int 11)) modD) (kd (.int 5)) subD)))))
def f__law_offset (ds : List PyData) : Option PyData := ob (u__law_offset (rho0 N__law_offset.length ds)) outD
theorem k__law_offset {P : Program} {w : World} {K : PySem.W.Frag} {mg : Str → Option Value} {base : Heap} {f : Addr} {fd : FuncData} (F : Fun K "_law_offset" "_law_offset" s__law_offset f fd) (m : mg "_law_offset" = some (.ref f)) (b : Binds K fd ["_law_cell"] []) : Known P w K mg base "_law_offset" 1 1 f__law_offset := by
  refine ⟨f, fd, ["_law_cell"], F.pure (k := 0) (u := u__law_offset) (M' := []) sc__law_offset rfl (fun cdv A outer s H E hr G => ?_), m, F.kp, b⟩
  refine pds_cons (M1 := []) ?_ ?_
  refine pds_set 1 ?_ ?_ ?_ ?_ ?_ ?_ ?_
  · exact sc__law_offset.nd
  · exact (loc_fn lo__law_offset_1)
  · rfl
  · rfl
  · exact .inl rfl
  · decide
  refine pd_op d_fdiv ?_ ?_
  exact pd_var 0 (vis_fn v__law_offset_0) (by decide)
  exact pd_int
  refine pds_cons (M1 := []) ?_ ?_
  refine pds_if ?_ ?_ ?_
  refine pdt_cmp (d_eq hr) ?_ ?_ (nomark _)
  refine pd_op d_mod ?_ ?_
  exact pd_var 0 (vis_fn v__law_offset_0) (by decide)
  exact pd_int
  exact pd_int
  refine pds_one ?_
  refine pds_ret ?_
  refine pd_op d_sub ?_ ?_
  refine pd_op d_mod ?_ ?_
  refine pd_op d_mul ?_ ?_
  exact pd_var 1 (vis_fn v__law_offset_1) (by decide)
  refine pd_op d_pow ?_ ?_
  exact pd_int
  exact pd_int
  refine pd_op d_add3 ?_ ?_
  refine pd_op d_mul ?_ ?_
  exact pd_int
  refine pd_op d_pow ?_ ?_
  exact pd_int
  exact pd_int
  exact pd_int
  refine pd_op d_pow ?_ ?_
  exact pd_int
  exact pd_int
  exact pds_nil
  refine pds_cons (M1 := []) ?_ ?_
  refine pds_if ?_ ?_ ?_
  refine pdt_cmp (d_eq hr) ?_ ?_ (nomark _)
  refine pd_op d_mod ?_ ?_
  exact pd_var 0 (vis_fn v__law_offset_0) (by decide)
  exact pd_int
  exact pd_int
  refine pds_one ?_
  refine pds_ret ?_
  refine pd_ix ?_ ?_
  refine pd_lst ?_
  refine pda_cons ?_ ?_
  refine pd_op d_pow ?_ ?_
  exact pd_int
  exact pd_int
  refine pda_cons ?_ ?_
  refine pd_un d_neg ?_
  refine pd_op d_pow ?_ ?_
  exact pd_int
  exact pd_int
  exact pda_nil
  refine pd_op d_mod ?_ ?_
  exact pd_var 1 (vis_fn v__law_offset_1) (by decide)
  exact pd_int
  exact pds_nil
  refine pds_one ?_
  refine pds_ret ?_
  refine pd_op d_sub ?_ ?_
  refine pd_op d_mod ?_ ?_
  exact pd_var 1 (vis_fn v__law_offset_1) (by decide)
  exact pd_int
  exact pd_int
/-! _law_cross -/
abbrev s__law_cross : Stmt := top 14
abbrev N__law_cross : List Str := ["_law_one", "_law_other", "_law_a", "_law_b", "_law_c", "_law_d", "_law_e", "_law_f"]
theorem sc__law_cross : FnScope N__law_cross ["_law_one", "_law_other"] (defScope s__law_cross) := ⟨rfl, rfl, rfl, by decide +kernel, rfl, by decide +kernel, by decide +kernel⟩
theorem v__law_cross_0 : visB (defScope s__law_cross) "_law_one" = true := by decide +kernel
theorem lo__law_cross_0 : locB (defScope s__law_cross) "_law_one" = true := by decide +kernel
theorem v__law_cross_1 : visB (defScope s__law_cross) "_law_other" = true := by decide +kernel
theorem lo__law_cross_1 : locB (defScope s__law_cross) "_law_other" = true := by decide +kernel
theorem v__law_cross_2 : visB (defScope s__law_cross) "_law_a" = true := by decide +kernel
theorem lo__law_cross_2 : locB (defScope s__law_cross) "_law_a" = true := by decide +kernel
theorem v__law_cross_3 : visB (defScope s__law_cross) "_law_b" = true := by decide +kernel
theorem lo__law_cross_3 : locB (defScope s__law_cross) "_law_b" = true := by decide +kernel
theorem v__law_cross_4 : visB (defScope s__law_cross) "_law_c" = true := by decide +kernel
theorem lo__law_cross_4 : locB (defScope s__law_cross) "_law_c" = true := by decide +kernel
theorem v__law_cross_5 : visB (defScope s__law_cross) "_law_d" = true := by decide +kernel
theorem lo__law_cross_5 : locB (defScope s__law_cross) "_law_d" = true := by decide +kernel
theorem v__law_cross_6 : visB (defScope s__law_cross) "_law_e" = true := by decide +kernel
theorem lo__law_cross_6 : locB (defScope s__law_cross) "_law_e" = true := by decide +kernel
theorem v__law_cross_7 : visB (defScope s__law_cross) "_law_f" = true := by decide +kernel
theorem lo__law_cross_7 : locB (defScope s__law_cross) "_law_f" = true := by decide +kernel
def u__law_cross : Rho → Option Out := (seqO (sAsg (vr 0) (unpD 3 (gsC (gNm 2) (gsC (gNm 3) (gsC (gNm 4) gsN))))) (seqO (sAsg (vr 1) (unpD 3 (gsC (gNm 5) (gsC (gNm 6) (gsC (gNm 7) gsN))))) (sRet (evA (aC (ev2 (ev2 (vr 3) (vr 7) mulD) (ev2 (vr 4) (vr 6) mulD) subD) (aC (ev2 (ev2 (vr 4) (vr 5) mulD) (ev2 (vr 2) (vr 7) mulD) subD) (aC (ev2 (ev2 (vr 2) (vr 6) mulD) (ev2 (vr 3) (vr 5) mulD) subD) aN))) tupD))))
def f__law_cross (ds : List PyData) : Option PyData := ob (u__law_cross (rho0 N__law_cross.length ds)) outD
theorem k__law_cross {P : Program} {w : World} {K : PySem.W.Frag} {mg : Str → Option Value} {base : Heap} {f : Addr} {fd : FuncData} (F : Fun K "_law_cross" "_law_cross" s__law_cross f fd) (m : mg "_law_cross" = some (.ref f)) (b : Binds K fd ["_law_one", "_law_other"] []) : Known P w K mg base "_law_cross" 2 1 f__law_cross := by
  refine ⟨f, fd, ["_law_one", "_law_other"], F.pure (k := 0) (u := u__law_cross) (M' := []) sc__law_cross rfl (fun cdv A outer s H E hr G => ?_), m, F.kp, b⟩
  refine pds_cons (M1 := []) ?_ ?_
  refine pds_asg ?_ ?_
  exact pd_var 0 (vis_fn v__law_cross_0) (by decide)
  refine pdg_tup rfl ?_
  refine pdgs_cons ?_ ?_
  exact pdg_name 2 sc__law_cross.nd (loc_fn lo__law_cross_2) (by decide)
  refine pdgs_cons ?_ ?_
  exact pdg_name 3 sc__law_cross.nd (loc_fn lo__law_cross_3) (by decide)
  refine pdgs_cons ?_ ?_
  exact pdg_name 4 sc__law_cross.nd (loc_fn lo__law_cross_4) (by decide)
  exact pdgs_nil
  refine pds_cons (M1 := []) ?_ ?_
  refine pds_asg ?_ ?_
  exact pd_var 1 (vis_fn v__law_cross_1) (by decide)
  refine pdg_tup rfl ?_
  refine pdgs_cons ?_ ?_
  exact pdg_name 5 sc__law_cross.nd (loc_fn lo__law_cross_5) (by decide)
  refine pdgs_cons ?_ ?_
  exact pdg_name 6 sc__law_cross.nd (loc_fn lo__law_cross_6) (by decide)
  refine pdgs_cons ?_ ?_
  exact pdg_name 7 sc__law_cross.nd (loc_fn lo__law_cross_7) (by decide)
  exact pdgs_nil
  refine pds_one ?_
  refine pds_ret ?_
  refine pd_tup ?_
  refine pda_cons ?_ ?_
  refine pd_op d_sub ?_ ?_
  refine pd_op d_mul ?_ ?_
  exact pd_var 3 (vis_fn v__law_cross_3) (by decide)
  exact pd_var 7 (vis_fn v__law_cross_7) (by decide)
  refine pd_op d_mul ?_ ?_
  exact pd_var 4 (vis_fn v__law_cross_4) (by decide)
  exact pd_var 6 (vis_fn v__law_cross_6) (by decide)
  refine pda_cons ?_ ?_
  refine pd_op d_sub ?_ ?_
  refine pd_op d_mul ?_ ?_
  exact pd_var 4 (vis_fn v__law_cross_4) (by decide)
  exact pd_var 5 (vis_fn v__law_cross_5) (by decide)
  refine pd_op d_mul ?_ ?_
  exact pd_var 2 (vis_fn v__law_cross_2) (by decide)
  exact pd_var 7 (vis_fn v__law_cross_7) (by decide)
  refine pda_cons ?_ ?_
  refine pd_op d_sub ?_ ?_
  refine pd_op d_mul ?_ ?_
  exact pd_var 2 (vis_fn v__law_cross_2) (by decide)
  exact pd_var 6 (vis_fn v__law_cross_6) (by decide)
  refine pd_op d_mul ?_ ?_
  exact pd_var 3 (vis_fn v__law_cross_3) (by decide)
  exact pd_var 5 (vis_fn v__law_cross_5) (by decide)
  exact pda_nil
/-! _law_units -/
abbrev s__law_units : Stmt := top 15
abbrev N__law_units : List Str := []
theorem sc__law_units : FnScope N__law_units [] (defScope s__law_units) := ⟨rfl, rfl, rfl, by decide +kernel, rfl, by decide +kernel, by decide +kernel⟩
def u__law_units : Rho → Option Out := (sRet (evA (aC (evA (aC (kd (.int 1)) (aC (kd (.int 0)) (aC (kd (.int 0)) aN))) tupD) (aC (evA (aC (ev1 (kd (.int 1)) negD) (aC (kd (.int 0)) (aC (kd (.int 0)) aN))) tupD) (aC (evA (aC (kd (.int 0)) (aC (kd (.int 1)) (aC (kd (.int 0)) aN))) tupD) (aC (evA (aC (kd (.int 0)) (aC (ev1 (kd (.int 1)) negD) (aC (kd (.int 0)) aN))) tupD) (aC (evA (aC (kd (.int 0)) (aC (kd (.int 0)) (aC (kd (.int 1)) aN))) tupD) (aC (evA (aC (kd (.int 0)) (aC (kd (.int 0)) (aC (ev1 (kd (.int 1)) negD) aN))) tupD) aN)))))) lstD))
def f__law_units (ds : List PyData) : Option PyData := ob (u__law_units (rho0 N__law_units.length ds)) outD
theorem k__law_units {P : Program} {w : World} {K : PySem.W.Frag} {mg : Str → Option Value} {base : Heap} {f : Addr} {fd : FuncData} (F : Fun K "_law_units" "_law_units" s__law_units f fd) (m : mg "_law_units" = some (.ref f)) (b : Binds K fd [] []) : Known P w K mg base "_law_units" 0 1 f__law_units := by
  refine ⟨f, fd, [], F.pure (k := 0) (u := u__law_units) (M' := []) sc__law_units rfl (fun cdv A outer s H E hr G => ?_), m, F.kp, b⟩
  refine pds_one ?_
  refine pds_ret ?_
  refine pd_lst ?_
  refine pda_cons ?_ ?_
  refine pd_tup ?_
  refine pda_cons ?_ ?_
  exact pd_int
  refine pda_cons ?_ ?_
  exact pd_int
  refine pda_cons ?_ ?_
  exact pd_int
  exact pda_nil
  refine pda_cons ?_ ?_
  refine pd_tup ?_
  refine pda_cons ?_ ?_
  refine pd_un d_neg ?_
  exact pd_int
  refine pda_cons ?_ ?_
  exact pd_int
  refine pda_cons ?_ ?_
  exact pd_int
  exact pda_nil
  refine pda_cons ?_ ?_
  refine pd_tup ?_
  refine pda_cons ?_ ?_
  exact pd_int
  refine pda_cons ?_ ?_
  exact pd_int
  refine pda_cons ?_ ?_
  exact pd_int
  exact pda_nil
  refine pda_cons ?_ ?_
  refine pd_tup ?_
  refine pda_cons ?_ ?_
  exact pd_int
  refine pda_cons ?_ ?_
  refine pd_un d_neg ?_
  exact pd_int
  refine pda_cons ?_ ?_
  exact pd_int
  exact pda_nil
  refine pda_cons ?_ ?_
  refine pd_tup ?_
  refine pda_cons ?_ ?_
  exact pd_int
  refine pda_cons ?_ ?_
  exact pd_int
  refine pda_cons ?_ ?_
  exact pd_int
  exact pda_nil
  refine pda_cons ?_ ?_
  refine pd_tup ?_
  refine pda_cons ?_ ?_
  exact pd_int
  refine pda_cons ?_ ?_
  exact pd_int
  refine pda_cons ?_ ?_
  refine pd_un d_neg ?_
  exact pd_int
  exact pda_nil
  exact pda_nil
/-! _law_turn -/
abbrev s__law_turn : Stmt := top 16
abbrev N__law_turn : List Str := ["_law_cell", "_law_one", "_law_others", "_law_other"]
theorem sc__law_turn : FnScope N__law_turn ["_law_cell"] (defScope s__law_turn) := ⟨rfl, rfl, rfl, by decide +kernel, rfl, by decide +kernel, by decide +kernel⟩
theorem v__law_turn_0 : visB (defScope s__law_turn) "_law_cell" = true := by decide +kernel
theorem lo__law_turn_0 : locB (defScope s__law_turn) "_law_cell" = true := by decide +kernel
theorem v__law_turn_1 : visB (defScope s__law_turn) "_law_one" = true := by decide +kernel
theorem lo__law_turn_1 : locB (defScope s__law_turn) "_law_one" = true := by decide +kernel
theorem v__law_turn_2 : visB (defScope s__law_turn) "_law_others" = true := by decide +kernel
theorem lo__law_turn_2 : locB (defScope s__law_turn) "_law_others" = true := by decide +kernel
theorem v__law_turn_3 : visB (defScope s__law_turn) "_law_other" = true := by decide +kernel
theorem lo__law_turn_3 : locB (defScope s__law_turn) "_law_other" = true := by decide +kernel
theorem gl__law_turn__law_units : glB (defScope s__law_turn) "_law_units" = true := by decide +kernel
theorem gl__law_turn__law_cross : glB (defScope s__law_turn) "_law_cross" = true := by decide +kernel
def u__law_turn : Rho → Option Out := (seqO (sSet 1 (ev2 (evC0 f__law_units) (ev2 (vr 0) (kd (.int 6)) modD) ixD)) (seqO (sTake 2 (compR 4 (evI (evC0 f__law_units) seqD) (tV (ev2 (evC 2 (aC (vr 1) (aC (vr 4) aN)) f__law_cross) (evA (aC (kd (.int 0)) (aC (kd (.int 0)) (aC (kd (.int 0)) aN))) tupD) neD)) (vr 4))) (seqO (sSet 3 (flatF (ev2 (vr 2) (ev2 (ev2 (vr 0) (kd (.int 6)) fdivD) (kd (.int 4)) modD) ixD))) (sRet (evA (aC (vr 1) (aC (vr 3) (aC (evC 2 (aC (vr 1) (aC (vr 3) aN)) f__law_cross) aN))) tupD)))))
def f__law_turn (ds : List PyData) : Option PyData := ob (u__law_turn (rho0 N__law_turn.length ds)) outD
theorem k__law_turn {P : Program} {w : World} {K : PySem.W.Frag} {mg : Str → Option Value} {base : Heap} {f : Addr} {fd : FuncData} (F : Fun K "_law_turn" "_law_turn" s__law_turn f fd) (m : mg "_law_turn" = some (.ref f)) (b : Binds K fd ["_law_cell"] []) (K__law_units : Known P w K mg base "_law_units" 0 1 f__law_units) (K__law_cross : Known P w K mg base "_law_cross" 2 1 f__law_cross) : Known P w K mg base "_law_turn" 1 2 f__law_turn := by
  refine ⟨f, fd, ["_law_cell"], F.pure (k := 1) (u := u__law_turn) (M' := []) sc__law_turn rfl (fun cdv A outer s H E hr G => ?_), m, F.kp, b⟩
  refine pds_cons (M1 := []) ?_ ?_
  refine pds_set 1 ?_ ?_ ?_ ?_ ?_ ?_ ?_
  · exact sc__law_turn.nd
  · exact (loc_fn lo__law_turn_1)
  · rfl
  · rfl
  · exact .inl rfl
  · decide
  refine pd_ix ?_ ?_
  exact pd_known0 K__law_units hr (by decide) (gl_fn (defScope s__law_turn) rfl gl__law_turn__law_units)
  refine pd_op d_mod ?_ ?_
  exact pd_var 0 (vis_fn v__law_turn_0) (by decide)
  exact pd_int
  refine pds_cons (M1 := [2]) ?_ ?_
  refine pds_comp 2 (CompOk.of (k := 1) N__law_turn ["_law_cell", "_law_one", "_law_others", "_law_other", "_law_unit"] (defScope s__law_turn) rfl rfl rfl (by decide +kernel)) rfl (by decide +kernel) (defScope s__law_turn) rfl (by decide +kernel) (by decide) (by decide) ?_ (fun _ _ _ _ _ _ => ?_) (fun _ _ _ _ _ _ => ?_)
  refine pdi_seq ?_
  exact pd_known0 K__law_units hr (by decide) (gl_fn (defScope s__law_turn) rfl gl__law_turn__law_units)
  refine pdts_one ?_
  refine pdt_cmp (d_ne hr) ?_ ?_ (nomark _)
  refine pd_known K__law_cross hr (by decide) (gl_comp (by decide +kernel)) ?_ rfl
  refine pda_cons ?_ ?_
  exact pd_var 1 (vis_comp (by decide +kernel)) (by decide)
  refine pda_cons ?_ ?_
  exact pd_var 4 (vis_comp (by decide +kernel)) (by decide)
  exact pda_nil
  refine pd_tup ?_
  refine pda_cons ?_ ?_
  exact pd_int
  refine pda_cons ?_ ?_
  exact pd_int
  refine pda_cons ?_ ?_
  exact pd_int
  exact pda_nil
  exact pd_var 4 (vis_comp (by decide +kernel)) (by decide)
  refine pds_cons (M1 := [2]) ?_ ?_
  refine pds_setB 3 ?_ ?_ ?_ ?_ ?_ ?_ ?_
  · exact sc__law_turn.nd
  · exact (loc_fn lo__law_turn_3)
  · rfl
  · rfl
  · exact .inl rfl
  · decide
  refine pd_ix ?_ ?_
  exact pd_var 2 (vis_fn v__law_turn_2) (by decide)
  refine pd_op d_mod ?_ ?_
  refine pd_op d_fdiv ?_ ?_
  exact pd_var 0 (vis_fn v__law_turn_0) (by decide)
  exact pd_int
  exact pd_int
  refine pds_one ?_
  refine pds_ret ?_
  refine pd_tup ?_
  refine pda_cons ?_ ?_
  exact pd_var 1 (vis_fn v__law_turn_1) (by decide)
  refine pda_cons ?_ ?_
  exact pd_var 3 (vis_fn v__law_turn_3) (by decide)
  refine pda_cons ?_ ?_
  refine pd_known K__law_cross hr (by decide) (gl_fn (defScope s__law_turn) rfl gl__law_turn__law_cross) ?_ rfl
  refine pda_cons ?_ ?_
  exact pd_var 1 (vis_fn v__law_turn_1) (by decide)
  refine pda_cons ?_ ?_
  exact pd_var 3 (vis_fn v__law_turn_3) (by decide)
  exact pda_nil
  exact pda_nil
/-! _law_turned -/
abbrev s__law_turned : Stmt := top 17
abbrev N__law_turned : List Str := ["_law_turn_here", "_law_spot", "_law_a", "_law_b", "_law_c", "_law_p", "_law_q", "_law_r"]
theorem sc__law_turned : FnScope N__law_turned ["_law_turn_here", "_law_spot"] (defScope s__law_turned) := ⟨rfl, rfl, rfl, by decide +kernel, rfl, by decide +kernel, by decide +kernel⟩
theorem v__law_turned_0 : visB (defScope s__law_turned) "_law_turn_here" = true := by decide +kernel
theorem lo__law_turned_0 : locB (defScope s__law_turned) "_law_turn_here" = true := by decide +kernel
theorem v__law_turned_1 : visB (defScope s__law_turned) "_law_spot" = true := by decide +kernel
theorem lo__law_turned_1 : locB (defScope s__law_turned) "_law_spot" = true := by decide +kernel
theorem v__law_turned_2 : visB (defScope s__law_turned) "_law_a" = true := by decide +kernel
theorem lo__law_turned_2 : locB (defScope s__law_turned) "_law_a" = true := by decide +kernel
theorem v__law_turned_3 : visB (defScope s__law_turned) "_law_b" = true := by decide +kernel
theorem lo__law_turned_3 : locB (defScope s__law_turned) "_law_b" = true := by decide +kernel
theorem v__law_turned_4 : visB (defScope s__law_turned) "_law_c" = true := by decide +kernel
theorem lo__law_turned_4 : locB (defScope s__law_turned) "_law_c" = true := by decide +kernel
theorem v__law_turned_5 : visB (defScope s__law_turned) "_law_p" = true := by decide +kernel
theorem lo__law_turned_5 : locB (defScope s__law_turned) "_law_p" = true := by decide +kernel
theorem v__law_turned_6 : visB (defScope s__law_turned) "_law_q" = true := by decide +kernel
theorem lo__law_turned_6 : locB (defScope s__law_turned) "_law_q" = true := by decide +kernel
theorem v__law_turned_7 : visB (defScope s__law_turned) "_law_r" = true := by decide +kernel
theorem lo__law_turned_7 : locB (defScope s__law_turned) "_law_r" = true := by decide +kernel
theorem gl__law_turned_range : glB (defScope s__law_turned) "range" = true := by decide +kernel
theorem gl__law_turned_tuple : glB (defScope s__law_turned) "tuple" = true := by decide +kernel
def u__law_turned : Rho → Option Out := (seqO (sAsg (vr 1) (unpD 3 (gsC (gNm 2) (gsC (gNm 3) (gsC (gNm 4) gsN))))) (seqO (sAsg (vr 0) (unpD 3 (gsC (gNm 5) (gsC (gNm 6) (gsC (gNm 7) gsN))))) (sRet (evA (aC (compR 8 (evR (aC (kd (.int 3)) aN) rng1D) tT (ev2 (ev2 (ev2 (vr 2) (ev2 (vr 5) (vr 8) ixD) mulD) (ev2 (vr 3) (ev2 (vr 6) (vr 8) ixD) mulD) add3D) (ev2 (vr 4) (ev2 (vr 7) (vr 8) ixD) mulD) add3D)) aN) tupleD))))
def f__law_turned (ds : List PyData) : Option PyData := ob (u__law_turned (rho0 N__law_turned.length ds)) outD
theorem k__law_turned {P : Program} {w : World} {K : PySem.W.Frag} {mg : Str → Option Value} {base : Heap} {f : Addr} {fd : FuncData} (F : Fun K "_law_turned" "_law_turned" s__law_turned f fd) (m : mg "_law_turned" = some (.ref f)) (b : Binds K fd ["_law_turn_here", "_law_spot"] []) (z_tuple : mg "tuple" = none) (z_range : mg "range" = none) : Known P w K mg base "_law_turned" 2 1 f__law_turned := by
  refine ⟨f, fd, ["_law_turn_here", "_law_spot"], F.pure (k := 0) (u := u__law_turned) (M' := []) sc__law_turned rfl (fun cdv A outer s H E hr G => ?_), m, F.kp, b⟩
  refine pds_cons (M1 := []) ?_ ?_
  refine pds_asg ?_ ?_
  exact pd_var 1 (vis_fn v__law_turned_1) (by decide)
  refine pdg_tup rfl ?_
  refine pdgs_cons ?_ ?_
  exact pdg_name 2 sc__law_turned.nd (loc_fn lo__law_turned_2) (by decide)
  refine pdgs_cons ?_ ?_
  exact pdg_name 3 sc__law_turned.nd (loc_fn lo__law_turned_3) (by decide)
  refine pdgs_cons ?_ ?_
  exact pdg_name 4 sc__law_turned.nd (loc_fn lo__law_turned_4) (by decide)
  exact pdgs_nil
  refine pds_cons (M1 := []) ?_ ?_
  refine pds_asg ?_ ?_
  exact pd_var 0 (vis_fn v__law_turned_0) (by decide)
  refine pdg_tup rfl ?_
  refine pdgs_cons ?_ ?_
  exact pdg_name 5 sc__law_turned.nd (loc_fn lo__law_turned_5) (by decide)
  refine pdgs_cons ?_ ?_
  exact pdg_name 6 sc__law_turned.nd (loc_fn lo__law_turned_6) (by decide)
  refine pdgs_cons ?_ ?_
  exact pdg_name 7 sc__law_turned.nd (loc_fn lo__law_turned_7) (by decide)
  exact pdgs_nil
  refine pds_one ?_
  refine pds_ret ?_
  refine pd_callTy b_tuple (gl_fn (defScope s__law_turned) rfl gl__law_turned_tuple) z_tuple rfl ?_
  refine pda_cons ?_ ?_
  refine pd_comp (CompOk.of (k := 1) N__law_turned ["_law_turn_here", "_law_spot", "_law_a", "_law_b", "_law_c", "_law_p", "_law_q", "_law_r", "_law_k"] (defScope s__law_turned) rfl rfl rfl (by decide +kernel)) rfl (by decide +kernel) ?_ (fun _ _ _ _ _ _ => ?_) (fun _ _ _ _ _ _ => ?_)
  refine pdi_range1 (gl_fn (defScope s__law_turned) rfl gl__law_turned_range) z_range ?_
  refine pda_cons ?_ ?_
  exact pd_int
  exact pda_nil
  exact pdts_nil
  refine pd_op d_add3 ?_ ?_
  refine pd_op d_add3 ?_ ?_
  refine pd_op d_mul ?_ ?_
  exact pd_var 2 (vis_comp (by decide +kernel)) (by decide)
  refine pd_ix ?_ ?_
  exact pd_var 5 (vis_comp (by decide +kernel)) (by decide)
  exact pd_var 8 (vis_comp (by decide +kernel)) (by decide)
  refine pd_op d_mul ?_ ?_
  exact pd_var 3 (vis_comp (by decide +kernel)) (by decide)
  refine pd_ix ?_ ?_
  exact pd_var 6 (vis_comp (by decide +kernel)) (by decide)
  exact pd_var 8 (vis_comp (by decide +kernel)) (by decide)
  refine pd_op d_mul ?_ ?_
  exact pd_var 4 (vis_comp (by decide +kernel)) (by decide)
  refine pd_ix ?_ ?_
  exact pd_var 7 (vis_comp (by decide +kernel)) (by decide)
  exact pd_var 8 (vis_comp (by decide +kernel)) (by decide)
  exact pda_nil
/-! _law_solid -/
abbrev s__law_solid : Stmt := top 18
abbrev N__law_solid : List Str := ["_law_cells", "_law_most", "_law_found", "_law_cell", "_law_mix", "_law_one", "_law_unit", "_law_other"]
theorem sc__law_solid : FnScope N__law_solid ["_law_cells", "_law_most"] (defScope s__law_solid) := ⟨rfl, rfl, rfl, by decide +kernel, rfl, by decide +kernel, by decide +kernel⟩
theorem v__law_solid_0 : visB (defScope s__law_solid) "_law_cells" = true := by decide +kernel
theorem lo__law_solid_0 : locB (defScope s__law_solid) "_law_cells" = true := by decide +kernel
theorem v__law_solid_1 : visB (defScope s__law_solid) "_law_most" = true := by decide +kernel
theorem lo__law_solid_1 : locB (defScope s__law_solid) "_law_most" = true := by decide +kernel
theorem v__law_solid_2 : visB (defScope s__law_solid) "_law_found" = true := by decide +kernel
theorem lo__law_solid_2 : locB (defScope s__law_solid) "_law_found" = true := by decide +kernel
theorem v__law_solid_3 : visB (defScope s__law_solid) "_law_cell" = true := by decide +kernel
theorem lo__law_solid_3 : locB (defScope s__law_solid) "_law_cell" = true := by decide +kernel
theorem v__law_solid_4 : visB (defScope s__law_solid) "_law_mix" = true := by decide +kernel
theorem lo__law_solid_4 : locB (defScope s__law_solid) "_law_mix" = true := by decide +kernel
theorem v__law_solid_5 : visB (defScope s__law_solid) "_law_one" = true := by decide +kernel
theorem lo__law_solid_5 : locB (defScope s__law_solid) "_law_one" = true := by decide +kernel
theorem v__law_solid_6 : visB (defScope s__law_solid) "_law_unit" = true := by decide +kernel
theorem lo__law_solid_6 : locB (defScope s__law_solid) "_law_unit" = true := by decide +kernel
theorem v__law_solid_7 : visB (defScope s__law_solid) "_law_other" = true := by decide +kernel
theorem lo__law_solid_7 : locB (defScope s__law_solid) "_law_other" = true := by decide +kernel
theorem gl__law_solid_len : glB (defScope s__law_solid) "len" = true := by decide +kernel
theorem gl__law_solid__law_units : glB (defScope s__law_solid) "_law_units" = true := by decide +kernel
theorem gl__law_solid_sorted : glB (defScope s__law_solid) "sorted" = true := by decide +kernel
def u__law_solid : Rho → Option Out := (seqO (sTake 2 (evA (aC (evA (aC (kd (.int 0)) (aC (kd (.int 0)) (aC (kd (.int 0)) aN))) tupD) aN) lstD)) (seqO (sFor (evI (vr 0) seqD) (gNm 3) (seqO (sSet 4 (ev2 (ev2 (ev2 (vr 3) (ev2 (kd (.int 10)) (kd (.int 30)) powD) modD) (kd (.int 48271)) mulD) (kd (.int 2147483647)) modD)) (seqO (sSet 5 (flatF (ev2 (vr 2) (ev2 (ev2 (vr 4) (kd (.int 6)) fdivD) (evA (aC (vr 2) aN) lenD) modD) ixD))) (seqO (sSet 6 (ev2 (evC0 f__law_units) (ev2 (vr 4) (kd (.int 6)) modD) ixD)) (seqO (sSet 7 (evA (aC (ev2 (ev2 (vr 5) (kd (.int 0)) ixD) (ev2 (vr 6) (kd (.int 0)) ixD) add3D) (aC (ev2 (ev2 (vr 5) (kd (.int 1)) ixD) (ev2 (vr 6) (kd (.int 1)) ixD) add3D) (aC (ev2 (ev2 (vr 5) (kd (.int 2)) ixD) (ev2 (vr 6) (kd (.int 2)) ixD) add3D) aN))) tupD)) (sIf (tA (tV (ev2 (vr 7) (vr 2) ninD)) (tV (ev2 (evA (aC (vr 2) aN) lenD) (vr 1) ltD2))) (sApp 2 (vr 7)) sN)))))) (sRet (evA (aC (vr 2) aN) sortedD))))
def f__law_solid (ds : List PyData) : Option PyData := ob (u__law_solid (rho0 N__law_solid.length ds)) outD
theorem k__law_solid {P : Program} {w : World} {K : PySem.W.Frag} {mg : Str → Option Value} {base : Heap} {f : Addr} {fd : FuncData} (F : Fun K "_law_solid" "_law_solid" s__law_solid f fd) (m : mg "_law_solid" = some (.ref f)) (b : Binds K fd ["_law_cells", "_law_most"] []) (K__law_units : Known P w K mg base "_law_units" 0 1 f__law_units) (z_len : mg "len" = none) (z_sorted : mg "sorted" = none) : Known P w K mg base "_law_solid" 2 2 f__law_solid := by
  refine ⟨f, fd, ["_law_cells", "_law_most"], F.pure (k := 1) (u := u__law_solid) (M' := []) sc__law_solid rfl (fun cdv A outer s H E hr G => ?_), m, F.kp, b⟩
  refine pds_cons (M1 := [2]) ?_ ?_
  refine pds_setF 2 ?_ ?_ ?_ ?_ ?_ ?_ ?_ ?_
  · exact sc__law_solid.nd
  · exact (loc_fn lo__law_solid_2)
  · rfl
  · rfl
  · exact .inl rfl
  · decide
  · decide
  refine pf_lst ?_
  refine pda_cons ?_ ?_
  refine pd_tup ?_
  refine pda_cons ?_ ?_
  exact pd_int
  refine pda_cons ?_ ?_
  exact pd_int
  refine pda_cons ?_ ?_
  exact pd_int
  exact pda_nil
  exact pda_nil
  refine pds_cons (M1 := [2]) ?_ ?_
  refine pds_for PassesOwn.never rfl ?_ (fun _ => ?_) (fun _ => ?_)
  refine pdi_seq ?_
  exact pd_var 0 (vis_fn v__law_solid_0) (by decide)
  exact pdg_name 3 sc__law_solid.nd (loc_fn lo__law_solid_3) (by decide)
  refine pds_cons (M1 := [2]) ?_ ?_
  refine pds_set 4 ?_ ?_ ?_ ?_ ?_ ?_ ?_
  · exact sc__law_solid.nd
  · exact (loc_fn lo__law_solid_4)
  · rfl
  · rfl
  · exact .inl rfl
  · decide
  refine pd_op d_mod ?_ ?_
  refine pd_op d_mul ?_ ?_
  refine pd_op d_mod ?_ ?_
  exact pd_var 3 (vis_fn v__law_solid_3) (by decide)
  refine pd_op d_pow ?_ ?_
  exact pd_int
  exact pd_int
  exact pd_int
  exact pd_int
  refine pds_cons (M1 := [2]) ?_ ?_
  refine pds_setB 5 ?_ ?_ ?_ ?_ ?_ ?_ ?_
  · exact sc__law_solid.nd
  · exact (loc_fn lo__law_solid_5)
  · rfl
  · rfl
  · exact .inl rfl
  · decide
  refine pd_ix ?_ ?_
  exact pd_var 2 (vis_fn v__law_solid_2) (by decide)
  refine pd_op d_mod ?_ ?_
  refine pd_op d_fdiv ?_ ?_
  exact pd_var 4 (vis_fn v__law_solid_4) (by decide)
  exact pd_int
  refine pd_callB b_len (gl_fn (defScope s__law_solid) rfl gl__law_solid_len) z_len PySem.boot_len ?_
  refine pda_cons ?_ ?_
  exact pd_var 2 (vis_fn v__law_solid_2) (by decide)
  exact pda_nil
  refine pds_cons (M1 := [2]) ?_ ?_
  refine pds_set 6 ?_ ?_ ?_ ?_ ?_ ?_ ?_
  · exact sc__law_solid.nd
  · exact (loc_fn lo__law_solid_6)
  · rfl
  · rfl
  · exact .inl rfl
  · decide
  refine pd_ix ?_ ?_
  exact pd_known0 K__law_units hr (by decide) (gl_fn (defScope s__law_solid) rfl gl__law_solid__law_units)
  refine pd_op d_mod ?_ ?_
  exact pd_var 4 (vis_fn v__law_solid_4) (by decide)
  exact pd_int
  refine pds_cons (M1 := [2]) ?_ ?_
  refine pds_set 7 ?_ ?_ ?_ ?_ ?_ ?_ ?_
  · exact sc__law_solid.nd
  · exact (loc_fn lo__law_solid_7)
  · rfl
  · rfl
  · exact .inl rfl
  · decide
  refine pd_tup ?_
  refine pda_cons ?_ ?_
  refine pd_op d_add3 ?_ ?_
  refine pd_ix ?_ ?_
  exact pd_var 5 (vis_fn v__law_solid_5) (by decide)
  exact pd_int
  refine pd_ix ?_ ?_
  exact pd_var 6 (vis_fn v__law_solid_6) (by decide)
  exact pd_int
  refine pda_cons ?_ ?_
  refine pd_op d_add3 ?_ ?_
  refine pd_ix ?_ ?_
  exact pd_var 5 (vis_fn v__law_solid_5) (by decide)
  exact pd_int
  refine pd_ix ?_ ?_
  exact pd_var 6 (vis_fn v__law_solid_6) (by decide)
  exact pd_int
  refine pda_cons ?_ ?_
  refine pd_op d_add3 ?_ ?_
  refine pd_ix ?_ ?_
  exact pd_var 5 (vis_fn v__law_solid_5) (by decide)
  exact pd_int
  refine pd_ix ?_ ?_
  exact pd_var 6 (vis_fn v__law_solid_6) (by decide)
  exact pd_int
  exact pda_nil
  refine pds_one ?_
  refine pds_if ?_ ?_ ?_
  refine PDW.pdt ?_
  refine pdw_and ?_ ?_
  refine pdt_cmp (d_notin hr) ?_ ?_ rfl
  exact pd_var 7 (vis_fn v__law_solid_7) (by decide)
  exact pd_var 2 (vis_fn v__law_solid_2) (by decide)
  refine pdw_and1 ?_
  refine pdt_cmp (d_lt2 hr) ?_ ?_ (nomark _)
  refine pd_callB b_len (gl_fn (defScope s__law_solid) rfl gl__law_solid_len) z_len PySem.boot_len ?_
  refine pda_cons ?_ ?_
  exact pd_var 2 (vis_fn v__law_solid_2) (by decide)
  exact pda_nil
  exact pd_var 1 (vis_fn v__law_solid_1) (by decide)
  refine pds_one ?_
  refine pds_app 2 (vis_fn v__law_solid_2) (by decide) (by decide) ?_
  exact pd_var 7 (vis_fn v__law_solid_7) (by decide)
  exact pds_nil
  refine pds_one ?_
  refine pds_ret ?_
  refine pd_of_pf ?_
  refine pf_callB (n_sorted hr) (gl_fn (defScope s__law_solid) rfl gl__law_solid_sorted) z_sorted boot_sortedD ?_
  refine pda_cons ?_ ?_
  exact pd_var 2 (vis_fn v__law_solid_2) (by decide)
  exact pda_nil
/-! _law_cube_turned -/
abbrev s__law_cube_turned : Stmt := top 19
abbrev N__law_cube_turned : List Str := ["_law_turn_here", "_law_shift_here", "_law_cube", "_law_middle"]
theorem sc__law_cube_turned : FnScope N__law_cube_turned ["_law_turn_here", "_law_shift_here", "_law_cube"] (defScope s__law_cube_turned) := ⟨rfl, rfl, rfl, by decide +kernel, rfl, by decide +kernel, by decide +kernel⟩
theorem v__law_cube_turned_0 : visB (defScope s__law_cube_turned) "_law_turn_here" = true := by decide +kernel
theorem lo__law_cube_turned_0 : locB (defScope s__law_cube_turned) "_law_turn_here" = true := by decide +kernel
theorem v__law_cube_turned_1 : visB (defScope s__law_cube_turned) "_law_shift_here" = true := by decide +kernel
theorem lo__law_cube_turned_1 : locB (defScope s__law_cube_turned) "_law_shift_here" = true := by decide +kernel
theorem v__law_cube_turned_2 : visB (defScope s__law_cube_turned) "_law_cube" = true := by decide +kernel
theorem lo__law_cube_turned_2 : locB (defScope s__law_cube_turned) "_law_cube" = true := by decide +kernel
theorem v__law_cube_turned_3 : visB (defScope s__law_cube_turned) "_law_middle" = true := by decide +kernel
theorem lo__law_cube_turned_3 : locB (defScope s__law_cube_turned) "_law_middle" = true := by decide +kernel
theorem gl__law_cube_turned__law_turned : glB (defScope s__law_cube_turned) "_law_turned" = true := by decide +kernel
def u__law_cube_turned : Rho → Option Out := (seqO (sSet 3 (evC 2 (aC (vr 0) (aC (evA (aC (ev2 (ev2 (kd (.int 2)) (ev2 (vr 2) (kd (.int 0)) ixD) mulD) (kd (.int 1)) add3D) (aC (ev2 (ev2 (kd (.int 2)) (ev2 (vr 2) (kd (.int 1)) ixD) mulD) (kd (.int 1)) add3D) (aC (ev2 (ev2 (kd (.int 2)) (ev2 (vr 2) (kd (.int 2)) ixD) mulD) (kd (.int 1)) add3D) aN))) tupD) aN)) f__law_turned)) (sRet (evA (aC (ev2 (ev2 (ev2 (ev2 (vr 3) (kd (.int 0)) ixD) (kd (.int 1)) subD) (kd (.int 2)) fdivD) (ev2 (vr 1) (kd (.int 0)) ixD) add3D) (aC (ev2 (ev2 (ev2 (ev2 (vr 3) (kd (.int 1)) ixD) (kd (.int 1)) subD) (kd (.int 2)) fdivD) (ev2 (vr 1) (kd (.int 1)) ixD) add3D) (aC (ev2 (ev2 (ev2 (ev2 (vr 3) (kd (.int 2)) ixD) (kd (.int 1)) subD) (kd (.int 2)) fdivD) (ev2 (vr 1) (kd (.int 2)) ixD) add3D) aN))) tupD)))
def f__law_cube_turned (ds : List PyData) : Option PyData := ob (u__law_cube_turned (rho0 N__law_cube_turned.length ds)) outD
theorem k__law_cube_turned {P : Program} {w : World} {K : PySem.W.Frag} {mg : Str → Option Value} {base : Heap} {f : Addr} {fd : FuncData} (F : Fun K "_law_cube_turned" "_law_cube_turned" s__law_cube_turned f fd) (m : mg "_law_cube_turned" = some (.ref f)) (b : Binds K fd ["_law_turn_here", "_law_shift_here", "_law_cube"] []) (K__law_turned : Known P w K mg base "_law_turned" 2 1 f__law_turned) : Known P w K mg base "_law_cube_turned" 3 2 f__law_cube_turned := by
  refine ⟨f, fd, ["_law_turn_here", "_law_shift_here", "_law_cube"], F.pure (k := 1) (u := u__law_cube_turned) (M' := []) sc__law_cube_turned rfl (fun cdv A outer s H E hr G => ?_), m, F.kp, b⟩
  refine pds_cons (M1 := []) ?_ ?_
  refine pds_set 3 ?_ ?_ ?_ ?_ ?_ ?_ ?_
  · exact sc__law_cube_turned.nd
  · exact (loc_fn lo__law_cube_turned_3)
  · rfl
  · rfl
  · exact .inl rfl
  · decide
  refine pd_known K__law_turned hr (by decide) (gl_fn (defScope s__law_cube_turned) rfl gl__law_cube_turned__law_turned) ?_ rfl
  refine pda_cons ?_ ?_
  exact pd_var 0 (vis_fn v__law_cube_turned_0) (by decide)
  refine pda_cons ?_ ?_
  refine pd_tup ?_
  refine pda_cons ?_ ?_
  refine pd_op d_add3 ?_ ?_
  refine pd_op d_mul ?_ ?_
  exact pd_int
  refine pd_ix ?_ ?_
  exact pd_var 2 (vis_fn v__law_cube_turned_2) (by decide)
  exact pd_int
  exact pd_int
  refine pda_cons ?_ ?_
  refine pd_op d_add3 ?_ ?_
  refine pd_op d_mul ?_ ?_
  exact pd_int
  refine pd_ix ?_ ?_
  exact pd_var 2 (vis_fn v__law_cube_turned_2) (by decide)
  exact pd_int
  exact pd_int
  refine pda_cons ?_ ?_
  refine pd_op d_add3 ?_ ?_
  refine pd_op d_mul ?_ ?_
  exact pd_int
  refine pd_ix ?_ ?_
  exact pd_var 2 (vis_fn v__law_cube_turned_2) (by decide)
  exact pd_int
  exact pd_int
  exact pda_nil
  exact pda_nil
  refine pds_one ?_
  refine pds_ret ?_
  refine pd_tup ?_
  refine pda_cons ?_ ?_
  refine pd_op d_add3 ?_ ?_
  refine pd_op d_fdiv ?_ ?_
  refine pd_op d_sub ?_ ?_
  refine pd_ix ?_ ?_
  exact pd_var 3 (vis_fn v__law_cube_turned_3) (by decide)
  exact pd_int
  exact pd_int
  exact pd_int
  refine pd_ix ?_ ?_
  exact pd_var 1 (vis_fn v__law_cube_turned_1) (by decide)
  exact pd_int
  refine pda_cons ?_ ?_
  refine pd_op d_add3 ?_ ?_
  refine pd_op d_fdiv ?_ ?_
  refine pd_op d_sub ?_ ?_
  refine pd_ix ?_ ?_
  exact pd_var 3 (vis_fn v__law_cube_turned_3) (by decide)
  exact pd_int
  exact pd_int
  exact pd_int
  refine pd_ix ?_ ?_
  exact pd_var 1 (vis_fn v__law_cube_turned_1) (by decide)
  exact pd_int
  refine pda_cons ?_ ?_
  refine pd_op d_add3 ?_ ?_
  refine pd_op d_fdiv ?_ ?_
  refine pd_op d_sub ?_ ?_
  refine pd_ix ?_ ?_
  exact pd_var 3 (vis_fn v__law_cube_turned_3) (by decide)
  exact pd_int
  exact pd_int
  exact pd_int
  refine pd_ix ?_ ?_
  exact pd_var 1 (vis_fn v__law_cube_turned_1) (by decide)
  exact pd_int
  exact pda_nil
/-! _law_cubes_alike -/
abbrev s__law_cubes_alike : Stmt := top 20
abbrev N__law_cubes_alike : List Str := ["_law_found", "_law_due_here", "_law_k"]
theorem sc__law_cubes_alike : FnScope N__law_cubes_alike ["_law_found", "_law_due_here"] (defScope s__law_cubes_alike) := ⟨rfl, rfl, rfl, by decide +kernel, rfl, by decide +kernel, by decide +kernel⟩
theorem v__law_cubes_alike_0 : visB (defScope s__law_cubes_alike) "_law_found" = true := by decide +kernel
theorem lo__law_cubes_alike_0 : locB (defScope s__law_cubes_alike) "_law_found" = true := by decide +kernel
theorem v__law_cubes_alike_1 : visB (defScope s__law_cubes_alike) "_law_due_here" = true := by decide +kernel
theorem lo__law_cubes_alike_1 : locB (defScope s__law_cubes_alike) "_law_due_here" = true := by decide +kernel
theorem v__law_cubes_alike_2 : visB (defScope s__law_cubes_alike) "_law_k" = true := by decide +kernel
theorem lo__law_cubes_alike_2 : locB (defScope s__law_cubes_alike) "_law_k" = true := by decide +kernel
theorem gl__law_cubes_alike_isinstance : glB (defScope s__law_cubes_alike) "isinstance" = true := by decide +kernel
theorem gl__law_cubes_alike_list : glB (defScope s__law_cubes_alike) "list" = true := by decide +kernel
theorem gl__law_cubes_alike_len : glB (defScope s__law_cubes_alike) "len" = true := by decide +kernel
theorem gl__law_cubes_alike__law_triple : glB (defScope s__law_cubes_alike) "_law_triple" = true := by decide +kernel
theorem gl__law_cubes_alike_range : glB (defScope s__law_cubes_alike) "range" = true := by decide +kernel
def u__law_cubes_alike : Rho → Option Out := (seqO (sIf (tO (tN (tV (ev1 (vr 0) (isiD "list")))) (tV (ev2 (evA (aC (vr 0) aN) lenD) (evA (aC (vr 1) aN) lenD) neD))) (sRet (kd (.bool false))) sN) (seqO (sFor (evR (aC (evA (aC (vr 1) aN) lenD) aN) rng1D) (gNm 2) (sIf (tN (tV (evC 2 (aC (ev2 (vr 0) (vr 2) ixD) (aC (ev2 (vr 1) (vr 2) ixD) aN)) f__law_triple))) (sRet (kd (.bool false))) sN)) (sRet (kd (.bool true)))))
def f__law_cubes_alike (ds : List PyData) : Option PyData := ob (u__law_cubes_alike (rho0 N__law_cubes_alike.length ds)) outD
theorem k__law_cubes_alike {P : Program} {w : World} {K : PySem.W.Frag} {mg : Str → Option Value} {base : Heap} {f : Addr} {fd : FuncData} (F : Fun K "_law_cubes_alike" "_law_cubes_alike" s__law_cubes_alike f fd) (m : mg "_law_cubes_alike" = some (.ref f)) (b : Binds K fd ["_law_found", "_law_due_here"] []) (K__law_triple : Known P w K mg base "_law_triple" 2 2 f__law_triple) (z_isinstance : mg "isinstance" = none) (z_list : mg "list" = none) (z_len : mg "len" = none) (z_range : mg "range" = none) : Known P w K mg base "_law_cubes_alike" 2 3 f__law_cubes_alike := by
  refine ⟨f, fd, ["_law_found", "_law_due_here"], F.pure (k := 2) (u := u__law_cubes_alike) (M' := []) sc__law_cubes_alike rfl (fun cdv A outer s H E hr G => ?_), m, F.kp, b⟩
  refine pds_cons (M1 := []) ?_ ?_
  refine pds_if ?_ ?_ ?_
  refine PDW.pdt ?_
  refine pdw_or ?_ ?_
  refine pdt_not ?_
  refine pdt_val ?_
  refine pd_isi (T := "list") (kit_list _) (gl_fn (defScope s__law_cubes_alike) rfl gl__law_cubes_alike_isinstance) z_isinstance (gl_fn (defScope s__law_cubes_alike) rfl gl__law_cubes_alike_list) z_list rfl rfl ?_
  exact pd_var 0 (vis_fn v__law_cubes_alike_0) (by decide)
  refine pdw_or1 ?_
  refine pdt_cmp (d_ne hr) ?_ ?_ (nomark _)
  refine pd_callB b_len (gl_fn (defScope s__law_cubes_alike) rfl gl__law_cubes_alike_len) z_len PySem.boot_len ?_
  refine pda_cons ?_ ?_
  exact pd_var 0 (vis_fn v__law_cubes_alike_0) (by decide)
  exact pda_nil
  refine pd_callB b_len (gl_fn (defScope s__law_cubes_alike) rfl gl__law_cubes_alike_len) z_len PySem.boot_len ?_
  refine pda_cons ?_ ?_
  exact pd_var 1 (vis_fn v__law_cubes_alike_1) (by decide)
  exact pda_nil
  refine pds_one ?_
  refine pds_ret ?_
  exact pd_bl
  exact pds_nil
  refine pds_cons (M1 := []) ?_ ?_
  refine pds_forR PassesOwn.never rfl ?_ ?_ ?_
  refine pdr_range1 (gl_fn (defScope s__law_cubes_alike) rfl gl__law_cubes_alike_range) z_range ?_
  refine pda_cons ?_ ?_
  refine pd_callB b_len (gl_fn (defScope s__law_cubes_alike) rfl gl__law_cubes_alike_len) z_len PySem.boot_len ?_
  refine pda_cons ?_ ?_
  exact pd_var 1 (vis_fn v__law_cubes_alike_1) (by decide)
  exact pda_nil
  exact pda_nil
  exact pdg_name 2 sc__law_cubes_alike.nd (loc_fn lo__law_cubes_alike_2) (by decide)
  refine pds_one ?_
  refine pds_if ?_ ?_ ?_
  refine pdt_not ?_
  refine pdt_val ?_
  refine pd_known K__law_triple hr (by decide) (gl_fn (defScope s__law_cubes_alike) rfl gl__law_cubes_alike__law_triple) ?_ rfl
  refine pda_cons ?_ ?_
  refine pd_ix ?_ ?_
  exact pd_var 0 (vis_fn v__law_cubes_alike_0) (by decide)
  exact pd_var 2 (vis_fn v__law_cubes_alike_2) (by decide)
  refine pda_cons ?_ ?_
  refine pd_ix ?_ ?_
  exact pd_var 1 (vis_fn v__law_cubes_alike_1) (by decide)
  exact pd_var 2 (vis_fn v__law_cubes_alike_2) (by decide)
  exact pda_nil
  refine pds_one ?_
  refine pds_ret ?_
  exact pd_bl
  exact pds_nil
  refine pds_one ?_
  refine pds_ret ?_
  exact pd_bl
/-! _law_shift -/
abbrev s__law_shift : Stmt := top 21
abbrev N__law_shift : List Str := ["_law_script", "_law_at"]
theorem sc__law_shift : FnScope N__law_shift ["_law_script", "_law_at"] (defScope s__law_shift) := ⟨rfl, rfl, rfl, by decide +kernel, rfl, by decide +kernel, by decide +kernel⟩
theorem v__law_shift_0 : visB (defScope s__law_shift) "_law_script" = true := by decide +kernel
theorem lo__law_shift_0 : locB (defScope s__law_shift) "_law_script" = true := by decide +kernel
theorem v__law_shift_1 : visB (defScope s__law_shift) "_law_at" = true := by decide +kernel
theorem lo__law_shift_1 : locB (defScope s__law_shift) "_law_at" = true := by decide +kernel
theorem gl__law_shift_range : glB (defScope s__law_shift) "range" = true := by decide +kernel
theorem gl__law_shift_tuple : glB (defScope s__law_shift) "tuple" = true := by decide +kernel
def u__law_shift : Rho → Option Out := (sRet (evA (aC (compR 2 (evR (aC (kd (.int 3)) aN) rng1D) tT (evC 1 (aC (evC 2 (aC (vr 0) (aC (ev2 (vr 1) (vr 2) add3D) aN)) f__law_cell_at) aN) f__law_offset)) aN) tupleD))
def f__law_shift (ds : List PyData) : Option PyData := ob (u__law_shift (rho0 N__law_shift.length ds)) outD
theorem k__law_shift {P : Program} {w : World} {K : PySem.W.Frag} {mg : Str → Option Value} {base : Heap} {f : Addr} {fd : FuncData} (F : Fun K "_law_shift" "_law_shift" s__law_shift f fd) (m : mg "_law_shift" = some (.ref f)) (b : Binds K fd ["_law_script", "_law_at"] []) (K__law_offset : Known P w K mg base "_law_offset" 1 1 f__law_offset) (K__law_cell_at : Known P w K mg base "_law_cell_at" 2 1 f__law_cell_at) (z_tuple : mg "tuple" = none) (z_range : mg "range" = none) : Known P w K mg base "_law_shift" 2 2 f__law_shift := by
  refine ⟨f, fd, ["_law_script", "_law_at"], F.pure (k := 1) (u := u__law_shift) (M' := []) sc__law_shift rfl (fun cdv A outer s H E hr G => ?_), m, F.kp, b⟩
  refine pds_one ?_
  refine pds_ret ?_
  refine pd_callTy b_tuple (gl_fn (defScope s__law_shift) rfl gl__law_shift_tuple) z_tuple rfl ?_
  refine pda_cons ?_ ?_
  refine pd_comp (CompOk.of (k := 1) N__law_shift ["_law_script", "_law_at", "_law_k"] (defScope s__law_shift) rfl rfl rfl (by decide +kernel)) rfl (by decide +kernel) ?_ (fun _ _ _ _ _ _ => ?_) (fun _ _ _ _ _ _ => ?_)
  refine pdi_range1 (gl_fn (defScope s__law_shift) rfl gl__law_shift_range) z_range ?_
  refine pda_cons ?_ ?_
  exact pd_int
  exact pda_nil
  exact pdts_nil
  refine pd_known K__law_offset hr (by decide) (gl_comp (by decide +kernel)) ?_ rfl
  refine pda_cons ?_ ?_
  refine pd_known K__law_cell_at hr (by decide) (gl_comp (by decide +kernel)) ?_ rfl
  refine pda_cons ?_ ?_
  exact pd_var 0 (vis_comp (by decide +kernel)) (by decide)
  refine pda_cons ?_ ?_
  refine pd_op d_add3 ?_ ?_
  exact pd_var 1 (vis_comp (by decide +kernel)) (by decide)
  exact pd_var 2 (vis_comp (by decide +kernel)) (by decide)
  exact pda_nil
  exact pda_nil
  exact pda_nil
/-! _law_due -/
abbrev s__law_due : Stmt := top 22
abbrev N__law_due : List Str := ["_law_turn_here", "_law_shift_here", "_law_solid_here"]
theorem sc__law_due : FnScope N__law_due ["_law_turn_here", "_law_shift_here", "_law_solid_here"] (defScope s__law_due) := ⟨rfl, rfl, rfl, by decide +kernel, rfl, by decide +kernel, by decide +kernel⟩
theorem v__law_due_0 : visB (defScope s__law_due) "_law_turn_here" = true := by decide +kernel
theorem lo__law_due_0 : locB (defScope s__law_due) "_law_turn_here" = true := by decide +kernel
theorem v__law_due_1 : visB (defScope s__law_due) "_law_shift_here" = true := by decide +kernel
theorem lo__law_due_1 : locB (defScope s__law_due) "_law_shift_here" = true := by decide +kernel
theorem v__law_due_2 : visB (defScope s__law_due) "_law_solid_here" = true := by decide +kernel
theorem lo__law_due_2 : locB (defScope s__law_due) "_law_solid_here" = true := by decide +kernel
theorem gl__law_due_sorted : glB (defScope s__law_due) "sorted" = true := by decide +kernel
def u__law_due : Rho → Option Out := (sRet (evA (aC (compR 3 (evI (vr 2) seqD) tT (evC 3 (aC (vr 0) (aC (vr 1) (aC (vr 3) aN))) f__law_cube_turned)) aN) sortedD))
def f__law_due (ds : List PyData) : Option PyData := ob (u__law_due (rho0 N__law_due.length ds)) outD
theorem k__law_due {P : Program} {w : World} {K : PySem.W.Frag} {mg : Str → Option Value} {base : Heap} {f : Addr} {fd : FuncData} (F : Fun K "_law_due" "_law_due" s__law_due f fd) (m : mg "_law_due" = some (.ref f)) (b : Binds K fd ["_law_turn_here", "_law_shift_here", "_law_solid_here"] []) (K__law_cube_turned : Known P w K mg base "_law_cube_turned" 3 2 f__law_cube_turned) (z_sorted : mg "sorted" = none) : Known P w K mg base "_law_due" 3 3 f__law_due := by
  refine ⟨f, fd, ["_law_turn_here", "_law_shift_here", "_law_solid_here"], F.pure (k := 2) (u := u__law_due) (M' := []) sc__law_due rfl (fun cdv A outer s H E hr G => ?_), m, F.kp, b⟩
  refine pds_one ?_
  refine pds_ret ?_
  refine pd_of_pf ?_
  refine pf_callB (n_sorted hr) (gl_fn (defScope s__law_due) rfl gl__law_due_sorted) z_sorted boot_sortedD ?_
  refine pda_cons ?_ ?_
  refine pd_comp (CompOk.of (k := 1) N__law_due ["_law_turn_here", "_law_shift_here", "_law_solid_here", "_law_cube"] (defScope s__law_due) rfl rfl rfl (by decide +kernel)) rfl (by decide +kernel) ?_ (fun _ _ _ _ _ _ => ?_) (fun _ _ _ _ _ _ => ?_)
  refine pdi_seq ?_
  exact pd_var 2 (vis_fn v__law_due_2) (by decide)
  exact pdts_nil
  refine pd_known K__law_cube_turned hr (by decide) (gl_comp (by decide +kernel)) ?_ rfl
  refine pda_cons ?_ ?_
  exact pd_var 0 (vis_comp (by decide +kernel)) (by decide)
  refine pda_cons ?_ ?_
  exact pd_var 1 (vis_comp (by decide +kernel)) (by decide)
  refine pda_cons ?_ ?_
  exact pd_var 3 (vis_comp (by decide +kernel)) (by decide)
  exact pda_nil
  exact pda_nil
/-! law -/
abbrev s_law : Stmt := top 23
abbrev N_law : List Str := ["_law_script", "_law_solid_here", "_law_turn_here", "_law_other", "_law_shift_here", "_law_none", "_law_handed", "_law_found", "_law_plain", "_law_twice", "_law_still", "_law_again"]
theorem sc_law : FnScope N_law ["_law_script"] (defScope s_law) := ⟨rfl, rfl, rfl, by decide +kernel, rfl, by decide +kernel, by decide +kernel⟩
theorem v_law_0 : visB (defScope s_law) "_law_script" = true := by decide +kernel
theorem lo_law_0 : locB (defScope s_law) "_law_script" = true := by decide +kernel
theorem v_law_1 : visB (defScope s_law) "_law_solid_here" = true := by decide +kernel
theorem lo_law_1 : locB (defScope s_law) "_law_solid_here" = true := by decide +kernel
theorem v_law_2 : visB (defScope s_law) "_law_turn_here" = true := by decide +kernel
theorem lo_law_2 : locB (defScope s_law) "_law_turn_here" = true := by decide +kernel
theorem v_law_3 : visB (defScope s_law) "_law_other" = true := by decide +kernel
theorem lo_law_3 : locB (defScope s_law) "_law_other" = true := by decide +kernel
theorem v_law_4 : visB (defScope s_law) "_law_shift_here" = true := by decide +kernel
theorem lo_law_4 : locB (defScope s_law) "_law_shift_here" = true := by decide +kernel
theorem v_law_5 : visB (defScope s_law) "_law_none" = true := by decide +kernel
theorem lo_law_5 : locB (defScope s_law) "_law_none" = true := by decide +kernel
theorem v_law_6 : visB (defScope s_law) "_law_handed" = true := by decide +kernel
theorem lo_law_6 : locB (defScope s_law) "_law_handed" = true := by decide +kernel
theorem v_law_7 : visB (defScope s_law) "_law_found" = true := by decide +kernel
theorem lo_law_7 : locB (defScope s_law) "_law_found" = true := by decide +kernel
theorem v_law_8 : visB (defScope s_law) "_law_plain" = true := by decide +kernel
theorem lo_law_8 : locB (defScope s_law) "_law_plain" = true := by decide +kernel
theorem v_law_9 : visB (defScope s_law) "_law_twice" = true := by decide +kernel
theorem lo_law_9 : locB (defScope s_law) "_law_twice" = true := by decide +kernel
theorem v_law_10 : visB (defScope s_law) "_law_still" = true := by decide +kernel
theorem lo_law_10 : locB (defScope s_law) "_law_still" = true := by decide +kernel
theorem v_law_11 : visB (defScope s_law) "_law_again" = true := by decide +kernel
theorem lo_law_11 : locB (defScope s_law) "_law_again" = true := by decide +kernel
theorem gl_law__law_solid : glB (defScope s_law) "_law_solid" = true := by decide +kernel
theorem gl_law__law_cell_at : glB (defScope s_law) "_law_cell_at" = true := by decide +kernel
theorem gl_law__law_turn : glB (defScope s_law) "_law_turn" = true := by decide +kernel
theorem gl_law__law_shift : glB (defScope s_law) "_law_shift" = true := by decide +kernel
theorem gl_law_list : glB (defScope s_law) "list" = true := by decide +kernel
theorem gl_law_solid_turned : glB (defScope s_law) "solid_turned" = true := by decide +kernel
theorem gl_law__law_due : glB (defScope s_law) "_law_due" = true := by decide +kernel
theorem gl_law__law_cubes_alike : glB (defScope s_law) "_law_cubes_alike" = true := by decide +kernel
theorem gl_law_joined_turns : glB (defScope s_law) "joined_turns" = true := by decide +kernel
def u_law : Rho → Option Out := (seqO (sSet 1 (evC 2 (aC (evS (vr 0) (oS (kd (.int 6))) (oS (kd (.int 14)))) (aC (kd (.int 6)) aN)) f__law_solid)) (seqO (sSet 2 (evC 1 (aC (evC 2 (aC (vr 0) (aC (kd (.int 0)) aN)) f__law_cell_at) aN) f__law_turn)) (seqO (sSet 3 (evC 1 (aC (evC 2 (aC (vr 0) (aC (kd (.int 1)) aN)) f__law_cell_at) aN) f__law_turn)) (seqO (sSet 4 (evC 2 (aC (vr 0) (aC (kd (.int 2)) aN)) f__law_shift)) (seqO (sSet 5 (evA (aC (kd (.int 0)) (aC (kd (.int 0)) (aC (kd (.int 0)) aN))) tupD)) (seqO (sSet 6 (evA (aC (vr 1) aN) listD)) (seqO (sTake 7 (evC 3 (aC (vr 6) (aC (vr 2) (aC (vr 4) aN))) f_solid_turned)) (seqO (sIf (tO (tN (tV (evC 2 (aC (vr 7) (aC (evC 3 (aC (vr 2) (aC (vr 4) (aC (vr 1) aN))) f__law_due) aN)) f__law_cubes_alike))) (tV (ev2 (vr 6) (vr 1) neD))) (sRet (kd (.bool false))) sN) (seqO (sClr 7) (seqO (sSet 8 (evC 2 (aC (vr 6) (aC (vr 2) aN)) (dfl f_solid_turned [.none]))) (seqO (sIf (tN (tV (evC 2 (aC (vr 8) (aC (evC 3 (aC (vr 2) (aC (vr 5) (aC (vr 1) aN))) f__law_due) aN)) f__law_cubes_alike))) (sRet (kd (.bool false))) sN) (seqO (sIf (tN (tV (evC 2 (aC (evC 3 (aC (vr 6) (aC (vr 2) (aC (kd .none) aN))) f_solid_turned) (aC (vr 8) aN)) f__law_cubes_alike))) (sRet (kd (.bool false))) sN) (seqO (sSet 9 (evC 2 (aC (vr 8) (aC (vr 3) aN)) (dfl f_solid_turned [.none]))) (seqO (sIf (tN (tV (evC 2 (aC (vr 9) (aC (evC 3 (aC (vr 6) (aC (evC 2 (aC (vr 2) (aC (vr 3) aN)) f_joined_turns) (aC (vr 5) aN))) f_solid_turned) aN)) f__law_cubes_alike))) (sRet (kd (.bool false))) sN) (seqO (sSet 10 (evA (aC (evA (aC (kd (.int 1)) (aC (kd (.int 0)) (aC (kd (.int 0)) aN))) tupD) (aC (evA (aC (kd (.int 0)) (aC (kd (.int 1)) (aC (kd (.int 0)) aN))) tupD) (aC (evA (aC (kd (.int 0)) (aC (kd (.int 0)) (aC (kd (.int 1)) aN))) tupD) aN))) tupD)) (seqO (sIf (tN (tV (evC 2 (aC (evC 3 (aC (vr 1) (aC (vr 10) (aC (vr 4) aN))) f_solid_turned) (aC (evC 3 (aC (vr 10) (aC (vr 4) (aC (vr 1) aN))) f__law_due) aN)) f__law_cubes_alike))) (sRet (kd (.bool false))) sN) (seqO (sSet 11 (evC 3 (aC (vr 6) (aC (vr 2) (aC (vr 4) aN))) f_solid_turned)) (sRet (vA (evC 2 (aC (vr 11) (aC (evC 3 (aC (vr 2) (aC (vr 4) (aC (vr 1) aN))) f__law_due) aN)) f__law_cubes_alike) (ev2 (vr 6) (vr 1) eqD))))))))))))))))))))
def f_law (ds : List PyData) : Option PyData := ob (u_law (rho0 N_law.length ds)) outD
theorem ok_law {P : Program} {w : World} {K : PySem.W.Frag} {mg : Str → Option Value} {base : Heap} {f : Addr} {fd : FuncData} (F : Fun K "law" "law" s_law f fd) (K__law_solid : Known P w K mg base "_law_solid" 2 2 f__law_solid) (K__law_turn : Known P w K mg base "_law_turn" 1 2 f__law_turn) (K__law_cell_at : Known P w K mg base "_law_cell_at" 2 1 f__law_cell_at) (K__law_shift : Known P w K mg base "_law_shift" 2 2 f__law_shift) (K_solid_turned : KnownN P w K mg base "solid_turned" 3 2 f_solid_turned) (K__law_cubes_alike : Known P w K mg base "_law_cubes_alike" 2 3 f__law_cubes_alike) (K__law_due : Known P w K mg base "_law_due" 3 3 f__law_due) (K_joined_turns : Known P w K mg base "joined_turns" 2 2 f_joined_turns) (X_solid_turned_1 : KnownNX P w K mg base "solid_turned" 3 2 f_solid_turned [.none]) (z_list : mg "list" = none) : FnOk P w K mg base CX0 4 f fd ["_law_script"] (spF K 1 f_law) := by
  refine F.pure (k := 3) (u := u_law) (M' := []) sc_law rfl (fun cdv A outer s H E hr G => ?_)
  refine pds_cons (M1 := []) ?_ ?_
  refine pds_set 1 ?_ ?_ ?_ ?_ ?_ ?_ ?_
  · exact sc_law.nd
  · exact (loc_fn lo_law_1)
  · rfl
  · rfl
  · exact .inl rfl
  · decide
  refine pd_known K__law_solid hr (by decide) (gl_fn (defScope s_law) rfl gl_law__law_solid) ?_ rfl
  refine pda_cons ?_ ?_
  refine pd_slice ?_ ?_ ?_
  exact pd_var 0 (vis_fn v_law_0) (by decide)
  refine pdo_some ?_
  exact pd_int
  refine pdo_some ?_
  exact pd_int
  refine pda_cons ?_ ?_
  exact pd_int
  exact pda_nil
  refine pds_cons (M1 := []) ?_ ?_
  refine pds_set 2 ?_ ?_ ?_ ?_ ?_ ?_ ?_
  · exact sc_law.nd
  · exact (loc_fn lo_law_2)
  · rfl
  · rfl
  · exact .inl rfl
  · decide
  refine pd_known K__law_turn hr (by decide) (gl_fn (defScope s_law) rfl gl_law__law_turn) ?_ rfl
  refine pda_cons ?_ ?_
  refine pd_known K__law_cell_at hr (by decide) (gl_fn (defScope s_law) rfl gl_law__law_cell_at) ?_ rfl
  refine pda_cons ?_ ?_
  exact pd_var 0 (vis_fn v_law_0) (by decide)
  refine pda_cons ?_ ?_
  exact pd_int
  exact pda_nil
  exact pda_nil
  refine pds_cons (M1 := []) ?_ ?_
  refine pds_set 3 ?_ ?_ ?_ ?_ ?_ ?_ ?_
  · exact sc_law.nd
  · exact (loc_fn lo_law_3)
  · rfl
  · rfl
  · exact .inl rfl
  · decide
  refine pd_known K__law_turn hr (by decide) (gl_fn (defScope s_law) rfl gl_law__law_turn) ?_ rfl
  refine pda_cons ?_ ?_
  refine pd_known K__law_cell_at hr (by decide) (gl_fn (defScope s_law) rfl gl_law__law_cell_at) ?_ rfl
  refine pda_cons ?_ ?_
  exact pd_var 0 (vis_fn v_law_0) (by decide)
  refine pda_cons ?_ ?_
  exact pd_int
  exact pda_nil
  exact pda_nil
  refine pds_cons (M1 := []) ?_ ?_
  refine pds_set 4 ?_ ?_ ?_ ?_ ?_ ?_ ?_
  · exact sc_law.nd
  · exact (loc_fn lo_law_4)
  · rfl
  · rfl
  · exact .inl rfl
  · decide
  refine pd_known K__law_shift hr (by decide) (gl_fn (defScope s_law) rfl gl_law__law_shift) ?_ rfl
  refine pda_cons ?_ ?_
  exact pd_var 0 (vis_fn v_law_0) (by decide)
  refine pda_cons ?_ ?_
  exact pd_int
  exact pda_nil
  refine pds_cons (M1 := []) ?_ ?_
  refine pds_set 5 ?_ ?_ ?_ ?_ ?_ ?_ ?_
  · exact sc_law.nd
  · exact (loc_fn lo_law_5)
  · rfl
  · rfl
  · exact .inl rfl
  · decide
  refine pd_tup ?_
  refine pda_cons ?_ ?_
  exact pd_int
  refine pda_cons ?_ ?_
  exact pd_int
  refine pda_cons ?_ ?_
  exact pd_int
  exact pda_nil
  refine pds_cons (M1 := []) ?_ ?_
  refine pds_set 6 ?_ ?_ ?_ ?_ ?_ ?_ ?_
  · exact sc_law.nd
  · exact (loc_fn lo_law_6)
  · rfl
  · rfl
  · exact .inl rfl
  · decide
  refine pd_callTy b_list (gl_fn (defScope s_law) rfl gl_law_list) z_list rfl ?_
  refine pda_cons ?_ ?_
  exact pd_var 1 (vis_fn v_law_1) (by decide)
  exact pda_nil
  refine pds_cons (M1 := [7]) ?_ ?_
  refine pds_setF 7 ?_ ?_ ?_ ?_ ?_ ?_ ?_ ?_
  · exact sc_law.nd
  · exact (loc_fn lo_law_7)
  · rfl
  · rfl
  · exact .inl rfl
  · decide
  · decide
  refine pf_known K_solid_turned hr (by decide) (gl_fn (defScope s_law) rfl gl_law_solid_turned) ?_ rfl
  refine pda_cons ?_ ?_
  exact pd_var 6 (vis_fn v_law_6) (by decide)
  refine pda_cons ?_ ?_
  exact pd_var 2 (vis_fn v_law_2) (by decide)
  refine pda_cons ?_ ?_
  exact pd_var 4 (vis_fn v_law_4) (by decide)
  exact pda_nil
  refine pds_cons (M1 := [7]) ?_ ?_
  refine pds_if ?_ ?_ ?_
  refine PDW.pdt ?_
  refine pdw_or ?_ ?_
  refine pdt_not ?_
  refine pdt_val ?_
  refine pd_known K__law_cubes_alike hr (by decide) (gl_fn (defScope s_law) rfl gl_law__law_cubes_alike) ?_ rfl
  refine pda_cons ?_ ?_
  exact pd_var 7 (vis_fn v_law_7) (by decide)
  refine pda_cons ?_ ?_
  refine pd_known K__law_due hr (by decide) (gl_fn (defScope s_law) rfl gl_law__law_due) ?_ rfl
  refine pda_cons ?_ ?_
  exact pd_var 2 (vis_fn v_law_2) (by decide)
  refine pda_cons ?_ ?_
  exact pd_var 4 (vis_fn v_law_4) (by decide)
  refine pda_cons ?_ ?_
  exact pd_var 1 (vis_fn v_law_1) (by decide)
  exact pda_nil
  exact pda_nil
  refine pdw_or1 ?_
  refine pdt_cmp (d_ne hr) ?_ ?_ (nomark _)
  exact pd_var 6 (vis_fn v_law_6) (by decide)
  exact pd_var 1 (vis_fn v_law_1) (by decide)
  refine pds_one ?_
  refine pds_ret ?_
  exact pd_bl
  exact pds_nil
  refine pds_cons (M1 := [7]) ?_ ?_
  exact pds_clear 7 (vis_fn v_law_7) (by decide) (by decide)
  refine pds_cons (M1 := [7]) ?_ ?_
  refine pds_set 8 ?_ ?_ ?_ ?_ ?_ ?_ ?_
  · exact sc_law.nd
  · exact (loc_fn lo_law_8)
  · rfl
  · rfl
  · exact .inl rfl
  · decide
  refine pd_knownX X_solid_turned_1.known hr (by decide) (gl_fn (defScope s_law) rfl gl_law_solid_turned) ?_ rfl rfl
  refine pda_cons ?_ ?_
  exact pd_var 6 (vis_fn v_law_6) (by decide)
  refine pda_cons ?_ ?_
  exact pd_var 2 (vis_fn v_law_2) (by decide)
  exact pda_nil
  refine pds_cons (M1 := [7]) ?_ ?_
  refine pds_if ?_ ?_ ?_
  refine pdt_not ?_
  refine pdt_val ?_
  refine pd_known K__law_cubes_alike hr (by decide) (gl_fn (defScope s_law) rfl gl_law__law_cubes_alike) ?_ rfl
  refine pda_cons ?_ ?_
  exact pd_var 8 (vis_fn v_law_8) (by decide)
  refine pda_cons ?_ ?_
  refine pd_known K__law_due hr (by decide) (gl_fn (defScope s_law) rfl gl_law__law_due) ?_ rfl
  refine pda_cons ?_ ?_
  exact pd_var 2 (vis_fn v_law_2) (by decide)
  refine pda_cons ?_ ?_
  exact pd_var 5 (vis_fn v_law_5) (by decide)
  refine pda_cons ?_ ?_
  exact pd_var 1 (vis_fn v_law_1) (by decide)
  exact pda_nil
  exact pda_nil
  refine pds_one ?_
  refine pds_ret ?_
  exact pd_bl
  exact pds_nil
  refine pds_cons (M1 := [7]) ?_ ?_
  refine pds_if ?_ ?_ ?_
  refine pdt_not ?_
  refine pdt_val ?_
  refine pd_known K__law_cubes_alike hr (by decide) (gl_fn (defScope s_law) rfl gl_law__law_cubes_alike) ?_ rfl
  refine pda_cons ?_ ?_
  refine pd_known K_solid_turned.known hr (by decide) (gl_fn (defScope s_law) rfl gl_law_solid_turned) ?_ rfl
  refine pda_cons ?_ ?_
  exact pd_var 6 (vis_fn v_law_6) (by decide)
  refine pda_cons ?_ ?_
  exact pd_var 2 (vis_fn v_law_2) (by decide)
  refine pda_cons ?_ ?_
  exact pd_non
  exact pda_nil
  refine pda_cons ?_ ?_
  exact pd_var 8 (vis_fn v_law_8) (by decide)
  exact pda_nil
  refine pds_one ?_
  refine pds_ret ?_
  exact pd_bl
  exact pds_nil
  refine pds_cons (M1 := [7]) ?_ ?_
  refine pds_set 9 ?_ ?_ ?_ ?_ ?_ ?_ ?_
  · exact sc_law.nd
  · exact (loc_fn lo_law_9)
  · rfl
  · rfl
  · exact .inl rfl
  · decide
  refine pd_knownX X_solid_turned_1.known hr (by decide) (gl_fn (defScope s_law) rfl gl_law_solid_turned) ?_ rfl rfl
  refine pda_cons ?_ ?_
  exact pd_var 8 (vis_fn v_law_8) (by decide)
  refine pda_cons ?_ ?_
  exact pd_var 3 (vis_fn v_law_3) (by decide)
  exact pda_nil
  refine pds_cons (M1 := [7]) ?_ ?_
  refine pds_if ?_ ?_ ?_
  refine pdt_not ?_
  refine pdt_val ?_
  refine pd_known K__law_cubes_alike hr (by decide) (gl_fn (defScope s_law) rfl gl_law__law_cubes_alike) ?_ rfl
  refine pda_cons ?_ ?_
  exact pd_var 9 (vis_fn v_law_9) (by decide)
  refine pda_cons ?_ ?_
  refine pd_known K_solid_turned.known hr (by decide) (gl_fn (defScope s_law) rfl gl_law_solid_turned) ?_ rfl
  refine pda_cons ?_ ?_
  exact pd_var 6 (vis_fn v_law_6) (by decide)
  refine pda_cons ?_ ?_
  refine pd_known K_joined_turns hr (by decide) (gl_fn (defScope s_law) rfl gl_law_joined_turns) ?_ rfl
  refine pda_cons ?_ ?_
  exact pd_var 2 (vis_fn v_law_2) (by decide)
  refine pda_cons ?_ ?_
  exact pd_var 3 (vis_fn v_law_3) (by decide)
  exact pda_nil
  refine pda_cons ?_ ?_
  exact pd_var 5 (vis_fn v_law_5) (by decide)
  exact pda_nil
  exact pda_nil
  refine pds_one ?_
  refine pds_ret ?_
  exact pd_bl
  exact pds_nil
  refine pds_cons (M1 := [7]) ?_ ?_
  refine pds_set 10 ?_ ?_ ?_ ?_ ?_ ?_ ?_
  · exact sc_law.nd
  · exact (loc_fn lo_law_10)
  · rfl
  · rfl
  · exact .inl rfl
  · decide
  refine pd_tup ?_
  refine pda_cons ?_ ?_
  refine pd_tup ?_
  refine pda_cons ?_ ?_
  exact pd_int
  refine pda_cons ?_ ?_
  exact pd_int
  refine pda_cons ?_ ?_
  exact pd_int
  exact pda_nil
  refine pda_cons ?_ ?_
  refine pd_tup ?_
  refine pda_cons ?_ ?_
  exact pd_int
  refine pda_cons ?_ ?_
  exact pd_int
  refine pda_cons ?_ ?_
  exact pd_int
  exact pda_nil
  refine pda_cons ?_ ?_
  refine pd_tup ?_
  refine pda_cons ?_ ?_
  exact pd_int
  refine pda_cons ?_ ?_
  exact pd_int
  refine pda_cons ?_ ?_
  exact pd_int
  exact pda_nil
  exact pda_nil
  refine pds_cons (M1 := [7]) ?_ ?_
  refine pds_if ?_ ?_ ?_
  refine pdt_not ?_
  refine pdt_val ?_
  refine pd_known K__law_cubes_alike hr (by decide) (gl_fn (defScope s_law) rfl gl_law__law_cubes_alike) ?_ rfl
  refine pda_cons ?_ ?_
  refine pd_known K_solid_turned.known hr (by decide) (gl_fn (defScope s_law) rfl gl_law_solid_turned) ?_ rfl
  refine pda_cons ?_ ?_
  exact pd_var 1 (vis_fn v_law_1) (by decide)
  refine pda_cons ?_ ?_
  exact pd_var 10 (vis_fn v_law_10) (by decide)
  refine pda_cons ?_ ?_
  exact pd_var 4 (vis_fn v_law_4) (by decide)
  exact pda_nil
  refine pda_cons ?_ ?_
  refine pd_known K__law_due hr (by decide) (gl_fn (defScope s_law) rfl gl_law__law_due) ?_ rfl
  refine pda_cons ?_ ?_
  exact pd_var 10 (vis_fn v_law_10) (by decide)
  refine pda_cons ?_ ?_
  exact pd_var 4 (vis_fn v_law_4) (by decide)
  refine pda_cons ?_ ?_
  exact pd_var 1 (vis_fn v_law_1) (by decide)
  exact pda_nil
  exact pda_nil
  refine pds_one ?_
  refine pds_ret ?_
  exact pd_bl
  exact pds_nil
  refine pds_cons (M1 := [7]) ?_ ?_
  refine pds_set 11 ?_ ?_ ?_ ?_ ?_ ?_ ?_
  · exact sc_law.nd
  · exact (loc_fn lo_law_11)
  · rfl
  · rfl
  · exact .inl rfl
  · decide
  refine pd_known K_solid_turned.known hr (by decide) (gl_fn (defScope s_law) rfl gl_law_solid_turned) ?_ rfl
  refine pda_cons ?_ ?_
  exact pd_var 6 (vis_fn v_law_6) (by decide)
  refine pda_cons ?_ ?_
  exact pd_var 2 (vis_fn v_law_2) (by decide)
  refine pda_cons ?_ ?_
  exact pd_var 4 (vis_fn v_law_4) (by decide)
  exact pda_nil
  refine pds_one ?_
  refine pds_ret ?_
  refine pd_and ?_ ?_
  refine pd_known K__law_cubes_alike hr (by decide) (gl_fn (defScope s_law) rfl gl_law__law_cubes_alike) ?_ rfl
  refine pda_cons ?_ ?_
  exact pd_var 11 (vis_fn v_law_11) (by decide)
  refine pda_cons ?_ ?_
  refine pd_known K__law_due hr (by decide) (gl_fn (defScope s_law) rfl gl_law__law_due) ?_ rfl
  refine pda_cons ?_ ?_
  exact pd_var 2 (vis_fn v_law_2) (by decide)
  refine pda_cons ?_ ?_
  exact pd_var 4 (vis_fn v_law_4) (by decide)
  refine pda_cons ?_ ?_
  exact pd_var 1 (vis_fn v_law_1) (by decide)
  exact pda_nil
  exact pda_nil
  refine pd_one ?_
  refine pd_cmp (d_eq hr) ?_ ?_ (nomark _)
  exact pd_var 6 (vis_fn v_law_6) (by decide)
  exact pd_var 1 (vis_fn v_law_1) (by decide)
end SF
local macro_rules
  | `(tactic| simp_arith [$ts,*] $[$loc]?) => `(tactic| simp only [L2.rho0, List.map_cons, List.map_nil, List.length_cons, List.length_nil, Nat.reduceAdd, Nat.reduceSub, Nat.zero_add, Nat.sub_self, List.replicate_succ, List.replicate_zero, List.cons_append, List.nil_append, List.append_nil, L2.seqO_b, L2.bindO_nx, L2.bindO_rt, L2.bindO_bk, L2.bindO_ct, L2.ifO_t, L2.ifO_f, L2.sIf_b, L2.vIf_b, L2.tA_b, L2.tO_b, L2.vA_b, L2.vO_b, L2.vN, L2.sSet_b, L2.setO_s, L2.sAsg_b, L2.asgO_s, L2.nxO_s, L2.sRet_b, L2.retO_s, L2.sN, L2.sBk, L2.sCt, L2.tV, L2.tN, L2.tT, L2.ev2_b, L2.binO_s, L2.ev1, L2.vr_z, L2.vr_s, L2.kd, L2.evA, L2.evC_b, L2.callO_s, L2.evC0, L2.aC_b, L2.consO_s, L2.aN, L2.lenD_l, L2.lenD_t, L2.tupD, L2.lstD, L2.tupleD_l, L2.tupleD_t, L2.listD_l, L2.listD_t, L2.addD_i, L2.subD_i, L2.negD_i, L2.fdiv_pos, L2.mod_pos, L2.pow_a, L2.pow_b, L2.eqD_int, L2.neD_int, L2.ltD2_i, L2.leD_i, L2.gtD_i, L2.geD_i, L2.boolD_b, L2.ixD_l, L2.ixD_t, L2.atI0, L2.atI1, L2.atI2, L2.atI3, L2.atI4, L2.atI5, L2.outD_r, L2.outD_n, L2.ob_s, L2.gNm, L2.gsN_n, L2.gsC_c, L2.unpD_t, List.set_cons_zero, List.set_cons_succ, List.set_nil, L2.evI, L2.evR, L2.seqD_l, L2.seqD_t, L2.rng1D_i, L2.rng2D_i, L2.rngL, L2.compR_b, L2.comRO_s, L2.compD_c, L2.compD_n, L2.compO_t, L2.compO_f, L2.listO_s, L2.sFor_b, L2.forI_s, L2.forD_c, L2.forD_n, L2.forO_nx, L2.forO_ct, L2.forO_bk, L2.forO_rt, if_true, if_false, Bool.false_eq_true, Bool.not_true, Bool.not_false, Nat.reduceLeDiff, and_self, and_true, true_and, Int.reduceToNat, Int.reduceAdd, Int.reduceSub, Int.reduceLE, Int.reduceLT, Int.reduceNeg, reduceIte, L2.isiD, L2.isiT_t, L2.isiT_l, L2.isiT_i, L2.isiT_b, L2.isiT_s, L2.isiT_n, String.reduceBEq, L2.natLit, Int.reduceBEq, Bool.true_or, Bool.or_true, Bool.false_or, Bool.or_false, L2.sTake_b, L2.takO_t, L2.flatF_b, L2.flaO_s, L2.flatG_b, L2.flgO_s, L2.sApp_b, L2.appO_s, L2.appD_l, L2.sClr_b, L2.clrO_s, L2.outF_r, L2.dfl_b, L2.isD_n, L2.isnD_n, L2.isD_b, L2.isnD_b, L2.evS_b, L2.sliO_s, L2.oN, L2.oS_b, L2.prtO_s, Nat.reduceLT, decide_true, decide_false, L2.sPut_b, L2.putO_s, L2.setD_l, L2.sPop_b, L2.sPopAt_b, L2.popO_s, L2.popA_s, L2.sAug_b, L2.augO_i, L2.absD_i, L2.maxT2D_i, L2.minT2D_i, L2.sTakeD_b, L2.vC_b, L2.vcO_s, L2.evI2_b, L2.bi2O_s, L2.zipD_ll, L2.zpL_c, L2.zpL_nl, L2.zpL_nr, L2.sKApp_b, L2.sKClr_b, L2.kapO_t0, L2.kapO_t1, L2.kclO_t0, L2.kclO_t1, L2.evCh_b, L2.chO_t, L2.chO_f, L2.add3D_i, L2.toIntD_b, L2.sPopS_b, L2.popS_s, L2.sPopAtS_b, L2.sExt_b, L2.extO_s, L2.enumD_l, L2.enumD_t, L2.enL_n, L2.enL_c, L2.compT_c, L2.compT_n, L2.comTO_s, L2.comTI_t, L2.comTI_f, L2.compG_b, L2.comGO_s, L2.sDput_b, L2.dpO_s, L2.nxdO_s, L2.ev3_b, L2.triO_s, $ts,*] $[$loc]?)
namespace SF
open PySem L2
/-! the law's own helpers -/
def cellV (ns : List Int) (k : Int) : Int := ns.getD k.toNat 0
theorem cell_bd {ns : List Int} (h : ∀ k ∈ ns, Builtin.Int.intBits k ≤ 2 ^ 20) (k : Int) : Bd 1048576 (cellV ns k) := by
  unfold cellV
  by_cases hk : k.toNat < ns.length
  · rw [List.getD_eq_getElem?_getD, List.getElem?_eq_getElem hk]
    exact h _ (List.getElem_mem hk)
  · rw [List.getD_eq_getElem?_getD, List.getElem?_eq_none (by omega)]
    show Builtin.Int.intBits 0 ≤ 1048576
    decide
theorem cell_eq (ns : List Int) (k : Int) (hk : 0 ≤ k) : f__law_cell_at [.list (ns.map .int), .int k] = some (.int (cellV ns k)) := by
  simp only [f__law_cell_at, u__law_cell_at]
  simp_arith []
  by_cases h : k < ((ns.map PyData.int).length : Int)
  · have h' : k.toNat < ns.length := by rw [List.length_map] at h; omega
    have e : atI (ns.map PyData.int) k = some (.int (cellV ns k)) := by
      have e1 : ((k.toNat : Nat) : Int) = k := by omega
      have := atI_nat (xs := ns.map PyData.int) (j := k.toNat) (v := .int (cellV ns k)) (by
        rw [List.getElem?_map, List.getElem?_eq_getElem h']
        unfold cellV
        rw [List.getD_eq_getElem?_getD, List.getElem?_eq_getElem h']
        rfl)
      rw [e1] at this
      exact this
    simp_arith [decide_eq_true h, e]
  · have h' : ¬ k.toNat < ns.length := by rw [List.length_map] at h; omega
    have e : cellV ns k = 0 := by
      unfold cellV
      rw [List.getD_eq_getElem?_getD, List.getElem?_eq_none (by omega)]
      rfl
    simp_arith [decide_eq_false h, e]
end SF
namespace SF
open PySem L2
theorem lcross_eq {a b c d e f : Int} {n m : Nat} (ha : Bd n a) (hb : Bd n b) (hc : Bd n c) (hd : Bd m d) (he : Bd m e) (hf : Bd m f) (hz : n + m ≤ 134217728 := by decide) : f__law_cross [S3 a b c, S3 d e f] = some (S3 (b * f - c * e) (c * d - a * f) (a * e - b * d)) := by
  simp only [f__law_cross, u__law_cross, S3]
  simp_arith []
  simp only [mulD_ok (hb.ok hf hz), mulD_ok (hc.ok he hz), mulD_ok (hc.ok hd hz), mulD_ok (ha.ok hf hz), mulD_ok (ha.ok he hz), mulD_ok (hb.ok hd hz)]
  simp_arith []
theorem triple_eq {a b c d e f : Int} (h1 : a = d) (h2 : b = e) (h3 : c = f) : f__law_triple [S3 a b c, S3 d e f] = some (.bool true) := by
  subst h1; subst h2; subst h3
  have : f__law_triple [S3 a b c, S3 a b c] = some (.bool (PyData.eqv (S3 a b c) (S3 a b c))) := rfl
  rw [this, eqv_S3]
/-! turns -/
structure Tr where
  (p0 p1 p2 q0 q1 q2 r0 r1 r2 : Int)
  deriving DecidableEq
def encT (t : Tr) : PyData := T3 (S3 t.p0 t.p1 t.p2) (S3 t.q0 t.q1 t.q2) (S3 t.r0 t.r1 t.r2)
def turns24 : List Tr := [⟨1, 0, 0, 0, 1, 0, 0, 0, 1⟩, ⟨1, 0, 0, 0, -1, 0, 0, 0, -1⟩, ⟨1, 0, 0, 0, 0, 1, 0, -1, 0⟩, ⟨1, 0, 0, 0, 0, -1, 0, 1, 0⟩, ⟨-1, 0, 0, 0, 1, 0, 0, 0, -1⟩, ⟨-1, 0, 0, 0, -1, 0, 0, 0, 1⟩, ⟨-1, 0, 0, 0, 0, 1, 0, 1, 0⟩, ⟨-1, 0, 0, 0, 0, -1, 0, -1, 0⟩, ⟨0, 1, 0, 1, 0, 0, 0, 0, -1⟩, ⟨0, 1, 0, -1, 0, 0, 0, 0, 1⟩, ⟨0, 1, 0, 0, 0, 1, 1, 0, 0⟩, ⟨0, 1, 0, 0, 0, -1, -1, 0, 0⟩, ⟨0, -1, 0, 1, 0, 0, 0, 0, 1⟩, ⟨0, -1, 0, -1, 0, 0, 0, 0, -1⟩, ⟨0, -1, 0, 0, 0, 1, -1, 0, 0⟩, ⟨0, -1, 0, 0, 0, -1, 1, 0, 0⟩, ⟨0, 0, 1, 1, 0, 0, 0, 1, 0⟩, ⟨0, 0, 1, -1, 0, 0, 0, -1, 0⟩, ⟨0, 0, 1, 0, 1, 0, -1, 0, 0⟩, ⟨0, 0, 1, 0, -1, 0, 1, 0, 0⟩, ⟨0, 0, -1, 1, 0, 0, 0, -1, 0⟩, ⟨0, 0, -1, -1, 0, 0, 0, 1, 0⟩, ⟨0, 0, -1, 0, 1, 0, 1, 0, 0⟩, ⟨0, 0, -1, 0, -1, 0, -1, 0, 0⟩]
theorem units_eq : f__law_units [] = some (.list [S3 1 0 0, S3 (-1) 0 0, S3 0 1 0, S3 0 (-1) 0, S3 0 0 1, S3 0 0 (-1)]) := rfl
theorem turn_eq (c : Int) : ∃ t ∈ turns24, f__law_turn [.int c] = some (encT t) := by
  have h6 : c % 6 = 0 ∨ c % 6 = 1 ∨ c % 6 = 2 ∨ c % 6 = 3 ∨ c % 6 = 4 ∨ c % 6 = 5 := by omega
  have h4 : c / 6 % 4 = 0 ∨ c / 6 % 4 = 1 ∨ c / 6 % 4 = 2 ∨ c / 6 % 4 = 3 := by omega
  simp only [f__law_turn, u__law_turn]
  have k00 : mulD (.int 0) (.int 0) = some (.int 0) := rfl
  have k01 : mulD (.int 0) (.int 1) = some (.int 0) := rfl
  have k02 : mulD (.int 0) (.int (-1)) = some (.int 0) := rfl
  have k10 : mulD (.int 1) (.int 0) = some (.int 0) := rfl
  have k11 : mulD (.int 1) (.int 1) = some (.int 1) := rfl
  have k12 : mulD (.int 1) (.int (-1)) = some (.int (-1)) := rfl
  have k20 : mulD (.int (-1)) (.int 0) = some (.int 0) := rfl
  have k21 : mulD (.int (-1)) (.int 1) = some (.int (-1)) := rfl
  have k22 : mulD (.int (-1)) (.int (-1)) = some (.int 1) := rfl
  have ne : ∀ a b c d e f : Int, neD (.tuple [.int a, .int b, .int c]) (.tuple [.int d, .int e, .int f]) = some (.bool (!((a == d) && ((b == e) && ((c == f) && true))))) := fun _ _ _ _ _ _ => rfl
  rcases h6 with h6 | h6 | h6 | h6 | h6 | h6 <;> rcases h4 with h4 | h4 | h4 | h4 <;>
    (simp_arith [units_eq, h6, h4, f__law_cross, u__law_cross, S3, k00, k01, k02, k10, k11, k12, k20, k21, k22, ne, Int.reduceSub, Int.reduceBEq, Bool.true_and, Bool.and_true, Bool.and_false, Bool.false_and]
     exact ⟨⟨_, _, _, _, _, _, _, _, _⟩, by decide, rfl⟩)
def TrB (t : Tr) : Prop := Bd 1 t.p0 ∧ Bd 1 t.p1 ∧ Bd 1 t.p2 ∧ Bd 1 t.q0 ∧ Bd 1 t.q1 ∧ Bd 1 t.q2 ∧ Bd 1 t.r0 ∧ Bd 1 t.r1 ∧ Bd 1 t.r2
instance (n : Nat) (i : Int) : Decidable (Bd n i) := by unfold Bd; exact inferInstance
theorem tr_bd : ∀ t ∈ turns24, TrB t := by
  unfold TrB
  decide
end SF
namespace SF
open PySem L2
/-! turns as tables of nine numbers -/
def TrBd (m : Nat) (t : Tr) : Prop := Bd m t.p0 ∧ Bd m t.p1 ∧ Bd m t.p2 ∧ Bd m t.q0 ∧ Bd m t.q1 ∧ Bd m t.q2 ∧ Bd m t.r0 ∧ Bd m t.r1 ∧ Bd m t.r2
theorem TrB.bd {t : Tr} (h : TrB t) : TrBd 1 t := h
def mulT (s t : Tr) : Tr := ⟨s.p0 * t.p0 + s.p1 * t.q0 + s.p2 * t.r0, s.p0 * t.p1 + s.p1 * t.q1 + s.p2 * t.r1, s.p0 * t.p2 + s.p1 * t.q2 + s.p2 * t.r2,
  s.q0 * t.p0 + s.q1 * t.q0 + s.q2 * t.r0, s.q0 * t.p1 + s.q1 * t.q1 + s.q2 * t.r1, s.q0 * t.p2 + s.q1 * t.q2 + s.q2 * t.r2,
  s.r0 * t.p0 + s.r1 * t.q0 + s.r2 * t.r0, s.r0 * t.p1 + s.r1 * t.q1 + s.r2 * t.r1, s.r0 * t.p2 + s.r1 * t.q2 + s.r2 * t.r2⟩
def trT (s : Tr) : Tr := ⟨s.p0, s.q0, s.r0, s.p1, s.q1, s.r1, s.p2, s.q2, s.r2⟩
def idT : Tr := ⟨1, 0, 0, 0, 1, 0, 0, 0, 1⟩
theorem lin_bd {x y z i j k : Int} {n m : Nat} (hx : Bd n x) (hy : Bd n y) (hz : Bd n z) (hi : Bd m i) (hj : Bd m j) (hk : Bd m k) : Bd (n + m + 2) (x * i + y * j + z * k) :=
  (((hx.mul hi).add (hy.mul hj)).add (hz.mul hk)).mono (by omega)
theorem trT_bd {m : Nat} {t : Tr} (h : TrBd m t) : TrBd m (trT t) := by
  obtain ⟨h1, h2, h3, h4, h5, h6, h7, h8, h9⟩ := h
  exact ⟨h1, h4, h7, h2, h5, h8, h3, h6, h9⟩
theorem mulT_bd {m n : Nat} {s t : Tr} (hs : TrBd m s) (ht : TrBd n t) : TrBd (m + n + 2) (mulT s t) := by
  obtain ⟨h1, h2, h3, h4, h5, h6, h7, h8, h9⟩ := hs
  obtain ⟨g1, g2, g3, g4, g5, g6, g7, g8, g9⟩ := ht
  exact ⟨lin_bd h1 h2 h3 g1 g4 g7, lin_bd h1 h2 h3 g2 g5 g8, lin_bd h1 h2 h3 g3 g6 g9, lin_bd h4 h5 h6 g1 g4 g7, lin_bd h4 h5 h6 g2 g5 g8, lin_bd h4 h5 h6 g3 g6 g9, lin_bd h7 h8 h9 g1 g4 g7, lin_bd h7 h8 h9 g2 g5 g8, lin_bd h7 h8 h9 g3 g6 g9⟩
theorem tr_id : ∀ t ∈ turns24, mulT t (trT t) = idT ∧ mulT (trT t) t = idT := by decide
theorem trT_mulT (s t : Tr) : trT (mulT s t) = mulT (trT t) (trT s) := by
  unfold trT mulT
  congr 1 <;> dsimp only <;> grind
theorem trT_trT (s : Tr) : trT (trT s) = s := rfl
theorem mulT_assoc (s t u : Tr) : mulT (mulT s t) u = mulT s (mulT t u) := by
  unfold mulT
  congr 1 <;> dsimp only <;> grind
theorem mulT_idT (s : Tr) : mulT s idT = s := by
  unfold mulT idT
  cases s
  congr 1 <;> dsimp only <;> grind
theorem idT_mulT (s : Tr) : mulT idT s = s := by
  unfold mulT idT
  cases s
  congr 1 <;> dsimp only <;> grind
/-- a spot, three numbers -/
structure Sp3 where
  (x y z : Int)
  deriving DecidableEq
def encS (s : Sp3) : PyData := S3 s.x s.y s.z
def app (t : Tr) (s : Sp3) : Sp3 := ⟨s.x * t.p0 + s.y * t.q0 + s.z * t.r0, s.x * t.p1 + s.y * t.q1 + s.z * t.r1, s.x * t.p2 + s.y * t.q2 + s.z * t.r2⟩
def addS (s t : Sp3) : Sp3 := ⟨s.x + t.x, s.y + t.y, s.z + t.z⟩
def negS (s : Sp3) : Sp3 := ⟨-s.x, -s.y, -s.z⟩
def SpBd (n : Nat) (s : Sp3) : Prop := Bd n s.x ∧ Bd n s.y ∧ Bd n s.z
theorem app_bd {m n : Nat} {t : Tr} {s : Sp3} (ht : TrBd m t) (hs : SpBd n s) : SpBd (n + m + 2) (app t s) := by
  obtain ⟨g1, g2, g3, g4, g5, g6, g7, g8, g9⟩ := ht
  obtain ⟨h1, h2, h3⟩ := hs
  exact ⟨lin_bd h1 h2 h3 g1 g4 g7, lin_bd h1 h2 h3 g2 g5 g8, lin_bd h1 h2 h3 g3 g6 g9⟩
theorem addS_bd {m n : Nat} {s t : Sp3} (hs : SpBd n s) (ht : SpBd m t) : SpBd (max n m + 1) (addS s t) := ⟨hs.1.add ht.1, hs.2.1.add ht.2.1, hs.2.2.add ht.2.2⟩
theorem negS_bd {n : Nat} {s : Sp3} (hs : SpBd n s) : SpBd n (negS s) := ⟨hs.1.neg, hs.2.1.neg, hs.2.2.neg⟩
theorem app_mulT (s t : Tr) (a : Sp3) : app (mulT s t) a = app t (app s a) := by
  unfold app mulT
  congr 1 <;> dsimp only <;> grind
theorem app_idT (a : Sp3) : app idT a = a := by
  unfold app idT
  cases a
  congr 1 <;> dsimp only <;> grind
theorem app_addS (t : Tr) (a b : Sp3) : app t (addS a b) = addS (app t a) (app t b) := by
  unfold app addS
  congr 1 <;> dsimp only <;> grind
theorem app_negS (t : Tr) (a : Sp3) : app t (negS a) = negS (app t a) := by
  unfold app negS
  congr 1 <;> dsimp only <;> grind
theorem addS_assoc (a b c : Sp3) : addS (addS a b) c = addS a (addS b c) := by
  unfold addS
  congr 1 <;> dsimp only <;> omega
theorem addS_comm (a b : Sp3) : addS a b = addS b a := by
  unfold addS
  congr 1 <;> omega
theorem addS_neg (a : Sp3) : addS a (negS a) = ⟨0, 0, 0⟩ := by
  unfold addS negS
  congr 1 <;> dsimp only <;> omega
theorem addS_zero (a : Sp3) : addS a ⟨0, 0, 0⟩ = a := by
  unfold addS
  cases a
  congr 1 <;> dsimp only <;> omega
theorem neg_add (a : Sp3) : addS (negS a) a = ⟨0, 0, 0⟩ := by rw [addS_comm, addS_neg]
theorem zero_add (a : Sp3) : addS ⟨0, 0, 0⟩ a = a := by rw [addS_comm, addS_zero]
/-! what the defs tell -/
theorem turnedE {t : Tr} {m n : Nat} (ht : TrBd m t) {s : Sp3} (hs : SpBd n s) (hz : n + m ≤ 134217728 := by decide) : f_turned [encT t, encS s] = some (encS (app t s)) := by
  obtain ⟨h1, h2, h3, h4, h5, h6, h7, h8, h9⟩ := ht
  obtain ⟨ha, hb, hc⟩ := hs
  simp only [f_turned, u_turned, S3, T3, encT, encS, app]
  simp_arith [mulD_ok (ha.ok h1 hz), mulD_ok (ha.ok h2 hz), mulD_ok (ha.ok h3 hz), mulD_ok (hb.ok h4 hz), mulD_ok (hb.ok h5 hz), mulD_ok (hb.ok h6 hz), mulD_ok (hc.ok h7 hz), mulD_ok (hc.ok h8 hz), mulD_ok (hc.ok h9 hz)]
theorem lturnedE {t : Tr} {m n : Nat} (ht : TrBd m t) {s : Sp3} (hs : SpBd n s) (hz : n + m ≤ 134217728 := by decide) : f__law_turned [encT t, encS s] = some (encS (app t s)) := by
  obtain ⟨h1, h2, h3, h4, h5, h6, h7, h8, h9⟩ := ht
  obtain ⟨ha, hb, hc⟩ := hs
  simp only [f__law_turned, u__law_turned, S3, T3, encT, encS, app]
  simp_arith [mulD_ok (ha.ok h1 hz), mulD_ok (ha.ok h2 hz), mulD_ok (ha.ok h3 hz), mulD_ok (hb.ok h4 hz), mulD_ok (hb.ok h5 hz), mulD_ok (hb.ok h6 hz), mulD_ok (hc.ok h7 hz), mulD_ok (hc.ok h8 hz), mulD_ok (hc.ok h9 hz)]
def rowP (t : Tr) : Sp3 := ⟨t.p0, t.p1, t.p2⟩
def rowQ (t : Tr) : Sp3 := ⟨t.q0, t.q1, t.q2⟩
def rowR (t : Tr) : Sp3 := ⟨t.r0, t.r1, t.r2⟩
theorem encT_rows (t : Tr) : encT t = .tuple [encS (rowP t), encS (rowQ t), encS (rowR t)] := rfl
theorem seqD_encT (t : Tr) : seqD (encT t) = some [encS (rowP t), encS (rowQ t), encS (rowR t)] := rfl
theorem rows_bd {m : Nat} {t : Tr} (h : TrBd m t) : SpBd m (rowP t) ∧ SpBd m (rowQ t) ∧ SpBd m (rowR t) := by
  obtain ⟨h1, h2, h3, h4, h5, h6, h7, h8, h9⟩ := h
  exact ⟨⟨h1, h2, h3⟩, ⟨h4, h5, h6⟩, ⟨h7, h8, h9⟩⟩
theorem encT_mulT (s t : Tr) : encT (mulT s t) = .tuple [encS (app t (rowP s)), encS (app t (rowQ s)), encS (app t (rowR s))] := rfl
theorem joinedE {s t : Tr} {m n : Nat} (hs : TrBd m s) (ht : TrBd n t) (hz : m + n ≤ 134217728 := by decide) : f_joined_turns [encT s, encT t] = some (encT (mulT s t)) := by
  obtain ⟨a1, a2, a3⟩ := rows_bd hs
  have e1 := turnedE ht a1 hz
  have e2 := turnedE ht a2 hz
  have e3 := turnedE ht a3 hz
  simp only [f_joined_turns, u_joined_turns, encT_mulT, encT_rows s]
  simp_arith [e1, e2, e3]
theorem tripleE (s : Sp3) : f__law_triple [encS s, encS s] = some (.bool true) := triple_eq rfl rfl rfl
end SF
namespace SF
open PySem L2
/-! ### spots as data: sorted, in, ==, counted -/
abbrev Sp := Int × Int × Int
def eS (s : Sp) : PyData := .tuple [.int s.1, .int s.2.1, .int s.2.2]
def l3 (s : Sp) : List Int := [s.1, s.2.1, s.2.2]
def b3 : List Int → Sp
  | [a, b, c] => (a, b, c)
  | _ => (0, 0, 0)
theorem b3_l3 (s : Sp) : b3 (l3 s) = s := rfl
theorem l3_inj {a b : Sp} (h : l3 a = l3 b) : a = b := by rw [← b3_l3 a, h, b3_l3]
theorem map_eS (xs : List Sp) : xs.map eS = (xs.map l3).map tI := by rw [List.map_map]; rfl
theorem sorted_eS {xs : List Sp} (h : xs.length < 64) : ∃ ys : List Sp, sortedD [.list (xs.map eS)] = some (.list (ys.map eS)) ∧ ys.Perm xs ∧ (ys.map l3).Pairwise (fun a b => HT.lexLt b a = false) := by
  obtain ⟨mss, e, p, o⟩ := sortedD_tups (nss := xs.map l3) (by rw [List.length_map]; exact h) (by
    intro ns hn
    obtain ⟨x, _, rfl⟩ := List.mem_map.mp hn
    exact fun z => by cases z)
  have back : ∀ m ∈ mss, (l3 ∘ b3) m = id m := fun m hm => by
    obtain ⟨x, _, rfl⟩ := List.mem_map.mp (p.mem_iff.mp hm)
    rfl
  have hm : (mss.map b3).map l3 = mss := by
    rw [List.map_map]
    exact (List.map_congr_left back).trans (List.map_id mss)
  refine ⟨mss.map b3, ?_, ?_, ?_⟩
  · rw [map_eS, e, map_eS, hm]
  · have := p.map b3
    rw [List.map_map] at this
    have e2 : xs.map (b3 ∘ l3) = xs := (List.map_congr_left (fun x _ => rfl)).trans (List.map_id xs)
    rwa [e2] at this
  · rw [hm]; exact o
theorem sorted_same {as bs : List Sp} (p : as.Perm bs) (h1 : (as.map l3).Pairwise (fun a b => HT.lexLt b a = false)) (h2 : (bs.map l3).Pairwise (fun a b => HT.lexLt b a = false)) : as = bs := by
  have := sorted_unique (p.map l3) h1 h2
  have e := congrArg (List.map b3) this
  rw [List.map_map, List.map_map] at e
  have k : ∀ xs : List Sp, xs.map (b3 ∘ l3) = xs := fun xs => (List.map_congr_left (fun x _ => rfl)).trans (List.map_id xs)
  rwa [k, k] at e
theorem eqv_eS (a b : Sp) : PyData.eqv (eS a) (eS b) = decide (a = b) := by
  have : PyData.eqv (eS a) (eS b) = ((a.1 == b.1) && ((a.2.1 == b.2.1) && ((a.2.2 == b.2.2) && true))) := rfl
  rw [this]
  obtain ⟨a1, a2, a3⟩ := a
  obtain ⟨b1, b2, b3⟩ := b
  by_cases h1 : a1 = b1 <;> by_cases h2 : a2 = b2 <;> by_cases h3 : a3 = b3 <;> simp [h1, h2, h3]
theorem can_eS (xs : List Sp) : PyData.canLayAll0 (xs.map eS) = true ∧ PyData.depthAll (xs.map eS) ≤ 1 := by rw [map_eS]; exact can_tups _
theorem inOk_eS (xs : List Sp) (q : Sp) : inOk (xs.map eS) (eS q) = true := by
  unfold inOk
  rw [(can_eS xs).1, Bool.true_and, Bool.and_eq_true]
  exact ⟨rfl, rfl⟩
theorem inL_eS (xs : List Sp) (q : Sp) : inL (xs.map eS) (eS q) = decide (q ∈ xs) := by
  unfold inL
  rw [List.any_map]
  induction xs with
  | nil => rfl
  | cons x xs ih =>
    rw [List.any_cons, ih]
    show (PyData.eqv (eS x) (eS q) || _) = _
    rw [eqv_eS]
    by_cases h : x = q
    · subst h; rw [decide_eq_true rfl, Bool.true_or, decide_eq_true List.mem_cons_self]
    · rw [decide_eq_false h, Bool.false_or]
      by_cases h2 : q ∈ xs
      · rw [decide_eq_true h2, decide_eq_true (List.mem_cons_of_mem _ h2)]
      · rw [decide_eq_false h2, decide_eq_false (by rw [List.mem_cons]; rintro (rfl | z); exact h rfl; exact h2 z)]
theorem inD_eS (xs : List Sp) (q : Sp) : inD (eS q) (.list (xs.map eS)) = some (.bool (decide (q ∈ xs))) := by
  show (if inOk (xs.map eS) (eS q) = true then some (PyData.bool (inL (xs.map eS) (eS q))) else none) = _
  rw [inOk_eS, inL_eS]; rfl
theorem ninD_eS (xs : List Sp) (q : Sp) : ninD (eS q) (.list (xs.map eS)) = some (.bool (!decide (q ∈ xs))) := by
  show (if inOk (xs.map eS) (eS q) = true then some (PyData.bool (!inL (xs.map eS) (eS q))) else none) = _
  rw [inOk_eS, inL_eS]; rfl
theorem shaped_eS (xs : List Sp) : SeqAt.shaped (.list (xs.map eS)) = true := by
  have h := can_eS xs
  have h2 : PyData.depth (.list (xs.map eS)) = PyData.depthAll (xs.map eS) + 1 := rfl
  unfold SeqAt.shaped
  rw [h2, Bool.and_eq_true]
  exact ⟨h.1, decide_eq_true (by omega)⟩
theorem eqvL_eS : ∀ xs ys : List Sp, PyData.eqv (.list (xs.map eS)) (.list (ys.map eS)) = decide (xs = ys)
  | [], [] => rfl
  | [], _ :: _ => rfl
  | _ :: _, [] => rfl
  | x :: xs, y :: ys => by
    have : PyData.eqv (.list ((x :: xs).map eS)) (.list ((y :: ys).map eS)) = (PyData.eqv (eS x) (eS y) && PyData.eqv (.list (xs.map eS)) (.list (ys.map eS))) := rfl
    rw [this, eqv_eS, eqvL_eS, Bool.eq_iff_iff]
    simp
theorem neD_eS (xs ys : List Sp) : neD (.list (xs.map eS)) (.list (ys.map eS)) = some (.bool (!decide (xs = ys))) := by
  unfold neD
  rw [if_pos ⟨shaped_eS _, shaped_eS _⟩, eqvL_eS]
theorem eqD_eS (xs ys : List Sp) : eqD (.list (xs.map eS)) (.list (ys.map eS)) = some (.bool (decide (xs = ys))) := by
  unfold eqD
  rw [if_pos ⟨shaped_eS _, shaped_eS _⟩, eqvL_eS]
/-! loops: what holds of what was walked -/
theorem forD_ind {α : Type} (enc : α → PyData) {g : PyData → Rho → Option Rho} {u : Rho → Option Out} (I : List α → Rho → Prop) (all : List α) (step : ∀ a ∈ all, ∀ done ρ, done.length < all.length → I done ρ → ∃ ρ', ob (g (enc a) ρ) u = some (.nx ρ') ∧ I (done ++ [a]) ρ') :
    ∀ (as done : List α) (ρ : Rho), (∀ a ∈ as, a ∈ all) → done.length + as.length = all.length → I done ρ → ∃ ρ', forD g u (as.map enc) ρ = some (.nx ρ') ∧ I (done ++ as) ρ'
  | [], done, ρ, _, _, h => ⟨ρ, rfl, by rw [List.append_nil]; exact h⟩
  | a :: as, done, ρ, hm, hl, h => by
    rw [List.length_cons] at hl
    obtain ⟨ρ1, e1, h1⟩ := step a (hm a (.head _)) done ρ (by omega) h
    obtain ⟨ρ2, e2, h2⟩ := forD_ind enc I all step as (done ++ [a]) ρ1 (fun x hx => hm x (.tail _ hx)) (by rw [List.length_append, List.length_singleton]; omega) h1
    refine ⟨ρ2, ?_, by rw [List.append_assoc] at h2; exact h2⟩
    rw [List.map_cons, forD_c, e1, forO_nx]
    exact e2
theorem forD_all {α : Type} (enc : α → PyData) {g : PyData → Rho → Option Rho} {u : Rho → Option Out} (I : List α → Rho → Prop) (as : List α) (ρ : Rho) (h : I [] ρ) (step : ∀ a ∈ as, ∀ done ρ, done.length < as.length → I done ρ → ∃ ρ', ob (g (enc a) ρ) u = some (.nx ρ') ∧ I (done ++ [a]) ρ') :
    ∃ ρ', forD g u (as.map enc) ρ = some (.nx ρ') ∧ I as ρ' := by
  obtain ⟨ρ', e, i⟩ := forD_ind enc I as step as [] ρ (fun _ h => h) (by simp) h
  exact ⟨ρ', e, by rwa [List.nil_append] at i⟩
theorem compD_map {α : Type} (enc : α → PyData) {tt : Rho → Option Bool} {te : Rho → Option PyData} {ρ : Rho} (p : α → Bool) (f : α → PyData) : ∀ (as : List α), (∀ a ∈ as, tt (ρ ++ [some (enc a)]) = some (p a)) → (∀ a ∈ as, p a = true → te (ρ ++ [some (enc a)]) = some (f a)) → compD tt te ρ (as.map enc) = some ((as.filter p).map f)
  | [], _, _ => rfl
  | a :: as, h1, h2 => by
    have ih := compD_map enc p f as (fun x hx => h1 x (.tail _ hx)) (fun x hx => h2 x (.tail _ hx))
    rw [List.map_cons, compD_c, h1 a (.head _), List.filter_cons]
    cases e : p a with
    | true => rw [compO_t, h2 a (.head _) e, ih]; rfl
    | false => rw [compO_f, ih]; rfl
theorem compD_map' {α : Type} (enc : α → PyData) {te : Rho → Option PyData} {ρ : Rho} (f : α → PyData) (as : List α) (h2 : ∀ a ∈ as, te (ρ ++ [some (enc a)]) = some (f a)) : compD tT te ρ (as.map enc) = some (as.map f) := by
  have := compD_map enc (tt := tT) (te := te) (ρ := ρ) (fun _ => true) f as (fun _ _ => rfl) (fun a ha _ => h2 a ha)
  rwa [List.filter_eq_self.mpr (fun _ _ => rfl)] at this
/-! sides of a cube, crossings -/
def mid (c : Sp) : Sp := (2 * c.1 + 1, 2 * c.2.1 + 1, 2 * c.2.2 + 1)
def six (s : Sp) : List Sp := [(s.1 + -1, s.2.1, s.2.2), (s.1 + 1, s.2.1, s.2.2), (s.1, s.2.1 + -1, s.2.2), (s.1, s.2.1 + 1, s.2.2), (s.1, s.2.1, s.2.2 + -1), (s.1, s.2.1, s.2.2 + 1)]
def sides (cs : List Sp) : List Sp := cs.flatMap fun c => six (mid c)
def cr (a : Nat) (q s : Sp) : Bool := match a with
  | 0 => decide (s.1 % 2 = 0 ∧ s.1 > q.1 ∧ s.2.1 = q.2.1 ∧ s.2.2 = q.2.2)
  | 1 => decide (s.2.1 % 2 = 0 ∧ s.2.1 > q.2.1 ∧ s.1 = q.1 ∧ s.2.2 = q.2.2)
  | _ => decide (s.2.2 % 2 = 0 ∧ s.2.2 > q.2.2 ∧ s.1 = q.1 ∧ s.2.1 = q.2.1)
/-- just one number is even -/
def Sq (s : Sp) : Prop := (s.1 % 2 = 0 ∧ s.2.1 % 2 = 1 ∧ s.2.2 % 2 = 1) ∨ (s.1 % 2 = 1 ∧ s.2.1 % 2 = 0 ∧ s.2.2 % 2 = 1) ∨ (s.1 % 2 = 1 ∧ s.2.1 % 2 = 1 ∧ s.2.2 % 2 = 0)
theorem sides_sq {cs : List Sp} {s : Sp} (h : s ∈ sides cs) : Sq s := by
  obtain ⟨c, _, h⟩ := List.mem_flatMap.mp h
  unfold six mid at h
  simp only [List.mem_cons, List.not_mem_nil, or_false] at h
  unfold Sq
  rcases h with rfl | rfl | rfl | rfl | rfl | rfl <;> dsimp only <;> omega
theorem cr_six (a : Nat) (ha : a < 3) (q c : Sp) : (six (mid c)).countP (cr a (mid q)) % 2 = if c = q then 1 else 0 := by
  obtain ⟨c1, c2, c3⟩ := c
  obtain ⟨q1, q2, q3⟩ := q
  have key : ∀ (x y z u v w : Int) , ((x, y, z) : Sp) = (u, v, w) ↔ x = u ∧ y = v ∧ z = w := by intros; simp
  simp only [key]
  have h3 : a = 0 ∨ a = 1 ∨ a = 2 := by omega
  rcases h3 with rfl | rfl | rfl <;> simp only [six, mid, cr, List.countP_cons, List.countP_nil, decide_eq_true_eq]
  · by_cases h1 : c2 = q2 ∧ c3 = q3
    · obtain ⟨rfl, rfl⟩ := h1
      by_cases h2 : c1 = q1
      · subst h2; split <;> split <;> split <;> split <;> split <;> split <;> split <;> omega
      · by_cases h4 : c1 > q1
        · have e : ¬ c1 = q1 := h2
          split <;> split <;> split <;> split <;> split <;> split <;> split <;> omega
        · split <;> split <;> split <;> split <;> split <;> split <;> split <;> omega
    · split <;> split <;> split <;> split <;> split <;> split <;> split <;> omega
  · split <;> split <;> split <;> split <;> split <;> split <;> split <;> omega
  · split <;> split <;> split <;> split <;> split <;> split <;> split <;> omega
theorem cr_sides {a : Nat} (ha : a < 3) (q : Sp) : ∀ {cs : List Sp}, cs.Nodup → (sides cs).countP (cr a (mid q)) % 2 = if q ∈ cs then 1 else 0
  | [], _ => rfl
  | c :: cs, h => by
    obtain ⟨h1, h2⟩ := List.nodup_cons.mp h
    have ih := cr_sides ha q h2
    have h6 := cr_six a ha q c
    have e : sides (c :: cs) = six (mid c) ++ sides cs := rfl
    rw [e, List.countP_append, Nat.add_mod, ih, h6]
    by_cases hc : c = q
    · subst hc
      rw [if_pos rfl, if_neg h1, if_pos List.mem_cons_self]
    · rw [if_neg hc]
      by_cases hq : q ∈ cs
      · rw [if_pos hq, if_pos (List.mem_cons_of_mem _ hq)]
      · rw [if_neg hq, if_neg (by simp [hq, Ne.symm hc])]
end SF
namespace SF
open PySem L2
/-! more of lists -/
theorem atI_last {α : Type} (xs : List α) (v : α) : atI (xs ++ [v]) (-1) = some v := by
  unfold atI ixN
  rw [if_neg (by decide), if_pos (by rw [List.length_append, List.length_singleton]; omega)]
  have e : ((-1 : Int) + ((xs ++ [v]).length : Int)).toNat = xs.length := by
    rw [List.length_append, List.length_singleton]; omega
  show (xs ++ [v])[((-1 : Int) + ((xs ++ [v]).length : Int)).toNat]? = some v
  rw [e, List.getElem?_append_right (Nat.le_refl _)]
  simp
theorem popD_last (xs : List PyData) (v : PyData) : popD (.list (xs ++ [v])) = some (v, .list xs) := by
  show (ob ((xs ++ [v])[(xs ++ [v]).length - 1]?) fun d => some (d, PyData.list (xs ++ [v]).dropLast)) = _
  have e : (xs ++ [v])[(xs ++ [v]).length - 1]? = some v := by
    rw [List.length_append, List.length_singleton, Nat.add_sub_cancel, List.getElem?_append_right (Nat.le_refl _)]
    simp
  rw [e, List.dropLast_concat]
  rfl
theorem eqD_eSp (a b : Sp) : eqD (eS a) (eS b) = some (.bool (decide (a = b))) := by
  unfold eqD
  rw [if_pos ⟨rfl, rfl⟩, eqv_eS]
theorem neD_eSp (a b : Sp) : neD (eS a) (eS b) = some (.bool (!decide (a = b))) := by
  unfold neD
  rw [if_pos ⟨rfl, rfl⟩, eqv_eS]
theorem atI_map {α β : Type} {f : α → β} {xs : List α} {k : Int} {x : α} (h0 : 0 ≤ k) (h : xs[k.toNat]? = some x) : atI (xs.map f) k = some (f x) := by
  have e1 : ((k.toNat : Nat) : Int) = k := by omega
  have := atI_nat (xs := xs.map f) (j := k.toNat) (v := f x) (by rw [List.getElem?_map, h]; rfl)
  rwa [e1] at this
theorem seqIx {i : Int} {n : Nat} (h0 : 0 ≤ i) (h1 : i < (n : Int)) : seqIndex? i n = some i.toNat := by
  show (if (decide (0 ≤ (if i < 0 then i + (n : Int) else i)) && decide ((if i < 0 then i + (n : Int) else i) < (n : Int))) = true then some (if i < 0 then i + (n : Int) else i).toNat else none) = _
  have h : (if i < 0 then i + (n : Int) else i) = i := if_neg (by omega)
  rw [h, if_pos (by simp; omega)]
theorem map_erase {α β : Type} (f : α → β) : ∀ (xs : List α) (n : Nat), (xs.map f).eraseIdx n = (xs.eraseIdx n).map f
  | [], _ => rfl
  | _ :: _, 0 => rfl
  | x :: xs, n + 1 => congrArg (f x :: ·) (map_erase f xs n)
theorem seq_nx {u w : Rho → Option Out} {ρ ρ' : Rho} {r : Option Out} (h : u ρ = some (.nx ρ')) (h2 : w ρ' = r) : seqO u w ρ = r := by rw [seqO_b, h, bindO_nx]; exact h2
/-- a loop by what was walked, which is the list's first part -/
theorem forD_pre {α : Type} (enc : α → PyData) {g : PyData → Rho → Option Rho} {u : Rho → Option Out} (I : List α → Rho → Prop) (all : List α) (ρ : Rho) (h0 : I [] ρ) (step : ∀ a done rest ρ, all = done ++ a :: rest → I done ρ → ∃ ρ', ob (g (enc a) ρ) u = some (.nx ρ') ∧ I (done ++ [a]) ρ') :
    ∃ ρ', forD g u (all.map enc) ρ = some (.nx ρ') ∧ I all ρ' := by
  have key : ∀ (as done : List α) (ρ : Rho), all = done ++ as → I done ρ → ∃ ρ', forD g u (as.map enc) ρ = some (.nx ρ') ∧ I all ρ' := by
    intro as
    induction as with
    | nil => intro done ρ e h; rw [List.append_nil] at e; subst e; exact ⟨ρ, rfl, h⟩
    | cons a as ih =>
      intro done ρ e h
      obtain ⟨ρ1, e1, h1⟩ := step a done as ρ e h
      obtain ⟨ρ2, e2, h2⟩ := ih (done ++ [a]) ρ1 (by rw [e, List.append_assoc]; rfl) h1
      refine ⟨ρ2, ?_, h2⟩
      rw [List.map_cons, forD_c, e1, forO_nx]
      exact e2
  exact key all [] ρ rfl h0
theorem ixe0 (s : Sp) : ixD (eS s) (.int 0) = some (.int s.1) := rfl
theorem ixe1 (s : Sp) : ixD (eS s) (.int 1) = some (.int s.2.1) := rfl
theorem ixe2 (s : Sp) : ixD (eS s) (.int 2) = some (.int s.2.2) := rfl
theorem seqe (s : Sp) : seqD (eS s) = some [.int s.1, .int s.2.1, .int s.2.2] := rfl
theorem enume (s : Sp) : enumD (eS s) = some (enL 0 [.int s.1, .int s.2.1, .int s.2.2]) := rfl
theorem liste (s : Sp) : listD [eS s] = some (.list [.int s.1, .int s.2.1, .int s.2.2]) := rfl
theorem ix0 : ixN 3 0 = some 0 := rfl
theorem ix1 : ixN 3 1 = some 1 := rfl
theorem ix2 : ixN 3 2 = some 2 := rfl
theorem flat_i (i : Int) : flat (.int i) = true := rfl
theorem flat_b (i : Bool) : flat (.bool i) = true := rfl
theorem flat_t3 (a b c : Int) : flat (.tuple [.int a, .int b, .int c]) = true := rfl
theorem flat_eS (s : Sp) : flat (eS s) = true := rfl
theorem flatO_l3 (a b c : Int) : flatO (.list [.int a, .int b, .int c]) = true := rfl
theorem flatO_eS : ∀ xs : List Sp, flatO (.list (xs.map eS)) = true
  | [] => rfl
  | _ :: xs => flatO_eS xs
def BdS (n : Nat) (c : Sp) : Prop := Bd n c.1 ∧ Bd n c.2.1 ∧ Bd n c.2.2
theorem bd2 : Bd 2 2 := Bd.of (by decide)
theorem rngL_map (n : Nat) : rngL 0 n = (List.range n).map fun k => PyData.int (k : Nat) := by
  have : ∀ (n m : Nat), rngL (m : Nat) n = (List.range' m n).map fun k => PyData.int (k : Nat) := by
    intro n
    induction n with
    | zero => intro m; rfl
    | succ n ih =>
      intro m
      rw [rngL, List.range'_succ, List.map_cons, ← ih (m + 1)]
      rfl
  rw [List.range_eq_range']
  exact this n 0
/-! the stack of what stands there an odd number of times -/
def oddStep (os : List Sp) (a : Sp) : List Sp := if os.getLast? = some a then os.dropLast else os ++ [a]
theorem odd_step (os : List Sp) (a : Sp) : (∀ P : Sp → Bool, (oddStep os a).countP P % 2 = (os.countP P + [a].countP P) % 2) ∧ (∀ s ∈ oddStep os a, s ∈ os ∨ s = a) ∧ (oddStep os a).length ≤ os.length + 1 := by
  unfold oddStep
  split
  · rename_i h
    obtain ⟨init, rfl⟩ := List.getLast?_eq_some_iff.mp h
    rw [List.dropLast_concat]
    refine ⟨fun P => ?_, fun s hs => .inl (List.mem_append_left _ hs), by rw [List.length_append]; omega⟩
    rw [List.countP_append]
    omega
  · refine ⟨fun P => by rw [List.countP_append], fun s hs => ?_, by rw [List.length_append]; simp⟩
    rcases List.mem_append.mp hs with q | q
    · exact .inl q
    · exact .inr (by simpa using q)
end SF
namespace SF
open PySem L2
/-! a part of the script; spots that are near; a place in a list by a number -/
theorem cut_eq (ns : List Int) {a b : Nat} : ∃ ms : List Int, sliD (.list (ns.map .int)) (some (a : Int)) (some (b : Int)) = some (.list (ms.map .int)) ∧ ms.length ≤ b - a := by
  refine ⟨(ns.drop (HT.sIx (ns.map PyData.int).length 0 (some (a : Int)))).take (HT.sIx (ns.map PyData.int).length (ns.map PyData.int).length (some (b : Int)) - HT.sIx (ns.map PyData.int).length 0 (some (a : Int))), ?_, ?_⟩
  · show some (PyData.list (cutD (ns.map .int) (some (a : Int)) (some (b : Int)))) = _
    unfold cutD
    rw [← List.map_drop, ← List.map_take]
  · rw [List.length_take, List.length_drop, HT.sIx_nat, HT.sIx_nat, List.length_map]
    omega
def nearS (n : Nat) (c : Sp) : Prop := c.1.natAbs ≤ n ∧ c.2.1.natAbs ≤ n ∧ c.2.2.natAbs ≤ n
theorem near_bd {n : Nat} {c : Sp} (h : nearS n c) (hn : n < 2 ^ 200) : BdS 200 c := ⟨Bd.of (by have := h.1; omega), Bd.of (by have := h.2.1; omega), Bd.of (by have := h.2.2; omega)⟩
theorem emod3 (x : Int) : x % 3 = 0 ∨ x % 3 = 1 ∨ x % 3 = 2 := by omega
theorem emod_at {α : Type} {xs : List α} (x : Int) (h : 0 < xs.length) : ∃ y ∈ xs, xs[(x % (xs.length : Int)).toNat]? = some y := by
  have a1 := Int.emod_nonneg x (b := (xs.length : Int)) (by omega)
  have a2 := Int.emod_lt_of_pos x (b := (xs.length : Int)) (by omega)
  have hlt : (x % (xs.length : Int)).toNat < xs.length := by omega
  exact ⟨xs[(x % (xs.length : Int)).toNat], List.getElem_mem hlt, List.getElem?_eq_getElem hlt⟩
/-- the mixed number of a cell -/
def mixV (c : Int) : Int := c % 10 ^ 30 * 48271 % 2147483647
theorem mix_mul (c : Int) : mulD (.int (c % 10 ^ 30)) (.int 48271) = some (.int (c % 10 ^ 30 * 48271)) := by
  have a1 := Int.emod_nonneg c (b := 10 ^ 30) (by decide)
  have a2 := Int.emod_lt_of_pos c (b := 10 ^ 30) (by decide)
  exact mulD_ok (Bd.ok (n := 110) (m := 16) (Bd.of (by omega)) (Bd.of (by decide)))
/-! loops over the places of a list -/
theorem at_range {α β : Type} (f : α → β) {xs : List α} {k : Nat} (h : k ∈ List.range xs.length) : ∃ x ∈ xs, atI (xs.map f) (k : Int) = some (f x) := by
  have hk := List.mem_range.mp h
  exact ⟨xs[k], List.getElem_mem hk, atI_map (by omega) (by simp [List.getElem?_eq_getElem hk])⟩
end SF
namespace SF
open PySem L2
theorem off31 {c : Int} (h : Bd 1048576 c) : ∃ v, f__law_offset [.int c] = some (.int v) := by
  have hm : mulD (.int (c / 3)) (.int (7919 ^ 6)) = some (.int (c / 3 * 7919 ^ 6)) := mulD_ok ((h.div (by decide)).ok (Bd.of (n := 104) (by decide)))
  have hm2 : mulD (.int 2) (.int (10 ^ 19)) = some (.int (2 * 10 ^ 19)) := rfl
  have md : modD (.int (c / 3 * 7919 ^ 6)) (.int (2 * 10 ^ 19 + 1)) = some (.int (c / 3 * 7919 ^ 6 % (2 * 10 ^ 19 + 1))) := rfl
  have p19 : powD (.int 10) (.int 19) = some (.int (10 ^ 19)) := rfl
  have p6 : powD (.int 7919) (.int 6) = some (.int (7919 ^ 6)) := rfl
  simp only [f__law_offset, u__law_offset]
  cases h1 : c % 3 == 1 with
  | true => exact ⟨_, by simp_arith [h1, p6, p19, hm, hm2, md]; rfl⟩
  | false =>
    cases h2 : c % 3 == 2 with
    | true =>
      have h3 : c / 3 % 2 = 0 ∨ c / 3 % 2 = 1 := by omega
      rcases h3 with h3 | h3 <;> exact ⟨_, by simp_arith [h1, h2, h3, p19]; rfl⟩
    | false => exact ⟨_, by simp_arith [h1, h2]; rfl⟩
end SF
namespace SF
open PySem L2
def o3 (s : Sp) : Sp3 := ⟨s.1, s.2.1, s.2.2⟩
def half (m : Sp3) (b : Sp) : Sp := (m.x / 2 + b.1, m.y / 2 + b.2.1, m.z / 2 + b.2.2)
def ct (t : Tr) (b c : Sp) : Sp := half (app t (o3 (mid c))) b
def z3 : Sp := (0, 0, 0)
theorem odd24 : ∀ t ∈ turns24, ∀ c : Sp, (app t (o3 (mid c))).x % 2 = 1 ∧ (app t (o3 (mid c))).y % 2 = 1 ∧ (app t (o3 (mid c))).z % 2 = 1 := by
  intro t ht c
  simp only [turns24, List.mem_cons, List.not_mem_nil, or_false] at ht
  rcases ht with rfl | rfl | rfl | rfl | rfl | rfl | rfl | rfl | rfl | rfl | rfl | rfl | rfl | rfl | rfl | rfl | rfl | rfl | rfl | rfl | rfl | rfl | rfl | rfl <;> simp only [app, o3, mid] <;> omega
theorem enc_mid (c : Sp) : encS (o3 (mid c)) = PyData.tuple [.int (2 * c.1 + 1), .int (2 * c.2.1 + 1), .int (2 * c.2.2 + 1)] := rfl
theorem mid_eq {c : Sp} {n : Nat} (h : BdS n c) (hn : n ≤ 1000) : f_middle_of [eS c] = some (encS (o3 (mid c))) := by
  have k : 2 + n ≤ 134217728 := by omega
  rw [enc_mid]
  simp only [f_middle_of, u_middle_of, eS]
  simp_arith [mulD_ok (bd2.ok h.1 k), mulD_ok (bd2.ok h.2.1 k), mulD_ok (bd2.ok h.2.2 k)]
theorem mid_bd {c : Sp} {n : Nat} (h : BdS n c) : SpBd (n + 3) (o3 (mid c)) := by
  have b1 : Bd 1 1 := Bd.of (by decide)
  exact ⟨((bd2.mul h.1).add b1).mono (by omega), ((bd2.mul h.2.1).add b1).mono (by omega), ((bd2.mul h.2.2).add b1).mono (by omega)⟩
theorem ct_bd {t : Tr} {m n : Nat} (ht : TrBd m t) {c : Sp} (h : BdS n c) : BdS (n + m + 6) (ct t z3 c) := by
  obtain ⟨a1, a2, a3⟩ := app_bd ht (mid_bd h)
  have e : ∀ x : Int, x / 2 + 0 = x / 2 := fun x => Int.add_zero _
  refine ⟨?_, ?_, ?_⟩ <;> (show Bd _ (_ / 2 + 0)) <;> rw [e]
  · exact (a1.div (by decide)).mono (by omega)
  · exact (a2.div (by decide)).mono (by omega)
  · exact (a3.div (by decide)).mono (by omega)
theorem cube_eq (m : Sp3) : f_cube_of [encS m] = some (eS (m.x / 2, m.y / 2, m.z / 2)) := by
  simp only [f_cube_of, u_cube_of, encS, S3, eS]
  simp_arith []
theorem added_eq (a b : Sp) : f_added [eS a, eS b] = some (eS (a.1 + b.1, a.2.1 + b.2.1, a.2.2 + b.2.2)) := by
  simp only [f_added, u_added, eS]
  simp_arith []
theorem sol_comp {t : Tr} {m n : Nat} (ht : TrBd m t) (hm : m ≤ 100) (hn : n ≤ 1000) {cs : List Sp} (hc : ∀ c ∈ cs, BdS n c) (b : Sp) (o0 o2 : Option PyData) :
    compD tT (evC 2 (aC (evC 1 (aC (evC 2 (aC (vr 1) (aC (evC 1 (aC (vr 4) aN) f_middle_of) aN)) f_turned) aN) f_cube_of) (aC (vr 3) aN)) f_added) [o0, some (encT t), o2, some (eS b)] (cs.map eS) = some (cs.map fun c => eS (ct t b c)) :=
  compD_map' eS _ cs fun a ha => by
    have e1 := mid_eq (hc a ha) hn
    have e2 := turnedE ht (mid_bd (hc a ha)) (by omega)
    have e3 := cube_eq (app t (o3 (mid a)))
    have e4 := added_eq ((app t (o3 (mid a))).x / 2, (app t (o3 (mid a))).y / 2, (app t (o3 (mid a))).z / 2) b
    simp_arith [e1, e2, e3, e4]
    rfl
theorem sol_eq {t : Tr} {m n : Nat} (ht : TrBd m t) (hm : m ≤ 100) (hn : n ≤ 1000) {cs : List Sp} (hc : ∀ c ∈ cs, BdS n c) (hl : cs.length ≤ 900) (b : Sp) {r : PyData} (es : sortedD [.list ((cs.map (ct t b)).map eS)] = some r) : f_solid_turned [.list (cs.map eS), encT t, eS b] = some r := by
  have hq := sol_comp ht hm hn hc b (some (.list (cs.map eS))) (some (eS b))
  have ei : isNone (eS b) = false := rfl
  have hz : (cs.map eS).length ≤ 1000 := by rw [List.length_map]; omega
  rw [List.map_map] at es
  have es : sortedD [.list (cs.map fun c => eS (ct t b c))] = some r := es
  simp only [f_solid_turned, u_solid_turned]
  simp_arith [ei, hz, hq, es]
theorem sol_eqN {t : Tr} {m n : Nat} (ht : TrBd m t) (hm : m ≤ 100) (hn : n ≤ 1000) {cs : List Sp} (hc : ∀ c ∈ cs, BdS n c) (hl : cs.length ≤ 900) {r : PyData} (es : sortedD [.list ((cs.map (ct t z3)).map eS)] = some r) : f_solid_turned [.list (cs.map eS), encT t, .none] = some r := by
  have hq := sol_comp ht hm hn hc z3 (some (.list (cs.map eS))) (some .none)
  have ei : isNone .none = true := rfl
  have hz : (cs.map eS).length ≤ 1000 := by rw [List.length_map]; omega
  rw [List.map_map] at es
  have es : sortedD [.list (cs.map fun c => eS (ct t z3 c))] = some r := es
  have p0 : (PyData.tuple [.int 0, .int 0, .int 0]) = eS z3 := rfl
  simp only [f_solid_turned, u_solid_turned]
  simp_arith [ei, p0, hz, hq, es]
theorem lcube_eq {t : Tr} (ht : t ∈ turns24) {n : Nat} (hn : n ≤ 1000) {c : Sp} (hc : BdS n c) (b : Sp) : f__law_cube_turned [encT t, eS b, eS c] = some (eS (ct t b c)) := by
  have k : 2 + n ≤ 134217728 := by omega
  have e2 := lturnedE (tr_bd t ht).bd (mid_bd hc) (by omega)
  rw [enc_mid] at e2
  obtain ⟨h1, h2, h3⟩ := odd24 t ht c
  have i0 : ∀ m : Sp3, ixD (encS m) (.int 0) = some (.int m.x) := fun _ => rfl
  have i1 : ∀ m : Sp3, ixD (encS m) (.int 1) = some (.int m.y) := fun _ => rfl
  have i2 : ∀ m : Sp3, ixD (encS m) (.int 2) = some (.int m.z) := fun _ => rfl
  have q1 : ∀ x : Int, x % 2 = 1 → (x - 1) / 2 = x / 2 := fun x h => by omega
  simp only [f__law_cube_turned, u__law_cube_turned]
  simp_arith [ixe0, ixe1, ixe2, mulD_ok (bd2.ok hc.1 k), mulD_ok (bd2.ok hc.2.1 k), mulD_ok (bd2.ok hc.2.2 k), e2, i0, i1, i2, q1 _ h1, q1 _ h2, q1 _ h3]
  rfl
theorem due_eq {t : Tr} (ht : t ∈ turns24) {n : Nat} (hn : n ≤ 1000) {cs : List Sp} (hc : ∀ c ∈ cs, BdS n c) (hl : cs.length ≤ 900) (b : Sp) {r : PyData} (es : sortedD [.list ((cs.map (ct t b)).map eS)] = some r) : f__law_due [encT t, eS b, .list (cs.map eS)] = some r := by
  have hq : compD tT (evC 3 (aC (vr 0) (aC (vr 1) (aC (vr 3) aN))) f__law_cube_turned) [some (encT t), some (eS b), some (.list (cs.map eS))] (cs.map eS) = some (cs.map fun c => eS (ct t b c)) :=
    compD_map' eS _ cs fun a ha => by simp_arith [lcube_eq ht hn (hc a ha) b]
  rw [List.map_map] at es
  have es : sortedD [.list (cs.map fun c => eS (ct t b c))] = some r := es
  have hz : (cs.map eS).length ≤ 1000 := by rw [List.length_map]; omega
  simp only [f__law_due, u__law_due]
  simp_arith [hz, hq, es]
theorem alike31 {ys : List Sp} (hl : ys.length ≤ 900) : f__law_cubes_alike [.list (ys.map eS), .list (ys.map eS)] = some (.bool true) := by
  have hb : (-1000 : Int) ≤ (((ys.map eS).length : Nat) : Int) ∧ (((ys.map eS).length : Nat) : Int) ≤ 1000 := by rw [List.length_map]; omega
  obtain ⟨ρ', e, o, rfl⟩ := forD_all (fun k : Nat => PyData.int (k : Nat)) (g := gNm 2) (u := (sIf (tN (tV (evC 2 (aC (ev2 (vr 0) (vr 2) ixD) (aC (ev2 (vr 1) (vr 2) ixD) aN)) f__law_triple))) (sRet (kd (.bool false))) sN))
    (fun done ρ => ∃ o, ρ = [some (.list (ys.map eS)), some (.list (ys.map eS)), o]) (List.range ys.length) [some (.list (ys.map eS)), some (.list (ys.map eS)), none] ⟨none, rfl⟩ (by
      rintro k hk done ρ - ⟨o, rfl⟩
      obtain ⟨y, -, ey⟩ := at_range eS hk
      refine ⟨_, ?_, some (.int (k : Nat)), rfl⟩
      have et : f__law_triple [eS y, eS y] = some (.bool true) := tripleE (o3 y)
      simp_arith [ey, et])
  have hr : rngL 0 ((((ys.map eS).length : Nat) : Int)).toNat = (List.range ys.length).map fun k : Nat => PyData.int (k : Nat) := by
    rw [Int.toNat_natCast, List.length_map, rngL_map]
  have hne : neD (.int (((ys.map eS).length : Nat) : Int)) (.int (((ys.map eS).length : Nat) : Int)) = some (.bool false) := by rw [neD_int]; simp
  have e5 : (if (-1000 : Int) ≤ (((ys.map eS).length : Nat) : Int) ∧ (((ys.map eS).length : Nat) : Int) ≤ 1000 then some (rngL 0 ((((ys.map eS).length : Nat) : Int)).toNat) else none) = some ((List.range ys.length).map fun k : Nat => PyData.int (k : Nat)) := by rw [if_pos hb, hr]
  simp only [f__law_cubes_alike, u__law_cubes_alike]
  simp_arith [beq_self_eq_true, e5, e]
/-! the solid -/
theorem unit31 (x : Int) : ∃ u : Sp, nearS 1 u ∧ atI [S3 1 0 0, S3 (-1) 0 0, S3 0 1 0, S3 0 (-1) 0, S3 0 0 1, S3 0 0 (-1)] (x % 6) = some (eS u) := by
  have h6 : x % 6 = 0 ∨ x % 6 = 1 ∨ x % 6 = 2 ∨ x % 6 = 3 ∨ x % 6 = 4 ∨ x % 6 = 5 := by omega
  rcases h6 with h | h | h | h | h | h <;> rw [h]
  · exact ⟨(1, 0, 0), by unfold nearS; decide, atI0 _ _⟩
  · exact ⟨(-1, 0, 0), by unfold nearS; decide, atI1 _ _ _⟩
  · exact ⟨(0, 1, 0), by unfold nearS; decide, atI2 _ _ _ _⟩
  · exact ⟨(0, -1, 0), by unfold nearS; decide, atI3 _ _ _ _ _⟩
  · exact ⟨(0, 0, 1), by unfold nearS; decide, atI4 _ _ _ _ _ _⟩
  · exact ⟨(0, 0, -1), by unfold nearS; decide, atI5 _ _ _ _ _ _ _⟩
theorem solid31 (ms : List Int) (hms : ms.length ≤ 20) (mo : Int) : ∃ cs : List Sp, f__law_solid [.list (ms.map .int), .int mo] = some (.list (cs.map eS)) ∧ cs.length ≤ 21 ∧ ∀ c ∈ cs, nearS 20 c := by
  obtain ⟨ρ', e, cs, o3, o4, o5, o6, o7, rfl, h1, h2, h3⟩ := forD_all PyData.int (g := gNm 3) (u := (seqO (sSet 4 (ev2 (ev2 (ev2 (vr 3) (ev2 (kd (.int 10)) (kd (.int 30)) powD) modD) (kd (.int 48271)) mulD) (kd (.int 2147483647)) modD)) (seqO (sSet 5 (flatF (ev2 (vr 2) (ev2 (ev2 (vr 4) (kd (.int 6)) fdivD) (evA (aC (vr 2) aN) lenD) modD) ixD))) (seqO (sSet 6 (ev2 (evC0 f__law_units) (ev2 (vr 4) (kd (.int 6)) modD) ixD)) (seqO (sSet 7 (evA (aC (ev2 (ev2 (vr 5) (kd (.int 0)) ixD) (ev2 (vr 6) (kd (.int 0)) ixD) add3D) (aC (ev2 (ev2 (vr 5) (kd (.int 1)) ixD) (ev2 (vr 6) (kd (.int 1)) ixD) add3D) (aC (ev2 (ev2 (vr 5) (kd (.int 2)) ixD) (ev2 (vr 6) (kd (.int 2)) ixD) add3D) aN))) tupD)) (sIf (tA (tV (ev2 (vr 7) (vr 2) ninD)) (tV (ev2 (evA (aC (vr 2) aN) lenD) (vr 1) ltD2))) (sApp 2 (vr 7)) sN))))))
    (fun done ρ => ∃ (cs : List Sp) (o3 o4 o5 o6 o7 : Option PyData), ρ = [some (.list (ms.map .int)), some (.int mo), some (.list (cs.map eS)), o3, o4, o5, o6, o7] ∧ 0 < cs.length ∧ cs.length ≤ done.length + 1 ∧ ∀ c ∈ cs, nearS done.length c) ms [some (.list (ms.map .int)), some (.int mo), some (.list [eS (0, 0, 0)]), none, none, none, none, none] ⟨[(0, 0, 0)], none, none, none, none, none, rfl, by decide, by decide, fun c hc => by rw [List.mem_singleton.mp hc]; unfold nearS; decide⟩ (by
      rintro x hx done ρ hdl ⟨cs, o3, o4, o5, o6, o7, rfl, h1, h2, h3⟩
      obtain ⟨c, hc, ec⟩ := emod_at (mixV x / 6) h1
      obtain ⟨u, hu, eu⟩ := unit31 (mixV x)
      have md : modD (.int x) (.int (10 ^ 30)) = some (.int (x % 10 ^ 30)) := rfl
      have p30 : powD (.int 10) (.int 30) = some (.int (10 ^ 30)) := rfl
      have e1 : modD (.int (x % 10 ^ 30 * 48271)) (.int 2147483647) = some (.int (mixV x)) := mod_pos _ (by decide)
      have e3 : modD (.int (mixV x / 6)) (.int (((cs.map eS).length : Nat) : Int)) = some (.int (mixV x / 6 % (cs.length : Int))) := by rw [List.length_map]; exact mod_pos _ (by omega)
      have e4 : atI (cs.map eS) (mixV x / 6 % (cs.length : Int)) = some (eS c) := atI_map (Int.emod_nonneg _ (by omega)) ec
      have hlen : (done ++ [x]).length = done.length + 1 := by simp
      have hn : ninD (.tuple [.int (c.1 + u.1), .int (c.2.1 + u.2.1), .int (c.2.2 + u.2.2)]) (.list (cs.map eS)) = some (.bool (!decide ((c.1 + u.1, c.2.1 + u.2.1, c.2.2 + u.2.2) ∈ cs))) := ninD_eS cs (c.1 + u.1, c.2.1 + u.2.1, c.2.2 + u.2.2)
      have keep : ∀ d ∈ cs, nearS (done.length + 1) d := fun d hd => by obtain ⟨a1, a2, a3⟩ := h3 d hd; exact ⟨by omega, by omega, by omega⟩
      generalize hm : mixV x = y at *
      by_cases hin : (c.1 + u.1, c.2.1 + u.2.1, c.2.2 + u.2.2) ∈ cs
      · refine ⟨_, ?_, cs, some (.int x), some (.int y), some (eS c), some (eS u), some (eS (c.1 + u.1, c.2.1 + u.2.1, c.2.2 + u.2.2)), rfl, h1, by omega, by rw [hlen]; exact keep⟩
        simp_arith [p30, md, mix_mul, e1, e3, e4, flat_eS, units_eq, eu, ixe0, ixe1, ixe2, hn, decide_eq_true hin]
        rfl
      · cases hlt : decide ((((cs.map eS).length : Nat) : Int) < mo) with
        | false =>
          refine ⟨_, ?_, cs, some (.int x), some (.int y), some (eS c), some (eS u), some (eS (c.1 + u.1, c.2.1 + u.2.1, c.2.2 + u.2.2)), rfl, h1, by omega, by rw [hlen]; exact keep⟩
          simp_arith [p30, md, mix_mul, e1, e3, e4, flat_eS, units_eq, eu, ixe0, ixe1, ixe2, hn, decide_eq_false hin, hlt]
          rfl
        | true =>
          refine ⟨_, ?_, cs ++ [(c.1 + u.1, c.2.1 + u.2.1, c.2.2 + u.2.2)], some (.int x), some (.int y), some (eS c), some (eS u), some (eS (c.1 + u.1, c.2.1 + u.2.1, c.2.2 + u.2.2)), rfl, by simp, by rw [hlen, List.length_append, List.length_singleton]; omega, fun d hd => ?_⟩
          · have hz : (cs.map eS).length < 1000 := by rw [List.length_map]; omega
            simp_arith [p30, md, mix_mul, e1, e3, e4, flat_eS, units_eq, eu, ixe0, ixe1, ixe2, hn, decide_eq_false hin, hlt, hz]
            simp only [List.map_append, List.map_cons, List.map_nil, eS]
          · rw [hlen]
            rcases List.mem_append.mp hd with q | q
            · exact keep d q
            · rw [List.mem_singleton.mp q]
              obtain ⟨a1, a2, a3⟩ := h3 c hc
              obtain ⟨b1, b2, b3⟩ := hu
              exact ⟨by dsimp only; omega, by dsimp only; omega, by dsimp only; omega⟩)
  obtain ⟨ys, es, p, _⟩ := sorted_eS (xs := cs) (by omega)
  refine ⟨ys, ?_, by rw [p.length_eq]; omega, fun c hc => ?_⟩
  · have p0 : (PyData.tuple [.int 0, .int 0, .int 0]) = eS (0, 0, 0) := rfl
    simp only [f__law_solid, u__law_solid]
    simp_arith [p0, e, es]
  · obtain ⟨a1, a2, a3⟩ := h3 c (p.mem_iff.mp hc)
    exact ⟨by omega, by omega, by omega⟩
/-! the shift -/
theorem shift31 {ns : List Int} (h : ∀ k ∈ ns, Builtin.Int.intBits k ≤ 2 ^ 20) {i : Int} (hi : 0 ≤ i) : ∃ b : Sp, f__law_shift [.list (ns.map .int), .int i] = some (eS b) := by
  obtain ⟨x, ex⟩ := off31 (cell_bd h (i + 0))
  obtain ⟨y, ey⟩ := off31 (cell_bd h (i + 1))
  obtain ⟨z, ez⟩ := off31 (cell_bd h (i + 2))
  refine ⟨(x, y, z), ?_⟩
  simp only [f__law_shift, u__law_shift]
  simp_arith [cell_eq ns (i + 0) (by omega), cell_eq ns (i + 1) (by omega), cell_eq ns (i + 2) (by omega), ex, ey, ez]
  rfl
theorem ct_ct {t : Tr} (ht : t ∈ turns24) (u : Tr) (c : Sp) : ct u z3 (ct t z3 c) = ct (mulT t u) z3 c := by
  obtain ⟨h1, h2, h3⟩ := odd24 t ht c
  have e : o3 (mid (ct t z3 c)) = app t (o3 (mid c)) := by
    generalize hm : app t (o3 (mid c)) = m at *
    have hc : ct t z3 c = half m z3 := by unfold ct; rw [hm]
    rw [hc]
    unfold o3 mid half z3
    cases m
    congr 1 <;> dsimp only at * <;> omega
  show half (app u (o3 (mid (ct t z3 c)))) z3 = half (app (mulT t u) (o3 (mid c))) z3
  rw [e, app_mulT]
theorem law_holds (ns : List Int) (_ : ns.length ≤ 63) (hb : ∀ k ∈ ns, Builtin.Int.intBits k ≤ 2 ^ 20) : f_law [.list (ns.map .int)] = some (.bool true) := by
  have c0 := cell_eq ns 0 (by decide)
  have c1 := cell_eq ns 1 (by decide)
  obtain ⟨ms, em, hm⟩ := cut_eq ns (a := 6) (b := 14)
  have em : sliD (.list (ns.map .int)) (some 6) (some 14) = some (.list (ms.map .int)) := em
  obtain ⟨cs, ec, cl, cn⟩ := solid31 ms (by omega) 6
  have cb : ∀ c ∈ cs, BdS 200 c := fun c hc => near_bd (cn c hc) (by decide)
  obtain ⟨t, ht, e1⟩ := turn_eq (cellV ns 0)
  obtain ⟨u, hu, e2⟩ := turn_eq (cellV ns 1)
  obtain ⟨b, e3⟩ := shift31 hb (i := 2) (by decide)
  have bt := (tr_bd t ht).bd
  have bu := (tr_bd u hu).bd
  have hi : idT ∈ turns24 := by decide
  have bi := (tr_bd idT hi).bd
  have l1 : ∀ (t : Tr) (b : Sp), (cs.map (ct t b)).length < 64 := fun t b => by rw [List.length_map]; omega
  obtain ⟨y1, s1, p1, -⟩ := sorted_eS (l1 t b)
  obtain ⟨y2, s2, p2, -⟩ := sorted_eS (l1 t z3)
  obtain ⟨y4, s4, p4, q4⟩ := sorted_eS (l1 (mulT t u) z3)
  obtain ⟨y5, s5, p5, -⟩ := sorted_eS (l1 idT b)
  have len : ∀ {ys : List Sp} {t : Tr} {b : Sp}, ys.Perm (cs.map (ct t b)) → ys.length ≤ 21 := fun p => by rw [p.length_eq, List.length_map]; exact cl
  obtain ⟨y3, s3, p3, q3⟩ := sorted_eS (xs := y2.map (ct u z3)) (by rw [List.length_map]; have := len p2; omega)
  have b2 : ∀ c ∈ y2, BdS 300 c := fun c hc => by
    obtain ⟨d, hd, rfl⟩ := List.mem_map.mp (p2.mem_iff.mp hc)
    obtain ⟨a1, a2, a3⟩ := ct_bd bt (cb d hd)
    exact ⟨a1.mono (by omega), a2.mono (by omega), a3.mono (by omega)⟩
  have same : y3 = y4 := by
    refine sorted_same ?_ q3 q4
    have w := p2.map (ct u z3)
    rw [List.map_map] at w
    have e : cs.map (ct u z3 ∘ ct t z3) = cs.map (ct (mulT t u) z3) := List.map_congr_left fun c _ => ct_ct ht u c
    rw [e] at w
    exact (p3.trans w).trans p4.symm
  subst same
  have cl9 : cs.length ≤ 900 := by omega
  have f1 := sol_eq bt (by decide) (by decide) cb cl9 b s1
  have d1 := due_eq ht (n := 200) (by decide) cb cl9 b s1
  have f2 := sol_eqN bt (by decide) (by decide) cb cl9 s2
  have d2 := due_eq ht (n := 200) (by decide) cb cl9 z3 s2
  have f3 := sol_eqN bu (by decide) (by decide) b2 (by have := len p2; omega) s3
  have f4 := sol_eq (mulT_bd bt bu) (by decide) (by decide) cb cl9 z3 s4
  have j4 := joinedE bt bu
  have f5 := sol_eq bi (by decide) (by decide) cb cl9 b s5
  have d5 := due_eq hi (n := 200) (by decide) cb cl9 b s5
  have w1 := alike31 (ys := y1) (by have := len p1; omega)
  have w2 := alike31 (ys := y2) (by have := len p2; omega)
  have w3 := alike31 (ys := y3) (by have := len p4; omega)
  have w5 := alike31 (ys := y5) (by have := len p5; omega)
  have ne : neD (.list (cs.map eS)) (.list (cs.map eS)) = some (.bool false) := by rw [neD_eS, decide_eq_true rfl]; rfl
  have eq : eqD (.list (cs.map eS)) (.list (cs.map eS)) = some (.bool true) := by rw [eqD_eS, decide_eq_true rfl]
  have pl : (PyData.tuple [.tuple [.int 1, .int 0, .int 0], .tuple [.int 0, .int 1, .int 0], .tuple [.int 0, .int 0, .int 1]]) = encT idT := rfl
  have p0 : (PyData.tuple [.int 0, .int 0, .int 0]) = eS z3 := rfl
  simp only [f_law, u_law]
  simp_arith [em, ec, c0, c1, e1, e2, e3, p0, pl, f1, d1, w1, ne, f2, d2, w2, f3, j4, f4, w3, f5, d5, w5, eq]
end SF
namespace SF
open PySem L2
theorem all_mk {l : PySem.W.OpenLaw} {w : World} {K : PySem.W.Frag} {h : Heap} {mg : Str → Option Value} {fa f0 f1 f2 f3 f4 f5 f6 f7 f8 f9 f10 f11 f12 f13 f14 f15 f16 f17 f18 f19 : Addr} (X : K.In h) (G : h.Ns mainGlobals mg) (hfa : mg "law" = some (.ref fa))
    {od0 an0 od1 an1 od2 an2 od3 an3 od4 an4 od5 an5 od6 an6 od7 an7 od8 an8 od9 an9 od10 an10 od11 an11 od12 an12 od13 an13 od14 an14 od15 an15 od16 an16 od17 an17 od18 an18 od19 an19 : Option Addr} {sl0 sl1 sl2 sl3 sl4 sl5 sl6 sl7 sl8 sl9 sl10 sl11 sl12 sl13 sl14 sl15 sl16 sl17 sl18 sl19 : Array (Option Value)} {oc0 kV0 dc0 pm0 cd0 ct0 oc1 kV1 dc1 pm1 cd1 ct1 oc2 kV2 dc2 pm2 cd2 ct2 oc3 kV3 dc3 pm3 cd3 ct3 oc4 kV4 dc4 pm4 cd4 ct4 oc5 kV5 dc5 pm5 cd5 ct5 oc6 kV6 dc6 pm6 cd6 ct6 oc7 kV7 dc7 pm7 cd7 ct7 oc8 kV8 dc8 pm8 cd8 ct8 oc9 kV9 dc9 pm9 cd9 ct9 oc10 kV10 dc10 pm10 cd10 ct10 oc11 kV11 dc11 pm11 cd11 ct11 oc12 kV12 dc12 pm12 cd12 ct12 oc13 kV13 dc13 pm13 cd13 ct13 oc14 kV14 dc14 pm14 cd14 ct14 oc15 kV15 dc15 pm15 cd15 ct15 oc16 kV16 dc16 pm16 cd16 ct16 oc17 kV17 dc17 pm17 cd17 ct17 oc18 kV18 dc18 pm18 cd18 ct18 oc19 kV19 dc19 pm19 cd19 ct19 : Value}
    (a0 : PySem.W.nsIn K mainGlobals "added" = some (some (.ref f0))) (l0 : K.lookup f0 = some ⟨oc0, od0, .func (PySem.W.fnOf "added" "added" (defArgs s_added) (defBody s_added) (defScope s_added) .none kV0 dc0 pm0 an0 cd0 ct0), sl0⟩) (c0 : PySem.W.codeIn K cd0 "added" = true) (k0 : PySem.W.keepIn K (.ref f0) = true)
    (a1 : PySem.W.nsIn K mainGlobals "turned" = some (some (.ref f1))) (l1 : K.lookup f1 = some ⟨oc1, od1, .func (PySem.W.fnOf "turned" "turned" (defArgs s_turned) (defBody s_turned) (defScope s_turned) .none kV1 dc1 pm1 an1 cd1 ct1), sl1⟩) (c1 : PySem.W.codeIn K cd1 "turned" = true) (k1 : PySem.W.keepIn K (.ref f1) = true)
    (a2 : PySem.W.nsIn K mainGlobals "joined_turns" = some (some (.ref f2))) (l2 : K.lookup f2 = some ⟨oc2, od2, .func (PySem.W.fnOf "joined_turns" "joined_turns" (defArgs s_joined_turns) (defBody s_joined_turns) (defScope s_joined_turns) .none kV2 dc2 pm2 an2 cd2 ct2), sl2⟩) (c2 : PySem.W.codeIn K cd2 "joined_turns" = true) (k2 : PySem.W.keepIn K (.ref f2) = true)
    (a3 : PySem.W.nsIn K mainGlobals "middle_of" = some (some (.ref f3))) (l3 : K.lookup f3 = some ⟨oc3, od3, .func (PySem.W.fnOf "middle_of" "middle_of" (defArgs s_middle_of) (defBody s_middle_of) (defScope s_middle_of) .none kV3 dc3 pm3 an3 cd3 ct3), sl3⟩) (c3 : PySem.W.codeIn K cd3 "middle_of" = true) (k3 : PySem.W.keepIn K (.ref f3) = true)
    (a4 : PySem.W.nsIn K mainGlobals "cube_of" = some (some (.ref f4))) (l4 : K.lookup f4 = some ⟨oc4, od4, .func (PySem.W.fnOf "cube_of" "cube_of" (defArgs s_cube_of) (defBody s_cube_of) (defScope s_cube_of) .none kV4 dc4 pm4 an4 cd4 ct4), sl4⟩) (c4 : PySem.W.codeIn K cd4 "cube_of" = true) (k4 : PySem.W.keepIn K (.ref f4) = true)
    {df5 : Addr} {df5c : Value} {df5d : Option Addr} {df5n : Nat} {df5s : Array (Option Value)}
    (a5 : PySem.W.nsIn K mainGlobals "solid_turned" = some (some (.ref f5))) (l5 : K.lookup f5 = some ⟨oc5, od5, .func (PySem.W.fnOf "solid_turned" "solid_turned" (defArgs s_solid_turned) (defBody s_solid_turned) (defScope s_solid_turned) (.ref df5) kV5 dc5 pm5 an5 cd5 ct5), sl5⟩) (c5 : PySem.W.codeIn K cd5 "solid_turned" = true) (k5 : PySem.W.keepIn K (.ref f5) = true)
    (a6 : PySem.W.nsIn K mainGlobals "_law_cell_at" = some (some (.ref f6))) (l6 : K.lookup f6 = some ⟨oc6, od6, .func (PySem.W.fnOf "_law_cell_at" "_law_cell_at" (defArgs s__law_cell_at) (defBody s__law_cell_at) (defScope s__law_cell_at) .none kV6 dc6 pm6 an6 cd6 ct6), sl6⟩) (c6 : PySem.W.codeIn K cd6 "_law_cell_at" = true) (k6 : PySem.W.keepIn K (.ref f6) = true)
    (a7 : PySem.W.nsIn K mainGlobals "_law_whole" = some (some (.ref f7))) (l7 : K.lookup f7 = some ⟨oc7, od7, .func (PySem.W.fnOf "_law_whole" "_law_whole" (defArgs s__law_whole) (defBody s__law_whole) (defScope s__law_whole) .none kV7 dc7 pm7 an7 cd7 ct7), sl7⟩) (c7 : PySem.W.codeIn K cd7 "_law_whole" = true) (k7 : PySem.W.keepIn K (.ref f7) = true)
    (a8 : PySem.W.nsIn K mainGlobals "_law_triple" = some (some (.ref f8))) (l8 : K.lookup f8 = some ⟨oc8, od8, .func (PySem.W.fnOf "_law_triple" "_law_triple" (defArgs s__law_triple) (defBody s__law_triple) (defScope s__law_triple) .none kV8 dc8 pm8 an8 cd8 ct8), sl8⟩) (c8 : PySem.W.codeIn K cd8 "_law_triple" = true) (k8 : PySem.W.keepIn K (.ref f8) = true)
    (a9 : PySem.W.nsIn K mainGlobals "_law_offset" = some (some (.ref f9))) (l9 : K.lookup f9 = some ⟨oc9, od9, .func (PySem.W.fnOf "_law_offset" "_law_offset" (defArgs s__law_offset) (defBody s__law_offset) (defScope s__law_offset) .none kV9 dc9 pm9 an9 cd9 ct9), sl9⟩) (c9 : PySem.W.codeIn K cd9 "_law_offset" = true) (k9 : PySem.W.keepIn K (.ref f9) = true)
    (a10 : PySem.W.nsIn K mainGlobals "_law_cross" = some (some (.ref f10))) (l10 : K.lookup f10 = some ⟨oc10, od10, .func (PySem.W.fnOf "_law_cross" "_law_cross" (defArgs s__law_cross) (defBody s__law_cross) (defScope s__law_cross) .none kV10 dc10 pm10 an10 cd10 ct10), sl10⟩) (c10 : PySem.W.codeIn K cd10 "_law_cross" = true) (k10 : PySem.W.keepIn K (.ref f10) = true)
    (a11 : PySem.W.nsIn K mainGlobals "_law_units" = some (some (.ref f11))) (l11 : K.lookup f11 = some ⟨oc11, od11, .func (PySem.W.fnOf "_law_units" "_law_units" (defArgs s__law_units) (defBody s__law_units) (defScope s__law_units) .none kV11 dc11 pm11 an11 cd11 ct11), sl11⟩) (c11 : PySem.W.codeIn K cd11 "_law_units" = true) (k11 : PySem.W.keepIn K (.ref f11) = true)
    (a12 : PySem.W.nsIn K mainGlobals "_law_turn" = some (some (.ref f12))) (l12 : K.lookup f12 = some ⟨oc12, od12, .func (PySem.W.fnOf "_law_turn" "_law_turn" (defArgs s__law_turn) (defBody s__law_turn) (defScope s__law_turn) .none kV12 dc12 pm12 an12 cd12 ct12), sl12⟩) (c12 : PySem.W.codeIn K cd12 "_law_turn" = true) (k12 : PySem.W.keepIn K (.ref f12) = true)
    (a13 : PySem.W.nsIn K mainGlobals "_law_turned" = some (some (.ref f13))) (l13 : K.lookup f13 = some ⟨oc13, od13, .func (PySem.W.fnOf "_law_turned" "_law_turned" (defArgs s__law_turned) (defBody s__law_turned) (defScope s__law_turned) .none kV13 dc13 pm13 an13 cd13 ct13), sl13⟩) (c13 : PySem.W.codeIn K cd13 "_law_turned" = true) (k13 : PySem.W.keepIn K (.ref f13) = true)
    (a14 : PySem.W.nsIn K mainGlobals "_law_solid" = some (some (.ref f14))) (l14 : K.lookup f14 = some ⟨oc14, od14, .func (PySem.W.fnOf "_law_solid" "_law_solid" (defArgs s__law_solid) (defBody s__law_solid) (defScope s__law_solid) .none kV14 dc14 pm14 an14 cd14 ct14), sl14⟩) (c14 : PySem.W.codeIn K cd14 "_law_solid" = true) (k14 : PySem.W.keepIn K (.ref f14) = true)
    (a15 : PySem.W.nsIn K mainGlobals "_law_cube_turned" = some (some (.ref f15))) (l15 : K.lookup f15 = some ⟨oc15, od15, .func (PySem.W.fnOf "_law_cube_turned" "_law_cube_turned" (defArgs s__law_cube_turned) (defBody s__law_cube_turned) (defScope s__law_cube_turned) .none kV15 dc15 pm15 an15 cd15 ct15), sl15⟩) (c15 : PySem.W.codeIn K cd15 "_law_cube_turned" = true) (k15 : PySem.W.keepIn K (.ref f15) = true)
    (a16 : PySem.W.nsIn K mainGlobals "_law_cubes_alike" = some (some (.ref f16))) (l16 : K.lookup f16 = some ⟨oc16, od16, .func (PySem.W.fnOf "_law_cubes_alike" "_law_cubes_alike" (defArgs s__law_cubes_alike) (defBody s__law_cubes_alike) (defScope s__law_cubes_alike) .none kV16 dc16 pm16 an16 cd16 ct16), sl16⟩) (c16 : PySem.W.codeIn K cd16 "_law_cubes_alike" = true) (k16 : PySem.W.keepIn K (.ref f16) = true)
    (a17 : PySem.W.nsIn K mainGlobals "_law_shift" = some (some (.ref f17))) (l17 : K.lookup f17 = some ⟨oc17, od17, .func (PySem.W.fnOf "_law_shift" "_law_shift" (defArgs s__law_shift) (defBody s__law_shift) (defScope s__law_shift) .none kV17 dc17 pm17 an17 cd17 ct17), sl17⟩) (c17 : PySem.W.codeIn K cd17 "_law_shift" = true) (k17 : PySem.W.keepIn K (.ref f17) = true)
    (a18 : PySem.W.nsIn K mainGlobals "_law_due" = some (some (.ref f18))) (l18 : K.lookup f18 = some ⟨oc18, od18, .func (PySem.W.fnOf "_law_due" "_law_due" (defArgs s__law_due) (defBody s__law_due) (defScope s__law_due) .none kV18 dc18 pm18 an18 cd18 ct18), sl18⟩) (c18 : PySem.W.codeIn K cd18 "_law_due" = true) (k18 : PySem.W.keepIn K (.ref f18) = true)
    (a19 : PySem.W.nsIn K mainGlobals "law" = some (some (.ref f19))) (l19 : K.lookup f19 = some ⟨oc19, od19, .func (PySem.W.fnOf "law" "law" (defArgs s_law) (defBody s_law) (defScope s_law) .none kV19 dc19 pm19 an19 cd19 ct19), sl19⟩) (c19 : PySem.W.codeIn K cd19 "law" = true) (k19 : PySem.W.keepIn K (.ref f19) = true)
    (y5 : K.lookup df5 = some ⟨df5c, df5d, .seq #[.none] df5n, df5s⟩)
    (z0 : PySem.W.nsIn K mainGlobals "tuple" = some none)
    (z1 : PySem.W.nsIn K mainGlobals "range" = some none)
    (z2 : PySem.W.nsIn K mainGlobals "sorted" = some none)
    (z3 : PySem.W.nsIn K mainGlobals "len" = some none)
    (z4 : PySem.W.nsIn K mainGlobals "isinstance" = some none)
    (z5 : PySem.W.nsIn K mainGlobals "int" = some none)
    (z6 : PySem.W.nsIn K mainGlobals "bool" = some none)
    (z7 : PySem.W.nsIn K mainGlobals "list" = some none)
    : ∃ fd : FuncData, (∀ (s : Shared) (v : Value), BindsTo s fd ⟨[v], []⟩ [("_law_script", v)]) ∧ ∀ base : Heap, K.In base → base.Ns mainGlobals mg → FnOk l.prog w K mg base CX0 4 fa fd ["_law_script"] (spLawT K 63) := by
  have e := hfa.symm.trans (PySem.W.mg_of X G a19)
  cases e
  have F0 := fun_mk (st := s_added) l0 c0 k0
  have b0 := F0.binds (ps := ["one", "other"]) fun _ _ _ _ _ _ us hl => match us, hl with | [_, _], _ => rfl
  have F1 := fun_mk (st := s_turned) l1 c1 k1
  have b1 := F1.binds (ps := ["turn", "spot"]) fun _ _ _ _ _ _ us hl => match us, hl with | [_, _], _ => rfl
  have F2 := fun_mk (st := s_joined_turns) l2 c2 k2
  have b2 := F2.binds (ps := ["first", "second"]) fun _ _ _ _ _ _ us hl => match us, hl with | [_, _], _ => rfl
  have F3 := fun_mk (st := s_middle_of) l3 c3 k3
  have b3 := F3.binds (ps := ["cube"]) fun _ _ _ _ _ _ us hl => match us, hl with | [_], _ => rfl
  have F4 := fun_mk (st := s_cube_of) l4 c4 k4
  have b4 := F4.binds (ps := ["spot"]) fun _ _ _ _ _ _ us hl => match us, hl with | [_], _ => rfl
  have F5 := fung_mk (st := s_solid_turned) l5 c5 k5
  have F6 := fun_mk (st := s__law_cell_at) l6 c6 k6
  have b6 := F6.binds (ps := ["_law_script", "_law_k"]) fun _ _ _ _ _ _ us hl => match us, hl with | [_, _], _ => rfl
  have F7 := fun_mk (st := s__law_whole) l7 c7 k7
  have b7 := F7.binds (ps := ["_law_found"]) fun _ _ _ _ _ _ us hl => match us, hl with | [_], _ => rfl
  have F8 := fun_mk (st := s__law_triple) l8 c8 k8
  have b8 := F8.binds (ps := ["_law_found", "_law_due_here"]) fun _ _ _ _ _ _ us hl => match us, hl with | [_, _], _ => rfl
  have F9 := fun_mk (st := s__law_offset) l9 c9 k9
  have b9 := F9.binds (ps := ["_law_cell"]) fun _ _ _ _ _ _ us hl => match us, hl with | [_], _ => rfl
  have F10 := fun_mk (st := s__law_cross) l10 c10 k10
  have b10 := F10.binds (ps := ["_law_one", "_law_other"]) fun _ _ _ _ _ _ us hl => match us, hl with | [_, _], _ => rfl
  have F11 := fun_mk (st := s__law_units) l11 c11 k11
  have b11 := F11.binds (ps := []) fun _ _ _ _ _ _ us hl => match us, hl with | [], _ => rfl
  have F12 := fun_mk (st := s__law_turn) l12 c12 k12
  have b12 := F12.binds (ps := ["_law_cell"]) fun _ _ _ _ _ _ us hl => match us, hl with | [_], _ => rfl
  have F13 := fun_mk (st := s__law_turned) l13 c13 k13
  have b13 := F13.binds (ps := ["_law_turn_here", "_law_spot"]) fun _ _ _ _ _ _ us hl => match us, hl with | [_, _], _ => rfl
  have F14 := fun_mk (st := s__law_solid) l14 c14 k14
  have b14 := F14.binds (ps := ["_law_cells", "_law_most"]) fun _ _ _ _ _ _ us hl => match us, hl with | [_, _], _ => rfl
  have F15 := fun_mk (st := s__law_cube_turned) l15 c15 k15
  have b15 := F15.binds (ps := ["_law_turn_here", "_law_shift_here", "_law_cube"]) fun _ _ _ _ _ _ us hl => match us, hl with | [_, _, _], _ => rfl
  have F16 := fun_mk (st := s__law_cubes_alike) l16 c16 k16
  have b16 := F16.binds (ps := ["_law_found", "_law_due_here"]) fun _ _ _ _ _ _ us hl => match us, hl with | [_, _], _ => rfl
  have F17 := fun_mk (st := s__law_shift) l17 c17 k17
  have b17 := F17.binds (ps := ["_law_script", "_law_at"]) fun _ _ _ _ _ _ us hl => match us, hl with | [_, _], _ => rfl
  have F18 := fun_mk (st := s__law_due) l18 c18 k18
  have b18 := F18.binds (ps := ["_law_turn_here", "_law_shift_here", "_law_solid_here"]) fun _ _ _ _ _ _ us hl => match us, hl with | [_, _, _], _ => rfl
  have F19 := fun_mk (st := s_law) l19 c19 k19
  have z_tuple := PySem.W.mg_none_of X G z0
  have z_range := PySem.W.mg_none_of X G z1
  have z_sorted := PySem.W.mg_none_of X G z2
  have z_len := PySem.W.mg_none_of X G z3
  have z_isinstance := PySem.W.mg_none_of X G z4
  have z_int := PySem.W.mg_none_of X G z5
  have z_bool := PySem.W.mg_none_of X G z6
  have z_list := PySem.W.mg_none_of X G z7
  refine ⟨PySem.W.fnOf "law" "law" (defArgs s_law) (defBody s_law) (defScope s_law) .none kV19 dc19 pm19 an19 cd19 ct19, fun s v => .of_eq rfl, fun base _ _ => ?_⟩
  have b19 := F19.binds (ps := ["_law_script"]) fun _ _ _ _ _ _ us hl => match us, hl with | [_], _ => rfl
  have K_added := k_added (P := l.prog) (w := w) (base := base) F0 (PySem.W.mg_of X G a0) b0
  have K_turned := k_turned (P := l.prog) (w := w) (base := base) F1 (PySem.W.mg_of X G a1) b1 z_tuple z_range
  have K_joined_turns := k_joined_turns (P := l.prog) (w := w) (base := base) F2 (PySem.W.mg_of X G a2) b2 K_turned
  have K_middle_of := k_middle_of (P := l.prog) (w := w) (base := base) F3 (PySem.W.mg_of X G a3) b3
  have K_cube_of := k_cube_of (P := l.prog) (w := w) (base := base) F4 (PySem.W.mg_of X G a4) b4
  have O5 := o_solid_turned (P := l.prog) (w := w) (mg := mg) (base := base) F5 K_added K_cube_of K_turned K_middle_of z_sorted
  have K_solid_turned : KnownN l.prog w K mg base "solid_turned" 3 2 f_solid_turned := ⟨_, _, _, O5, PySem.W.mg_of X G a5, F5.kp, binds_dflt (us := []) (j := 3) y5 rfl rfl (fun xs hl => match xs, hl with | [_, _, _], _ => ⟨_, rfl, rfl⟩)⟩
  have X_solid_turned_1 : KnownNX l.prog w K mg base "solid_turned" 3 2 f_solid_turned [.none] := ⟨_, _, _, _, [.non], O5, PySem.W.mg_of X G a5, F5.kp, binds_dflt (us := [.none]) (j := 2) y5 rfl rfl (fun xs hl => match xs, hl with | [_, _], _ => ⟨_, rfl, rfl⟩), (.cons rfl .nil), fun H S => (.cons .none .nil)⟩
  have K__law_cell_at := k__law_cell_at (P := l.prog) (w := w) (base := base) F6 (PySem.W.mg_of X G a6) b6 z_len
  have K__law_whole := k__law_whole (P := l.prog) (w := w) (base := base) F7 (PySem.W.mg_of X G a7) b7 z_isinstance z_int z_bool
  have K__law_triple := k__law_triple (P := l.prog) (w := w) (base := base) F8 (PySem.W.mg_of X G a8) b8 K__law_whole z_isinstance z_tuple z_len
  have K__law_offset := k__law_offset (P := l.prog) (w := w) (base := base) F9 (PySem.W.mg_of X G a9) b9
  have K__law_cross := k__law_cross (P := l.prog) (w := w) (base := base) F10 (PySem.W.mg_of X G a10) b10
  have K__law_units := k__law_units (P := l.prog) (w := w) (base := base) F11 (PySem.W.mg_of X G a11) b11
  have K__law_turn := k__law_turn (P := l.prog) (w := w) (base := base) F12 (PySem.W.mg_of X G a12) b12 K__law_units K__law_cross
  have K__law_turned := k__law_turned (P := l.prog) (w := w) (base := base) F13 (PySem.W.mg_of X G a13) b13 z_tuple z_range
  have K__law_solid := k__law_solid (P := l.prog) (w := w) (base := base) F14 (PySem.W.mg_of X G a14) b14 K__law_units z_len z_sorted
  have K__law_cube_turned := k__law_cube_turned (P := l.prog) (w := w) (base := base) F15 (PySem.W.mg_of X G a15) b15 K__law_turned
  have K__law_cubes_alike := k__law_cubes_alike (P := l.prog) (w := w) (base := base) F16 (PySem.W.mg_of X G a16) b16 K__law_triple z_isinstance z_list z_len z_range
  have K__law_shift := k__law_shift (P := l.prog) (w := w) (base := base) F17 (PySem.W.mg_of X G a17) b17 K__law_offset K__law_cell_at z_tuple z_range
  have K__law_due := k__law_due (P := l.prog) (w := w) (base := base) F18 (PySem.W.mg_of X G a18) b18 K__law_cube_turned z_sorted
  exact law_true (ok_law (P := l.prog) (w := w) (base := base) F19 K__law_solid K__law_turn K__law_cell_at K__law_shift K_solid_turned K__law_cubes_alike K__law_due K_joined_turns X_solid_turned_1 z_list) law_holds
end SF
open PySem PySem.W PyProof.Rows
set_option maxRecDepth 100000 in
set_option maxHeartbeats 0 in
theorem PySem.Challenge.cw_sheetfold_k31_solids_turned_holds : PySem.Challenge.rw_sheetfold_k31_solids_turned.Holds := by
  w_on; o_law; k_head; (case hw => w_witness2)
  k_fill
  refine L2.walk_pure (l := PySem.Challenge.rw_sheetfold_k31_solids_turned) (n := 63) (k := 4) (x := "_law_script") rfl (by decide) rfl ⟨rfl, by decide, by decide⟩ (fun w h Y => PySem.W.kIn_of Y) ?F
  case F =>
    intro w mg fa h KX G hmg
    refine' SF.all_mk KX G hmg ?a0 ?l0 ?c0 ?k0 ?a1 ?l1 ?c1 ?k1 ?a2 ?l2 ?c2 ?k2 ?a3 ?l3 ?c3 ?k3 ?a4 ?l4 ?c4 ?k4 ?a5 ?l5 ?c5 ?k5 ?a6 ?l6 ?c6 ?k6 ?a7 ?l7 ?c7 ?k7 ?a8 ?l8 ?c8 ?k8 ?a9 ?l9 ?c9 ?k9 ?a10 ?l10 ?c10 ?k10 ?a11 ?l11 ?c11 ?k11 ?a12 ?l12 ?c12 ?k12 ?a13 ?l13 ?c13 ?k13 ?a14 ?l14 ?c14 ?k14 ?a15 ?l15 ?c15 ?k15 ?a16 ?l16 ?c16 ?k16 ?a17 ?l17 ?c17 ?k17 ?a18 ?l18 ?c18 ?k18 ?a19 ?l19 ?c19 ?k19 ?y5 ?z0 ?z1 ?z2 ?z3 ?z4 ?z5 ?z6 ?z7
    (case a0 => k_is); (case l0 => k_is); (case c0 => k_is); (case k0 => k_is)
    (case a1 => k_is); (case l1 => k_is); (case c1 => k_is); (case k1 => k_is)
    (case a2 => k_is); (case l2 => k_is); (case c2 => k_is); (case k2 => k_is)
    (case a3 => k_is); (case l3 => k_is); (case c3 => k_is); (case k3 => k_is)
    (case a4 => k_is); (case l4 => k_is); (case c4 => k_is); (case k4 => k_is)
    (case a5 => k_is); (case l5 => k_is); (case c5 => k_is); (case k5 => k_is)
    (case a6 => k_is); (case l6 => k_is); (case c6 => k_is); (case k6 => k_is)
    (case a7 => k_is); (case l7 => k_is); (case c7 => k_is); (case k7 => k_is)
    (case a8 => k_is); (case l8 => k_is); (case c8 => k_is); (case k8 => k_is)
    (case a9 => k_is); (case l9 => k_is); (case c9 => k_is); (case k9 => k_is)
    (case a10 => k_is); (case l10 => k_is); (case c10 => k_is); (case k10 => k_is)
    (case a11 => k_is); (case l11 => k_is); (case c11 => k_is); (case k11 => k_is)
    (case a12 => k_is); (case l12 => k_is); (case c12 => k_is); (case k12 => k_is)
    (case a13 => k_is); (case l13 => k_is); (case c13 => k_is); (case k13 => k_is)
    (case a14 => k_is); (case l14 => k_is); (case c14 => k_is); (case k14 => k_is)
    (case a15 => k_is); (case l15 => k_is); (case c15 => k_is); (case k15 => k_is)
    (case a16 => k_is); (case l16 => k_is); (case c16 => k_is); (case k16 => k_is)
    (case a17 => k_is); (case l17 => k_is); (case c17 => k_is); (case k17 => k_is)
    (case a18 => k_is); (case l18 => k_is); (case c18 => k_is); (case k18 => k_is)
    (case a19 => k_is); (case l19 => k_is); (case c19 => k_is); (case k19 => k_is)
    (case y5 => k_is)
    (case z0 => k_is)
    (case z1 => k_is)
    (case z2 => k_is)
    (case z3 => k_is)
    (case z4 => k_is)
    (case z5 => k_is)
    (case z6 => k_is)
    (case z7 => k_is)
