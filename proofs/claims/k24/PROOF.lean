import PyProof.Rows.All
import Wide.All
import OpenK.AllK
import Wide.FinOn
import Lean
import PyProof.EqAt
import PyProof.EqKinds
import PyProof.TupleCall
import PySem.Challenge.RW_sheetfold_k24_joins_of_a_skin
set_option Elab.async false
set_option linter.all false
set_option maxRecDepth 100000
namespace L2
open PySem PySem.Spec PyProof.Rows
noncomputable abbrev Key:=Sum Int Str
noncomputable def qiR:Key->Value->Bool
 | .inl k,v=>Value.isInt k v
 | .inr x,v=>Value.isStrOf x v
noncomputable def keyH (w:World):Key->Int
 | .inl k=>hashInt k
 | .inr x=>hashStr w x
theorem zg:∀ {k:Key} {v:Value},qiR k v=true->(∃ i t,k=Sum.inl i/\v=Value.int i t)\/(∃ x t,k=Sum.inr x/\v=Value.str x t)
 | .inl i,v,h=>by
  obtain ⟨t,e⟩:=Value.isInt_shape (k:=i) (v:=v) h
  exact .inl ⟨i,t,rfl,e⟩
 | .inr x,v,h=>by
  obtain ⟨t,e⟩:=Value.isStrOf_shape (x:=x) (v:=v) h
  exact .inr ⟨x,t,rfl,e⟩
theorem qjy (a b:Int):decide ((Sum.inl a:Key)=Sum.inl b)=(a == b):=by
 by_cases e:a=b
 ·subst e;simp
 ·have h:¬ (Sum.inl a:Key)=Sum.inl b:=fun q=>e (Sum.inl.inj q)
  rw [decide_eq_false h]
  exact (beq_eq_false_iff_ne.mpr e).symm
theorem qjB (a b:Str):decide ((Sum.inr a:Key)=Sum.inr b)=decide (a=b):=by
 by_cases e:a=b
 ·subst e;simp
 ·have h:¬ (Sum.inr a:Key)=Sum.inr b:=fun q=>e (Sum.inr.inj q)
  rw [decide_eq_false h,decide_eq_false e]
theorem qjz (a:Int) (b:Str):decide ((Sum.inl a:Key)=Sum.inr b)=false:=decide_eq_false (fun q=>nomatch q)
theorem qjA (a:Str) (b:Int):decide ((Sum.inr a:Key)=Sum.inl b)=false:=decide_eq_false (fun q=>nomatch q)
noncomputable def qdb (prog:Program) (w:World):PySem.KeyKind prog w Key where
 is:=qiR
 hash:=keyH w
 inj:=fun v a b ha hb=>by
  rcases zg ha with ⟨i,t,rfl,rfl⟩ | ⟨x,t,rfl,rfl⟩
  ·rcases zg hb with ⟨j,u,rfl,e⟩ | ⟨y,u,rfl,e⟩
   ·injection e with e1 _;rw [e1]
   ·exact nomatch e
  ·rcases zg hb with ⟨j,u,rfl,e⟩ | ⟨y,u,rfl,e⟩
   ·exact nomatch e
   ·injection e with e1 _;rw [e1]
 byValue:=fun k v h=>by
  rcases zg h with ⟨i,t,rfl,rfl⟩ | ⟨x,t,rfl,rfl⟩<;>rfl
 pyHash:=fun hv h=>by
  rcases zg hv with ⟨i,t,rfl,rfl⟩ | ⟨x,t,rfl,rfl⟩
  ·exact wpAny_pyHash_int h
  ·exact wpAny_pyHash_str h
 eqBool:=fun hu hv h=>by
  rcases zg hu with ⟨i,t,rfl,rfl⟩ | ⟨x,t,rfl,rfl⟩
  ·rcases zg hv with ⟨j,u,rfl,rfl⟩ | ⟨y,u,rfl,rfl⟩
   ·rw [qjy] at h;exact wpAny_eqBool_int h
   ·rw [qjz] at h;exact SeqAt.EqAt.int_str i t y u _ _ _ _ h
  ·rcases zg hv with ⟨j,u,rfl,rfl⟩ | ⟨y,u,rfl,rfl⟩
   ·rw [qjA] at h;exact SeqAt.EqAt.str_int x t j u _ _ _ _ h
   ·rw [qjB] at h;exact wpAny_eqBool_str h
 «strs»:=fun k x t v h=>by
  rcases zg h with ⟨i,u,rfl,e⟩ | ⟨y,u,rfl,e⟩
  ·exact nomatch e
  ·injection e with e1 _
   subst e1
   cases v<;>rfl
inductive V where
 | non | bl (b:Bool) | int (i:Int) | str (x:Str) | byt (b:Array UInt8) | flt (b:UInt64) | ref (a:Addr) | ty (n:String)
 deriving DecidableEq
noncomputable def RelV:V->Value->Prop
 | .non,u=>u=Value.none
 | .bl b,u=>u=Value.bool b
 | .int i,u=>∃ t,u=Value.int i t
 | .str x,u=>∃ t,u=Value.str x t
 | .byt b,u=>∃ t,u=Value.bytes b t
 | .flt b,u=>∃ t,u=Value.float b t
 | .ref a,u=>u=Value.ref a
 | .ty n,u=>u=Value.type n
noncomputable abbrev Vals:List V->List Value->Prop:=Paired RelV
theorem Vals.length {xs:List V} {us:List Value} (r:Vals xs us):xs.length=us.length:=Paired.length r
theorem Vals.get:∀ {xs:List V} {us:List Value} {i:Nat} {x:V},Vals xs us->xs[i]?=some x->∃ u,us[i]?=some u/\RelV x u
 | _,_,_,_,.nil,e=>by simp at e
 | _,_,0,_,.cons r _,e=>by simp at e;subst e;exact ⟨_,rfl,r⟩
 | _,_,i + 1,x,.cons _ t,e=>by
  obtain ⟨u,h1,h2⟩:=Vals.get (i:=i) (x:=x) t (by simpa using e)
  exact ⟨u,by simpa using h1,h2⟩
theorem Vals.set {x:V} {u:Value} (r:RelV x u):∀ {xs:List V} {us:List Value} (i:Nat),Vals xs us->Vals (xs.set i x) (us.set i u)
 | _,_,_,.nil=>.nil
 | _,_,0,.cons _ t=>.cons r t
 | _,_,i + 1,.cons q t=>.cons q (Vals.set r i t)
theorem Vals.append:∀ {xs ys:List V} {us ws:List Value},Vals xs us->Vals ys ws->Vals (xs ++ ys) (us ++ ws)
 | _,_,_,_,.nil,s=>s
 | _,_,_,_,.cons r t,s=>.cons r (Vals.append t s)
theorem Vals.take:∀ {xs:List V} {us:List Value} (n:Nat),Vals xs us->Vals (xs.take n) (us.take n)
 | _,_,0,_=>.nil
 | _,_,_ + 1,.nil=>.nil
 | _,_,n + 1,.cons r t=>.cons r (Vals.take n t)
theorem Vals.drop:∀ {xs:List V} {us:List Value} (n:Nat),Vals xs us->Vals (xs.drop n) (us.drop n)
 | _,_,0,r=>r
 | _,_,_ + 1,.nil=>.nil
 | _,_,n + 1,.cons _ t=>Vals.drop n t
noncomputable def RelO:Option V->Option Value->Prop
 | some v,some u=>RelV v u
 | none,none=>True
 | _,_=>False
noncomputable def KV {κ:Type}:List (κ×V)->List (κ×Value)->Prop:=Paired fun (p:κ×V) (q:κ×Value)=>p.1=q.1/\RelV p.2 q.2
noncomputable def kV:Key->V
 | .inl i=>.int i
 | .inr x=>.str x
inductive HO where
 | lst (xs:List V)
 | tup (xs:List V)
 | dK (kvs:List (Key×V)) | dT (kvs:List (List Key×V))
 | set (S:Int->Bool) (n:Nat)
 | ins (C dx:Addr) (fs:List (Str×V))
 | own (x:Addr)
 | xd (fs:List (Str×V))
 | met (f x:Addr)
 | rng (lo hi:Int)
 | frz (o:Obj) (u:HO)
 | tbl (ps:Array Value)
 | ext (φ:Heap->Prop)
noncomputable abbrev Hp:=Addr->Option HO
noncomputable def upd (H:Hp) (a:Addr) (o:HO):Hp:=fun b=>if b=a then some o else H b
theorem qK {H:Hp} {a:Addr} {o:HO}:upd H a o a=some o:=by unfold upd;rw [if_pos rfl]
theorem qD {H:Hp} {a b:Addr} {o:HO} (h:b≠a):upd H a o b=H b:=by unfold upd;rw [if_neg h]
theorem zH {H:Hp} {a b:Addr} {o:HO} (h:H a=some o) (h':H b=none):a≠b:=by
 intro e;subst e;rw [h] at h';cases h'
section
variable (P:Program) (w:World)
noncomputable def Qp (H:Hp) (h:Heap) (a:Addr):HO->Prop
 | .lst xs=>xs.length <= sizeLine/\∃ (its:List Value) (n:Nat),Vals xs its/\h.get? a=some { cls:=.type "list", data:=.seq its.toArray n }
 | .tup xs=>xs.length <= sizeLine/\∃ its:List Value,Vals xs its/\IsTup h a its.toArray
 | .dK kvs=>kvs.length <= sizeLine/\(a == sysModules)=false/\∃ vs,KV kvs vs/\h.DictOf (qdb P w) a vs
 | .dT kvs=>kvs.length <= sizeLine/\(a == sysModules)=false/\∃ xs:List (List Key×Addr×Value),
   Paired (fun (p:List Key×V) (q:List Key×Addr×Value)=>p.1=q.1/\H q.2.1=some (.tup (p.1.map kV))/\RelV p.2 q.2.2) kvs xs/\
   ∃ o es ep,h.get? a=some o/\o.ExactDict/\o.data=.dict es ep/\es.toList=xs.map (entryOfKey (tupleKind (qdb P w)))/\(xs.map (·.1)).Nodup
 | .set S n=>h.SetOf (intKind P w) a S n
 | .ins C dx fs=>H dx=some (.own a)/\fs.length <= 1000/\dx≠a/\h.get? a=some (PySem.W.instObj C dx)/\
   ∃ mA,h.Ns1 dx mA/\(∀ f,RelO (fs.lookup f) (mA f))/\PySem.Within mA (fs.map (·.1))
 | .own _=>∃ o,h.get? a=some o
 | .xd fs=>∃ mA,h.Ns1 a mA/\∀ f,RelO (fs.lookup f) (mA f)
 | .rng lo hi=>∃ t u v,h.get? a=some { cls:=.type "range", data:=.fields #[.int lo t,.int hi u,.int 1 v] }
 | .frz o u=>h.get? a=some o/\Qp H h a u
 | .tbl ps=>h.get? a=some { cls:=.none,data:=.fields ps }
 | .met f x=>h.get? a=some (PySem.W.methodObj (.ref f) (.ref x))
 | .ext φ=>φ h/\(∃ o,h.get? a=some o)/\∀ h1 h2:Heap,φ h1->(∀ o,h1.get? a=some o->h2.get? a=some o)->φ h2
noncomputable def HOk (H:Hp) (h:Heap):Prop:=∀ a o,H a=some o->Qp P w H h a o
end
section
variable {P:Program} {w:World} {H H':Hp} {h h':Heap} {a:Addr} {o:HO}
theorem Qp.lt (x:Qp P w H h a o):a < h.objs.size:=by
 cases o with
 | lst xs=>obtain ⟨_,_,_,_,e⟩:=x;exact Heap.lt_size e
 | tup xs=>obtain ⟨_,_,_,p⟩:=x;exact p.lt
 | dK kvs=>obtain ⟨_,_,_,_,o,_,_,e,_⟩:=x;exact Heap.lt_size e
 | dT kvs=>obtain ⟨_,_,_,_,o,_,_,e,_⟩:=x;exact Heap.lt_size e
 | set S n=>obtain ⟨o,_,_,_,e,_⟩:=x;exact Heap.lt_size e
 | ins C dx fs=>obtain ⟨_,_,_,e,_⟩:=x;exact Heap.lt_size e
 | own y=>obtain ⟨_,e⟩:=x;exact Heap.lt_size e
 | xd fs=>obtain ⟨_,⟨_,_,_,e,_⟩,_⟩:=x;exact Heap.lt_size e
 | rng lo hi=>obtain ⟨_,_,_,e⟩:=x;exact Heap.lt_size e
 | frz ob u=>obtain ⟨e,_⟩:=x;exact Heap.lt_size e
 | tbl ps=>exact Heap.lt_size (show h.get? a=some _ from x)
 | met f y=>exact Heap.lt_size (show h.get? a=some _ from x)
 | ext φ=>obtain ⟨_,⟨_,e⟩,_⟩:=x;exact Heap.lt_size e
theorem Paired.mapP {α β:Type} {F G:α->β->Prop}:∀ {l₁:List α} {l₂:List β},Paired F l₁ l₂->(∀ a b,F a b->G a b)->Paired G l₁ l₂
 | _,_,.nil,_=>.nil
 | _,_,.cons r t,f=>.cons (f _ _ r) (Paired.mapP t f)
theorem Qp.stay (x:Qp P w H h a o) (k:∀ b u,(b=a\/H b=some (.own a))->h.get? b=some u->h'.get? b=some u)
  (ho:∀ b,H b=some (.own a)->H' b=some (.own a)) (ht:∀ b xs,H b=some (.tup xs)->H' b=some (.tup xs)):Qp P w H' h' a o:=by
 induction o with
 | lst xs=>obtain ⟨z,its,n,r,e⟩:=x;exact ⟨z,its,n,r,k _ _ (.inl rfl) e⟩
 | tup xs=>obtain ⟨z,its,r,ob,e,c⟩:=x;exact ⟨z,its,r,ob,k _ _ (.inl rfl) e,c⟩
 | dK kvs=>obtain ⟨z,y,vs,r,ob,es,ep,e,c⟩:=x;exact ⟨z,y,vs,r,ob,es,ep,k _ _ (.inl rfl) e,c⟩
 | dT kvs =>
  obtain ⟨z,y,xs,r,ob,es,ep,e,c⟩:=x
  exact ⟨z,y,xs,Paired.mapP r fun p q z=>⟨z.1,ht _ _ z.2.1,z.2.2⟩,ob,es,ep,k _ _ (.inl rfl) e,c⟩
 | set S n=>obtain ⟨ob,es,ep,t,e,c⟩:=x;exact ⟨ob,es,ep,t,k _ _ (.inl rfl) e,c⟩
 | ins C dx fs =>
  obtain ⟨d,z,ne,e,mA,⟨od,es,ep,e2,c⟩,r⟩:=x
  exact ⟨ho _ d,z,ne,k _ _ (.inl rfl) e,mA,⟨od,es,ep,k _ _ (.inr d) e2,c⟩,r⟩
 | own y=>obtain ⟨ob,e⟩:=x;exact ⟨ob,k _ _ (.inl rfl) e⟩
 | xd fs=>obtain ⟨mA,⟨od,es,ep,e,c⟩,r⟩:=x;exact ⟨mA,⟨od,es,ep,k _ _ (.inl rfl) e,c⟩,r⟩
 | rng lo hi=>obtain ⟨t,u,v,e⟩:=x;exact ⟨t,u,v,k _ _ (.inl rfl) e⟩
 | frz ob u ih=>obtain ⟨e,q⟩:=x;exact ⟨k _ _ (.inl rfl) e,ih q⟩
 | tbl ps =>
  have e:h.get? a=some { cls:=.none,data:=.fields ps }:=x
  show h'.get? a=some { cls:=.none,data:=.fields ps }
  exact k a _ (.inl rfl) e
 | met f y =>
  have e:h.get? a=some (PySem.W.methodObj (.ref f) (.ref y)):=x
  show h'.get? a=some (PySem.W.methodObj (.ref f) (.ref y))
  exact k a _ (.inl rfl) e
 | ext φ=>obtain ⟨p,⟨o,e⟩,st⟩:=x;exact ⟨st _ _ p fun o q=>k _ _ (.inl rfl) q,⟨o,k _ _ (.inl rfl) e⟩,st⟩
theorem HOk.lt (x:HOk P w H h) (e:H a=some o):a < h.objs.size:=(x a o e).lt
theorem HOk.fresh (x:HOk P w H h) (e:h.objs.size <= a):H a=none:=by
 cases q:H a with
 | none=>rfl
 | some u=>exact absurd (Nat.lt_of_lt_of_le (x.lt q) e) (Nat.lt_irrefl _)
theorem HOk.kept (x:HOk P w H h) (k:∀ b u,h.get? b=some u->h'.get? b=some u):HOk P w H h':=fun a o e =>
 (x a o e).stay (fun b u _ q=>k b u q) (fun _ q=>q) fun _ _ q=>q
theorem HOk.laid (x:HOk P w H h) (k:∀ b u,h.get? b=some u->h'.get? b=some u) (hp:h.objs.size <= a) (new:Qp P w (upd H a o) h' a o):HOk P w (upd H a o) h':=fun b u e=>by
 have hn:=x.fresh hp
 by_cases hb:b=a
 ·subst hb;rw [qK] at e;cases e;exact new
 ·rw [qD hb] at e
  exact (x b u e).stay (fun c v _ q=>k c v q) (fun c q=>by rw [qD (zH q hn)];exact q) fun c xs q=>by rw [qD (zH q hn)];exact q
end
noncomputable def Rd (H:Hp) (a:Addr) (u:HO):Prop:=H a=some u\/∃ o,H a=some (.frz o u)
theorem Rd.ok {P:Program} {w:World} {H:Hp} {h:Heap} {a:Addr} {u:HO} (r:Rd H a u) (x:HOk P w H h):Qp P w H h a u:=by
 rcases r with r | ⟨o,r⟩
 ·exact x a u r
 ·obtain ⟨_,q⟩:=x a _ r
  exact q
noncomputable def Mut:Option HO->Prop
 | some (.lst _)=>True
 | some (.dK _)=>True
 | some (.dT _)=>True
 | some (.set _ _)=>True
 | some (.ins _ _ _)=>True
 | some (.ext _)=>True
 | _=>False
section
variable {P:Program} {w:World} {H:Hp} {h h':Heap} {x e:Addr} {o':HO}
theorem HOk.write (ok:HOk P w H h) (mu:Mut (H x)) (he:e=x\/H e=some (.own x)) (k:∀ b u,b≠e->h.get? b=some u->h'.get? b=some u) (heo:∃ u,h'.get? e=some u)
  (new:Qp P w (upd H x o') h' x o'):HOk P w (upd H x o') h':=fun b u q=>by
 have nown:∀ c y,H c=some (.own y)->c≠x:=fun c y r z=>by subst z;rw [r] at mu;exact mu
 have ntup:∀ c xs,H c=some (.tup xs)->c≠x:=fun c xs r z=>by subst z;rw [r] at mu;exact mu
 by_cases hb:b=x
 ·subst hb;rw [qK] at q;cases q;exact new
 ·rw [qD hb] at q
  by_cases hbe:b=e
  ·have q':H b=some (.own x):=by
    rcases he with z | z
    ·exact absurd (hbe.trans z) hb
    ·rw [hbe];exact z
   rw [q] at q';cases q'
   obtain ⟨v,hv⟩:=heo
   exact ⟨v,by rw [hbe];exact hv⟩
  ·refine (ok b u q).stay (fun c v hc r=>k c v ?_ r) (fun c r=>by rw [qD (nown c b r)];exact r) fun c xs r=>by rw [qD (ntup c xs r)];exact r
   rcases hc with rfl | hc
   ·exact hbe
   ·rintro rfl
    rcases he with z | z
    ·exact nown c b hc z
    ·rw [hc] at z;cases z;exact hb rfl
end
structure Un (fs ex:List Addr) (H H':Hp) (h h':Heap):Prop where
 keep:∀ b o,h.get? b=some o->H b=none->b∉fs->b∉ex->h'.get? b=some o
 slot:∀ b o,h.get? b=some o->H b=none->b∈fs->b∉ex->∃ sl,h'.get? b=some { o with slots:=sl }
 free:∀ b o,h.get? b=some o->H b=none->b∉ex->H' b=none
 there:∀ b o,h.get? b=some o->b∉ex->∃ o',h'.get? b=some o'
 tups:∀ b xs,H b=some (.tup xs)->H' b=some (.tup xs)
 frzs:∀ b o u,H b=some (.frz o u)->H' b=some (.frz o u)
 tbls:∀ b ps,H b=some (.tbl ps)->∃ more,H' b=some (.tbl (ps ++ more))
section
variable {fs fs' ex ex':List Addr} {H H1 H2:Hp} {h h1 h2 h':Heap} {a x e:Addr} {o:HO}
theorem Un.any (u:Un fs ex H H1 h h1) {b:Addr} {ob:Obj} (q:h.get? b=some ob) (n:H b=none) (hx:b∉ex):∃ sl,h1.get? b=some { ob with slots:=sl }:=by
 by_cases hb:b∈fs
 ·exact u.slot b ob q n hb hx
 ·exact ⟨ob.slots,u.keep b ob q n hb hx⟩
theorem Un.trans (a:Un fs ex H H1 h h1) (b:Un fs ex H1 H2 h1 h2):Un fs ex H H2 h h2 where
 keep:=fun c ob q n hc hx=>b.keep c ob (a.keep c ob q n hc hx) (a.free c ob q n hx) hc hx
 slot:=fun c ob q n hc hx=>by
  obtain ⟨sl,e1⟩:=a.slot c ob q n hc hx
  obtain ⟨sl',e2⟩:=b.slot c _ e1 (a.free c ob q n hx) hc hx
  exact ⟨sl',e2⟩
 free:=fun c ob q n hx=>by
  obtain ⟨o',e1⟩:=a.there c ob q hx
  exact b.free c o' e1 (a.free c ob q n hx) hx
 there:=fun c ob q hx=>by
  obtain ⟨o',e1⟩:=a.there c ob q hx
  exact b.there c o' e1 hx
 tups:=fun c xs q=>b.tups c xs (a.tups c xs q)
 frzs:=fun c ob xs q=>b.frzs c ob xs (a.frzs c ob xs q)
 tbls:=fun c ps q=>by
  obtain ⟨m1,e1⟩:=a.tbls c ps q
  obtain ⟨m2,e2⟩:=b.tbls c _ e1
  exact ⟨m1 ++ m2,by rw [e2,Array.append_assoc]⟩
theorem Un.kept (k:∀ b u,h.get? b=some u->h'.get? b=some u):Un fs ex H H h h' :=
 ⟨fun b ob q _ _ _=>k b ob q,fun b ob q _ _ _=>⟨ob.slots,k b ob q⟩,fun _ _ _ n _=>n,fun b ob q _=>⟨ob,k b ob q⟩,fun _ _ q=>q,fun _ _ _ q=>q,fun _ ps q=>⟨#[],by rw [q];simp⟩⟩
theorem Un.refl:Un fs ex H H h h:=Un.kept fun _ _ q=>q
theorem Un.laid (k:∀ b u,h.get? b=some u->h'.get? b=some u) (hp:h.objs.size <= a) (hn:H a=none):Un fs ex H (upd H a o) h h' where
 keep:=fun b u q _ _ _=>k b u q
 slot:=fun b u q _ _ _=>⟨u.slots,k b u q⟩
 free:=fun b u q n _=>by rw [qD (Nat.ne_of_lt (Nat.lt_of_lt_of_le (Heap.lt_size q) hp))];exact n
 there:=fun b u q _=>⟨u,k b u q⟩
 tups:=fun b xs q=>by rw [qD (zH q hn)];exact q
 frzs:=fun b u xs q=>by rw [qD (zH q hn)];exact q
 tbls:=fun b ps q=>⟨#[],by rw [qD (zH q hn),q];simp⟩
theorem Un.write (mu:Mut (H x)) (he:e=x\/H e=some (.own x)) (k:∀ b u,b≠e->h.get? b=some u->h'.get? b=some u) (heo:∃ u,h'.get? e=some u):Un fs ex H (upd H x o) h h':=by
 have hx:∀ b,H b=none->b≠x:=fun b n z=>by subst z;rw [n] at mu;exact mu
 have hb:∀ b,H b=none->b≠e:=fun b n z=>by
  subst z
  rcases he with r | r
  ·exact hx b n r
  ·rw [n] at r;cases r
 have hm:∀ b u,H b=some u->¬ Mut (some u)->b≠x:=fun b u q nm z=>by subst z;rw [q] at mu;exact nm mu
 refine ⟨fun b u q n _ _=>k b u (hb b n) q,fun b u q n _ _=>⟨u.slots,k b u (hb b n) q⟩,fun b u q n _=>by rw [qD (hx b n)];exact n,fun b u q _=>?_,
  fun b xs q=>by rw [qD (hm b _ q fun z=>z)];exact q,fun b u xs q=>by rw [qD (hm b _ q fun z=>z)];exact q,fun b ps q=>⟨#[],by rw [qD (hm b _ q fun z=>z),q];simp⟩⟩
 by_cases hbe:b=e
 ·subst hbe;exact heo
 ·exact ⟨u,k b u hbe q⟩
end
noncomputable def trk (h:Heap) (H:Hp):List Addr:=(List.range h.objs.size).filter fun a=>(H a).isSome
noncomputable def hidT (h:Heap) (H:Hp):Heap:=PySem.W.hideAll h (trk h H)
theorem qdS (h:Heap) (H:Hp):(hidT h H).objs.size=h.objs.size:=PySem.W.hideAll_size _ _
theorem qfy {h:Heap} {H:Hp} {b:Addr} {o:Obj} (e:h.get? b=some o) (n:H b=none):(hidT h H).get? b=some o :=
 PySem.W.hideAll_get _ e fun hm=>by
  have q:(H b).isSome=true:=(List.mem_filter.mp hm).2
  rw [n] at q;simp at q
theorem qhI {h:Heap} {H:Hp} {b:Addr} {o:Obj} (e:(hidT h H).get? b=some o):h.get? b=some o/\H b=none:=by
 have e':h.get? b=some o:=PySem.W.of_hideAll (trk h H) e
 refine ⟨e',?_⟩
 cases q:H b with
 | none=>rfl
 | some x =>
  have hm:b∈trk h H:=List.mem_filter.mpr ⟨List.mem_range.mpr (Heap.lt_size e'),by simp [q]⟩
  have z:(hidT h H).get? b=none:=PySem.W.hideAll_none (trk h H) hm
  rw [z] at e;cases e
structure Mod (K:PySem.W.Frag) (mg:Str->Option Value) (base:Heap):Prop where
 kin:K.In base
 glob:base.Ns mainGlobals mg
 blt:∃ mb,base.Ns builtinsNs mb/\∀ x:Str,x ≠ "__name__"->mb x=bootBuiltins x
 nolimit:base.NoLimit
structure Cx where
 prog:Program
 w:World
 K:PySem.W.Frag
 mg:Str->Option Value
 base:Heap
 A:Around
 N:List Str
 s₀:Shared
 H₀:Hp
 env:Env
 outer:List Env
 stack:List Env
 ex:List Addr
 fn:Str->Bool
 calm:Bool
 pn:List (Addr×Obj)
 xe:Value->Shared->Prop
noncomputable def frs (l:List Env):List Addr:=l.filterMap (·.frame)
noncomputable abbrev Cx.fs (X:Cx):List Addr:=frs X.outer
noncomputable def Vis (sc:Scope) (x:Str):Prop:=sc.names.lookup x=some .local\/sc.names.lookup x=some .cell\/sc.names.lookup x=some .free
noncomputable def Loc (sc:Scope) (x:Str):Prop:=sc.names.lookup x=some .local\/sc.names.lookup x=some .cell
noncomputable def Look (env:Env) (h:Heap) (m:Str->Option Value) (x:Str) (u:Value):Prop :=
 (env.kindOf x=some .local/\m x=some u)\/((env.kindOf x=some .cell\/env.kindOf x=some .free)/\∃ c,env.cells.lookup x=some c/\h.IsCell c (some u))
structure Cx.Ok (X:Cx):Prop where
 mod:Mod X.K X.mg X.base
 kind:X.env.scope.kind=.function
 glob:X.env.globals=mainGlobals
 blt:X.env.builtins=builtinsNs
 above:X.s₀.heap.objs.size <= X.env.locals
 inj:∀ x y c,X.env.cells.lookup x=some c->X.env.cells.lookup y=some c->x=y
 has:∀ x,(X.env.kindOf x=some .cell\/X.env.kindOf x=some .free)->∃ c,X.env.cells.lookup x=some c
 cab:∀ x c,X.fn x=true->X.env.cells.lookup x=some c->X.s₀.heap.objs.size <= c
 hd:X.calm=true->X.A.handled=none
 frames:X.A.frames=some X.stack
 stk:X.stack=X.outer\/(X.stack=X.env :: X.outer/\X.env.frame=some X.env.locals)
 exf:∀ b∈X.ex,b≠X.env.locals/\∀ x c,X.env.cells.lookup x=some c->c≠b
 bs:∀ b o,X.base.get? b=some o->X.s₀.heap.get? b=some o/\X.H₀ b=none
 bsz:X.base.objs.size <= X.s₀.heap.objs.size
 noex:∀ b o,X.base.get? b=some o->b∉X.ex
 exfs:∀ b∈X.ex,b∉X.fs
 funs:X.s₀.heap.FunFrames X.base X.outer
 frf:∀ b∈X.fs,X.H₀ b=none
structure Inv (X:Cx) (pins:List (Addr×Obj)) (σ:List (Option V)) (H:Hp) (s:Shared):Prop where
 ok:X.Ok
 os:s.os=X.s₀.os
 bare:AllBare s.gens
 base:Un X.fs X.ex X.H₀ H X.s₀.heap s.heap
 loc:∃ m,s.heap.Ns X.env.locals m/\∀ (i:Nat) (x:Str) (v:V),X.N[i]?=some x->σ[i]?=some (some v)->Vis X.env.scope x->∃ u,RelV v u/\Look X.env s.heap m x u
 cell:∀ x c,X.env.cells.lookup x=some c->∃ v,s.heap.IsCell c v
 free:H X.env.locals=none
 freeC:∀ x c,X.env.cells.lookup x=some c->H c=none
 pin:∀ p∈X.pn ++ pins,s.heap.get? p.1=some p.2/\H p.1=none/\p.1≠X.env.locals/\p.1∉X.fs/\∀ v,p.2.data≠.cell v
 hok:HOk X.prog X.w H s.heap
 len:σ.length=X.N.length
section
variable {X:Cx} {pins:List (Addr×Obj)} {σ:List (Option V)} {H H':Hp} {s:Shared} {h':Heap}
theorem Cx.Ok.nofr (ok:X.Ok) {b:Addr} {o:Obj} (e:X.base.get? b=some o):b∉X.fs:=fun hb=>by
 have:=(ok.funs.mem hb).1
 rw [e] at this;cases this
theorem Inv.bs (I:Inv X pins σ H s):∀ b o,X.base.get? b=some o->s.heap.get? b=some o/\H b=none:=fun b o e =>
 ⟨I.base.keep b o (I.ok.bs b o e).1 (I.ok.bs b o e).2 (I.ok.nofr e) (I.ok.noex b o e),I.base.free b o (I.ok.bs b o e).1 (I.ok.bs b o e).2 (I.ok.noex b o e)⟩
theorem Inv.bk (I:Inv X pins σ H s):∀ b o,X.base.get? b=some o->s.heap.get? b=some o:=fun b o e=>(I.bs b o e).1
theorem Inv.mod (I:Inv X pins σ H s):Mod X.K X.mg X.base:=I.ok.mod
theorem Inv.kIn (I:Inv X pins σ H s):X.K.In s.heap:=I.ok.mod.kin.keeps I.bk
theorem Inv.lt (I:Inv X pins σ H s):X.env.locals < s.heap.objs.size:=let ⟨_,hn,_⟩:=I.loc;hn.lt
theorem Inv.sz (I:Inv X pins σ H s):X.s₀.heap.objs.size <= s.heap.objs.size:=Nat.le_trans I.ok.above (Nat.le_of_lt I.lt)
theorem Inv.nofs (I:Inv X pins σ H s) {a:Addr} (h:s.heap.objs.size <= a):a∉X.fs:=fun hb=>by
 obtain ⟨_,o,ho,_⟩:=I.ok.funs.mem hb
 exact absurd (Nat.lt_of_lt_of_le (Heap.lt_size ho) (Nat.le_trans I.sz h)) (Nat.lt_irrefl _)
theorem Inv.cne (I:Inv X pins σ H s):∀ x c,X.env.cells.lookup x=some c->c≠X.env.locals:=fun x c e z=>by
 obtain ⟨v,o,ho,hd⟩:=I.cell x c e
 obtain ⟨m,⟨o',es,ep,ho',hd',_⟩,_⟩:=I.loc
 rw [z,ho'] at ho;cases ho;rw [hd'] at hd;cases hd
theorem Inv.funs (I:Inv X pins σ H s):s.heap.FunFrames X.base X.outer:=by
 have all:∀ (l:List Env),(∀ b∈frs l,b∈X.fs)->X.s₀.heap.FunFrames X.base l->s.heap.FunFrames X.base l:=by
  intro l
  induction l with
  | nil=>intro _ _;trivial
  | cons env r ih =>
   intro hs hl
   obtain ⟨hk,⟨L,o,hf,hn,ho,hd⟩,hr⟩:=hl
   have hL:L∈X.fs:=hs L (by unfold frs;rw [List.filterMap_cons,hf];exact List.mem_cons_self)
   obtain ⟨sl,e⟩:=I.base.slot L o ho (I.ok.frf L hL) hL fun z=>I.ok.exfs L z hL
   exact ⟨hk,⟨L,_,hf,hn,e,hd⟩,ih (fun b hb=>hs b (by unfold frs;rw [List.filterMap_cons,hf];exact List.mem_cons_of_mem _ hb)) hr⟩
 exact all X.outer (fun _ hb=>hb) I.ok.funs
theorem Inv.stack (I:Inv X pins σ H s):s.heap.FunFrames X.base X.stack:=by
 rcases I.ok.stk with e | ⟨e,hf⟩
 ·rw [e];exact I.funs
 ·rw [e]
  obtain ⟨m,hn,_⟩:=I.loc
  refine .cons (by rw [I.ok.kind];decide) hf hn ?_ I.funs
  exact Heap.get?_none_of_le (Nat.le_trans I.ok.bsz I.ok.above)
theorem Inv.stkSub (I:Inv X pins σ H s):∀ b∈frs X.stack,b∈X.env.locals :: X.fs:=fun b hb=>by
 rcases I.ok.stk with e | ⟨e,hf⟩
 ·rw [e] at hb;exact List.mem_cons_of_mem _ hb
 ·rw [e] at hb
  unfold frs at hb
  rw [List.filterMap_cons,hf] at hb
  exact hb
theorem Inv.stkFree (I:Inv X pins σ H s):∀ b∈frs X.stack,H b=none:=fun b hb=>by
 rcases List.mem_cons.mp (I.stkSub b hb) with e | hb
 ·rw [e];exact I.free
 ·obtain ⟨_,o,ho,_⟩:=I.ok.funs.mem hb
  exact I.base.free b o ho (I.ok.frf b hb) fun z=>I.ok.exfs b z hb
theorem Inv.step {g':Array GenState} {t':Nat} {d':Drawn} {ch:List Addr} (I:Inv X pins σ H s)
  (hch:∀ b∈ch,(b∈X.ex\/X.s₀.heap.objs.size <= b)/\b≠X.env.locals/\(∀ x c,X.env.cells.lookup x=some c->c≠b)/\∀ p∈X.pn ++ pins,p.1≠b)
  (keep:∀ b o,b≠X.env.locals->b∉X.fs->b∉ch->s.heap.get? b=some o->H b=none->h'.get? b=some o)
  (slot:∀ b o,b≠X.env.locals->b∈X.fs->b∉ch->s.heap.get? b=some o->H b=none->∃ sl,h'.get? b=some { o with slots:=sl }) (free:∀ b o,b∉ch->s.heap.get? b=some o->H b=none->H' b=none)
  (there:∀ b o,b∉ch->s.heap.get? b=some o->∃ o',h'.get? b=some o')
  (tups:∀ b xs,H b=some (.tup xs)->H' b=some (.tup xs)) (frzs:∀ b o u,H b=some (.frz o u)->H' b=some (.frz o u)) (tbls:∀ b ps,H b=some (.tbl ps)->∃ more,H' b=some (.tbl (ps ++ more)))
  (ns:∀ m,s.heap.Ns X.env.locals m->h'.Ns X.env.locals m) (hok:HOk X.prog X.w H' h') (hg:AllBare g') :
  Inv X pins σ H' { s with heap:=h',gens:=g',drawn:=d',toks:=t' }:=by
 have neL:∀ b o,X.s₀.heap.get? b=some o->b≠X.env.locals:=fun b o e=>Nat.ne_of_lt (Nat.lt_of_lt_of_le (Heap.lt_size e) I.ok.above)
 have neC:∀ b o,X.s₀.heap.get? b=some o->b∉X.ex->b∉ch:=fun b o e hx hb=>by
  rcases (hch b hb).1 with z | z
  ·exact hx z
  ·exact absurd (Nat.lt_of_lt_of_le (Heap.lt_size e) z) (Nat.lt_irrefl _)
 have cellK:∀ x c,X.env.cells.lookup x=some c->∀ v,s.heap.IsCell c v->h'.IsCell c v:=fun x c e v ⟨o,ho,hd⟩=>by
  have nch:c∉ch:=fun z=>(hch c z).2.2.1 x c e rfl
  by_cases hc:c∈X.fs
  ·obtain ⟨sl,q⟩:=slot c o (I.cne x c e) hc nch ho (I.freeC x c e)
   exact ⟨_,q,hd⟩
  ·exact ⟨o,keep c o (I.cne x c e) hc nch ho (I.freeC x c e),hd⟩
 refine ⟨I.ok,I.os,hg,⟨fun b o e n hb hx=>?_,fun b o e n hb hx=>?_,fun b o e n hx=>?_,fun b o e hx=>?_,fun b xs e=>tups b xs (I.base.tups b xs e),fun b o xs e=>frzs b o xs (I.base.frzs b o xs e),fun b ps e=>?_⟩,?_,fun x c e=>?_,?_,fun x c e=>?_,fun p hp=>?_,hok,I.len⟩
 ·exact keep b o (neL b o e) hb (neC b o e hx) (I.base.keep b o e n hb hx) (I.base.free b o e n hx)
 ·obtain ⟨sl,e1⟩:=I.base.slot b o e n hb hx
  obtain ⟨sl',e2⟩:=slot b _ (neL b o e) hb (neC b o e hx) e1 (I.base.free b o e n hx)
  exact ⟨sl',e2⟩
 ·obtain ⟨o',e1⟩:=I.base.there b o e hx
  exact free b o' (neC b o e hx) e1 (I.base.free b o e n hx)
 ·obtain ⟨o',e1⟩:=I.base.there b o e hx
  exact there b o' (neC b o e hx) e1
 ·obtain ⟨m1,e1⟩:=I.base.tbls b ps e
  obtain ⟨m2,e2⟩:=tbls b _ e1
  exact ⟨m1 ++ m2,by rw [e2,Array.append_assoc]⟩
 ·obtain ⟨m,hn,hl⟩:=I.loc
  refine ⟨m,ns m hn,fun i x v e1 e2 e3=>?_⟩
  obtain ⟨u,r,l⟩:=hl i x v e1 e2 e3
  refine ⟨u,r,?_⟩
  rcases l with l | ⟨k,c,e,z⟩
  ·exact .inl l
  ·exact .inr ⟨k,c,e,cellK x c e _ z⟩
 ·obtain ⟨v,z⟩:=I.cell x c e
  exact ⟨v,cellK x c e v z⟩
 ·obtain ⟨m,⟨o,_,_,ho,_⟩,_⟩:=I.loc
  exact free _ o (fun z=>(hch _ z).2.1 rfl) ho I.free
 ·obtain ⟨v,o,ho,hd⟩:=I.cell x c e
  exact free c o (fun z=>(hch c z).2.2.1 x c e rfl) ho (I.freeC x c e)
 ·obtain ⟨e,n,ne,nf,d⟩:=I.pin p hp
  have nch:p.1∉ch:=fun z=>(hch p.1 z).2.2.2 p hp rfl
  exact ⟨keep p.1 p.2 ne nf nch e n,free p.1 p.2 nch e n,ne,nf,d⟩
theorem Inv.un {t':Nat} (I:Inv X pins σ H s) (u:Un X.fs [] H H' s.heap h') (hok:HOk X.prog X.w H' h'):Inv X pins σ H' { s with heap:=h',toks:=t' }:=by
 obtain ⟨m,⟨o,es,ep,ho,r⟩,_⟩:=id I.loc
 obtain ⟨sl,hL⟩:=u.any ho I.free (by simp)
 exact I.step (g':=s.gens) (d':=s.drawn) (ch:=[]) (fun _ z=>nomatch z) (fun b o _ hb _ e n=>u.keep b o e n hb (by simp)) (fun b o _ hb _ e n=>u.slot b o e n hb (by simp)) (fun b o _ e n=>u.free b o e n (by simp)) (fun b o _ e=>u.there b o e (by simp)) u.tups u.frzs u.tbls (fun m' hm=>by
  obtain ⟨o',es',ep',ho',r'⟩:=hm
  rw [ho] at ho';cases ho'
  exact ⟨_,es',ep',hL,r'⟩) hok I.bare
theorem Inv.call {g':Array GenState} {t':Nat} {d':Drawn} {ch:List Addr} (I:Inv X pins σ H s) (u:Un (frs X.stack) ch H H' s.heap h') (hok:HOk X.prog X.w H' h') (hg:AllBare g')
  (hch:∀ b∈ch,(b∈X.ex\/X.s₀.heap.objs.size <= b)/\b≠X.env.locals/\(∀ x c,X.env.cells.lookup x=some c->c≠b)/\∀ p∈X.pn ++ pins,p.1≠b) :
  Inv X pins σ H' { s with heap:=h',gens:=g',drawn:=d',toks:=t' }:=by
 obtain ⟨m,⟨o,es,ep,ho,r⟩,_⟩:=id I.loc
 obtain ⟨sl,hL⟩:=u.any ho I.free fun z=>(hch _ z).2.1 rfl
 exact I.step (ch:=ch) hch (fun b o hL hb hc e n=>u.keep b o e n (fun z=>(List.mem_cons.mp (I.stkSub b z)).elim hL hb) hc) (fun b o _ _ hc e n=>u.any e n hc) (fun b o hc e n=>u.free b o e n hc) (fun b o hc e=>u.there b o e hc) u.tups u.frzs u.tbls (fun m' hm=>by
  obtain ⟨o',es',ep',ho',r'⟩:=hm
  rw [ho] at ho';cases ho'
  exact ⟨_,es',ep',hL,r'⟩) hok hg
theorem Inv.turned {t':Nat} {it:Addr} (I:Inv X pins σ H s) (k:∀ b o,b≠it->s.heap.get? b=some o->h'.get? b=some o) (hn:H it=none) (hL:it≠X.env.locals)
  (h1:it∈X.ex\/X.s₀.heap.objs.size <= it) (h2:∀ x c,X.env.cells.lookup x=some c->c≠it) (h3:∀ p∈X.pn ++ pins,p.1≠it):Inv X pins σ H { s with heap:=h',toks:=t' }:=by
 have nit:∀ b u,H b=some u->b≠it:=fun b u e z=>by rw [z,hn] at e;cases e
 refine I.step (g':=s.gens) (d':=s.drawn) (ch:=[it]) (fun b hb=>?_) (fun b o _ _ hc e _=>k b o (fun z=>hc (by simp [z])) e) (fun b o _ _ hc e _=>⟨o.slots,k b o (fun z=>hc (by simp [z])) e⟩) (fun _ _ _ _ n=>n)
  (fun b o hc e=>⟨o,k b o (fun z=>hc (by simp [z])) e⟩) (fun _ _ e=>e) (fun _ _ _ e=>e) (fun b ps e=>⟨#[],by rw [e];simp⟩) (fun m hm=>?_) (fun b u e=>?_) I.bare
 ·have e:b=it:=by simpa using hb
  subst e
  exact ⟨h1,hL,h2,h3⟩
 ·obtain ⟨o,es,ep,ho,r⟩:=hm
  exact ⟨o,es,ep,k _ o (Ne.symm hL) ho,r⟩
 ·refine (I.hok b u e).stay (fun c v hc q=>k c v ?_ q) (fun _ q=>q) fun _ _ q=>q
  rcases hc with z | z
  ·rw [z];exact nit b u e
  ·exact nit c _ z
theorem Inv.tok (I:Inv X pins σ H s) (t:Nat):Inv X pins σ H { s with toks:=t }:=I.un (h':=s.heap) (t':=t) Un.refl I.hok
theorem Inv.kept {t':Nat} (I:Inv X pins σ H s) (k:∀ b u,s.heap.get? b=some u->h'.get? b=some u):Inv X pins σ H { s with heap:=h',toks:=t' }:=I.un (Un.kept k) (I.hok.kept k)
theorem Inv.laid {a:Addr} {o:HO} {t':Nat} (I:Inv X pins σ H s) (k:∀ b u,s.heap.get? b=some u->h'.get? b=some u) (hp:s.heap.objs.size <= a) (new:Qp X.prog X.w (upd H a o) h' a o) :
  Inv X pins σ (upd H a o) { s with heap:=h',toks:=t' }:=I.un (Un.laid k hp (I.hok.fresh hp)) (I.hok.laid k hp new)
theorem Inv.write {x e:Addr} {o:HO} {t':Nat} (I:Inv X pins σ H s) (mu:Mut (H x)) (he:e=x\/H e=some (.own x)) (k:∀ b u,b≠e->s.heap.get? b=some u->h'.get? b=some u) (heo:∃ u,h'.get? e=some u)
  (new:Qp X.prog X.w (upd H x o) h' x o):Inv X pins σ (upd H x o) { s with heap:=h',toks:=t' }:=I.un (Un.write mu he k heo) (I.hok.write mu he k heo new)
theorem Inv.pins_of {pins':List (Addr×Obj)} (I:Inv X pins σ H s) (h:∀ p∈pins',s.heap.get? p.1=some p.2/\H p.1=none/\p.1≠X.env.locals/\p.1∉X.fs/\∀ v,p.2.data≠.cell v):Inv X pins' σ H s :=
 ⟨I.ok,I.os,I.bare,I.base,I.loc,I.cell,I.free,I.freeC,fun p hp=>(List.mem_append.mp hp).elim (fun z=>I.pin p (List.mem_append_left _ z)) (h p),I.hok,I.len⟩
theorem qbc {N:List Str} (hN:N.Nodup) {i j:Nat} {x:Str} (a:N[i]?=some x) (b:N[j]?=some x):i=j:=by
 obtain ⟨h1,e1⟩:=List.getElem?_eq_some_iff.mp a
 obtain ⟨h2,e2⟩:=List.getElem?_eq_some_iff.mp b
 exact (List.getElem_inj hN).mp (e1.trans e2.symm)
theorem Ws {M:Model} {A:Around} {E:Value->Shared->Prop} {i:Nat} {x:Str} {v:V} {u:Value} {Q:Unit->Shared->Prop} (I:Inv X pins σ H s) (hN:X.N.Nodup) (hi:X.N[i]?=some x) (hx:Loc X.env.scope x) (r:RelV v u)
  (h:∀ s',Inv X pins (σ.set i (some v)) H s'->(∃ a,Heap.SameBut a s.heap s'.heap/\(a=X.env.locals\/X.env.cells.lookup x=some a))->Q () s') (hf:X.fn x=true\/X.env.scope.names.lookup x=some .local:=by first | exact .inl rfl | exact .inr rfl | assumption):wpAny M A (storeName X.env x u) Q E s:=by
 obtain ⟨m,hn,hl⟩:=id I.loc
 have hcls:(X.env.scope.kind == .class || (X.env.scope.kind == .module && X.env.locals != X.env.globals))=false:=by rw [I.ok.kind];rfl
 have hiσ:i < σ.length:=by rw [I.len];exact (List.getElem?_eq_some_iff.mp hi).1
 have cne:=I.cne
 have tracked:∀ {a:Addr} {h':Heap},(∃ o,s.heap.get? a=some o/\H a=none)->Heap.SameBut a s.heap h'->HOk X.prog X.w H h':=fun {a h'} ha hs b ob e=>by
  obtain ⟨_,_,hfree⟩:=ha
  refine (I.hok b ob e).stay (fun c w' hc q=>(hs.2 c ?_).trans q) (fun _ q=>q) fun _ _ q=>q
  rintro rfl
  rcases hc with rfl | hc
  ·rw [hfree] at e;cases e
  ·rw [hfree] at hc;cases hc
 rcases hx with hk | hk
 ·refine wpAny_storeName_local hk hn (fun h' hn' hs=>?_) hcls
  obtain ⟨oL,_,_,hoL,_⟩:=id hn
  refine h _ ⟨I.ok,I.os,I.bare,⟨fun b o e n hb hx=>?_,fun b o e n hb hx=>?_,I.base.free,fun b o e hx=>?_,I.base.tups,I.base.frzs,I.base.tbls⟩,⟨_,hn',fun j y v' e1 e2 e3=>?_⟩,fun y c e=>?_,I.free,I.freeC,fun p hp=>?_,tracked ⟨oL,hoL,I.free⟩ hs,by simpa using I.len⟩ ⟨_,hs,.inl rfl⟩
  ·exact (hs.2 b (Nat.ne_of_lt (Nat.lt_of_lt_of_le (Heap.lt_size e) I.ok.above))).trans (I.base.keep b o e n hb hx)
  ·obtain ⟨sl,e1⟩:=I.base.slot b o e n hb hx
   exact ⟨sl,(hs.2 b (Nat.ne_of_lt (Nat.lt_of_lt_of_le (Heap.lt_size e) I.ok.above))).trans e1⟩
  ·obtain ⟨o',e1⟩:=I.base.there b o e hx
   exact ⟨o',(hs.2 b (Nat.ne_of_lt (Nat.lt_of_lt_of_le (Heap.lt_size e) I.ok.above))).trans e1⟩
  ·by_cases hj:j=i
   ·subst hj
    rw [hi] at e1;cases e1
    rw [List.getElem?_set_self hiσ] at e2
    cases e2
    exact ⟨u,r,.inl ⟨hk,by simp⟩⟩
   ·rw [List.getElem?_set_ne (Ne.symm hj)] at e2
    obtain ⟨u',r',q⟩:=hl j y v' e1 e2 e3
    refine ⟨u',r',?_⟩
    rcases q with ⟨k,e⟩ | ⟨k,c,e,z⟩
    ·refine .inl ⟨k,?_⟩
     have:y≠x:=fun e=>hj (qbc hN e1 (e ▸ hi))
     simp [this,e]
    ·exact .inr ⟨k,c,e,z.sameBut hs (cne y c e)⟩
  ·obtain ⟨w',z⟩:=I.cell y c e
   exact ⟨w',z.sameBut hs (cne y c e)⟩
  ·obtain ⟨e,n,ne,nf,d⟩:=I.pin p hp
   exact ⟨(hs.2 p.1 ne).trans e,n,ne,nf,d⟩
 ·have hfn:X.fn x=true:=by
   rcases hf with z | z
   ·exact z
   ·rw [z] at hk;cases hk
  obtain ⟨c,hc⟩:=I.ok.has x (.inl hk)
  obtain ⟨w',z⟩:=I.cell x c hc
  refine wpAny_storeName_cell I.ok.kind hk hc z (fun h' hc' hs=>?_)
  obtain ⟨oc,hoc,hocd⟩:=id z
  refine h { s with heap:=h' } ⟨I.ok,I.os,I.bare,⟨fun b o e n hb hx=>?_,fun b o e n hb hx=>?_,I.base.free,fun b o e hx=>?_,I.base.tups,I.base.frzs,I.base.tbls⟩,⟨m,hn.sameBut hs (Ne.symm (cne x c hc)),fun j y v' e1 e2 e3=>?_⟩,fun y c' e=>?_,I.free,I.freeC,fun p hp=>?_,tracked ⟨oc,hoc,I.freeC x c hc⟩ hs,by simpa using I.len⟩ ⟨c,hs,.inr hc⟩
  ·exact (hs.2 b (Nat.ne_of_lt (Nat.lt_of_lt_of_le (Heap.lt_size e) (I.ok.cab x c hfn hc)))).trans (I.base.keep b o e n hb hx)
  ·obtain ⟨sl,e1⟩:=I.base.slot b o e n hb hx
   exact ⟨sl,(hs.2 b (Nat.ne_of_lt (Nat.lt_of_lt_of_le (Heap.lt_size e) (I.ok.cab x c hfn hc)))).trans e1⟩
  ·obtain ⟨o',e1⟩:=I.base.there b o e hx
   exact ⟨o',(hs.2 b (Nat.ne_of_lt (Nat.lt_of_lt_of_le (Heap.lt_size e) (I.ok.cab x c hfn hc)))).trans e1⟩
  ·by_cases hj:j=i
   ·subst hj
    rw [hi] at e1;cases e1
    rw [List.getElem?_set_self hiσ] at e2
    cases e2
    exact ⟨u,r,.inr ⟨.inl hk,c,hc,hc'⟩⟩
   ·rw [List.getElem?_set_ne (Ne.symm hj)] at e2
    obtain ⟨u',r',q⟩:=hl j y v' e1 e2 e3
    refine ⟨u',r',?_⟩
    rcases q with q | ⟨k,c',e,z'⟩
    ·exact .inl q
    ·refine .inr ⟨k,c',e,z'.sameBut hs ?_⟩
     rintro rfl
     exact hj (qbc hN e1 (I.ok.inj _ _ _ e hc ▸ hi))
  ·by_cases hcc:c'=c
   ·subst hcc;exact ⟨_,hc'⟩
   ·obtain ⟨w2,z2⟩:=I.cell y c' e
    exact ⟨w2,z2.sameBut hs hcc⟩
  ·obtain ⟨e,n,ne,nf,d⟩:=I.pin p hp
   refine ⟨(hs.2 p.1 ?_).trans e,n,ne,nf,d⟩
   intro q
   rw [q,hoc] at e
   have q':oc=p.2:=Option.some.inj e
   exact d w' (by rw [← q'];exact hocd)
theorem qbF {M:Model} {A:Around} {E:Value->Shared->Prop} {i:Nat} {x:Str} {v:V} {u:Value} {Q:Unit->Shared->Prop} (I:Inv X pins σ H s) (hN:X.N.Nodup) (hi:X.N[i]?=some x) (hx:Loc X.env.scope x) (r:RelV v u)
  (h:∀ s',Inv X pins (σ.set i (some v)) H s'->Q () s') (hf:X.fn x=true\/X.env.scope.names.lookup x=some .local:=by first | exact .inl rfl | exact .inr rfl | assumption):wpAny M A (storeName X.env x u) Q E s :=
 Ws I hN hi hx r (fun s' I' _=>h s' I') hf
theorem Inv.call' {s':Shared} {ch:List Addr} (I:Inv X pins σ H s) (ho:s'.os=s.os) (u:Un (frs X.stack) ch H H' s.heap s'.heap) (hok:HOk X.prog X.w H' s'.heap) (hg:AllBare s'.gens)
  (hch:∀ b∈ch,(b∈X.ex\/X.s₀.heap.objs.size <= b)/\b≠X.env.locals/\(∀ x c,X.env.cells.lookup x=some c->c≠b)/\∀ p∈X.pn ++ pins,p.1≠b):Inv X pins σ H' s':=by
 obtain ⟨h',g',d',t',o'⟩:=s'
 have e:o'=s.os:=ho
 subst e
 exact I.call (g':=g') (t':=t') (d':=d') u hok hg hch
end
noncomputable abbrev XK:=Value->Option Addr->Hp->Prop
noncomputable abbrev St:=List (Option V)
noncomputable abbrev VK:=V->Hp->Prop
noncomputable abbrev TE:=St->Hp->VK->Prop
noncomputable abbrev TT:=St->Hp->(Bool->Hp->Prop)->Prop
noncomputable abbrev TA:=St->Hp->(List V->Hp->Prop)->Prop
structure Ends where
 nx:St->Hp->Prop
 rt:VK
 bk:St->Hp->Prop:=fun _ _=>False
 ct:St->Hp->Prop:=fun _ _=>False
noncomputable abbrev TS:=Ends->St->Hp->Prop
noncomputable def EP (X:Cx) (pins:List (Addr×Obj)) (σ:St) (Q:VK) (u:Value) (s':Shared):Prop:=∃ v H',Inv X pins σ H' s'/\RelV v u/\Q v H'
noncomputable def TP (X:Cx) (pins:List (Addr×Obj)) (σ:St) (Q:Bool->Hp->Prop) (b:Bool) (s':Shared):Prop:=∃ H',Inv X pins σ H' s'/\Q b H'
noncomputable def AP (X:Cx) (pins:List (Addr×Obj)) (σ:St) (Q:List V->Hp->Prop) (us:List Value) (s':Shared):Prop:=∃ vs H',Inv X pins σ H' s'/\Vals vs us/\Q vs H'
noncomputable def SP (X:Cx) (pins:List (Addr×Obj)) (D:Ends) (f:Flow) (s':Shared):Prop :=
 match f with
 | .next=>∃ σ' H',Inv X pins σ' H' s'/\D.nx σ' H'
 | .brk=>∃ σ' H',Inv X pins σ' H' s'/\D.bk σ' H'
 | .cont=>∃ σ' H',Inv X pins σ' H' s'/\D.ct σ' H'
 | .ret u=>∃ v σ' H',Inv X pins σ' H' s'/\RelV v u/\D.rt v H'
noncomputable def PE (X:Cx) (e:Expr) (t:TE):Prop :=
 ∀ (pins:List (Addr×Obj)) (s:Shared) (σ:St) (H:Hp) (Q:VK),Inv X pins σ H s->t σ H Q->wpAny (model X.prog X.w) X.A (eval e X.env) (EP X pins σ Q) X.xe s
noncomputable def PT (X:Cx) (e:Expr) (t:TT):Prop :=
 ∀ (pins:List (Addr×Obj)) (s:Shared) (σ:St) (H:Hp) (Q:Bool->Hp->Prop),Inv X pins σ H s->t σ H Q->wpAny (model X.prog X.w) X.A (isTrue e X.env (eval e X.env)) (TP X pins σ Q) X.xe s
noncomputable def PW (X:Cx) (e:Expr) (t:TT):Prop :=
 ∀ (whole:Sem Value) (pins:List (Addr×Obj)) (s:Shared) (σ:St) (H:Hp) (Q:Bool->Hp->Prop),Inv X pins σ H s->t σ H Q->wpAny (model X.prog X.w) X.A (isTrue e X.env whole) (TP X pins σ Q) X.xe s
theorem PW.pt {X:Cx} {e:Expr} {t:TT} (h:PW X e t):PT X e t:=h _
noncomputable def PA (X:Cx) (es:List Expr) (t:TA):Prop :=
 ∀ (pos:Pos) (pins:List (Addr×Obj)) (s:Shared) (σ:St) (H:Hp) (Q:List V->Hp->Prop),Inv X pins σ H s->t σ H Q->wpAny (model X.prog X.w) X.A (spliced (backTo pos (starEach es X.env))) (AP X pins σ Q) X.xe s
noncomputable def PS (X:Cx) (st:Stmt) (t:TS):Prop :=
 ∀ (pins:List (Addr×Obj)) (s:Shared) (σ:St) (H:Hp) (D:Ends),Inv X pins σ H s->t D σ H->wpAny (model X.prog X.w) X.A (exec st X.env) (SP X pins D) X.xe s
noncomputable def PSs (X:Cx) (st:List Stmt) (t:TS):Prop :=
 ∀ (pins:List (Addr×Obj)) (s:Shared) (σ:St) (H:Hp) (D:Ends),Inv X pins σ H s->t D σ H->wpAny (model X.prog X.w) X.A (execs st X.env) (SP X pins D) X.xe s
theorem thn {α:Type} {t:Sem α} {Q Q':α->Shared->Prop} {M:Model} {A:Around} {E:Value->Shared->Prop} {s:Shared} (h:wpAny M A t Q E s) (hQ:∀ a s,Q a s->Q' a s):wpAny M A t Q' E s:=wpAny_mono h hQ fun _ _ x=>x
section
variable {X:Cx}
noncomputable def tVar (i:Nat):TE:=fun σ H Q=>∃ v,σ[i]?=some (some v)/\Q v H
noncomputable def tC (v:V):TE:=fun _ H Q=>Q v H
theorem qgh {i:Nat} {x:Str} {pos:Pos} (hN:X.N[i]?=some x) (hv:Vis X.env.scope x) (hd:(x == ("__debug__" : Str))=false:=by decide) (hcd:(x == ("__classdict__" : Str))=false:=by decide):PE X (.Name x pos) (tVar i):=by
 intro pins s σ H Q I h
 obtain ⟨v,e,h⟩:=h
 obtain ⟨m,hn,hl⟩:=I.loc
 obtain ⟨u,r,l⟩:=hl i x v hN e hv
 have fin:EP X pins σ Q u s:=⟨v,H,I,r,h⟩
 rcases l with ⟨hk,hm⟩ | ⟨hk,c,hc,hcell⟩
 ·exact wpAny_Name (wpAny_loadName_local I.ok.kind hk hn hm fin) hd
 ·rcases hk with hk | hk
  ·exact wpAny_Name (wpAny_loadName_cell I.ok.kind hk hc hcell fin) hd
  ·exact wpAny_Name (wpAny_loadName_free I.ok.kind hk hc hcell fin hcd) hd
theorem qj3 {i j pos}:PE X (.Constant (.int i) j pos) (tC (.int i)):=fun _ _ _ H _ I h=>wpAny_Constant_int ⟨.int i,H,I.tok _,⟨_,rfl⟩,h⟩
theorem pe_bl {b j pos}:PE X (.Constant (.bool b) j pos) (tC (.bl b)):=fun _ _ _ H _ I h=>Constant_bool ⟨.bl b,H,I,rfl,h⟩
theorem qj4 {j pos}:PE X (.Constant .none j pos) (tC .non):=fun _ _ _ H _ I h=>Constant_none ⟨.non,H,I,rfl,h⟩
noncomputable def Gl (X:Cx) (x:Str):Prop:=X.env.kindOf x=some .globalImplicit
theorem qc8 {E:Value->Shared->Prop} {pins:List (Addr×Obj)} {s:Shared} {σ:St} {H:Hp} {x:Str} {u:Value} {pos:Pos} {Q:Value->Shared->Prop} (I:Inv X pins σ H s) (hg:Gl X x) (hm:X.mg x=some u) (h:Q u s)
  (hd:(x == ("__debug__" : Str))=false:=by decide):wpAny (model X.prog X.w) X.A (eval (.Name x pos) X.env) Q E s :=
 Calls.Name_function_global I.ok.kind hg (Calls.loadGlobal_global (by rw [I.ok.glob];exact I.mod.glob.keeps I.bk) hm h) hd
theorem jT {E:Value->Shared->Prop} {pins:List (Addr×Obj)} {s:Shared} {σ:St} {H:Hp} {x:Str} {u:Value} {pos:Pos} {Q:Value->Shared->Prop} (I:Inv X pins σ H s) (hg:Gl X x) (hm:X.mg x=none) (hv:bootBuiltins x=some u) (h:Q u s)
  (hn:x ≠ "__name__" := by decide) (hd:(x == ("__debug__" : Str))=false:=by decide):wpAny (model X.prog X.w) X.A (eval (.Name x pos) X.env) Q E s:=by
 obtain ⟨mb,h1,h2⟩:=I.mod.blt
 exact Calls.Name_function_global I.ok.kind hg (Calls.loadGlobal_builtin (by rw [I.ok.glob];exact I.mod.glob.keeps I.bk) hm (by rw [I.ok.blt];exact h1.keeps I.bk) ((h2 x hn).trans hv) h) hd
theorem qhY {x:Str} {v:V} {u:Value} {pos:Pos} (hg:Gl X x) (hm:X.mg x=some u) (r:RelV v u) (hd:(x == ("__debug__" : Str))=false:=by decide):PE X (.Name x pos) (tC v) :=
 fun _ _ _ H _ I h=>qc8 I hg hm ⟨v,H,I,r,h⟩ hd
theorem qhV {x:Str} {v:V} {u:Value} {pos:Pos} (hg:Gl X x) (hm:X.mg x=none) (hv:bootBuiltins x=some u) (r:RelV v u) (hn:x ≠ "__name__" := by decide) (hd:(x == ("__debug__" : Str))=false:=by decide):PE X (.Name x pos) (tC v) :=
 fun _ _ _ H _ I h=>jT I hg hm hv ⟨v,H,I,r,h⟩ hn hd
variable {a b:Expr} {ta tb:TE} {pos:Pos}
noncomputable def tB (t:TE):TT:=fun σ H Q=>t σ H fun x H1=>∃ c,x=.bl c/\Q c H1
theorem qkd {e:Expr} {t:TE} (h:PE X e t) (he:∀ whole,isTrue e X.env whole=(do let v ← whole;standAt e.pos;holding [v] (truthy v)):=by intro _;rfl):PT X e (tB t):=by
 intro pins s σ H Q I hw
 refine isTrue_plain (thn (h pins s σ H _ I hw) fun v s1 ⟨x,H1,I1,r1,q1⟩=>?_) (he _)
 obtain ⟨d,rfl,q⟩:=q1
 cases r1
 exact wpAny_truthy_bool ⟨H1,I1,q⟩
variable {tA tB':TT} {rest:List Expr}
noncomputable def tAnd (t u:TT):TT:=fun σ H Q=>t σ H fun c H1=>if c=true then u σ H1 Q else Q false H1
noncomputable def tOr (t u:TT):TT:=fun σ H Q=>t σ H fun c H1=>if c=true then Q true H1 else u σ H1 Q
noncomputable def tNot (t:TT):TT:=fun σ H Q=>t σ H fun c H1=>Q (!c) H1
theorem qia (ha:PT X a tA):PW X (.BoolOp .And [a] pos) tA:=by
 intro wh pins s σ H Q I h
 refine isTrue_and (thn (ha pins s σ H Q I h) fun c s1 e=>?_)
 cases c with
 | true=>exact isTrue_and_nil e
 | false=>exact e
theorem qkg (ha:PT X a tA):PW X (.BoolOp .Or [a] pos) tA:=by
 intro wh pins s σ H Q I h
 refine isTrue_or (thn (ha pins s σ H Q I h) fun c s1 e=>?_)
 cases c with
 | false=>exact isTrue_or_nil e
 | true=>exact e
theorem qkf (ha:PT X a tA) (hb:PW X (.BoolOp .And (b :: rest) pos) tB'):PW X (.BoolOp .And (a :: b :: rest) pos) (tAnd tA tB'):=by
 intro wh pins s σ H Q I h
 refine isTrue_and (thn (ha pins s σ H _ I h) fun c s1 ⟨H1,I1,q1⟩=>?_)
 cases c with
 | true=>exact hb wh pins s1 σ H1 Q I1 q1
 | false=>exact ⟨H1,I1,q1⟩
theorem pw_or (ha:PT X a tA) (hb:PW X (.BoolOp .Or (b :: rest) pos) tB'):PW X (.BoolOp .Or (a :: b :: rest) pos) (tOr tA tB'):=by
 intro wh pins s σ H Q I h
 refine isTrue_or (thn (ha pins s σ H _ I h) fun c s1 ⟨H1,I1,q1⟩=>?_)
 cases c with
 | true=>exact ⟨H1,I1,q1⟩
 | false=>exact hb wh pins s1 σ H1 Q I1 q1
theorem qkc (ha:PT X a tA):PT X (.UnaryOp .Not a pos) (tNot tA):=by
 intro pins s σ H Q I h
 exact isTrue_not (ha pins s σ H (fun c H1=>Q (!c) H1) I h)
noncomputable def tAndV (ta tb:TE):TE:=fun σ H Q=>ta σ H fun x H1=>∃ c,x=.bl c/\if c=true then tb σ H1 Q else Q (.bl false) H1
noncomputable def tNotV (ta:TE):TE:=fun σ H Q=>ta σ H fun x H1=>∃ c,x=.bl c/\Q (.bl (!c)) H1
theorem qj6 {op} {t:TE} (h:PE X a t):PE X (.BoolOp op [a] pos) t:=fun pins s σ H Q I hw=>BoolOp_one (h pins s σ H Q I hw)
theorem qj1 (ha:PE X a ta) (hb:PE X (.BoolOp .And (b :: rest) pos) tb):PE X (.BoolOp .And (a :: b :: rest) pos) (tAndV ta tb):=by
 intro pins s σ H Q I h
 refine BoolOp_and (thn (ha pins s σ H _ I h) fun v s1 ⟨x,H1,I1,r1,q1⟩=>?_)
 obtain ⟨c,rfl,q1⟩:=q1
 cases r1
 refine wpAny_truthy_bool ?_
 cases c with
 | true=>exact hb pins s1 σ H1 Q I1 q1
 | false=>exact ⟨.bl false,H1,I1,rfl,q1⟩
theorem qj5 (ha:PE X a ta):PE X (.UnaryOp .Not a pos) (tNotV ta):=by
 intro pins s σ H Q I h
 refine UnaryOp_ (thn (ha pins s σ H _ I h) fun v s1 ⟨x,H1,I1,r1,q1⟩=>?_)
 obtain ⟨c,rfl,q1⟩:=q1
 cases r1
 exact not_of (wpAny_truthy_bool ⟨.bl (!c),H1,I1,rfl,q1⟩)
noncomputable def tIf (t:TT) (ta tb:TE):TE:=fun σ H Q=>t σ H fun c H1=>if c=true then ta σ H1 Q else tb σ H1 Q
theorem qgd {c:Expr} (hc:PT X c tA) (ha:PE X a ta) (hb:PE X b tb):PE X (.IfExp c a b pos) (tIf tA ta tb):=by
 intro pins s σ H Q I h
 refine wpAny_IfExp (thn (hc pins s σ H _ I h) fun d s1 ⟨H1,I1,q1⟩=>?_)
 cases d with
 | true=>exact ha pins s1 σ H1 Q I1 q1
 | false=>exact hb pins s1 σ H1 Q I1 q1
end
noncomputable def SqL (K:PySem.W.Frag) (H:Hp) (a:Addr) (xs:List V):Prop :=
 Rd H a (.lst xs)\/
  ∃ (o:Obj) (its:Array Value) (n:Nat),K.lookup a=some o/\o.cls=.type "list"/\o.dict=none/\o.data=.seq its n/\its.size <= sizeLine/\Vals xs its.toList
noncomputable def SqT (K:PySem.W.Frag) (H:Hp) (a:Addr) (xs:List V):Prop :=
 Rd H a (.tup xs)\/
  ∃ (o:Obj) (its:Array Value) (n:Nat),K.lookup a=some o/\o.cls=.type "tuple"/\o.data=.seq its n/\its.size <= sizeLine/\Vals xs its.toList
noncomputable def absV:Value->Option V
 | .none=>some .non
 | .bool b=>some (.bl b)
 | .int i _=>some (.int i)
 | .str x _=>some (.str x)
 | .bytes b _=>some (.byt b)
 | .float b _=>some (.flt b)
 | .ref a=>some (.ref a)
 | .type n=>some (.ty n)
 | _=>none
theorem RelV.abs {x:V} {u:Value} (r:RelV x u):absV u=some x:=by
 cases x with
 | non=>cases r;rfl
 | bl _=>cases r;rfl
 | int _=>obtain ⟨t,rfl⟩:=r;rfl
 | str _=>obtain ⟨t,rfl⟩:=r;rfl
 | byt _=>obtain ⟨t,rfl⟩:=r;rfl
 | flt _=>obtain ⟨t,rfl⟩:=r;rfl
 | ref _=>cases r;rfl
 | ty _=>cases r;rfl
theorem RelV.inj {x y:V} {u:Value} (r:RelV x u) (q:RelV y u):x=y:=Option.some.inj (r.abs.symm.trans q.abs)
theorem Vals.inj:∀ {xs ys:List V} {us:List Value},Vals xs us->Vals ys us->xs=ys
 | _,_,_,.nil,.nil=>rfl
 | _,_,_,.cons r t,.cons r' t'=>by rw [r.inj r',Vals.inj t t']
section
variable {X:Cx} {pins:List (Addr×Obj)} {σ:St} {H:Hp} {s:Shared} {a:Addr} {xs ys:List V}
theorem SqL.of {K:PySem.W.Frag} (h:H a=some (.lst xs)):SqL K H a xs:=.inl (.inl h)
theorem SqT.of {K:PySem.W.Frag} (h:H a=some (.tup xs)):SqT K H a xs:=.inl (.inl h)
theorem Inv.list (I:Inv X pins σ H s) (h:SqL X.K H a xs):∃ its:List Value,Vals xs its/\PlainL s.heap a its.toArray/\xs.length <= sizeLine:=by
 rcases h with h | ⟨o,its,n,hk,hc,hd,hs,hz,r⟩
 ·obtain ⟨z,its,n,r,e⟩:=h.ok I.hok
  exact ⟨its,r,⟨_,n,e,rfl,rfl,rfl⟩,z⟩
 ·refine ⟨its.toList,r,⟨o,n,I.kIn a o hk,hc,hd,by simpa using hs⟩,?_⟩
  have e:=r.length
  simp only [Array.length_toList] at e
  omega
theorem Inv.tuple (I:Inv X pins σ H s) (h:SqT X.K H a xs):∃ its:List Value,Vals xs its/\IsTup s.heap a its.toArray/\xs.length <= sizeLine:=by
 rcases h with h | ⟨o,its,n,hk,hc,hs,hz,r⟩
 ·obtain ⟨z,its,r,p⟩:=h.ok I.hok
  exact ⟨its,r,p,z⟩
 ·refine ⟨its.toList,r,⟨o,I.kIn a o hk,hc,n,by simpa using hs⟩,?_⟩
  have e:=r.length
  simp only [Array.length_toList] at e
  omega
theorem Inv.list_inj (I:Inv X pins σ H s) (h:SqL X.K H a xs) (h':SqL X.K H a ys):xs=ys:=by
 obtain ⟨its,r,⟨o,n,e,_,_,d⟩,_⟩:=I.list h
 obtain ⟨its',r',⟨o',n',e',_,_,d'⟩,_⟩:=I.list h'
 rw [e] at e';cases e'
 rw [d] at d'
 injection d' with d1 _
 have:its=its':=by simpa using congrArg Array.toList d1
 subst this
 exact r.inj r'
theorem Inv.tuple_inj (I:Inv X pins σ H s) (h:SqT X.K H a xs) (h':SqT X.K H a ys):xs=ys:=by
 obtain ⟨its,r,⟨o,e,_,n,d⟩,_⟩:=I.tuple h
 obtain ⟨its',r',⟨o',e',_,n',d'⟩,_⟩:=I.tuple h'
 rw [e] at e';cases e'
 rw [d] at d'
 injection d' with d1 _
 have:its=its':=by simpa using congrArg Array.toList d1
 subst this
 exact r.inj r'
end
noncomputable abbrev Cx.wish (X:Cx) (E:Value->Shared->Prop):Cx:={ X with xe:=E }
noncomputable abbrev Cx.nox (X:Cx):Cx:=X.wish fun _ _=>False
theorem Cx.Ok.wish {X:Cx} (ok:X.Ok) (E:Value->Shared->Prop):(X.wish E).Ok :=
 ⟨ok.mod,ok.kind,ok.glob,ok.blt,ok.above,ok.inj,ok.has,ok.cab,ok.hd,ok.frames,ok.stk,ok.exf,ok.bs,ok.bsz,ok.noex,ok.exfs,ok.funs,ok.frf⟩
theorem Cx.Ok.unwish {X:Cx} {E:Value->Shared->Prop} (ok:(X.wish E).Ok):X.Ok :=
 ⟨ok.mod,ok.kind,ok.glob,ok.blt,ok.above,ok.inj,ok.has,ok.cab,ok.hd,ok.frames,ok.stk,ok.exf,ok.bs,ok.bsz,ok.noex,ok.exfs,ok.funs,ok.frf⟩
section
variable {X:Cx} {pins:List (Addr×Obj)} {σ:St} {H:Hp} {s:Shared} {E:Value->Shared->Prop}
theorem Inv.wish (I:Inv X pins σ H s) (E:Value->Shared->Prop):Inv (X.wish E) pins σ H s:=⟨I.ok.wish E,I.os,I.bare,I.base,I.loc,I.cell,I.free,I.freeC,I.pin,I.hok,I.len⟩
theorem Inv.unwish (I:Inv (X.wish E) pins σ H s):Inv X pins σ H s:=⟨I.ok.unwish,I.os,I.bare,I.base,I.loc,I.cell,I.free,I.freeC,I.pin,I.hok,I.len⟩
theorem SP.unwish {D:Ends} {f:Flow} {s':Shared} (h:SP (X.wish E) pins D f s'):SP X pins D f s':=by
 cases f with
 | next=>obtain ⟨σ',H',I,q⟩:=h;exact ⟨σ',H',I.unwish,q⟩
 | brk=>obtain ⟨σ',H',I,q⟩:=h;exact ⟨σ',H',I.unwish,q⟩
 | cont=>obtain ⟨σ',H',I,q⟩:=h;exact ⟨σ',H',I.unwish,q⟩
 | ret u=>obtain ⟨v,σ',H',I,r,q⟩:=h;exact ⟨v,σ',H',I.unwish,r,q⟩
theorem PE.nox {e:Expr} {t:TE} (h:PE X.nox e t):PE X e t:=fun pins s σ H Q I hw =>
 wpAny_mono (h pins s σ H Q (I.wish _) hw) (fun _ _ ⟨v,H',I',r,q⟩=>⟨v,H',I'.unwish,r,q⟩) fun _ _ z=>False.elim z
theorem PT.nox {e:Expr} {t:TT} (h:PT X.nox e t):PT X e t:=fun pins s σ H Q I hw =>
 wpAny_mono (h pins s σ H Q (I.wish _) hw) (fun _ _ ⟨H',I',q⟩=>⟨H',I'.unwish,q⟩) fun _ _ z=>False.elim z
theorem PSs.nox {st:List Stmt} {t:TS} (h:PSs X.nox st t):PSs X st t:=fun pins s σ H D I hw =>
 wpAny_mono (h pins s σ H D (I.wish _) hw) (fun _ _ q=>q.unwish) fun _ _ z=>False.elim z
end
section
variable {X:Cx} {st:Stmt} {rest:List Stmt} {t u:TS} {e:Expr} {te:TE} {pos:Pos}
noncomputable def tNext:TS:=fun D σ H=>D.nx σ H
noncomputable def tSeq (t u:TS):TS:=fun D σ H=>t { D with nx:=u D } σ H
theorem qh5:PSs X [] tNext:=fun _ _ σ H _ I h=>wpAny_execs_nil ⟨σ,H,I,h⟩
theorem qgq (h1:PS X st t) (h2:PSs X rest u):PSs X (st :: rest) (tSeq t u):=by
 intro pins s σ H D I h
 refine wpAny_execs_cons (thn (h1 pins s σ H { D with nx:=u D } I h) fun f s1 q=>?_)
 cases f with
 | next =>
  obtain ⟨σ',H',I',q⟩:=q
  exact h2 pins s1 σ' H' D I' q
 | ret v=>exact q
 | brk=>exact q
 | cont=>exact q
theorem qh6 (h1:PS X st t):PSs X [st] t:=by
 intro pins s σ H D I h
 refine wpAny_execs_cons (thn (h1 pins s σ H D I h) fun f s1 q=>?_)
 cases f with
 | next=>exact wpAny_execs_nil q
 | ret v=>exact q
 | brk=>exact q
 | cont=>exact q
theorem Inv.quiet {pins:List (Addr×Obj)} {σ:St} {H:Hp} {s:Shared} (I:Inv X pins σ H s):interactive X.env=false:=by simp [interactive,I.ok.kind]
noncomputable def tDrop (te:TE):TS:=fun D σ H=>te σ H fun _ H1=>D.nx σ H1
theorem yJ (he:PE X e te) (hs:swapsWith e none pos.line X.env=pure false:=by rfl):PS X (.Expr e pos) (tDrop te):=by
 intro pins s σ H D I h
 exact wpAny_Expr_any (thn (he pins s σ H _ I h) fun v s1 ⟨x,H1,I1,r1,q1⟩=>⟨σ,H1,I1,q1⟩) I.quiet hs
noncomputable def tRet (te:TE):TS:=fun D σ H=>te σ H D.rt
theorem qgp (he:PE X e te):PS X (.Return (some e) pos) (tRet te):=by
 intro pins s σ H D I h
 exact wpAny_Return_some (thn (he pins s σ H _ I h) fun v s1 ⟨x,H1,I1,r1,q1⟩=>⟨x,σ,H1,I1,r1,q1⟩)
noncomputable def tIfS (c:TT) (t u:TS):TS:=fun D σ H=>c σ H fun b H1=>if b=true then t D σ H1 else u D σ H1
theorem ps_if {c:Expr} {a b:List Stmt} {tc:TT} (hc:PT X c tc) (ha:PSs X a t) (hb:PSs X b u):PS X (.If c a b pos) (tIfS tc t u):=by
 intro pins s σ H D I h
 refine wpAny_If (thn (hc pins s σ H _ I h) fun d s1 ⟨H1,I1,q1⟩=>?_)
 cases d with
 | true=>exact ha pins s1 σ H1 D I1 q1
 | false=>exact hb pins s1 σ H1 D I1 q1
end
noncomputable abbrev TG:=V->St->Hp->(St->Hp->Prop)->Prop
noncomputable abbrev TGs:=List V->St->Hp->(St->Hp->Prop)->Prop
noncomputable def PG (X:Cx) (target:Expr) (t:TG):Prop :=
 ∀ (pins:List (Addr×Obj)) (s:Shared) (σ:St) (H:Hp) (v:V) (u:Value) (Q:St->Hp->Prop),Inv X pins σ H s->RelV v u->t v σ H Q->
  wpAny (model X.prog X.w) X.A (assign target X.env u) (fun _ s'=>∃ σ' H',Inv X pins σ' H' s'/\Q σ' H') X.xe s
noncomputable def PGs (X:Cx) (ts:List Expr) (t:TGs):Prop :=
 ∀ (pins:List (Addr×Obj)) (s:Shared) (σ:St) (H:Hp) (vs:List V) (us:List Value) (Q:St->Hp->Prop),Inv X pins σ H s->Vals vs us->t vs σ H Q->
  wpAny (model X.prog X.w) X.A (assignInOrder ((assignEach ts X.env).map (·.2)) us) (fun _ s'=>∃ σ' H',Inv X pins σ' H' s'/\Q σ' H') X.xe s
noncomputable abbrev TSet:=V->V->V->Hp->(Hp->Prop)->Prop
noncomputable def PSet (X:Cx) (t:TSet):Prop :=
 ∀ (pins:List (Addr×Obj)) (s:Shared) (σ:St) (H:Hp) (o i v:V) (ov iv u:Value) (Q:Hp->Prop),Inv X pins σ H s->RelV o ov->RelV i iv->RelV v u->t o i v H Q->
  wpAny (model X.prog X.w) X.A (setItem ov iv u) (fun _ s'=>∃ H',Inv X pins σ H' s'/\Q H') X.xe s
section
variable {X:Cx} {pos:Pos}
noncomputable def qc1 (i:Nat):TG:=fun v σ H Q=>Q (σ.set i (some v)) H
theorem qdk {i:Nat} {x:Str} (hN:X.N.Nodup) (hi:X.N[i]?=some x) (hx:Loc X.env.scope x) (hf:X.fn x=true\/X.env.scope.names.lookup x=some .local:=by first | exact .inl rfl | exact .inr rfl | assumption):PG X (.Name x pos) (qc1 i):=by
 intro pins s σ H v u Q I r h
 exact wpAny_assign_Name (qbF I hN hi hx r (fun s' I'=>⟨_,H,I',h⟩) hf)
noncomputable def gNil:TGs:=fun vs σ H Q=>vs=[]/\Q σ H
noncomputable def gCons (t:TG) (u:TGs):TGs:=fun vs σ H Q=>∃ v r,vs=v :: r/\t v σ H fun σ' H'=>u r σ' H' Q
theorem qdl:PGs X [] gNil:=by
 intro pins s σ H vs us Q I r h
 obtain ⟨e,h⟩:=h
 subst e
 cases r
 exact assignInOrder_nil ⟨σ,H,I,h⟩
theorem qbp {e:Expr} {es:List Expr} {t:TG} {u:TGs} (h1:PG X e t) (h2:PGs X es u)
  (hs:(assignEach (e :: es) X.env).map (·.2)=assign e X.env :: (assignEach es X.env).map (·.2):=by rfl):PGs X (e :: es) (gCons t u):=by
 intro pins s σ H vs us Q I r h
 obtain ⟨v,vr,e1,h⟩:=h
 subst e1
 cases r with
 | cons r rr =>
  rw [hs]
  refine assignInOrder_cons (thn (h1 pins s σ H _ _ _ I r h) fun _ s1 ⟨σ1,H1,I1,q1⟩=>?_)
  exact h2 pins s1 σ1 H1 _ _ Q I1 rr q1
noncomputable def gTup (K:PySem.W.Frag) (n:Nat) (t:TGs):TG:=fun v σ H Q=>∃ a xs,v=.ref a/\SqT K H a xs/\xs.length=n/\t xs σ H Q
theorem qgj {es:List Expr} {k:Nat} {t:TGs} {n:Nat} (hc:X.calm=true) (h:PGs X es t)
  (hn:(assignEach es X.env).length=n:=by rfl) (hst:(assignEach es X.env).findIdx? (·.1)=none:=by rfl):PG X (.Tuple es k pos) (gTup X.K n t):=by
 intro pins s σ H v u Q I r hw
 obtain ⟨a,xs,e1,hq,hl,hw⟩:=hw
 subst e1
 cases r
 obtain ⟨its,rv,ht,hz⟩:=I.tuple hq
 refine assign_Tuple_tuple (I.ok.hd hc) ht (by simp [hn,← hl,rv.length]) hst fun h' hx=>?_
 have I1:Inv X pins σ H { s with heap:=h' }:=I.kept (t':=s.toks) fun b o e=>hx b o (Nat.ne_of_lt (Heap.lt_size e)) e
 exact h pins _ σ H xs _ Q I1 (by simpa using rv) hw
noncomputable def gSub (to ti:TE) (t:TSet):TG:=fun v σ H Q=>to σ H fun o H1=>ti σ H1 fun i H2=>t o i v H2 fun H3=>Q σ H3
theorem qcj {o i:Expr} {to ti:TE} {t:TSet} (ho:PE X o to) (hi:PE X i ti) (hs:PSet X t)
  (ha:∀ v,assign (.Subscript o i pos) X.env v=(do
   let ov ← holding [v] (eval o X.env)
   let iv ← holding [v,ov] (eval i X.env)
   standAt pos
   holding [v,ov,iv] (setItem ov iv v)
   release [v,ov,iv] []):=by intro _;rfl):PG X (.Subscript o i pos) (gSub to ti t):=by
 intro pins s σ H v u Q I r h
 rw [ha]
 refine wpAny_bind (wpAny_holding (thn (ho pins s σ H _ I h) fun ov s1 ⟨x,H1,I1,r1,q1⟩=>?_))
 refine wpAny_bind (wpAny_holding (thn (hi pins s1 σ H1 _ I1 q1) fun iv s2 ⟨y,H2,I2,r2,q2⟩=>?_))
 refine wpAny_bind (wpAny_standAt (wpAny_bind (wpAny_holding (thn (hs pins s2 σ H2 x y v ov iv u _ I2 r1 r2 r q2) fun _ s3 ⟨H3,I3,q3⟩=>?_))))
 exact wpAny_release ⟨σ,H3,I3,q3⟩
noncomputable def tAsg (te:TE) (g:TG):TS:=fun D σ H=>te σ H fun x H1=>g x σ H1 D.nx
theorem qcl {tg e:Expr} {te:TE} {g:TG} (he:PE X e te) (hg:PG X tg g) (hs:swapsWithSole [tg] e pos.line X.env=pure false:=by rfl) (hw:swappedStores [tg] e X.env=pure none:=by rfl)
  (h1:(assignEach [tg] X.env).map (·.2)=[assign tg X.env]:=by rfl):PS X (.Assign [tg] e pos) (tAsg te g):=by
 intro pins s σ H D I h
 refine wpAny_Assign_stores (thn (he pins s σ H _ I h) fun v s1 ⟨x,H1,I1,r1,q1⟩=>?_) hs hw
 rw [h1]
 exact thn (hg pins s1 σ H1 x v _ I1 r1 q1) fun _ s2 q=>q
theorem qam {i:Nat} {x:Str} {e:Expr} {te:TE} {pos':Pos} (hN:X.N.Nodup) (hi:X.N[i]?=some x) (hx:Loc X.env.scope x) (he:PE X e te) (hs:swapsWith e (some (.Name x pos')) pos.line X.env=pure false:=by rfl) (hf:X.fn x=true\/X.env.scope.names.lookup x=some .local:=by first | exact .inl rfl | exact .inr rfl | assumption) :
  PS X (.Assign [.Name x pos'] e pos) (tAsg te (qc1 i)):=by
 intro pins s σ H D I h
 refine wpAny_Assign_Name (thn (he pins s σ H _ I h) fun v s1 ⟨y,H1,I1,r1,q1⟩=>?_) hs
 exact qbF I1 hN hi hx r1 (fun s2 I2=>⟨_,H1,I2,q1⟩) hf
end
structure It where
 go:Nat->Hp->Prop
 yld:Nat->Hp->V->Hp->Prop
 stop:Nat->Hp->Prop
noncomputable def FpOk (X:Cx) (pins:List (Addr×Obj)) (H:Hp) (b:Addr):Prop :=
 H b=none/\b≠X.env.locals/\b∉X.fs/\(b∈X.ex\/X.s₀.heap.objs.size <= b)/\(∀ x c,X.env.cells.lookup x=some c->c≠b)/\∀ p∈X.pn ++ pins,p.1≠b
theorem Inv.fpOk {X:Cx} {pins:List (Addr×Obj)} {σ:St} {H H':Hp} {s:Shared} {b:Addr} (I:Inv X pins σ H s) (hb:s.heap.objs.size <= b) (hn:H' b=none):FpOk X pins H' b:=by
 refine ⟨hn,Nat.ne_of_gt (Nat.lt_of_lt_of_le I.lt hb),I.nofs hb,.inr (Nat.le_trans I.sz hb),fun x c e z=>?_,fun p hp z=>?_⟩
 ·obtain ⟨v,q⟩:=I.cell x c e
  exact absurd (Nat.lt_of_lt_of_le q.lt (by rw [z];exact hb)) (Nat.lt_irrefl _)
 ·exact absurd (Nat.lt_of_lt_of_le (Heap.lt_size (I.pin p hp).1) (by rw [z];exact hb)) (Nat.lt_irrefl _)
structure Turn (P:Program) (w:World) (K:PySem.W.Frag) (tg:Expr) (J:It) (fp:List Addr) (it:Addr) (tn:Nat->Heap->Prop):Prop where
 mem:it∈fp
 obj:∀ i h,tn i h->∀ b∈fp,∃ o,h.get? b=some o/\∀ v,o.data≠.cell v
 keep:∀ i h h',tn i h->(∀ b∈fp,∀ o,h.get? b=some o->h'.get? b=some o)->tn i h'
 item:∀ (X:Cx),X.prog=P->X.w=w->X.K=K->X.calm=true->∀ (i:Nat) (pins:List (Addr×Obj)) (s:Shared) (σ:St) (H:Hp) (E:Value->Shared->Prop),Inv X pins σ H s->(∀ b∈fp,FpOk X pins H b)->tn i s.heap->J.go i H->
  wpAny (model P w) X.A (pyNext (.ref it)) (fun r s1=>∃ u,r=some u/\
   wpAny (model P w) X.A (letOwnedTupleGo tg (.ref it) u) (fun _ s2=>∃ x H',Inv X pins σ H' s2/\RelV x u/\J.yld i H x H'/\tn (i + 1) s2.heap/\∀ b∈fp,H' b=none) E s1) E s
 done:∀ (X:Cx),X.prog=P->X.w=w->X.K=K->X.calm=true->∀ (i:Nat) (pins:List (Addr×Obj)) (s:Shared) (σ:St) (H:Hp) (E:Value->Shared->Prop),Inv X pins σ H s->(∀ b∈fp,FpOk X pins H b)->tn i s.heap->J.stop i H->
  wpAny (model P w) X.A (pyNext (.ref it)) (fun r s1=>r=none/\Inv X pins σ H s1) E s
 self:∀ (A:Around) (i:Nat) (s:Shared) (Q:Value->Shared->Prop) (E:Value->Shared->Prop),tn i s.heap->Q (.ref it) s->wpAny (model P w) A (pyIter (.ref it)) Q E s
noncomputable abbrev TI:=St->Hp->(It->Hp->Prop)->Prop
noncomputable def PIE (X:Cx) (pins:List (Addr×Obj)) (σ:St) (tg:Expr) (R:It->Hp->Prop) (itv:Value) (s2:Shared):Prop :=
 ∃ (it:Addr) (fp:List Addr) (tn:Nat->Heap->Prop) (J:It) (H':Hp),itv=.ref it/\Inv X pins σ H' s2/\Turn X.prog X.w X.K tg J fp it tn/\tn 0 s2.heap/\(∀ b∈fp,FpOk X pins H' b)/\R J H'
noncomputable def PI (X:Cx) (tg iter:Expr) (wi:TI):Prop :=
 ∀ (pins:List (Addr×Obj)) (s:Shared) (σ:St) (H:Hp) (R:It->Hp->Prop),Inv X pins σ H s->wi σ H R->
  wpAny (model X.prog X.w) X.A (eval iter X.env) (fun v s1=>wpAny (model X.prog X.w) X.A (pyIter v) (PIE X pins σ tg R) X.xe s1) X.xe s
theorem qaX {M:Model} {A:Around} {E:Value->Shared->Prop} {s:Shared} {tg:Expr} {it:Addr} {u:Value} {o:Obj} {n:String} {vs:Array Value} {Q:Unit->Shared->Prop} (ho:s.heap.get? it=some o) (hc:o.cls=.type n) (hd:o.data=.fields vs)
  (hn:["enumerate", "zip", "dict_itemiterator", "dict_reverseitemiterator", "odict_iterator", "itertools.zip_longest", "itertools.pairwise"].contains n=false) (hQ:Q () s):wpAny M A (letOwnedTupleGo tg (.ref it) u) Q E s:=by
 unfold letOwnedTupleGo
 cases tg<;>first
  | exact wpAny_pure hQ
  | (cases u<;>first
    | exact wpAny_pure hQ
    | (
      refine wpAny_bind (wpAny_load ho ?_)
      rw [hc,hd]
      show wpAny M A (if (["enumerate", "zip", "dict_itemiterator", "dict_reverseitemiterator", "odict_iterator", "itertools.zip_longest", "itertools.pairwise"].contains n && vs[0]? == some (rawInt _))=true then _ else _) Q E s
      rw [if_neg (by intro h;rw [hn,Bool.false_and] at h;cases h)]
      exact wpAny_pure hQ))
noncomputable def Itl (K:PySem.W.Frag) (a:Addr):It :=
 ⟨fun i H=>∃ xs x,SqL K H a xs/\xs[i]?=some x,fun i H x H'=>H'=H/\∀ xs,SqL K H a xs->xs[i]?=some x,fun i H=>∃ xs,SqL K H a xs/\xs.length <= i⟩
noncomputable def Itt (K:PySem.W.Frag) (a:Addr):It :=
 ⟨fun i H=>∃ xs x,SqT K H a xs/\xs[i]?=some x,fun i H x H'=>H'=H/\∀ xs,SqT K H a xs->xs[i]?=some x,fun i H=>∃ xs,SqT K H a xs/\xs.length <= i⟩
noncomputable def Itr (lo:Int) (n:Nat):It:=⟨fun i _=>i < n,fun i H x H'=>H'=H/\x=.int (lo + i),fun i _=>n <= i⟩
theorem qeq {P:Program} {w:World} {K:PySem.W.Frag} {tg:Expr} (a it:Addr):Turn P w K tg (Itl K a) [it] it (fun i h=>h.IsListIter it a i) where
 mem:=by simp
 obj:=fun i h st b hb=>by
  have e:b=it:=by simpa using hb
  subst e
  obtain ⟨o,e,c,d⟩:=st
  exact ⟨o,e,fun v z=>by rw [d] at z;cases z⟩
 keep:=fun i h h' st k=>st.at fun o e=>k it (by simp) o e
 item:=by
  intro X hP hw hK hc i pins s σ H E I hf st hg
  subst hP hw hK
  obtain ⟨xs,x,hq,hx⟩:=hg
  obtain ⟨its,rv,p,hz⟩:=I.list hq
  obtain ⟨u,hu,ru⟩:=rv.get hx
  obtain ⟨f0,f1,f2,f3,f4,f5⟩:=hf it (by simp)
  refine wpAny_pyNext_list_item st p.isList (x:=u) (by simpa using hu) fun h' st' sb=>?_
  have I1:Inv X pins σ H { s with heap:=h' }:=I.turned (t':=s.toks) (fun b o hb e=>(sb.2 b hb).trans e) f0 f1 f3 f4 f5
  obtain ⟨o,e,c,d⟩:=id st'
  exact ⟨u,rfl,qaX (s:={ s with heap:=h' }) e c d (by decide) ⟨x,H,I1,ru,⟨rfl,fun ys hy=>by rw [I.list_inj hy hq];exact hx⟩,st',fun b hb=>(hf b hb).1⟩⟩
 done:=by
  intro X hP hw hK hc i pins s σ H E I hf st hg
  subst hP hw hK
  obtain ⟨xs,hq,hx⟩:=hg
  obtain ⟨its,rv,p,hz⟩:=I.list hq
  obtain ⟨f0,f1,f2,f3,f4,f5⟩:=hf it (by simp)
  have hl:=rv.length
  exact wpAny_pyNext_list_end (I.ok.hd hc) st p.isList (by simp;omega) fun h' eb=>⟨rfl,I.turned (t':=s.toks) (fun b o hb e=>eb b o hb e) f0 f1 f3 f4 f5⟩
 self:=fun _ _ _ _ _ st h=>wpAny_pyIter_listiter st h
theorem qct {P:Program} {w:World} {K:PySem.W.Frag} {tg:Expr} (a it:Addr):Turn P w K tg (Itt K a) [it] it (fun i h=>h.IsTupleIter it a i) where
 mem:=by simp
 obj:=fun i h st b hb=>by
  have e:b=it:=by simpa using hb
  subst e
  obtain ⟨o,e,c,d⟩:=st
  exact ⟨o,e,fun v z=>by rw [d] at z;cases z⟩
 keep:=fun i h h' st k=>st.at fun o e=>k it (by simp) o e
 item:=by
  intro X hP hw hK hc i pins s σ H E I hf st hg
  subst hP hw hK
  obtain ⟨xs,x,hq,hx⟩:=hg
  obtain ⟨its,rv,p,hz⟩:=I.tuple hq
  obtain ⟨u,hu,ru⟩:=rv.get hx
  obtain ⟨f0,f1,f2,f3,f4,f5⟩:=hf it (by simp)
  refine wpAny_pyNext_tuple_item st (show s.heap.IsTuple a its.toArray from p) (x:=u) (by simpa using hu) fun h' st' sb=>?_
  have I1:Inv X pins σ H { s with heap:=h' }:=I.turned (t':=s.toks) (fun b o hb e=>(sb.2 b hb).trans e) f0 f1 f3 f4 f5
  obtain ⟨o,e,c,d⟩:=id st'
  exact ⟨u,rfl,qaX (s:={ s with heap:=h' }) e c d (by decide) ⟨x,H,I1,ru,⟨rfl,fun ys hy=>by rw [I.tuple_inj hy hq];exact hx⟩,st',fun b hb=>(hf b hb).1⟩⟩
 done:=by
  intro X hP hw hK hc i pins s σ H E I hf st hg
  subst hP hw hK
  obtain ⟨xs,hq,hx⟩:=hg
  obtain ⟨its,rv,p,hz⟩:=I.tuple hq
  obtain ⟨f0,f1,f2,f3,f4,f5⟩:=hf it (by simp)
  have hl:=rv.length
  exact wpAny_pyNext_tuple_end (I.ok.hd hc) st (show s.heap.IsTuple a its.toArray from p) (by simp;omega) fun h' eb=>⟨rfl,I.turned (t':=s.toks) (fun b o hb e=>eb b o hb e) f0 f1 f3 f4 f5⟩
 self:=fun _ _ _ _ _ st h=>wpAny_pyIter_tupleiter st h
theorem qcs {P:Program} {w:World} {K:PySem.W.Frag} {tg:Expr} (it:Addr) (lo:Int) (n:Nat):Turn P w K tg (Itr lo n) [it] it (fun i h=>IsRangeIter h it (lo + (i:Nat) * 1) ((n:Int) - (i:Nat)) 1) where
 mem:=by simp
 obj:=fun i h st b hb=>by
  have e:b=it:=by simpa using hb
  subst e
  exact ⟨_,st,fun v z=>by
   have z':Data.fields _=Data.cell v:=z
   cases z'⟩
 keep:=fun i h h' st k=>k it (by simp) _ st
 item:=by
  intro X hP hw hK hc i pins s σ H E I hf st hg
  subst hP hw hK
  obtain ⟨f0,f1,f2,f3,f4,f5⟩:=hf it (by simp)
  have W:=Walks.range (prog:=X.prog) (w:=X.w) (I.ok.hd hc) it lo 1 n
  refine W.item i s _ _ hg st fun v h' tk hv st' kk=>?_
  obtain ⟨t,rfl⟩:=hv
  have I1:Inv X pins σ H { s with heap:=h',toks:=tk }:=I.turned (fun b o hb e=>kk b o (by simpa using hb) e) f0 f1 f3 f4 f5
  refine ⟨_,rfl,qaX (s:={ s with heap:=h',toks:=tk }) (n := "range_iterator") st' rfl rfl (by decide) ⟨.int (lo + i),H,I1,⟨t,?_⟩,⟨rfl,rfl⟩,st',fun b hb=>(hf b hb).1⟩⟩
  rw [Int.mul_one]
 done:=by
  intro X hP hw hK hc i pins s σ H E I hf st hg
  subst hP hw hK
  obtain ⟨f0,f1,f2,f3,f4,f5⟩:=hf it (by simp)
  exact wpAny_pyNext_range_end (I.ok.hd hc) st (by have:n <= i:=hg;omega) fun h' eb=>⟨rfl,I.turned (t':=s.toks) (fun b o hb e=>eb b o hb e) f0 f1 f3 f4 f5⟩
 self:=fun _ _ _ _ _ st h=>wpAny_pyIter_rangeiter st h
section
variable {X:Cx} {tg:Expr}
theorem qgt {pins:List (Addr×Obj)} {σ:St} {H:Hp} {s:Shared} {R:It->Hp->Prop} {E:Value->Shared->Prop} {lo hi:Int} {t u v:Tok} {tk:Nat} (I:Inv X pins σ H s) (h1:-(2 ^ 62) <= lo) (h2:lo < 2 ^ 62) (h3:-(2 ^ 62) <= hi) (h4:hi < 2 ^ 62)
  (q:R (Itr lo (hi - lo).toNat) H):wpAny (model X.prog X.w) X.A (pyIter (.ref s.heap.objs.size)) (PIE X pins σ tg R) E { s with heap:=s.heap.push { cls:=.type "range", data:=.fields #[.int lo t,.int hi u,.int 1 v] },toks:=tk }:=by
 refine wpAny_pyIter_range (IsRange.new ..) (small_one h1 h2 h3 h4) ?_
 have I1:Inv X pins σ H { s with heap:=s.heap.push { cls:=.type "range", data:=.fields #[.int lo t,.int hi u,.int 1 v] },toks:=tk }:=I.kept fun b o e=>Heap.get?_push_of_some _ e
 refine ⟨(s.heap.push { cls:=.type "range", data:=.fields #[.int lo t,.int hi u,.int 1 v] }).objs.size,[(s.heap.push { cls:=.type "range", data:=.fields #[.int lo t,.int hi u,.int 1 v] }).objs.size],_,_,H,rfl,
  I1.kept (t':=tk) fun b o e=>Heap.get?_push_of_some _ e,qcs _ lo (hi - lo).toNat,?_,fun b hb=>?_,q⟩
 ·have e1:lo + ((0:Nat):Int) * 1=lo:=by simp
  have e2:(((hi - lo).toNat:Nat):Int) - ((0:Nat):Int)=Builtin.Range.rangeSize lo hi 1:=by rw [rangeSize_one];split<;>omega
  show IsRangeIter _ _ (lo + ((0:Nat):Int) * 1) ((((hi - lo).toNat:Nat):Int) - ((0:Nat):Int)) 1
  rw [e1,e2]
  exact Heap.get?_push_size _ rfl
 ·have e:b=(s.heap.push { cls:=.type "range", data:=.fields #[.int lo t,.int hi u,.int 1 v] }).objs.size:=by simpa using hb
  subst e
  exact I1.fpOk (Nat.le_refl _) (I1.hok.fresh (Nat.le_refl _))
noncomputable def iRng1 (ta:TA):TI:=fun σ H R=>ta σ H fun vs H1=>∃ j:Int,vs=[.int j]/\-(2 ^ 62) <= j/\j < 2 ^ 62/\R (Itr 0 j.toNat) H1
theorem Wm {a:Expr} {ta:TA} {p pos:Pos} (hg:Gl X "range") (hm:X.mg "range" = none) (ha:PA X [a] ta) (hs:starEach [a] X.env=[(false,eval a X.env)]:=by rfl):PI X tg (.Call (.Name "range" p) [a] [] pos) (iRng1 ta):=by
 intro pins s σ H R I h
 refine Call_ (jT I hg hm boot_range (PyProof.Rows.callWith_type1 (thn (ha pos pins s σ H _ I h) fun us s1 ⟨vs,H1,I1,r1,q1⟩=>?_) hs rfl))
 obtain ⟨j,e,q1,q2,q⟩:=q1
 subst e
 cases r1 with
 | cons r rr =>
  cases rr
  obtain ⟨t,rfl⟩:=r
  exact call_range_1 (qgt I1 (by omega) (by omega) q1 q2 (by simpa using q))
noncomputable def tFor (wi:TI) (g:TG) (tb:TS):TS:=fun D σ H=>wi σ H fun J H1=>∃ W:Nat->Nat->St->Hp->Prop,(∃ m,W 0 m σ H1)/\∀ i m σ H,W i m σ H->
 (J.stop i H/\D.nx σ H)\/(J.go i H/\∃ N:St->Hp->Prop,(∀ σ' H',N σ' H'->∃ m',m' < m/\W (i + 1) m' σ' H')/\∀ x H',J.yld i H x H'->g x σ H' fun σ2 H2=>tb { D with nx:=N,ct:=N,bk:=D.nx } σ2 H2)
noncomputable def QQ (fp:List Addr) (h:Heap):List (Addr×Obj):=fp.filterMap fun b=>(h.get? b).map fun o=>(b,o)
theorem QC {fp:List Addr} {h:Heap} {b:Addr} {o:Obj} (hb:b∈fp) (e:h.get? b=some o):(b,o)∈QQ fp h:=List.mem_filterMap.mpr ⟨b,hb,by rw [e];rfl⟩
theorem JT {fp:List Addr} {h:Heap} {p:Addr×Obj} (hp:p∈QQ fp h):p.1∈fp/\h.get? p.1=some p.2:=by
 obtain ⟨b,hb,e⟩:=List.mem_filterMap.mp hp
 cases q:h.get? b with
 | none=>rw [q] at e;cases e
 | some o =>
  rw [q] at e
  have e':(b,o)=p:=Option.some.inj e
  subst e'
  exact ⟨hb,q⟩
theorem Inv.pinned {pins:List (Addr×Obj)} {σ:St} {H:Hp} {s:Shared} {fp:List Addr} (I:Inv X pins σ H s) (hf:∀ b∈fp,FpOk X pins H b) (ho:∀ b∈fp,∃ o,s.heap.get? b=some o/\∀ v,o.data≠.cell v):Inv X (pins ++ QQ fp s.heap) σ H s :=
 I.pins_of fun p hp=>(List.mem_append.mp hp).elim (fun z=>I.pin p (List.mem_append_right _ z)) fun z=>by
  obtain ⟨hb,e⟩:=JT z
  obtain ⟨f0,f1,f2,_⟩:=hf p.1 hb
  obtain ⟨o,e',d⟩:=ho p.1 hb
  rw [e] at e';cases e'
  exact ⟨e,f0,f1,f2,d⟩
theorem Inv.unpinned {pins pl:List (Addr×Obj)} {σ:St} {H:Hp} {s:Shared} (I:Inv X (pins ++ pl) σ H s):Inv X pins σ H s:=I.pins_of fun p hp=>I.pin p (List.mem_append_right _ (List.mem_append_left _ hp))
theorem qgo {iter:Expr} {body:List Stmt} {wi:TI} {g:TG} {tb:TS} {pos:Pos} (hp:PassesOwn (model X.prog X.w) X.A X.env X.xe) (hc:X.calm=true) (hi:PI X tg iter wi) (hg:PG X tg g) (hb:PSs X body tb)
  (hs:∀ x,foldedSetIterable iter X.env x=pure x:=by intro _;rfl):PS X (.For tg iter body [] pos) (tFor wi g tb):=by
 intro pins s σ H D I h
 refine wpAny_For (thn (hi pins s σ H _ I h) fun v s1 h1=>thn h1 fun itv s2 h2=>?_) hs
 obtain ⟨it,fp,tn,J,H2,e,I2,T,st2,f2,W,⟨m0,w0⟩,turn⟩:=h2
 subst e
 have stat:∀ {H':Hp},(∀ b∈fp,H' b=none)->∀ b∈fp,FpOk X pins H' b:=fun hn b hb=>⟨hn b hb,(f2 b hb).2⟩
 refine codeAny_forLoop_any (fun n s'=>∃ i σ' H',Inv X pins σ' H' s'/\tn i s'.heap/\(∀ b∈fp,H' b=none)/\W i n σ' H') ?_ m0 ⟨0,σ,H2,I2,st2,fun b hb=>(f2 b hb).1,w0⟩
 rintro n s3 ⟨i,σ3,H3,I3,st3,fr3,w3⟩
 rcases turn i n σ3 H3 w3 with ⟨stop,qn⟩ | ⟨go,N,hN,step⟩
 ·refine wpAny_passesOwn hp (thn (T.done X rfl rfl rfl hc i pins s3 σ3 H3 X.xe I3 (stat fr3) st3 stop) fun r s4 ⟨hr,I4⟩=>?_)
  subst hr
  exact wpAny_execs_nil ⟨σ3,H3,I4,qn⟩
 ·refine wpAny_passesOwn hp (thn (T.item X rfl rfl rfl hc i pins s3 σ3 H3 X.xe I3 (stat fr3) st3 go) fun r s4 ⟨u,hr,h4⟩=>?_)
  subst hr
  refine wpAny_passesOwn hp (thn h4 fun _ s5 ⟨x,H5,I5,r5,y5,st5,fr5⟩=>?_)
  have I5':=I5.pinned (stat fr5) (T.obj _ _ st5)
  refine wpAny_passesOwn hp (thn (hg _ s5 σ3 H5 x u _ I5' r5 (step x H5 y5)) fun _ s6 ⟨σ6,H6,I6,q6⟩=>?_)
  refine wpAny_passesOwn hp (thn (hb _ s6 σ6 H6 _ I6 q6) fun f s7 q7=>?_)
  have again:∀ {σ7:St} {H7:Hp},Inv X (pins ++ QQ fp s5.heap) σ7 H7 s7->N σ7 H7->∃ m,m < n/\∃ i σ' H',Inv X pins σ' H' s7/\tn i s7.heap/\(∀ b∈fp,H' b=none)/\W i m σ' H':=fun {σ7 H7} I7 n7=>by
   obtain ⟨m',hm,w7⟩:=hN σ7 H7 n7
   refine ⟨m',hm,i + 1,σ7,H7,I7.unpinned,T.keep _ _ _ st5 fun b hb o e=>(I7.pin (b,o) (List.mem_append_right _ (List.mem_append_right _ (QC hb e)))).1,fun b hb=>?_,w7⟩
   obtain ⟨o,e,d⟩:=T.obj _ _ st5 b hb
   exact (I7.pin (b,o) (List.mem_append_right _ (List.mem_append_right _ (QC hb e)))).2.1
  cases f with
  | next=>obtain ⟨σ7,H7,I7,n7⟩:=q7;exact again I7 n7
  | cont=>obtain ⟨σ7,H7,I7,n7⟩:=q7;exact again I7 n7
  | brk=>obtain ⟨σ7,H7,I7,q7⟩:=q7;exact ⟨σ7,H7,I7.unpinned,q7⟩
  | ret v=>obtain ⟨x7,σ7,H7,I7,r7,q7⟩:=q7;exact ⟨x7,σ7,H7,I7.unpinned,r7,q7⟩
end
noncomputable abbrev R2:=V->V->Hp->VK->Prop
noncomputable def OpR (X:Cx) (f:Value->Value->Sem Value) (r:R2):Prop :=
 ∀ (pins:List (Addr×Obj)) (s:Shared) (σ:St) (H:Hp) (x y:V) (v u:Value) (Q:VK),Inv X pins σ H s->RelV x v->RelV y u->r x y H Q->
  wpAny (model X.prog X.w) X.A (f v u) (EP X pins σ Q) X.xe s
noncomputable def UnR (X:Cx) (f:Value->Sem Value) (r:V->Hp->VK->Prop):Prop :=
 ∀ (pins:List (Addr×Obj)) (s:Shared) (σ:St) (H:Hp) (x:V) (v:Value) (Q:VK),Inv X pins σ H s->RelV x v->r x H Q->
  wpAny (model X.prog X.w) X.A (f v) (EP X pins σ Q) X.xe s
noncomputable def J2 (X:Cx) (f:Value) (r:List V->Hp->VK->Prop):Prop :=
 ∀ (pins:List (Addr×Obj)) (s:Shared) (σ:St) (H:Hp) (xs:List V) (us:List Value) (Q:VK),Inv X pins σ H s->Vals xs us->r xs H Q->
  wpAny (model X.prog X.w) X.A (call f us) (EP X pins σ Q) X.xe s
noncomputable def tOp (r:R2) (ta tb:TE):TE:=fun σ H Q=>ta σ H fun x H1=>tb σ H1 fun y H2=>r x y H2 Q
noncomputable def tUn (r:V->Hp->VK->Prop) (ta:TE):TE:=fun σ H Q=>ta σ H fun x H1=>r x H1 Q
noncomputable def rI (C:Int->Int->Prop) (g:Int->Int->V):R2:=fun x y H Q=>∃ i j,x=.int i/\y=.int j/\C i j/\Q (g i j) H
noncomputable def rI0 (g:Int->Int->V):R2:=fun x y H Q=>∃ i j,x=.int i/\y=.int j/\Q (g i j) H
noncomputable def rU (g:Int->V):V->Hp->VK->Prop:=fun x H Q=>∃ i,x=.int i/\Q (g i) H
section
variable {X:Cx} {a b c:Expr} {ta tb tc:TE} {pos:Pos}
theorem binT (ha:PE X a ta) (hb:PE X b tb) {pins:List (Addr×Obj)} {s:Shared} {σ:St} {H:Hp} {R:V->V->Hp->Prop} (I:Inv X pins σ H s)
  (h:ta σ H fun x H1=>tb σ H1 fun y H2=>R x y H2) {Q:Value->Shared->Prop} {f:Value->Value->Sem Value}
  (hf:∀ v u s2 x y H2,Inv X pins σ H2 s2->RelV x v->RelV y u->R x y H2->wpAny (model X.prog X.w) X.A (f v u) Q X.xe s2) :
  wpAny (model X.prog X.w) X.A (eval a X.env) (fun v s₁=>wpAny (model X.prog X.w) X.A (eval b X.env) (fun u s₂=>wpAny (model X.prog X.w) X.A (f v u) Q X.xe s₂) X.xe s₁) X.xe s:=by
 refine thn (ha pins s σ H _ I h) fun v s1 ⟨x,H1,I1,r1,q1⟩=>?_
 refine thn (hb pins s1 σ H1 _ I1 q1) fun u s2 ⟨y,H2,I2,r2,q2⟩=>?_
 exact hf v u s2 x y H2 I2 r1 r2 q2
theorem pe_op {op:Operator} {r:R2} (ho:OpR X (binaryOp op) r) (ha:PE X a ta) (hb:PE X b tb):PE X (.BinOp a op b pos) (tOp r ta tb):=by
 intro pins s σ H Q I h
 exact wpAny_BinOp (binT ha hb I h fun v u s2 x y H2 I2 rx ry q=>ho pins s2 σ H2 x y v u Q I2 rx ry q)
theorem pe_un {op:UnaryOp} {r:V->Hp->VK->Prop} (ho:UnR X (unaryOp op) r) (ha:PE X a ta):PE X (.UnaryOp op a pos) (tUn r ta):=by
 intro pins s σ H Q I h
 exact UnaryOp_ (thn (ha pins s σ H _ I h) fun v s1 ⟨x,H1,I1,r1,q1⟩=>ho pins s1 σ H1 x v Q I1 r1 q1)
theorem opI {f:Value->Value->Sem Value} {C:Int->Int->Prop} {g:Int->Int->Int}
  (rule:∀ (i j:Int) (t u:Tok) (s:Shared) (Q:Value->Shared->Prop) (E:Value->Shared->Prop),C i j->Q (.int (g i j) s.toks) { s with toks:=s.toks + 1 }->wpAny (model X.prog X.w) X.A (f (.int i t) (.int j u)) Q E s) :
  OpR X f (rI C fun i j=>.int (g i j)):=by
 intro pins s σ H x y v u Q I rx ry h
 obtain ⟨i,j,rfl,rfl,hc,q⟩:=h
 obtain ⟨t,rfl⟩:=rx
 obtain ⟨t',rfl⟩:=ry
 exact rule i j t t' s _ _ hc ⟨.int (g i j),H,I.tok _,⟨_,rfl⟩,q⟩
theorem opI0 {f:Value->Value->Sem Value} {g:Int->Int->Int}
  (rule:∀ (i j:Int) (t u:Tok) (s:Shared) (Q:Value->Shared->Prop) (E:Value->Shared->Prop),Q (.int (g i j) s.toks) { s with toks:=s.toks + 1 }->wpAny (model X.prog X.w) X.A (f (.int i t) (.int j u)) Q E s) :
  OpR X f (rI0 fun i j=>.int (g i j)):=by
 intro pins s σ H x y v u Q I rx ry h
 obtain ⟨i,j,rfl,rfl,q⟩:=h
 obtain ⟨t,rfl⟩:=rx
 obtain ⟨t',rfl⟩:=ry
 exact rule i j t t' s _ _ ⟨.int (g i j),H,I.tok _,⟨_,rfl⟩,q⟩
theorem opB0 {f:Value->Value->Sem Value} {g:Int->Int->Bool}
  (rule:∀ (i j:Int) (t u:Tok) (s:Shared) (Q:Value->Shared->Prop) (E:Value->Shared->Prop),Q (.bool (g i j)) s->wpAny (model X.prog X.w) X.A (f (.int i t) (.int j u)) Q E s) :
  OpR X f (rI0 fun i j=>.bl (g i j)):=by
 intro pins s σ H x y v u Q I rx ry h
 obtain ⟨i,j,rfl,rfl,q⟩:=h
 obtain ⟨t,rfl⟩:=rx
 obtain ⟨t',rfl⟩:=ry
 exact rule i j t t' s _ _ ⟨.bl (g i j),H,I,rfl,q⟩
noncomputable def CDiv (i j:Int):Prop:=0 < j/\j < 1073741824
noncomputable def CPow (i j:Int):Prop:=0 <= j/\j <= 1000000/\i.natAbs < 2 ^ 64
noncomputable def CMul (i j:Int):Prop:=(-(2 ^ 64) < i/\i < 2 ^ 64)\/(-(2 ^ 64) < j/\j < 2 ^ 64)
theorem CMul.ok {i j:Int} (h:CMul i j):IntMulOk i j:=by
 rcases h with ⟨h1,h2⟩ | ⟨h1,h2⟩
 ·exact .of_left (intBits_le_64 h1 h2)
 ·exact .of_right (intBits_le_64 h1 h2)
theorem qjN:OpR X (binaryOp .Add) (rI0 fun i j=>.int (i + j)):=opI0 fun _ _ _ _ _ _ _ q=>add_int q
theorem qjS:OpR X (binaryOp .Sub) (rI0 fun i j=>.int (i - j)):=opI0 fun _ _ _ _ _ _ _ q=>sub_int q
theorem qhN:OpR X (binaryOp .FloorDiv) (rI CDiv fun i j=>.int (i / j)):=opI fun i j _ _ _ _ _ hc q=>by
 have h1:(0:Int) < j:=hc.1
 have h2:j < 1073741824:=hc.2
 exact floordiv_int (by omega) (by rw [Int.fdiv_eq_ediv_of_nonneg i (by omega)];exact q) (.inl (PyProof.noPylong_small (by omega)))
theorem qjP:OpR X (binaryOp .Mod) (rI (fun _ j=>0 < j) fun i j=>.int (i % j)):=opI fun i j _ _ _ _ _ hc q=>by
 have h1:(0:Int) < j:=hc
 exact mod_int' (by omega) (by rw [Int.fmod_eq_emod_of_nonneg i (by omega)];exact q)
theorem qjR:OpR X (binaryOp .Pow) (rI CPow fun i j=>.int (i ^ j.toNat)):=opI fun _ _ _ _ _ _ _ hc q=>pow_int_small hc.1 hc.2.1 hc.2.2 q
theorem unI {f:Value->Sem Value} {g:Int->Int}
  (rule:∀ (i:Int) (t:Tok) (s:Shared) (Q:Value->Shared->Prop) (E:Value->Shared->Prop),Q (.int (g i) s.toks) { s with toks:=s.toks + 1 }->wpAny (model X.prog X.w) X.A (f (.int i t)) Q E s) :
  UnR X f (rU fun i=>.int (g i)):=by
 intro pins s σ H x v Q I rx h
 obtain ⟨i,rfl,q⟩:=h
 obtain ⟨t,rfl⟩:=rx
 exact rule i t s _ _ ⟨.int (g i),H,I.tok _,⟨_,rfl⟩,q⟩
theorem qkF:UnR X (unaryOp .USub) (rU fun i=>.int (-i)):=unI fun _ _ _ _ _ q=>neg_int q
end
section
variable {X:Cx} {a b c:Expr} {ta tb tc:TE} {pos:Pos}
theorem ZJ {pins:List (Addr×Obj)} {σ:St} {H:Hp} {s:Shared} {Q:VK} {k k':Bool} (I:Inv X pins σ H s) (q:Q (.bl k) H) (e:k=k'):EP X pins σ Q (.bool k') s:=by
 subst e
 exact ⟨.bl k,H,I,rfl,q⟩
theorem op_gt:OpR X (compareOp .Gt) (rI0 fun i j=>.bl (decide (j < i))):=opB0 fun _ _ _ _ _ _ _ q=>gt_int q
theorem qhP:OpR X (compareOp .IsNot) (fun x y H Q=>y=.non/\Q (.bl (!decide (x=.non))) H):=by
 intro pins s σ H x y v u Q I rx ry h
 obtain ⟨rfl,q⟩:=h
 cases ry
 refine isnot_none_gen (ZJ I q ?_)
 cases x<;>first
  | (cases rx;rfl)
  | (obtain ⟨t,rfl⟩:=rx;rfl)
theorem OpR.or {f:Value->Value->Sem Value} {r r':R2} (h:OpR X f r) (h':OpR X f r'):OpR X f (fun x y H Q=>r x y H Q\/r' x y H Q):=by
 intro pins s σ H x y v u Q I rx ry q
 rcases q with q | q
 ·exact h pins s σ H x y v u Q I rx ry q
 ·exact h' pins s σ H x y v u Q I rx ry q
theorem zJ (b:Expr) {op:CmpOp} (h:op≠.In:=by decide) (h2:op≠.NotIn:=by decide):behindInMarks op b=false:=by
 have e1:(op == CmpOp.In)=false:=by cases op<;>first | rfl | exact absurd rfl h
 have e2:(op == CmpOp.NotIn)=false:=by cases op<;>first | rfl | exact absurd rfl h2
 cases b<;>simp [behindInMarks,e1,e2]
theorem qhW {op:CmpOp} {r:R2} (ho:OpR X (compareOp op) r) (ha:PE X a ta) (hb:PE X b tb) (hm:behindInMarks op b=false):PE X (.Compare a [op] [b] pos) (tOp r ta tb):=by
 intro pins s σ H Q I h
 exact wpAny_Compare1 (binT ha hb I h fun v u s2 x y H2 I2 rx ry q=>ho pins s2 σ H2 x y v u Q I2 rx ry q) hm
noncomputable def tTest (t:TE):TT:=fun σ H Q=>t σ H fun x H'=>∃ k,x=.bl k/\Q k H'
theorem qh7 {op:CmpOp} {r:R2} (ho:OpR X (compareOp op) r) (ha:PE X a ta) (hb:PE X b tb) (hm:behindInMarks op b=false):PT X (.Compare a [op] [b] pos) (tTest (tOp r ta tb)):=by
 intro pins s σ H Q I h
 refine wpAny_isTrue_Compare1 (thn (ha pins s σ H _ I h) fun v s1 ⟨x,H1,I1,r1,q1⟩=>thn (hb pins s1 σ H1 _ I1 q1) fun u s2 ⟨y,H2,I2,r2,q2⟩ =>
  thn (ho pins s2 σ H2 x y v u _ I2 r1 r2 q2) fun c s3 ⟨z,H3,I3,r3,k,e,q3⟩=>?_) hm
 subst e
 cases r3
 exact wpAny_truthy_bool ⟨H3,I3,q3⟩
theorem qae:(sizeLine:Nat) < 2 ^ 63:=by rw [sizeLine_eq];decide
theorem vals1 {x:V} {us:List Value} (r:Vals [x] us):∃ u,us=[u]/\RelV x u:=by
 cases r with
 | cons r1 r2=>cases r2;exact ⟨_,rfl,r1⟩
end
structure Room (k:Nat) (A:Around):Prop where
 hd:A.handled=none
 dp:A.depth + 3 * k + 5 < recursionLimit
 un:A.units + 16 * k + 200 < cLine
theorem Room.mono {j k:Nat} {A:Around} (r:Room k A) (h:j <= k):Room j A:=⟨r.hd,by have:=r.dp;omega,by have:=r.un;omega⟩
theorem Room.deeper {k:Nat} {A:Around} (r:Room (k + 1) A) (env:Env):Room k (A.deeper env) :=
 ⟨r.hd,by have:=r.dp;show A.depth + 1 + 3 * k + 5 < _;omega,by have:=r.un;show A.units + 3 + 16 * k + 200 < _;omega⟩
theorem Room.depth {k:Nat} {A:Around} (r:Room k A):A.depth < recursionLimit:=by have:=r.dp;omega
theorem Room.units {k:Nat} {A:Around} (r:Room k A):A.units + 64 < cLine:=by have:=r.un;omega
noncomputable def tNil:TA:=fun _ H Q=>Q [] H
noncomputable def qi1 (ta:TE) (tr:TA):TA:=fun σ H Q=>ta σ H fun x H1=>tr σ H1 fun xs H2=>Q (x :: xs) H2
section
variable {X:Cx} {e:Expr} {es:List Expr} {te:TE} {t:TA} {pos:Pos}
theorem qf4:PA X [] tNil:=fun _ _ _ _ H Q I h=>Calls.spliced_nil ⟨[],H,I,.nil,h⟩
theorem qaj (ha:PE X e te) (hr:PA X es t) (hs:starEach (e :: es) X.env=(false,eval e X.env) :: starEach es X.env:=by rfl):PA X (e :: es) (qi1 te t):=by
 intro pos pins s σ H Q I h
 rw [hs]
 show wpAny _ _ (spliced ((false,eval e X.env) :: backTo pos (starEach es X.env))) _ _ s
 refine Calls.spliced_cons (thn (ha pins s σ H _ I h) fun u s1 ⟨x,H1,I1,r1,q1⟩=>?_)
 exact thn (hr pos pins s1 σ H1 _ I1 q1) fun us s2 ⟨xs,H2,I2,r2,q2⟩=>⟨x :: xs,H2,I2,.cons r1 r2,q2⟩
noncomputable def tTup (t:TA):TE:=fun σ H Q=>t σ H fun xs H1=>xs.length <= sizeLine/\∀ p,H1 p=none->Q (.ref p) (upd H1 p (.tup xs))
noncomputable def tLst (t:TA):TE:=fun σ H Q=>t σ H fun xs H1=>xs.length <= sizeLine/\∀ p,H1 p=none->Q (.ref p) (upd H1 p (.lst xs))
theorem qj7 {x1} (h:PA X es t):PE X (.Tuple es x1 pos) (tTup t):=by
 intro pins s σ H Q I hq
 refine wpAny_Tuple_spliced (thn (h pos pins s σ H _ I hq) fun us s1 ⟨xs,H1,I1,r,z,q⟩=>⟨by rw [← r.length];exact z,?_⟩)
 have hf:H1 s1.heap.objs.size=none:=I1.hok.fresh (Nat.le_refl _)
 refine ⟨.ref s1.heap.objs.size,upd H1 s1.heap.objs.size (.tup xs),I1.laid (t':=s1.toks) (fun b u e=>Heap.get?_push_of_some _ e) (Nat.le_refl _) ?_,rfl,q _ hf⟩
 exact ⟨z,us,r,⟨_,Heap.get?_push_size _ rfl,rfl,_,rfl⟩⟩
theorem qgf (h:PA X es t):PE X (.List es pos) (tLst t):=by
 intro pins s σ H Q I hq
 refine wpAny_List_spliced (thn (h pos pins s σ H _ I hq) fun us s1 ⟨xs,H1,I1,r,z,q⟩=>⟨by rw [← r.length];exact z,?_⟩)
 have hf:H1 s1.heap.objs.size=none:=I1.hok.fresh (Nat.le_refl _)
 refine ⟨.ref s1.heap.objs.size,upd H1 s1.heap.objs.size (.lst xs),I1.laid (t':=s1.toks) (fun b u e=>Heap.get?_push_of_some _ e) (Nat.le_refl _) ?_,rfl,q _ hf⟩
 exact ⟨z,us,0,r,Heap.get?_push_size _ rfl⟩
end
noncomputable abbrev Sp:=List V->Hp->VK->XK->Prop
noncomputable abbrev CXT:=List Env->Hp->Shared->XK->Value->Shared->Prop
structure Env0 (P:Program) (w:World) (K:PySem.W.Frag) (mg:Str->Option Value) (base:Heap) (A:Around) (outer:List Env) (s:Shared) (H:Hp):Prop where
 frames:A.frames=some outer
 mod:Mod K mg base
 bs:∀ b o,base.get? b=some o->s.heap.get? b=some o/\H b=none
 bsz:base.objs.size <= s.heap.objs.size
 funs:s.heap.FunFrames base outer
 frf:∀ b∈frs outer,H b=none
 hok:HOk P w H s.heap
 bare:AllBare s.gens
noncomputable def CE (outer:List Env) (P:Program) (w:World) (H:Hp) (s:Shared) (Q:VK) (u:Value) (s':Shared):Prop :=
 ∃ v H',s'.os=s.os/\AllBare s'.gens/\Un (frs outer) [] H H' s.heap s'.heap/\HOk P w H' s'.heap/\RelV v u/\Q v H'
noncomputable def CR (CX:CXT) (outer:List Env) (P:Program) (w:World) (H:Hp) (s:Shared) (Q:VK) (E:XK) (r:Result) (s':Shared):Prop :=
 match r with
 | .ok (.ret u)=>CE outer P w H s Q u s'
 | .ok _=>False
 | .error e=>CX outer H s E e s'
structure FnOk (P:Program) (w:World) (K:PySem.W.Frag) (mg:Str->Option Value) (base:Heap) (CX:CXT) (k:Nat) (f:Addr) (fd:FuncData) (ps:List Str) (sp:Sp):Prop where
 len:∀ vs H Q E,sp vs H Q E->vs.length=ps.length
 run:∀ (A:Around) (outer:List Env) (s:Shared) (H:Hp) (args:Args) (us:List Value) (vs:List V) (Q:VK) (E:XK),Room k A->Env0 P w K mg base A outer s H->BindsTo s fd args (ps.zip us)->Vals vs us->sp vs H Q E->
  codeAny (model P w) A (.call (.ref f) args) (CR CX outer P w H s Q E) s
theorem FnOk.imp {P:Program} {w:World} {K:PySem.W.Frag} {mg:Str->Option Value} {base:Heap} {CX:CXT} {k:Nat} {f:Addr} {fd:FuncData} {ps:List Str} {sp sp':Sp} (F:FnOk P w K mg base CX k f fd ps sp)
  (h:∀ vs H Q E,sp' vs H Q E->sp vs H Q E):FnOk P w K mg base CX k f fd ps sp' :=
 ⟨fun vs H Q E q=>F.len vs H Q E (h _ _ _ _ q),fun A outer s H args us vs Q E hr he hb hv hs=>F.run A outer s H args us vs Q E hr he hb hv (h _ _ _ _ hs)⟩
section
variable {X:Cx} {pins:List (Addr×Obj)} {σ:St} {H:Hp} {s s':Shared}
theorem Inv.env0 (I:Inv X pins σ H s):Env0 X.prog X.w X.K X.mg X.base X.A X.stack s H :=
 ⟨I.ok.frames,I.ok.mod,I.bs,Nat.le_trans I.ok.bsz I.sz,I.stack,I.stkFree,I.hok,I.bare⟩
theorem Inv.after {Q:VK} {u:Value} (I:Inv X pins σ H s) (h:CE X.stack X.prog X.w H s Q u s'):EP X pins σ Q u s':=by
 obtain ⟨v,H',os,bare,un,hok,r,q⟩:=h
 obtain ⟨hh,g,d,t,os'⟩:=s'
 obtain rfl:os'=s.os:=os
 exact ⟨v,H',I.call (h':=hh) (g':=g) (d':=d) (t':=t) (ch:=[]) un hok bare (fun b z=>absurd z (by simp)),r,q⟩
end
noncomputable def tCall (sp:Sp) (dvs:List V) (E:XK) (t:TA):TE:=fun σ H Q=>t σ H fun vs H1=>sp (vs ++ dvs) H1 Q E
noncomputable def Binds (K:PySem.W.Frag) (fd:FuncData) (ps:List Str) (ds:List Value):Prop :=
 ∀ (s:Shared) (us:List Value),K.In s.heap->(us ++ ds).length=ps.length->BindsTo s fd ⟨us,[]⟩ (ps.zip (us ++ ds))
theorem Binds.all {K:PySem.W.Frag} {fd:FuncData} {ps:List Str} (h:∀ us:List Value,us.length=ps.length->bindArgs fd ⟨us,[]⟩=pure (ps.zip us)):Binds K fd ps []:=fun s us _ hl=>by
 rw [List.append_nil] at hl ⊢
 exact .of_eq (h us hl)
noncomputable def WK (CX:CXT) (X:Cx) (E:XK):Prop:=∀ (pins:List (Addr×Obj)) (σ:St) (H:Hp) (s:Shared) (e:Value) (s':Shared),Inv X pins σ H s->CX X.stack H s E e s'->X.xe e s'
section
variable {X:Cx} {CX:CXT} {k:Nat} {f C:Addr} {fd:FuncData} {ps:List Str} {sp:Sp} {dvs:List V} {ds:List Value} {E:XK} {x m:Str} {p pos apos:Pos} {e o:Expr} {es:List Expr} {ta:TE} {t:TA}
theorem qkj {pins:List (Addr×Obj)} {σ:St} {H:Hp} {s:Shared} {Q:VK} {us:List Value} {vs:List V} (F:FnOk X.prog X.w X.K X.mg X.base CX k f fd ps sp) (hr:Room k X.A) (hb:Binds X.K fd ps ds) (hd:Vals dvs ds) (hx:WK CX X E)
  (I:Inv X pins σ H s) (r:Vals vs us) (h:sp (vs ++ dvs) H Q E):wpAny (model X.prog X.w) X.A (call (.ref f) us) (EP X pins σ Q) X.xe s:=by
 have r2:Vals (vs ++ dvs) (us ++ ds):=r.append hd
 have hl:(us ++ ds).length=ps.length:=by rw [← r2.length];exact F.len _ _ _ _ h
 refine wpAny_call (codeAny_mono (F.run X.A X.stack s H ⟨us,[]⟩ (us ++ ds) (vs ++ dvs) Q E hr I.env0 (hb s us I.kIn hl) r2 h) fun r s' hq=>?_)
 cases r with
 | error e=>exact hx pins σ H s e s' I hq
 | ok fl =>
  cases fl with
  | ret u=>exact I.after hq
  | next=>exact False.elim hq
  | brk=>exact False.elim hq
  | cont=>exact False.elim hq
theorem qdj (F:FnOk X.prog X.w X.K X.mg X.base CX k f fd ps sp) (hr:Room k X.A) (hg:Gl X x) (hm:X.mg x=some (.ref f)) (hk:PySem.W.keepIn X.K (.ref f)=true) (hb:Binds X.K fd ps ds) (hd:Vals dvs ds) (hx:WK CX X E)
  (ha:PA X (e :: es) t) (hdb:(x == ("__debug__" : Str))=false:=by decide) (he:starEach (e :: es) X.env=(false,eval e X.env) :: starEach es X.env:=by rfl) (hpl:(backTo pos (starEach es X.env)).any (·.1)=false:=by rfl) :
  PE X (.Call (.Name x p) (e :: es) [] pos) (tCall sp dvs E t):=by
 intro pins s σ H Q I h
 refine wpAny_Call_Name_kw (qc8 I hg hm ?_ hdb)
 refine PySem.W.callWith_K (h₀:=X.base) I.ok.mod.kin hk (thn (ha pos pins s σ H _ I h) fun us s1 ⟨vs,H1,I1,r,q⟩=>⟨I1.kIn,?_⟩) he hpl
 exact qkj F hr hb hd hx I1 r q
end
noncomputable def PK (X:Cx) (kws:List Keyword) (t:TA):Prop :=
 ∀ (pos:Pos) (pins:List (Addr×Obj)) (s:Shared) (σ:St) (H:Hp) (Q:List V->Hp->Prop),Inv X pins σ H s->t σ H Q->wpAny (model X.prog X.w) X.A (evalAll ((backToKw pos (keywordEach kws X.env)).map (·.2))) (AP X pins σ Q) X.xe s
section
variable {X:Cx} {CX:CXT} {k:Nat} {f C:Addr} {fd:FuncData} {ps ks:List Str} {sp:Sp} {E:XK} {x m:Str} {p pos apos kpos:Pos} {e o:Expr} {es:List Expr} {kws:List Keyword} {te ta:TE} {t tk:TA} {nm:Option Str}
theorem qj9:PK X [] tNil:=fun _ _ _ _ H Q I h=>wpAny_evalAll_nil ⟨[],H,I,.nil,h⟩
theorem qh1 (ha:PE X e te) (hr:PK X kws t):PK X (⟨nm,e,kpos⟩ :: kws) (qi1 te t):=by
 intro pos pins s σ H Q I h
 show wpAny _ _ (evalAll ((do let v ← eval e X.env;standAt pos;pure v) :: (backToKw pos (keywordEach kws X.env)).map (·.2))) _ _ s
 refine wpAny_evalAll_cons (wpAny_bind (thn (ha pins s σ H _ I h) fun u s1 ⟨x,H1,I1,r1,q1⟩=>wpAny_bind (wpAny_standAt (wpAny_pure ?_))))
 exact thn (hr pos pins s1 σ H1 _ I1 q1) fun us s2 ⟨xs,H2,I2,r2,q2⟩=>⟨x :: xs,H2,I2,.cons r1 r2,q2⟩
variable {g:List Value->List Value->List Value} {gV:List V->List V->List V}
end
structure FnScope (N P:List Str) (sc:Scope):Prop where
 kind:sc.kind=.function
 co:sc.isCoroutine=false
 gen:sc.isGenerator=false
 nd:N.Nodup
 pre:N.take P.length=P
 par:∀ x∈P,sc.names.lookup x=some .local\/sc.names.lookup x=some .cell
 nofree:∀ y∈sc.names,y.2≠.free
theorem wN {kindOf:Str->Option NameKind} {x:Str}:∀ {binds:List (Str×Value)} {m:Str->Option Value},(∀ v,(x,v)∉binds)->bindL kindOf binds m x=m x
 | [],_,_=>rfl
 | (n,v) :: r,m,h=>by
  unfold bindL
  rw [wN fun w hw=>h w (List.mem_cons_of_mem _ hw)]
  split
  ·have:x≠n:=by rintro rfl;exact h v List.mem_cons_self
   simp [this]
  ·rfl
theorem wL {kindOf:Str->Option NameKind} {x:Str}:∀ {binds:List (Str×Value)} {m:Str->Option Value},(∀ v,(x,v)∉binds)->bindC kindOf binds m x=m x
 | [],_,_=>rfl
 | (n,v) :: r,m,h=>by
  unfold bindC
  rw [wL fun w hw=>h w (List.mem_cons_of_mem _ hw)]
  split
  ·rfl
  ·have:x≠n:=by rintro rfl;exact h v List.mem_cons_self
   simp [this]
theorem wM {kindOf:Str->Option NameKind} {x:Str} {v:Value}:∀ {P:List Str} {vs:List Value} {i:Nat} {m:Str->Option Value},P.Nodup->P[i]?=some x->vs[i]?=some v->kindOf x=some .local->
  bindL kindOf (P.zip vs) m x=some v
 | [],_,_,_,_,h,_,_=>by simp at h
 | _ :: _,[],_,_,_,_,h,_=>by simp at h
 | p :: P,w :: vs,0,m,nd,h1,h2,hk=>by
  simp at h1 h2;subst h1;subst h2
  show bindL kindOf ((p,w) :: P.zip vs) m p=_
  unfold bindL
  rw [wN fun v hv=>(List.nodup_cons.mp nd).1 (List.of_mem_zip hv).1,if_pos hk]
  simp
 | p :: P,w :: vs,i + 1,m,nd,h1,h2,hk=>by
  show bindL kindOf ((p,w) :: P.zip vs) m x=_
  unfold bindL
  exact wM (i:=i) (List.nodup_cons.mp nd).2 (by simpa using h1) (by simpa using h2) hk
theorem wK {kindOf:Str->Option NameKind} {x:Str} {v:Value}:∀ {P:List Str} {vs:List Value} {i:Nat} {m:Str->Option Value},P.Nodup->P[i]?=some x->vs[i]?=some v->kindOf x≠some .local->
  bindC kindOf (P.zip vs) m x=some v
 | [],_,_,_,_,h,_,_=>by simp at h
 | _ :: _,[],_,_,_,_,h,_=>by simp at h
 | p :: P,w :: vs,0,m,nd,h1,h2,hk=>by
  simp at h1 h2;subst h1;subst h2
  show bindC kindOf ((p,w) :: P.zip vs) m p=_
  unfold bindC
  rw [wL fun v hv=>(List.nodup_cons.mp nd).1 (List.of_mem_zip hv).1,if_neg hk]
  simp
 | p :: P,w :: vs,i + 1,m,nd,h1,h2,hk=>by
  show bindC kindOf ((p,w) :: P.zip vs) m x=_
  unfold bindC
  exact wK (i:=i) (List.nodup_cons.mp nd).2 (by simpa using h1) (by simpa using h2) hk
noncomputable def start (N:List Str) (vs:List V):St:=vs.map some ++ List.replicate (N.length - vs.length) none
noncomputable def cxOf (CX:CXT) (P:Program) (w:World) (K:PySem.W.Frag) (mg:Str->Option Value) (base:Heap) (N:List Str) (qual:Str) (scope:Scope) (f:Addr) (cd:Value) (A:Around) (outer:List Env) (s:Shared) (H:Hp) (E:XK):Cx where
 prog:=P
 w:=w
 K:=K
 mg:=mg
 base:=base
 A:=A.deeper (envOfC qual scope s.heap.objs.size f cd)
 N:=N
 s₀:=s
 H₀:=H
 env:=envOfC qual scope s.heap.objs.size f cd
 outer:=outer
 stack:=envOfC qual scope s.heap.objs.size f cd :: outer
 ex:=[]
 calm:=true
 fn:=fun _=>true
 pn:=[]
 xe:=fun e s'=>wpAny (model P w) (A.deeper (envOfC qual scope s.heap.objs.size f cd)) (leaving (envOfC qual scope s.heap.objs.size f cd) e) (fun _ s''=>CX outer H s E e s'') (fun e' s''=>CX outer H s E e' s'') s'
theorem qaG {sc:Scope} {n:Nat} {x:Str} (h:sc.names.lookup x=some .cell):∃ c,(cellsFrom n sc.names []).lookup x=some c:=by
 have q:=PySem.W.cellsFrom_some sc.names n [] (.inl h)
 exact Option.isSome_iff_exists.mp q
theorem qdU {CX:CXT} {P:Program} {w:World} {K:PySem.W.Frag} {mg:Str->Option Value} {base:Heap} {N ps:List Str} {qual:Str} {scope:Scope} {f:Addr} {cd:Value} {A:Around} {outer:List Env} {s s1:Shared} {H:Hp} {E:XK} {us:List Value} {vs:List V}
  (S:FnScope N ps scope) (hd:A.handled=none) (e0:Env0 P w K mg base A outer s H) (hl:vs.length=ps.length) (r:Vals vs us)
  (x:InCallC s s.heap.objs.size (bindL (envOfC qual scope s.heap.objs.size f cd).kindOf (ps.zip us) fun _=>none) (cellsFrom (s.heap.objs.size + 1) scope.names []) (bindC (envOfC qual scope s.heap.objs.size f cd).kindOf (ps.zip us) fun _=>none) s1) :
  Inv (cxOf CX P w K mg base N qual scope f cd A outer s H E) [] (start N vs) H s1:=by
 have hpl:ps.length <= N.length:=by have:=congrArg List.length S.pre;rw [List.length_take] at this;omega
 obtain ⟨h1,tk,rfl,hk⟩:=x.done
 have noA:∀ b:Addr,b∉(cxOf CX P w K mg base N qual scope f cd A outer s H E).ex:=fun b z=>absurd (show b∈([]:List Addr) from z) (by simp)
 refine ⟨⟨e0.mod,S.kind,rfl,rfl,Nat.le_refl _,fun y z c h1 h2=>?_,fun y hy=>?_,fun y c _ h=>?_,fun _=>hd,Around.frames_deeper e0.frames,.inr ⟨rfl,rfl⟩,fun b z=>absurd z (noA b),e0.bs,e0.bsz,fun b _ _=>noA b,fun b z=>absurd z (noA b),e0.funs,e0.frf⟩,
  rfl,e0.bare,Un.kept hk,⟨_,x.toInCall.ns,fun i y v h1 h2 h3=>?_⟩,fun y c h=>⟨_,x.cell y c h⟩,e0.hok.fresh (Nat.le_refl _),fun y c h=>?_,fun p hp=>absurd (show p∈([]:List (Addr×Obj)) from hp) (by simp),e0.hok.kept hk,?_⟩
 ·exact name_of_addr x.apart (PySem.mem_of_lookup h1) (PySem.mem_of_lookup h2)
 ·have hy:scope.names.lookup y=some .cell\/scope.names.lookup y=some .free:=hy
  rcases hy with hy | hy
  ·exact qaG hy
  ·exact absurd rfl (S.nofree _ (PySem.mem_of_lookup hy))
 ·exact Nat.le_of_lt (x.above y c (PySem.mem_of_lookup h))
 ·have hi:i < vs.length:=by
   unfold start at h2
   by_cases hi:i < vs.length
   ·exact hi
   ·rw [List.getElem?_append_right (by simpa using hi)] at h2
    rw [List.getElem?_replicate] at h2
    split at h2<;>cases h2
  have ha:vs[i]?=some v:=by
   unfold start at h2
   rw [List.getElem?_append_left (by simpa using hi),List.getElem?_map] at h2
   cases e:vs[i]? with
   | none=>rw [e] at h2;cases h2
   | some a=>rw [e] at h2;cases h2;rfl
  obtain ⟨u,hu,rv⟩:=r.get ha
  have hp:ps[i]?=some y:=by
   rw [← S.pre,List.getElem?_take_of_lt (by omega)];exact h1
  have ndP:ps.Nodup:=by rw [← S.pre];exact S.nd.sublist (List.take_sublist _ _)
  refine ⟨u,rv,?_⟩
  rcases S.par y (List.mem_of_getElem? hp) with k | k
  ·exact .inl ⟨k,wM ndP hp hu k⟩
  ·obtain ⟨c,e⟩:=qaG (n:=s.heap.objs.size + 1) k
   refine .inr ⟨.inl k,c,e,?_⟩
   have q:=x.cell y c e
   rw [wK ndP hp hu (by show scope.names.lookup y≠_;rw [k];decide)] at q
   exact q
 ·exact e0.hok.fresh (Nat.le_of_lt (x.above y c (PySem.mem_of_lookup h)))
 ·unfold start
  show _=N.length
  rw [List.length_append,List.length_map,List.length_replicate]
  omega
theorem qiP {CX:CXT} {P:Program} {w:World} {K:PySem.W.Frag} {mg:Str->Option Value} {base:Heap} {k:Nat} {f:Addr} {name qual:Str} {params:Arguments} {body:List Stmt} {scope:Scope} {dV kV doc pm cdv ct oc:Value} {an od:Option Addr}
  {osl:Array (Option Value)} {N ps:List Str} {sp:Sp} (lk:K.lookup f=some ⟨oc,od,.func (PySem.W.fnOf name qual params body scope dV kV doc pm an cdv ct),osl⟩) (hcd:PySem.W.codeIn K cdv qual=true) (S:FnScope N ps scope)
  (len:∀ vs H Q E,sp vs H Q E->vs.length=ps.length)
  (hbody:∀ (A:Around) (outer:List Env) (s:Shared) (H:Hp) (vs:List V) (Q:VK) (E:XK),Room k (A.deeper (envOfC qual scope s.heap.objs.size f cdv))->sp vs H Q E->
   ∃ t,PSs (cxOf CX P w K mg base N qual scope f cdv A outer s H E) body t/\t { nx:=fun _ H'=>Q .non H',rt:=Q } (start N vs) H) :
  FnOk P w K mg base CX (k + 1) f (PySem.W.fnOf name qual params body scope dV kV doc pm an cdv ct) ps sp:=by
 refine ⟨len,fun A outer s H args us vs Q E hr e0 hb r hsp=>?_⟩
 have hl:=len _ _ _ _ hsp
 have KX:K.In s.heap:=e0.mod.kin.keeps fun b o e=>(e0.bs b o e).1
 have lim:s.heap.NoLimit:=e0.mod.nolimit.keeps fun b o e=>(e0.bs b o e).1
 have hkind:∀ y∈ps.zip us,scope.names.lookup y.1=some .local\/(scope.names.lookup y.1=some .cell/\((cellsFrom (s.heap.objs.size + 1) scope.names []).lookup y.1).isSome=true):=fun ⟨n,v⟩ hy=>by
  rcases S.par n (List.of_mem_zip hy).1 with q | q
  ·exact .inl q
  ·exact .inr ⟨q,PySem.W.cellsFrom_some _ _ _ (.inl q)⟩
 refine codeAny_call_function hr.depth (KX _ _ lk) rfl S.co S.gen rfl (PySem.W.codeRec_of KX hcd) (hb _ _ _ _ ?_)
 refine wpAny_newFunctionEnv_cells S.kind hkind fun env he s1 x=>?_
 subst he
 refine ⟨lim.keeps x.toInCall.keep,codeAny_func ?_⟩
 obtain ⟨t,ht,hq⟩:=hbody A outer s H vs Q E (hr.deeper _) hsp
 have I:Inv (cxOf CX P w K mg base N qual scope f cdv A outer s H E) [] (start N vs) H s1:=qdU S hr.hd e0 hl r x
 refine wpAny_mono (ht [] s1 (start N vs) H _ I hq) (fun fl s' hs=>?_) fun e s' hs=>hs
 have fin:∀ {σ':St} {H':Hp} {v:V} {u:Value},Inv (cxOf CX P w K mg base N qual scope f cdv A outer s H E) [] σ' H' s'->RelV v u->Q v H'->CE outer P w H s Q u s' :=
  fun {σ' H' v u} J rv q=>⟨v,H',J.os,J.bare,J.base,J.hok,rv,q⟩
 cases fl with
 | ret u =>
  obtain ⟨v,σ',H',J,rv,q⟩:=hs
  exact fin J rv q
 | next =>
  obtain ⟨σ',H',J,q⟩:=hs
  exact fin (v:=V.non) (u:=Value.none) J rfl q
 | brk =>
  obtain ⟨_,_,_,q⟩:=hs
  exact False.elim q
 | cont =>
  obtain ⟨_,_,_,q⟩:=hs
  exact False.elim q
section
variable {X:Cx} {x:Str} {p pos:Pos} {e:Expr} {es:List Expr} {t:TA} {id T:String} {r:List V->Hp->VK->Prop}
noncomputable def tCB (r:List V->Hp->VK->Prop) (t:TA):TE:=fun σ H Q=>t σ H fun vs H1=>r vs H1 Q
theorem YJ (hc:J2 X (.builtin id) r) (hg:Gl X x) (hm:X.mg x=none) (hv:bootBuiltins x=some (.builtin id)) (ha:PA X (e :: es) t) (hn:x ≠ "__name__" := by decide) (hdb:(x == ("__debug__" : Str))=false:=by decide)
  (he:starEach (e :: es) X.env=(false,eval e X.env) :: starEach es X.env:=by rfl) (hpl:(backTo pos (starEach es X.env)).any (·.1)=false:=by rfl):PE X (.Call (.Name x p) (e :: es) [] pos) (tCB r t):=by
 intro pins s σ H Q I h
 refine wpAny_Call_Name_kw (jT I hg hm hv ?_ hn hdb)
 exact PyProof.Rows.callWith_builtin1 (thn (ha pos pins s σ H _ I h) fun us s1 ⟨vs,H1,I1,r1,q1⟩=>hc pins s1 σ H1 vs us Q I1 r1 q1) he hpl
theorem Wl (hc:J2 X (.type T) r) (hg:Gl X x) (hm:X.mg x=none) (hv:bootBuiltins x=some (.type T)) (ha:PA X (e :: es) t) (hn:x ≠ "__name__" := by decide) (hdb:(x == ("__debug__" : Str))=false:=by decide)
  (he:starEach (e :: es) X.env=(false,eval e X.env) :: starEach es X.env:=by rfl) (hpl:(backTo pos (starEach es X.env)).any (·.1)=false:=by rfl):PE X (.Call (.Name x p) (e :: es) [] pos) (tCB r t):=by
 intro pins s σ H Q I h
 refine wpAny_Call_Name_kw (jT I hg hm hv ?_ hn hdb)
 exact PyProof.Rows.callWith_type1 (thn (ha pos pins s σ H _ I h) fun us s1 ⟨vs,H1,I1,r1,q1⟩=>hc pins s1 σ H1 vs us Q I1 r1 q1) he hpl
end
end L2
namespace HT
open PySem PyProof.Rows
noncomputable def lexLt:List Int->List Int->Bool
 | [],[]=>false
 | [],_ :: _=>true
 | _ :: _,[]=>false
 | x :: xs,y :: ys=>if x=y then lexLt xs ys else decide (x < y)
theorem zG (x y:Int) (xs ys:List Int):lexLt (x :: xs) (y :: ys)=if x=y then lexLt xs ys else decide (x < y):=rfl
theorem wy:lexLt [] []=false:=rfl
theorem qby (A:Around) (s:Shared) (a:Int) (t:Tok) (c:Int) (u:Tok) (prog:Program) (w:World) (E:Value->Shared->Prop) (Q:Value->Shared->Prop) (h:Q (.bool (decide (a < c))) s) :
  wpAny (model prog w) A (richCompare .Lt (.int a t) (.int c u)) Q E s :=
 (PyProof.Rows.lt_int h:wpAny (model prog w) A (compareOp .Lt (.int a t) (.int c u)) Q E s)
section
open PySem.SeqAt
open PySem.AutoSeq1 (wpAny_loadPart')
open PySem.MeetsSeq PySem.MeetsSeq2 PySem.MeetsSeq3
end
section
variable {prog:Program} {w:World} {A:Around} {E:Value->Shared->Prop} {s:Shared}
theorem qgY {t b:Addr} {vs ws:List Value} {Q:Value->Shared->Prop} (ht:IsTup s.heap t vs.toArray) (hb:IsTup s.heap b ws.toArray) (hv:vs≠[])
  (h1:ws=[]->Q (.ref t) s) (h2:ws≠[]->Q (.ref s.heap.objs.size) { s with heap:=s.heap.push { cls:=.type "tuple", data:=.seq (vs ++ ws).toArray } })
  (hsz:vs.length + ws.length <= sizeLine):wpAny (model prog w) A (binaryOp .Add (.ref t) (.ref b)) Q E s:=by
 obtain ⟨⟨cls,dd,data,sl⟩,ho,hc,n,hd⟩:=id ht
 obtain ⟨⟨cls2,dd2,data2,sl2⟩,ho2,hc2,n2,hd2⟩:=id hb
 simp only at hc hd hc2 hd2
 subst hc hd hc2 hd2
 have e:vs.toArray ++ ws.toArray=(vs ++ ws).toArray:=by simp
 by_cases hw:ws=[]
 ·exact concat_meets ⟨_,ho,rfl⟩ ⟨_,ho2,rfl⟩ noFill_tuple_add seq_tuple_add PySem.F.slot_tuple_add PySem.F.entry_tuple_add (PySem.F.args_tuple_add_2 _ _)
   (tuple_addW1 t b vs.toArray ws.toArray n n2 dd dd2 sl sl2 (by simpa using hv) (by simp [hw])) ⟨ho,ho2,h1 hw⟩
 ·refine concat_meets ⟨_,ho,rfl⟩ ⟨_,ho2,rfl⟩ noFill_tuple_add seq_tuple_add PySem.F.slot_tuple_add PySem.F.entry_tuple_add (PySem.F.args_tuple_add_2 _ _)
   (tuple_addW2 t b vs.toArray ws.toArray n n2 dd dd2 sl sl2 (by simpa using hv) (by simpa using hw) (by rw [List.size_toArray,List.size_toArray];exact hsz)) ⟨ho,ho2,?_⟩
  rw [e]
  exact h2 hw
noncomputable def sIx (n d:Nat):Option Int->Nat
 | none=>d
 | some v=>if v < 0 then (v + (n:Int)).toNat else min v.toNat n
theorem qkl (n d:Nat) (hd:d <= n) (o:Option Int):sIx n d o <= n:=by
 cases o with
 | none=>exact hd
 | some v =>
  show (if v < 0 then (v + (n:Int)).toNat else min v.toNat n) <= n
  by_cases hv:v < 0
  ·rw [if_pos hv];omega
  ·rw [if_neg hv];exact Nat.min_le_right _ _
theorem qcJ (v:Int) (n d:Nat):(if v < 0 then max (v + (n:Int)) 0 else min v (n:Int))=((sIx n d (some v):Nat):Int):=by
 show (if v < 0 then max (v + (n:Int)) 0 else min v (n:Int))=(((if v < 0 then (v + (n:Int)).toNat else min v.toNat n):Nat):Int)
 by_cases hv:v < 0
 ·simp only [if_pos hv];omega
 ·simp only [if_neg hv];omega
theorem qbV (lo hi:Option Int) (n:Nat):Builtin.Slice.sliceAdjust lo hi 1 (n:Int)=(((sIx n 0 lo:Nat):Int),((sIx n n hi:Nat):Int)):=by
 have h1:¬ ((1:Int) < 0):=by omega
 unfold Builtin.Slice.sliceAdjust
 simp only [h1,if_false]
 refine Prod.ext ?_ ?_
 ·cases lo with
  | none=>rfl
  | some v=>exact qcJ v n 0
 ·cases hi with
  | none=>rfl
  | some v=>exact qcJ v n n
theorem qck (i j:Nat):Builtin.Slice.slicePlaces (i:Int) (j:Int) 1=j - i:=by
 unfold Builtin.Slice.slicePlaces
 have h1:(1:Int) > 0:=by omega
 simp only [h1,if_true,Int.ediv_one]
 split<;>omega
theorem YZ {v:Value} {o:Option Int} {Q:Option Int->Shared->Prop} (p:IsPart v o) (h:Q o s):wpAny (model prog w) A (Builtin.Slice.slicePartIndex v) Q E s:=by
 cases p with
 | none=>exact slicePart_none h
 | int i t=>exact slicePart_int h
theorem JV {sl:Addr} {vl vu:Value} {lo hi:Option Int} {n:Nat} {Q:Int×Int×Nat->Shared->Prop} (hs:s.heap.IsSliceOf sl vl vu .none) (pl:IsPart vl lo) (pu:IsPart vu hi)
  (h:Q (((sIx n 0 lo:Nat):Int),1,sIx n n hi - sIx n 0 lo) s):wpAny (model prog w) A (Builtin.Slice.sliceApplied (.ref sl) (pure (n:Int))) Q E s:=by
 obtain ⟨os,hos,hcs,hds⟩:=id hs
 unfold Builtin.Slice.sliceApplied Builtin.Slice.sliceFields
 refine wpAny_bind (wpAny_bind (wpAny_field hos hds (x:=vl) rfl (wpAny_bind (wpAny_field hos hds (x:=vu) rfl (wpAny_bind (wpAny_field hos hds (x:=.none) rfl (wpAny_pure ?_)))))))
 refine wpAny_bind (slicePart_none ?_)
 show wpAny _ _ (if ((1:Int) == 0)=true then _ else _) _ _ s
 rw [if_neg (by decide)]
 refine wpAny_bind (YZ pl (wpAny_bind (YZ pu (wpAny_bind (wpAny_pure ?_)))))
 show wpAny _ _ (match Builtin.Slice.sliceAdjust lo hi 1 (n:Int) with | (lo,hi)=>pure (lo,(1:Int),Builtin.Slice.slicePlaces lo hi 1)) _ _ s
 rw [qbV lo hi n]
 show wpAny _ _ (pure (((sIx n 0 lo:Nat):Int),(1:Int),Builtin.Slice.slicePlaces ((sIx n 0 lo:Nat):Int) ((sIx n n hi:Nat):Int) 1)) _ _ s
 rw [qck]
 exact wpAny_pure h
theorem qgl (xs:Array Value) (i k:Nat):((List.range k).filterMap fun (m:Nat)=>xs[((i:Int) + (m:Int) * 1).toNat]?).toArray=((xs.toList.drop i).take k).toArray:=by
 have e:(fun (m:Nat)=>xs[((i:Int) + (m:Int) * 1).toNat]?)=fun m=>xs[i + m]?:=by
  funext m
  have:((i:Int) + (m:Int) * 1).toNat=i + m:=by omega
  rw [this]
 rw [e]
 have:=pick_run xs i k
 rw [List.filterMap_map] at this
 have e2:((fun x=>xs[x]?) ∘ fun x=>i + x)=fun m=>xs[i + m]?:=rfl
 rw [e2] at this
 rw [this]
theorem Jp {t sl:Addr} {items:Array Value} {vl vu:Value} {lo hi:Option Int} {Q:Value->Shared->Prop} (ht:IsTup s.heap t items) (hs:s.heap.IsSliceOf sl vl vu .none) (pl:IsPart vl lo) (pu:IsPart vu hi)
  (hw:¬ (sIx items.size 0 lo=0/\sIx items.size items.size hi=items.size))
  (h:Q (.ref s.heap.objs.size) { s with heap:=s.heap.push { cls:=.type "tuple", data:=.seq ((items.toList.drop (sIx items.size 0 lo)).take (sIx items.size items.size hi - sIx items.size 0 lo)).toArray } })
  (hsz:items.size <= sizeLine):wpAny (model prog w) A (getItem (.ref t) (.ref sl)) Q E s:=by
 have htake:sizeOk (.seq ((items.toList.drop (sIx items.size 0 lo)).take (sIx items.size items.size hi - sIx items.size 0 lo)).toArray):=by
  show ((items.toList.drop (sIx items.size 0 lo)).take (sIx items.size items.size hi - sIx items.size 0 lo)).toArray.size <= sizeLine
  rw [List.size_toArray,List.length_take,List.length_drop,Array.length_toList]
  omega
 have hj:sIx items.size items.size hi <= items.size:=qkl _ _ (Nat.le_refl _) hi
 obtain ⟨os,hos,hcs,hds⟩:=id hs
 have hTs:s.TypeIs (.ref sl) "slice" := ⟨os,hos,hcs⟩
 unfold getItem
 try with_reducible refine wpAny_holding ?_
 first | refine wpAny_bind (wpAny_pure ?_) | skip
 refine wpAny_bind (wpAny_sequenceKey ht.typeIs (by decide) ?_)
 refine wpAny_bind (wpAny_callSpecial?_slot (name:=Str.ofString "__getitem__") ht.typeIs PyProof.Rows.slot_tuple_getitem
  (wpAny_call_entry PyProof.Rows.slot_tuple_getitem ht.typeIs entry_tuple_getitem ?_ (args_tuple_getitem _ _)))
 show wpAny _ _ (Builtin.Tuple.tupleItemsOf (.ref t) >>= _) _ _ s
 refine wpAny_bind (tupleItemsOf_ ht ?_)
 refine wpAny_bind (wpAny_typeOf hTs ?_)
 rw [if_pos (by decide)]
 refine wpAny_bind (JV hs pl pu ?_)
 have hno:¬ ((((sIx items.size 0 lo:Nat):Int) == 0 && (1:Int) == 1 && (sIx items.size items.size hi - sIx items.size 0 lo) == items.size)=true):=by
  intro q
  rw [Bool.and_eq_true,Bool.and_eq_true] at q
  have q1:((sIx items.size 0 lo:Nat):Int)=0:=eq_of_beq q.1.1
  have q2:sIx items.size items.size hi - sIx items.size 0 lo=items.size:=eq_of_beq q.2
  exact hw ⟨by omega,by omega⟩
 show wpAny _ _ (if (((sIx items.size 0 lo:Nat):Int) == 0 && (1:Int) == 1 && (sIx items.size items.size hi - sIx items.size 0 lo) == items.size)=true then _ else _) _ _ s
 rw [if_neg hno,qgl]
 first
  | exact wpAny_bind (m:=Builtin.Tuple.tupleExact _) (wpAny_newObj_type (wpAny_pure ⟨_,rfl,wpAny_pure h⟩) htake)
  | exact wpAny_bind (m:=Builtin.Tuple.tupleExact _) (wpAny_newObj_type (wpAny_bind (wpAny_pure (wpAny_pure ⟨_,rfl,wpAny_pure h⟩))) htake)
  | exact wpAny_bind (wpAny_bind (m:=Builtin.Tuple.tupleExact _) (wpAny_newObj_type (wpAny_pure (wpAny_pure ⟨_,rfl,wpAny_pure h⟩)) htake))
  | exact wpAny_bind (wpAny_bind (m:=Builtin.Tuple.tupleExact _) (wpAny_newObj_type (wpAny_pure ⟨_,rfl,wpAny_pure h⟩) htake))
end
end HT
namespace L2
open PySem PySem.Spec PyProof.Rows
noncomputable abbrev TO:=St->Hp->(Option Int->Hp->Prop)->Prop
noncomputable def PO (X:Cx) (e:Option Expr) (t:TO):Prop :=
 ∀ (pins:List (Addr×Obj)) (s:Shared) (σ:St) (H:Hp) (Q:Option Int->Hp->Prop),Inv X pins σ H s->t σ H Q->
  wpAny (model X.prog X.w) X.A (evalPart e X.env) (fun u s'=>∃ o H',Inv X pins σ H' s'/\IsPart u o/\Q o H') X.xe s
noncomputable def tPart (t:TE):TO:=fun σ H Q=>t σ H fun x H1=>∃ i,x=.int i/\Q (some i) H1
section
variable {X:Cx} {e:Expr} {te:TE} {lo hi:Option Expr} {tl th:TO} {pos p2:Pos}
theorem qh3 (h:PE X e te):PO X (some e) (tPart te):=by
 intro pins s σ H Q I hw
 rw [evalPart_some]
 refine thn (h pins s σ H _ I hw) fun u s1 ⟨x,H1,I1,r1,q1⟩=>?_
 obtain ⟨i,rfl,q⟩:=q1
 obtain ⟨t,rfl⟩:=r1
 exact ⟨some i,H1,I1,.int i t,q⟩
noncomputable def SlR (X:Cx) (r:V->Option Int->Option Int->Hp->VK->Prop):Prop :=
 ∀ (pins:List (Addr×Obj)) (s:Shared) (σ:St) (H:Hp) (x:V) (v vl vu:Value) (lo hi:Option Int) (sl:Addr) (Q:VK),Inv X pins σ H s->RelV x v->s.heap.IsSliceOf sl vl vu .none->IsPart vl lo->IsPart vu hi->r x lo hi H Q->
  ∃ T id,typeLookup (.type T) "__getitem__" = pure (some (.builtin id))/\s.TypeIs v T/\wpAny (model X.prog X.w) X.A (getItem v (.ref sl)) (EP X pins σ Q) X.xe s
theorem SlR.or {r r':V->Option Int->Option Int->Hp->VK->Prop} (h:SlR X r) (h':SlR X r'):SlR X (fun x lo hi H Q=>r x lo hi H Q\/r' x lo hi H Q):=by
 intro pins s σ H x v vl vu lo hi sl Q I rx hs pl pu q
 rcases q with q | q
 ·exact h pins s σ H x v vl vu lo hi sl Q I rx hs pl pu q
 ·exact h' pins s σ H x v vl vu lo hi sl Q I rx hs pl pu q
noncomputable def tSl (r:V->Option Int->Option Int->Hp->VK->Prop) (te:TE) (tl th:TO):TE:=fun σ H Q=>te σ H fun x H1=>tl σ H1 fun l H2=>th σ H2 fun u H3=>r x l u H3 Q
theorem qgg {r:V->Option Int->Option Int->Hp->VK->Prop} (hr:SlR X r) (he:PE X e te) (hl:PO X lo tl) (hu:PO X hi th):PE X (.Subscript e (.Slice lo hi none p2) pos) (tSl r te tl th):=by
 intro pins s σ H Q I h
 refine Subscript_ (thn (he pins s σ H _ I h) fun v s1 ⟨x,H1,I1,r1,q1⟩=>?_)
 refine wpAny_Slice (thn (hl pins s1 σ H1 _ I1 q1) fun vl s2 ⟨l,H2,I2,pl,q2⟩=>thn (hu pins s2 σ H2 _ I2 q2) fun vu s3 ⟨u,H3,I3,pu,q3⟩=>?_)
 rw [evalPart_none]
 refine wpAny_pure ?_
 have I4:Inv X pins σ H3 { s3 with heap:=s3.heap.push { cls:=.type "slice", data:=.fields #[vl,vu,.none] } }:=I3.kept (t':=s3.toks) fun b ob q=>Heap.get?_push_of_some _ q
 obtain ⟨T,id,hT,ht,hg⟩:=hr pins { s3 with heap:=s3.heap.push { cls:=.type "slice", data:=.fields #[vl,vu,.none] } } σ H3 x v vl vu l u s3.heap.objs.size Q I4 r1 (Heap.IsSliceOf.new ..) pl pu q3
 show wpAny (model X.prog X.w) X.A (subscriptTail e (.Slice lo hi none p2) v (.ref s3.heap.objs.size)) (EP X pins σ Q) X.xe { s3 with heap:=s3.heap.push { cls:=.type "slice", data:=.fields #[vl,vu,.none] } }
 exact tail_any (ops:=[.ref s3.heap.objs.size,v]) ht hT hg (by with_unfolding_all rfl)
noncomputable def cutV (xs:List V) (lo hi:Option Int):List V:=(xs.drop (HT.sIx xs.length 0 lo)).take (HT.sIx xs.length xs.length hi - HT.sIx xs.length 0 lo)
theorem yc (xs:List V) (lo hi:Option Int):(cutV xs lo hi).length <= xs.length:=by
 unfold cutV
 rw [List.length_take,List.length_drop]
 omega
noncomputable def rSlT (K:PySem.W.Frag):V->Option Int->Option Int->Hp->VK->Prop:=fun x lo hi H Q=>∃ a xs,x=.ref a/\SqT K H a xs/\
 ¬ (HT.sIx xs.length 0 lo=0/\HT.sIx xs.length xs.length hi=xs.length)/\∀ p,H p=none->Q (.ref p) (upd H p (.tup (cutV xs lo hi)))
theorem qkw:SlR X (rSlT X.K):=by
 intro pins s σ H x v vl vu lo hi sl Q I rx hs pl pu h
 obtain ⟨a,xs,rfl,hx,hw,q⟩:=h
 cases rx
 obtain ⟨its,r,ht,hz⟩:=I.tuple hx
 have hlen:its.toArray.size=xs.length:=by rw [List.size_toArray];exact r.length.symm
 refine ⟨"tuple", _,PyProof.Rows.slot_tuple_getitem.lookup,ht.typeIs,?_⟩
 refine HT.Jp ht hs pl pu (by rw [hlen];exact hw) ?_ (by rw [hlen];exact hz)
 rw [hlen]
 refine ⟨.ref s.heap.objs.size,_,I.laid (t':=s.toks) (o:=.tup (cutV xs lo hi)) (fun b ob q=>Heap.get?_push_of_some _ q) (Nat.le_refl _) ?_,rfl,q _ (I.hok.fresh (Nat.le_refl _))⟩
 exact ⟨Nat.le_trans (yc xs lo hi) hz,_,(r.drop (HT.sIx xs.length 0 lo)).take (HT.sIx xs.length xs.length hi - HT.sIx xs.length 0 lo),IsTup.new _ _⟩
noncomputable def qiY (K:PySem.W.Frag):R2:=fun x y H Q=>∃ a b xs ys,x=.ref a/\y=.ref b/\SqT K H a xs/\SqT K H b ys/\xs≠[]/\xs.length + ys.length <= sizeLine/\
 (ys=[]->Q (.ref a) H)/\(ys≠[]->∀ p,H p=none->Q (.ref p) (upd H p (.tup (xs ++ ys))))
theorem Vals.nil_iff {xs:List V} {us:List Value} (r:Vals xs us):us=[]↔xs=[]:=by
 cases r with
 | nil=>simp
 | cons _ _=>simp
theorem qhM:OpR X (binaryOp .Add) (qiY X.K):=by
 intro pins s σ H x y v u Q I rx ry h
 obtain ⟨a,b,xs,ys,rfl,rfl,ha,hb,hx,hz,q1,q2⟩:=h
 cases rx
 cases ry
 obtain ⟨its,r1,p1,_⟩:=I.tuple ha
 obtain ⟨its2,r2,p2,_⟩:=I.tuple hb
 refine HT.qgY p1 p2 (fun z=>hx (r1.nil_iff.mp z)) (fun z=>⟨.ref a,H,I,rfl,q1 (r2.nil_iff.mp z)⟩) (fun z=>?_) (by rw [← r1.length,← r2.length];exact hz)
 refine ⟨.ref s.heap.objs.size,_,I.laid (t':=s.toks) (o:=.tup (xs ++ ys)) (fun b ob q=>Heap.get?_push_of_some _ q) (Nat.le_refl _) ?_,rfl,q2 (fun w=>z (r2.nil_iff.mpr w)) _ (I.hok.fresh (Nat.le_refl _))⟩
 exact ⟨by rw [List.length_append];exact hz,_,r1.append r2,IsTup.new _ _⟩
end
noncomputable def ixN (n:Nat) (i:Int):Option Nat:=if 0 <= i then (if i < n then some i.toNat else none) else if -(n:Int) <= i then some (i + n).toNat else none
noncomputable def atI {α:Type} (xs:List α) (i:Int):Option α:=(ixN xs.length i).bind fun j=>xs[j]?
theorem qc5 {n:Nat} {i:Int} {j:Nat} (h:ixN n i=some j):seqIndex? i n=some j/\j < n/\-(n:Int) <= i/\i < n:=by
 unfold ixN at h
 by_cases h0:0 <= i
 ·rw [if_pos h0] at h
  by_cases h1:i < n
  ·rw [if_pos h1] at h
   have e:i.toNat=j:=Option.some.inj h
   exact ⟨by rw [seqIndex_of h0 h1,e],by omega,by omega,h1⟩
  ·rw [if_neg h1] at h;cases h
 ·rw [if_neg h0] at h
  by_cases h1:-(n:Int) <= i
  ·rw [if_pos h1] at h
   have e:(i + n).toNat=j:=Option.some.inj h
   exact ⟨by rw [seqIndex_neg (by omega) h1,e],by omega,h1,by omega⟩
  ·rw [if_neg h1] at h;cases h
theorem qcF {α:Type} {xs:List α} {i:Int} {v:α} (h:atI xs i=some v):∃ j,seqIndex? i xs.length=some j/\xs[j]?=some v/\j < xs.length/\-(xs.length:Int) <= i/\i < xs.length:=by
 unfold atI at h
 cases e:ixN xs.length i with
 | none=>rw [e] at h;cases h
 | some j =>
  rw [e] at h
  obtain ⟨h1,h2,h3,h4⟩:=qc5 e
  exact ⟨j,h1,h,h2,h3,h4⟩
theorem qcH {α:Type} {xs:List α} {j:Nat} {v:α} (h:xs[j]?=some v):atI xs (j:Int)=some v:=by
 have hj:j < xs.length:=(List.getElem?_eq_some_iff.mp h).1
 have e:ixN xs.length (j:Int)=some j:=by
  unfold ixN
  rw [if_pos (by omega),if_pos (by omega)];simp
 unfold atI;rw [e];exact h
noncomputable def yw (b:Expr):Prop:=∀ o i,subscripted b false o i=operate [o,i] (getItem o i)
noncomputable def IxR (X:Cx) (r:R2):Prop :=
 ∀ (value slice:Expr) (pins:List (Addr×Obj)) (s:Shared) (σ:St) (H:Hp) (x y:V) (v u:Value) (Q:VK),Inv X pins σ H s->RelV x v->RelV y u->r x y H Q->
  subscripted slice false v u=operate [v,u] (getItem v u)->wpAny (model X.prog X.w) X.A (subscriptTail value slice v u) (EP X pins σ Q) X.xe s
noncomputable def MtR (X:Cx) (id:String) (r:V->List V->Hp->VK->Prop):Prop :=
 ∀ (pins:List (Addr×Obj)) (s:Shared) (σ:St) (H:Hp) (x:V) (xs:List V) (v:Value) (us:List Value) (Q:VK),Inv X pins σ H s->RelV x v->Vals xs us->r x xs H Q->
  wpAny (model X.prog X.w) X.A (call (.builtin id) (v :: us)) (EP X pins σ Q) X.xe s
section
variable {X:Cx} {a b:Expr} {ta tb:TE} {pos:Pos}
theorem IxR.or {r r':R2} (h:IxR X r) (h':IxR X r'):IxR X (fun x y H Q=>r x y H Q\/r' x y H Q):=by
 intro value slice pins s σ H x y v u Q I rx ry q hs
 rcases q with q | q
 ·exact h value slice pins s σ H x y v u Q I rx ry q hs
 ·exact h' value slice pins s σ H x y v u Q I rx ry q hs
theorem qge {r:R2} (hr:IxR X r) (ha:PE X a ta) (hb:PE X b tb) (hs:yw b):PE X (.Subscript a b pos) (tOp r ta tb):=by
 intro pins s σ H Q I h
 exact Subscript_ (binT ha hb I h fun v u s2 x y H2 I2 rx ry q=>hr a b pins s2 σ H2 x y v u Q I2 rx ry q (hs _ _))
noncomputable def rIxL (K:PySem.W.Frag):R2:=fun x y H Q=>∃ p xs i v,x=.ref p/\y=.int i/\SqL K H p xs/\atI xs i=some v/\Q v H
noncomputable def rIxT (K:PySem.W.Frag):R2:=fun x y H Q=>∃ p xs i v,x=.ref p/\y=.int i/\SqT K H p xs/\atI xs i=some v/\Q v H
theorem qc6:IxR X (rIxL X.K):=by
 intro value slice pins s σ H x y v u Q I rx ry h hs
 obtain ⟨p,xs,i,z,rfl,rfl,hq,he,q⟩:=h
 cases rx
 obtain ⟨t,rfl⟩:=ry
 obtain ⟨its,r,pl,hz⟩:=I.list hq
 obtain ⟨j,h1,h2,h3,h4,h5⟩:=qcF he
 obtain ⟨w,ew,rw'⟩:=r.get h2
 have hl:=r.length
 have hn:=qae
 have fin:EP X pins σ Q w s:=⟨z,H,I,rw',q⟩
 by_cases h0:0 <= i
 ·have hj:i.toNat=j:=by
   rw [seqIndex_of h0 h5] at h1
   exact Option.some.inj h1
  exact item_listR pl.isList h0 (by omega) (by rw [hj];simpa using ew) fin hs
 ·have hj:(i + (its.toArray.size:Int)).toNat=j:=by
   rw [seqIndex_neg (by omega) h4] at h1
   rw [List.size_toArray,← hl]
   exact Option.some.inj h1
  exact subscriptTail_builtinR (x:=w) pl.isList.typeIs slot_list_getitem.lookup
   (wpAny_getItem_list_neg (Q:=fun r s'=>r=w/\EP X pins σ Q r s') pl.isList (by omega) (by rw [List.size_toArray]<;>omega) (by omega) (by rw [hj];simpa using ew) ⟨rfl,fin⟩) hs
theorem qfG:IxR X (rIxT X.K):=by
 intro value slice pins s σ H x y v u Q I rx ry h hs
 obtain ⟨p,xs,i,z,rfl,rfl,hq,he,q⟩:=h
 cases rx
 obtain ⟨t,rfl⟩:=ry
 obtain ⟨its,r,pl,hz⟩:=I.tuple hq
 obtain ⟨j,h1,h2,h3,h4,h5⟩:=qcF he
 obtain ⟨w,ew,rw'⟩:=r.get h2
 have hl:=r.length
 have hn:=qae
 have fin:EP X pins σ Q w s:=⟨z,H,I,rw',q⟩
 exact subscriptTail_builtinR (x:=w) pl.typeIs slot_tuple_getitem.lookup
  (getItem_tuple (j:=j) (Q:=fun r s'=>r=w/\EP X pins σ Q r s') pl (by omega) (by omega) (by rw [List.size_toArray,← hl];exact h1) (by simpa using ew) ⟨rfl,fin⟩) hs
theorem qce (its:List Value) (n j:Nat) (u:Value):Obj.mapSeq (·.setIfInBounds j u) { cls:=.type "list", data:=.seq its.toArray n }={ cls:=.type "list", data:=.seq (its.set j u).toArray n }:=by
 simp [Obj.mapSeq]
theorem Inv.lst {pins:List (Addr×Obj)} {σ:St} {H:Hp} {s:Shared} {p:Addr} {xs:List V} (I:Inv X pins σ H s) (h:H p=some (.lst xs)) :
  ∃ (its:List Value) (n:Nat),Vals xs its/\s.heap.get? p=some { cls:=.type "list", data:=.seq its.toArray n }/\xs.length <= sizeLine:=by
 obtain ⟨z,its,n,r,e⟩:=I.hok p _ h
 exact ⟨its,n,r,e,z⟩
theorem Inv.lstUpd {pins:List (Addr×Obj)} {σ:St} {H:Hp} {s:Shared} {p:Addr} {xs ys:List V} {its its':List Value} {n n':Nat} {f:Obj->Obj} (I:Inv X pins σ H s) (h:H p=some (.lst xs))
  (ho:s.heap.get? p=some { cls:=.type "list", data:=.seq its.toArray n }) (hf:f { cls:=.type "list", data:=.seq its.toArray n }={ cls:=.type "list", data:=.seq its'.toArray n' }) (r:Vals ys its') (hz:ys.length <= sizeLine) (t:Nat) :
  Inv X pins σ (upd H p (.lst ys)) { s with heap:=s.heap.update p f,toks:=t }:=by
 have e:(s.heap.update p f).get? p=some { cls:=.type "list", data:=.seq its'.toArray n' }:=by
  rw [Heap.get?_update_self f ho (by rw [hf]<;>rfl),hf]
 refine I.write (x:=p) (e:=p) (by rw [h];trivial) (.inl rfl) (fun b u hb q=>(Heap.get?_update_other _ _ (Ne.symm hb)).trans q) ⟨_,e⟩ ?_
 exact ⟨hz,its',n',r,e⟩
noncomputable def rSetL:V->V->V->Hp->(Hp->Prop)->Prop:=fun o i v H Q=>∃ p xs k j,o=.ref p/\i=.int k/\H p=some (.lst xs)/\ixN xs.length k=some j/\Q (upd H p (.lst (xs.set j v)))
theorem set_list:PSet X rSetL:=by
 intro pins s σ H o i v ov iv u Q I ro ri rv h
 obtain ⟨p,xs,k,j,rfl,rfl,hp,hj,q⟩:=h
 cases ro
 obtain ⟨t,rfl⟩:=ri
 obtain ⟨its,n,r,ho,hz⟩:=I.lst hp
 obtain ⟨h1,h2,h3,h4⟩:=qc5 hj
 have hl:=r.length
 have hn:=qae
 have I':Inv X pins σ (upd H p (.lst (xs.set j v))) { s with heap:=s.heap.update p (Obj.mapSeq (·.setIfInBounds j u)) } :=
  I.lstUpd hp ho (qce its n j u) (r.set rv j) (by rw [List.length_set];exact hz) s.toks
 by_cases h0:0 <= k
 ·have hk:k.toNat=j:=by
   rw [seqIndex_of h0 h4] at h1
   exact Option.some.inj h1
  exact PySem.W.ki_setAt ho h0 (by omega) (by rw [List.size_toArray,← hl];exact h4) (by rw [hk];exact ⟨_,I',q⟩)
 ·have hk:(k + (its.toArray.size:Int)).toNat=j:=by
   rw [seqIndex_neg (by omega) h3] at h1
   rw [List.size_toArray,← hl]
   exact Option.some.inj h1
  exact PySem.W.ki_setBack ho (by omega) (by rw [List.size_toArray,← hl];exact h3) (by omega) (by rw [hk];exact ⟨_,I',q⟩)
theorem qan (lo hi:Option Int) (n:Nat):(sliceBounds lo hi none n).1=((HT.sIx n 0 lo:Nat):Int)/\(sliceBounds lo hi none n).2.1=((HT.sIx n n hi:Nat):Int)/\(sliceBounds lo hi none n).2.2=1:=by
 refine ⟨?_,?_,rfl⟩
 ·cases lo with
  | none=>simp [sliceBounds,HT.sIx]
  | some i =>
   simp only [sliceBounds,HT.sIx,Option.getD_none,show (1:Int) > 0 by decide,if_true]
   by_cases h:i < 0
   ·simp only [h,if_true]<;>omega
   ·simp only [h,if_false]<;>omega
 ·cases hi with
  | none=>simp [sliceBounds,HT.sIx]
  | some i =>
   simp only [sliceBounds,HT.sIx,Option.getD_none,show (1:Int) > 0 by decide,if_true]
   by_cases h:i < 0
   ·simp only [h,if_true]<;>omega
   ·simp only [h,if_false]<;>omega
theorem wA (its:List Value) (lo hi:Option Int):slicePick its.toArray lo hi none=((its.drop (HT.sIx its.length 0 lo)).take (HT.sIx its.length its.length hi - HT.sIx its.length 0 lo)).toArray:=by
 obtain ⟨h1,h2,h3⟩:=qan lo hi its.toArray.size
 unfold slicePick
 rw [h1,h2,h3]
 simp only [sliceRange_one,pick_run,List.size_toArray]<;>rfl
noncomputable def rSlL (K:PySem.W.Frag):V->Option Int->Option Int->Hp->VK->Prop:=fun x lo hi H Q=>∃ a xs,x=.ref a/\SqL K H a xs/\∀ p,H p=none->Q (.ref p) (upd H p (.lst (cutV xs lo hi)))
theorem qik:SlR X (rSlL X.K):=by
 intro pins s σ H x v vl vu lo hi sl Q I rx hs pl pu h
 obtain ⟨a,xs,rfl,hx,q⟩:=h
 cases rx
 obtain ⟨its,r,ht,hz⟩:=I.list hx
 have hlen:=r.length
 refine ⟨"list", _,slot_list_getitem.lookup,ht.isList.typeIs,?_⟩
 refine wpAny_getItem_list_slice ht.isList hs pl pu .none (by simp) ?_ (by rw [List.size_toArray]<;>omega)
 rw [wA,← hlen]
 refine ⟨.ref s.heap.objs.size,_,I.laid (t':=s.toks) (o:=.lst (cutV xs lo hi)) (fun b ob q=>Heap.get?_push_of_some _ q) (Nat.le_refl _) ?_,rfl,q _ (I.hok.fresh (Nat.le_refl _))⟩
 exact ⟨Nat.le_trans (yc xs lo hi) hz,_,0,(r.drop (HT.sIx xs.length 0 lo)).take (HT.sIx xs.length xs.length hi - HT.sIx xs.length 0 lo),Heap.get?_push_size _ rfl⟩
theorem WN:J2 X (.builtin "len") (fun xs H Q=>∃ p ys,xs=[.ref p]/\(SqL X.K H p ys\/SqT X.K H p ys)/\Q (.int ys.length) H):=by
 intro pins s σ H xs us Q I r h
 obtain ⟨p,ys,rfl,hq,q⟩:=h
 obtain ⟨u,rfl,rx⟩:=vals1 r
 cases rx
 have hn:=qae
 rcases hq with hq | hq
 ·obtain ⟨its,r',pl,hz⟩:=I.list hq
  have hlen:=r'.length
  exact Calls.call_len_list pl.isList (by simp only [List.size_toArray]<;>omega) ⟨.int ys.length,H,I.tok _,⟨s.toks + 1,by rw [List.size_toArray,hlen]⟩,q⟩
 ·obtain ⟨its,r',pl,hz⟩:=I.tuple hq
  have hlen:=r'.length
  exact len_tuple pl (by simp only [List.size_toArray]<;>omega) ⟨.int ys.length,H,I.tok _,⟨s.toks + 1,by rw [List.size_toArray,hlen]⟩,q⟩
theorem Je:J2 X (.type "list") (fun xs H Q=>∃ p ys,xs=[.ref p]/\(SqL X.K H p ys\/SqT X.K H p ys)/\∀ l,H l=none->Q (.ref l) (upd H l (.lst ys))):=by
 intro pins s σ H xs us Q I r h
 obtain ⟨p,ys,rfl,hq,q⟩:=h
 obtain ⟨u,rfl,rx⟩:=vals1 r
 cases rx
 have fin:∀ (its:List Value),Vals ys its->ys.length <= sizeLine->∀ (h':Heap) (c':Nat),(∀ b o',s.heap.get? b=some o'->h'.get? b=some o')->
   h'.get? s.heap.objs.size=some { cls:=.type "list", dict:=none,data:=.seq its.toArray c',slots:=#[] }->EP X pins σ Q (.ref s.heap.objs.size) { s with heap:=h' }:=fun its r' hz h' c' kp e =>
  ⟨.ref s.heap.objs.size,_,I.laid (t':=s.toks) kp (Nat.le_refl _) (show Qp X.prog X.w _ h' _ (.lst ys) from ⟨hz,its,c',r',e⟩),rfl,q _ (I.hok.fresh (Nat.le_refl _))⟩
 rcases hq with hq | hq
 ·obtain ⟨its,r',pl,hz⟩:=I.list hq
  have hlen:=r'.length
  obtain ⟨o,ho,hc,n,hd⟩:=pl.isList
  exact call_list_seq p (.inl rfl) ho hc hd (fun h' c' kp e=>fin its r' hz h' c' kp e) (by simp only [List.size_toArray]<;>omega)
 ·obtain ⟨its,r',pl,hz⟩:=I.tuple hq
  have hlen:=r'.length
  obtain ⟨o,ho,hc,n,hd⟩:=pl
  exact call_list_seq p (.inr rfl) ho hc hd (fun h' c' kp e=>fin its r' hz h' c' kp e) (by simp only [List.size_toArray]<;>omega)
theorem wu:J2 X (.type "tuple") (fun xs H Q=>∃ p ys,xs=[.ref p]/\((SqL X.K H p ys/\∀ l,H l=none->Q (.ref l) (upd H l (.tup ys)))\/(SqT X.K H p ys/\Q (.ref p) H))):=by
 intro pins s σ H xs us Q I r h
 obtain ⟨p,ys,rfl,h⟩:=h
 obtain ⟨u,rfl,rx⟩:=vals1 r
 cases rx
 rcases h with ⟨hq,q⟩ | ⟨hq,q⟩
 ·obtain ⟨its,r',pl,hz⟩:=I.list hq
  have hlen:=r'.length
  refine call_tuple_list pl.isList (fun h' kp=>?_) (by simp only [List.size_toArray]<;>omega)
  have I1:Inv X pins σ H { s with heap:=h' }:=I.kept (t':=s.toks) kp
  have I2:Inv X pins σ (upd H h'.objs.size (.tup ys)) { s with heap:=h'.push { cls:=.type "tuple", data:=.seq its.toArray } } :=
   I1.laid (t':=s.toks) (fun b o e=>Heap.get?_push_of_some _ e) (Nat.le_refl _) (show Qp X.prog X.w _ _ _ (.tup ys) from ⟨hz,its,r',IsTup.new _ _⟩)
  exact ⟨.ref h'.objs.size,_,I2,rfl,q _ (I1.hok.fresh (Nat.le_refl _))⟩
 ·obtain ⟨its,r',pl,hz⟩:=I.tuple hq
  exact call_tuple_same pl ⟨.ref p,H,I,rfl,q⟩
noncomputable def tyV (K:PySem.W.Frag) (T:String) (x:V) (H:Hp):Prop:=match x with
 | .str _=>T = "str"
 | .int _=>T = "int"
 | .ref p=>(T = "list"/\∃ xs,SqL K H p xs)\/(T = "tuple"/\∃ o,K.lookup p=some o/\o.cls=.type "tuple"/\o.dict=none)\/
   (T = "dict"/\((∃ kvs,H p=some (.dK kvs))\/∃ kvs,H p=some (.dT kvs)))\/(T = "set"/\∃ S n,H p=some (.set S n))
 | _=>False
theorem qgI {pins:List (Addr×Obj)} {σ:St} {H:Hp} {s:Shared} {T:String} {x:V} {v:Value} (I:Inv X pins σ H s) (r:RelV x v) (ty:tyV X.K T x H) :
  s.TypeIs v T/\∀ a,v=.ref a->∃ ob,s.heap.get? a=some ob/\ob.dict=none:=by
 cases x with
 | str z =>
  obtain ⟨t,rfl⟩:=r
  cases (show T = "str" from ty)
  exact ⟨typeIs_str s z t,fun _ e=>nomatch e⟩
 | int i =>
  obtain ⟨t,rfl⟩:=r
  cases (show T = "int" from ty)
  exact ⟨typeIs_int s i t,fun _ e=>nomatch e⟩
 | ref p =>
  cases r
  rcases ty with ⟨rfl,xs,hq⟩ | ⟨rfl,o,hk,hc,hd⟩ | ⟨rfl,hk⟩ | ⟨rfl,S,n,hk⟩
  ·obtain ⟨its,_,pl,_⟩:=I.list hq
   refine ⟨pl.isList.typeIs,fun a e=>?_⟩
   cases e
   obtain ⟨o,n,e,c,hd,_⟩:=pl
   exact ⟨o,e,hd⟩
  ·refine ⟨⟨o,I.kIn p o hk,hc⟩,fun a e=>?_⟩
   cases e
   exact ⟨o,I.kIn _ o hk,hd⟩
  ·have z:∃ o,s.heap.get? p=some o/\o.ExactDict:=by
    rcases hk with ⟨kvs,hk⟩ | ⟨kvs,hk⟩
    ·obtain ⟨_,_,_,_,o,_,_,e,ex,_⟩:=I.hok p _ hk
     exact ⟨o,e,ex⟩
    ·obtain ⟨_,_,_,_,o,_,_,e,ex,_⟩:=I.hok p _ hk
     exact ⟨o,e,ex⟩
   obtain ⟨o,e,ex⟩:=z
   refine ⟨⟨o,e,ex.1⟩,fun a e2=>?_⟩
   cases e2
   exact ⟨o,e,ex.2.1⟩
  ·obtain ⟨o,_,_,_,e,ex,_⟩:=I.hok p _ hk
   refine ⟨⟨o,e,ex.1⟩,fun a e2=>?_⟩
   cases e2
   exact ⟨o,e,ex.2.1⟩
 | _=>exact False.elim ty
noncomputable def tBM0 (K:PySem.W.Frag) (T:String) (r:V->List V->Hp->VK->Prop) (to:TE):TE:=fun σ H Q=>to σ H fun x H1=>tyV K T x H1/\r x [] H1 Q
noncomputable def tBM (K:PySem.W.Frag) (T:String) (r:V->List V->Hp->VK->Prop) (to:TE) (t:TA):TE:=fun σ H Q=>to σ H fun x H1=>tyV K T x H1/\t σ H1 fun xs H2=>r x xs H2 Q
variable {o e:Expr} {es:List Expr} {to:TE} {t:TA} {name:Str} {apos cpos:Pos} {T id:String} {r:V->List V->Hp->VK->Prop}
theorem qj2 (pa:PlainAttrs T) (slot:Slot T name id) (hty:typeOf (.builtin id)=pure (.type "method_descriptor")) (hm:MtR X id r) (ho:PE X o to)
  (hbase:attributeBase o name X.env (eval o X.env)=eval o X.env:=by rfl) (hline:(apos.endLine == cpos.line)=true:=by rfl):PE X (.Call (.Attribute o name apos) [] [] cpos) (tBM0 X.K T r to):=by
 intro pins s σ H Q I h
 refine wpAny_Call_method0_late hbase hline (thn (ho pins s σ H _ I h) fun v s1 ⟨x,H1,I1,r1,ty,q1⟩=>?_)
 obtain ⟨h1,h2⟩:=qgI I1 r1 ty
 exact ⟨T,id,pa,slot,hty,h1,h2,Calls.callWith_builtin rfl (PySem.evalArgs_none (hm pins s1 σ H1 x [] v [] Q I1 r1 .nil q1))⟩
theorem qdi (pa:PlainAttrs T) (slot:Slot T name id) (hty:typeOf (.builtin id)=pure (.type "method_descriptor")) (hm:MtR X id r) (ho:PE X o to) (ha:PA X (e :: es) t)
  (hbase:attributeBase o name X.env (eval o X.env)=eval o X.env:=by rfl)
  (hfew:((backTo cpos (starEach (e :: es) X.env)).all (fun x=>!x.1) && (backToKw cpos (keywordEach [] X.env)).all (fun x=>x.1.isSome)
   && decide ((e :: es).length + ([]:List Keyword).length + (if ([]:List Keyword).isEmpty then 0 else 1) < 30))=true:=by rfl)
  (hline:(apos.endLine == cpos.line)=true:=by rfl) (hs:starEach (e :: es) X.env=(false,eval e X.env) :: starEach es X.env:=by rfl) (hplain:(backTo cpos (starEach es X.env)).any (·.1)=false:=by rfl) :
  PE X (.Call (.Attribute o name apos) (e :: es) [] cpos) (tBM X.K T r to t):=by
 intro pins s σ H Q I h
 refine wpAny_Call_method_late hbase hfew hline rfl (thn (ho pins s σ H _ I h) fun v s1 ⟨x,H1,I1,r1,ty,q1⟩=>?_)
 obtain ⟨h1,h2⟩:=qgI I1 r1 ty
 refine ⟨T,id,pa,slot,hty,h1,h2,?_⟩
 have hA:=ha cpos pins s1 σ H1 _ I1 q1
 rw [hs] at hA ⊢
 refine Calls.callWith_builtin (by show (false || (backTo cpos (starEach es X.env)).any (·.1))=false;rw [hplain]<;>rfl) (Calls.evalArgs_plain ?_)
 exact thn hA fun us s2 ⟨vs,H2,I2,r2,q2⟩=>hm pins s2 σ H2 x vs v us Q I2 r1 r2 q2
end
noncomputable def MtM (X:Cx) (id:String) (r:V->List V->Hp->VK->Prop):Prop :=
 ∀ (pins:List (Addr×Obj)) (s:Shared) (σ:St) (H:Hp) (x:V) (xs:List V) (v:Value) (us:List Value) (Q:VK),Inv X pins σ H s->RelV x v->Vals xs us->r x xs H Q->
  wpAny (model X.prog X.w) X.A (call (.builtin id) (v :: us)) (EP X pins σ Q) X.xe s
theorem Vals.one:∀ {x:V} {us:List Value},Vals [x] us->∃ u,us=[u]/\RelV x u
 | _,_,.cons r .nil=>⟨_,rfl,r⟩
theorem Vals.two:∀ {x y:V} {us:List Value},Vals [x,y] us->∃ u v,us=[u,v]/\RelV x u/\RelV y v
 | _,_,_,.cons r (.cons q .nil)=>⟨_,_,rfl,r,q⟩
theorem Vals.zero:∀ {us:List Value},Vals [] us->us=[]
 | _,.nil=>rfl
theorem Vals.dropLast {xs:List V} {us:List Value} (h:Vals xs us):Vals xs.dropLast us.dropLast:=by
 induction h with
 | nil=>exact .nil
 | cons r t ih =>
  cases t with
  | nil=>exact .nil
  | cons q t'=>exact .cons r ih
theorem qb3 {α:Type} (l:List α):l.eraseIdx (l.length - 1)=l.dropLast:=by
 induction l with
 | nil=>rfl
 | cons a r ih =>
  cases r with
  | nil=>rfl
  | cons b r =>
   have e:(a :: b :: r).length - 1=((b :: r).length - 1) + 1:=by
    have h1:(a :: b :: r).length=r.length + 2:=rfl
    have h2:(b :: r).length=r.length + 1:=rfl
    omega
   rw [e,List.eraseIdx_cons_succ,ih]
   all_goals rfl
section
variable {X:Cx} {pins:List (Addr×Obj)} {σ:St} {H:Hp} {s:Shared} {l b:Addr} {xs ys zs:List V}
theorem Inv.lset {its its':List Value} {n:Nat} {f:Array Value->Array Value} {t':Nat} (I:Inv X pins σ H s) (hH:H l=some (.lst xs))
  (e:s.heap.get? l=some { cls:=.type "list", data:=.seq its.toArray n }) (hf:f its.toArray=its'.toArray) (hv:Vals ys its') (hz:ys.length <= sizeLine) :
  Inv X pins σ (upd H l (.lst ys)) { s with heap:=s.heap.update l (Obj.mapSeq f),toks:=t' }:=by
 have q:=PySem.IsL.update e f
 rw [hf] at q
 refine I.write (x:=l) (e:=l) (by rw [hH];exact trivial) (.inl rfl) (fun b' u hb hu=>(Heap.get?_update_other s.heap (Obj.mapSeq f) (Ne.symm hb)).trans hu) ⟨_,q⟩ ?_
 exact ⟨hz,its',_,hv,q⟩
theorem Inv.lnew {its:List Value} {t':Nat} (I:Inv X pins σ H s) (hv:Vals ys its) (hz:ys.length <= sizeLine) :
  Inv X pins σ (upd H s.heap.objs.size (.lst ys)) { s with heap:=s.heap.push { cls:=.type "list", data:=.seq its.toArray },toks:=t' } :=
 I.laid (fun _ _ q=>Heap.get?_push_of_some _ q) (Nat.le_refl _) ⟨hz,its,0,hv,Heap.get?_push_size _ rfl⟩
theorem Inv.fresh (I:Inv X pins σ H s):H s.heap.objs.size=none:=I.hok.fresh (Nat.le_refl _)
theorem Inv.lstM (I:Inv X pins σ H s) (hH:H l=some (.lst xs)):xs.length <= sizeLine/\∃ (its:List Value) (n:Nat),Vals xs its/\xs.length=its.length/\s.heap.get? l=some { cls:=.type "list", data:=.seq its.toArray n }:=by
 obtain ⟨z,its,n,r,e⟩:=I.hok l _ hH
 exact ⟨z,its,n,r,r.length,e⟩
end
section
variable {X:Cx}
noncomputable def qib:V->List V->Hp->VK->Prop:=fun x vs H Q=>∃ l xs y,x=.ref l/\vs=[y]/\H l=some (.lst xs)/\xs.length < sizeLine/\Q .non (upd H l (.lst (xs ++ [y])))
theorem JS:MtM X "list.append" qib:=by
 intro pins s σ H x vs v us Q I rx rv h
 obtain ⟨l,xs,y,rfl,rfl,hH,hz,q⟩:=h
 cases rx
 obtain ⟨u,rfl,ru⟩:=rv.one
 obtain ⟨z,its,n,r,hl,e⟩:=I.lstM hH
 refine call_meets F.slot_list_append ⟨_,e,rfl⟩ F.entry_list_append (F.args_list_append_2 _ _) (PySem.list_append l its.toArray n u (by rw [List.size_toArray];omega)) ⟨e,?_⟩
 refine ⟨.non,_,I.lset (its':=its ++ [u]) hH e (by simp) (r.append (.cons ru .nil)) ?_,rfl,q⟩
 rw [List.length_append,List.length_singleton]
 omega
noncomputable def rPop:V->List V->Hp->VK->Prop:=fun x vs H Q=>∃ l xs y,x=.ref l/\vs=[]/\H l=some (.lst xs)/\xs[xs.length - 1]?=some y/\Q y (upd H l (.lst xs.dropLast))
theorem qjH:MtM X "list.pop" rPop:=by
 intro pins s σ H x vs v us Q I rx rv h
 obtain ⟨l,xs,y,rfl,rfl,hH,hy,q⟩:=h
 cases rx
 have hus:=rv.zero
 subst hus
 obtain ⟨z,its,n,r,hl,e⟩:=I.lstM hH
 obtain ⟨u,hu,ru⟩:=r.get hy
 have hy':its.toArray[its.toArray.size - 1]?=some u:=by
  show its.toArray[its.length - 1]?=some u
  rw [← Array.getElem?_toList,← hl]
  exact hu
 refine call_meets F.slot_list_pop ⟨_,e,rfl⟩ F.entry_list_pop (F.args_list_pop_1 _) (MeetsSeq.list_pop_last l its.toArray n u hy' (by rw [List.size_toArray];omega)) ⟨e,?_⟩
 refine ⟨y,_,I.lset (its':=its.dropLast) hH e ?_ r.dropLast ?_,ru,q⟩
 ·show its.toArray.eraseIdxIfInBounds (its.toArray.size - 1)=its.dropLast.toArray
  rw [List.size_toArray,List.eraseIdxIfInBounds_toArray,qb3]
 ·rw [List.length_dropLast]
  omega
end
section
variable {prog:Program} {w:World} {A:Around} {E:Value->Shared->Prop} {s:Shared}
set_option maxRecDepth 100000 in
end
end L2
namespace Att
open PySem PySem.W PySem.Calls PyProof.Rows
theorem yu {P:Params} {h:Heap}:∀ (ns:List Int) (vs:List Value),WellAll P h vs (ns.map WData.int)->IntsAre vs ns:=by
 intro ns
 induction ns with
 | nil =>
  intro vs w
  rw [List.map_nil] at w
  cases w
  exact .nil
 | cons n ns ih =>
  intro vs w
  rw [List.map_cons] at w
  cases w with
  | cons a b =>
   cases a
   exact .cons _ _ (ih _ b)
theorem qek {l:OpenLaw} {n:Nat} (hn:l.most=some n) {P:Params} {h:Heap} {args:List WData} {vals:List Value}
  (hpre:l.row.toRowW.claim.pre args=true) (hwl:WellAll P h vals args) :
  ∃ a vs ns,vals=[Value.ref a]/\args=[WData.list (ns.map WData.int)]/\h.get? a=some { cls:=.type "list", data:=.seq vs.toArray }/\IntsAre vs ns/\ns.length <= n:=by
 have hsh:WShape.hasAll [] args [.list .int]=true:=(pre_splitW hpre).1
 have hc:l.pre.holds [] { args:=args }=true:=(pre_splitW hpre).2
 obtain ⟨d,r,rfl,h1,h2⟩:=hasAllW_cons hsh
 obtain rfl:=hasAllW_nil h2
 obtain ⟨xs,rfl,h3⟩:=hasW_list h1
 obtain ⟨ns,rfl⟩:=items_int h3
 have hlen:ns.length <= n:=by
  unfold OpenLaw.pre at hc
  have h4:(WTm.not (.lt (.lit (.int (n:Int))) (.len (.arg 0)))).holds [] { args:=[.list (ns.map .int)] }=true:=by
   have h4:=(holds_andW hc).1
   rw [hn] at h4
   exact h4
  have h5:=condW_of h4 (w_not (w_lt w_lit (w_len_list (w_arg rfl))))
  rw [List.length_map] at h5
  refine Nat.le_of_not_lt fun q=>?_
  have q':(n:Int) < ((ns.length:Nat):Int):=by omega
  first
   | (rw [decide_eq_true q'] at h5;exact absurd h5 (by decide))
   | (simp at h5;omega)
 cases hwl with
 | cons w1 w2 =>
  cases w2
  cases w1 with
  | list ho hall=>exact ⟨_,_,ns,rfl,rfl,ho,yu ns _ hall,hlen⟩
theorem qei (l:OpenLaw) (args:List WData):l.row.toRowW.claim.post args (.bool true) args=true :=
 postW_of (r:=l.row.toRowW) (X:=(true == true))
  (show WShape.has [] (.bool true) .bool=true by first | rfl | decide | simp [WShape.has,WShape.arms,WShape.armsAll])
  (show (WTm.eq .res (.lit (.bool true))).value [] { args:=args,res:=some (.bool true),after:=args }=some (.bool (true == true)) from w_eq_bool (w_res rfl) w_lit) rfl
end Att
namespace L2
open PySem PySem.Spec PyProof.Rows
theorem Ww:∀ {vs:List Value} {ns:List Int},IntsAre vs ns->Vals (ns.map V.int) vs
 | _,_,.nil=>.nil
 | _,_,.cons n t h=>.cons ⟨t,rfl⟩ (Ww h)
noncomputable def Only (H:Hp):Prop:=∀ b,H b=none\/∃ o xs,H b=some (.frz o (.lst xs))
theorem qfN {P:Program} {w:World} {K:PySem.W.Frag} {mg mb:Str->Option Value} {CX:CXT} {k:Nat} {fa a:Addr} {fd:FuncData} {x:Str} {sp:Sp} {s₁:Shared} {vs:List Value} {ns:List Int}
  (KX:K.In s₁.heap) (hns:s₁.heap.Ns mainGlobals mg) (hb:s₁.heap.Ns builtinsNs mb) (hbb:∀ x:Str,x ≠ "__name__"->mb x=bootBuiltins x) (hlim:s₁.heap.NoLimit) (hg:s₁.gens=#[])
  (ha:s₁.heap.get? a=some { cls:=.type "list", data:=.seq vs.toArray }) (hi:IntsAre vs ns) (hl:ns.length <= sizeLine) (hr:Room k callerA)
  (F:∀ base:Heap,K.In base->base.Ns mainGlobals mg->FnOk P w K mg base CX k fa fd [x] sp) (hbind:∀ (s:Shared) (u:Value),BindsTo s fd ⟨[u],[]⟩ [(x,u)])
  (hsp:∀ H:Hp,Only H->SqL K H a (ns.map V.int)->sp [.ref a] H (fun v _=>v=.bl true) fun _ _ _=>False)
  (hCX:∀ H e s',CX [] H s₁ (fun _ _ _=>False) e s'->False) :
  codeAny (model P w) callerA (.call (.ref fa) ⟨[.ref a],[]⟩) (fun r s'=>r=.ok (.ret (.bool true))/\OldK s₁.heap s'.heap/\s'.os=s₁.os/\AllBare s'.gens) s₁:=by
 have rv:=Ww hi
 have lenV:=hi.length
 have core:∀ H:Hp,Only H->SqL K H a (ns.map V.int)->HOk P w H s₁.heap->(∀ b,H b≠none->b=a)->(H a≠none->K.lookup a=none)->
   codeAny (model P w) callerA (.call (.ref fa) ⟨[.ref a],[]⟩) (fun r s'=>r=.ok (.ret (.bool true))/\OldK s₁.heap s'.heap/\s'.os=s₁.os/\AllBare s'.gens) s₁:=by
  intro H hO hS hok hA hK
  have base_of:∀ {b:Addr} {o:Obj},s₁.heap.get? b=some o->H b=none->(hidT s₁.heap H).get? b=some o:=fun e n=>qfy e n
  have noA:∀ {b:Addr} {o:Obj} {es:Array DictEntry} {ep:Nat},s₁.heap.get? b=some o->o.data=.dict es ep->H b=none:=fun {b o es ep} e d=>by
   cases q:H b with
   | none=>rfl
   | some u =>
    have e':b=a:=hA b (by rw [q];simp)
    subst e'
    rw [ha] at e;cases e
    have d':Data.seq vs.toArray _=Data.dict es ep:=d
    cases d'
  have nsK:∀ {b:Addr} {m:Str->Option Value},s₁.heap.Ns b m->(hidT s₁.heap H).Ns b m:=fun {b m} ⟨o,es,ep,e,d,r⟩=>⟨o,es,ep,base_of e (noA e d),d,r⟩
  have hKb:K.In (hidT s₁.heap H):=fun b o e=>base_of (KX b o e) (by
   cases q:H b with
   | none=>rfl
   | some u =>
    have e':b=a:=hA b (by rw [q];simp)
    subst e'
    rw [hK (by rw [q];simp)] at e;cases e)
  have hM:Mod K mg (hidT s₁.heap H):=⟨hKb,nsK hns,⟨mb,nsK hb,hbb⟩,let ⟨mc,h1,h2⟩:=hlim;⟨mc,nsK h1,h2⟩⟩
  have e0:Env0 P w K mg (hidT s₁.heap H) callerA [] s₁ H:=⟨rfl,hM,fun b o e=>qhI e,Nat.le_of_eq (qdS _ _),trivial,fun b hb=>absurd (show b∈([]:List Addr) from hb) (by simp),hok,.of_eq hg⟩
  refine codeAny_mono ((F _ hKb (nsK hns)).run callerA [] s₁ H ⟨[.ref a],[]⟩ [.ref a] [.ref a] _ _ hr e0 (hbind s₁ (.ref a)) (.cons rfl .nil) (hsp H hO hS)) fun r s' h=>?_
  cases r with
  | error e=>exact (hCX H e s' h).elim
  | ok fl =>
   cases fl with
   | next=>exact False.elim h
   | brk=>exact False.elim h
   | cont=>exact False.elim h
   | ret u =>
    obtain ⟨v,H',os,bare,un,hok',r',q⟩:=h
    have q':v=.bl true:=q
    subst q'
    obtain rfl:u=Value.bool true:=r'
    refine ⟨rfl,OldK.of_keep fun b o e=>?_,os,bare⟩
    cases q:H b with
    | none=>exact un.keep b o e q (by intro z;exact absurd (show b∈([]:List Addr) from z) (by simp)) (by simp)
    | some u =>
     rcases hO b with z | ⟨ob,xs,z⟩
     ·rw [q] at z;cases z
     ·have z2:=un.frzs b ob _ z
      obtain ⟨e1,_⟩:=hok b _ z
      obtain ⟨e2,_⟩:=hok' b _ z2
      rw [e] at e1;cases e1
      exact e2
 cases hk:K.lookup a with
 | some o =>
  have e:=KX a o hk
  rw [ha] at e
  cases e
  refine core (fun _=>none) (fun _=>.inl rfl) (.inr ⟨_,vs.toArray,_,hk,rfl,rfl,rfl,by rw [List.size_toArray,lenV];exact hl,by simpa using rv⟩) (fun b u z=>by have z':(none:Option HO)=some u:=z;cases z') (fun b z=>absurd rfl z) fun z=>absurd rfl z
 | none =>
  refine core (fun b=>if b=a then some (.frz { cls:=.type "list", data:=.seq vs.toArray } (.lst (ns.map V.int))) else none) (fun b=>?_) (.inl (.inr ⟨{ cls:=.type "list", data:=.seq vs.toArray },if_pos rfl⟩)) (fun b u z=>?_) (fun b z=>?_) fun _=>hk
  ·by_cases hb:b=a
   ·exact .inr ⟨_,_,if_pos hb⟩
   ·exact .inl (if_neg hb)
  ·by_cases hb:b=a
   ·have z':=(if_pos hb).symm.trans z
    cases z'
    subst hb
    exact ⟨ha,by rw [List.length_map];exact hl,vs,_,rv,ha⟩
   ·have z':=(if_neg hb).symm.trans z
    cases z'
  ·by_cases hb:b=a
   ·exact hb
   ·exact absurd (if_neg hb) z
noncomputable def qH (s:Stmt):Arguments:=match s with
 | .FunctionDef _ a _ _ _ _ _ _ _ _=>a
 | _=>{ posonlyargs:=[],args:=[],vararg:=none,kwonlyargs:=[],kw_defaults:=[],kwarg:=none,defaults:=[] }
noncomputable def qz (s:Stmt):List Stmt:=match s with
 | .FunctionDef _ _ b _ _ _ _ _ _ _=>b
 | _=>[]
noncomputable def qb (s:Stmt):Scope:=match s with
 | .FunctionDef _ _ _ _ _ _ sc _ _ _=>sc
 | _=>{ kind:=.function,names:=[],isGenerator:=false,isCoroutine:=false }
noncomputable abbrev CX0:CXT:=fun _ _ _ _ _ _=>False
noncomputable abbrev E0:XK:=fun _ _ _=>False
theorem qiW {X:Cx}:WK CX0 X E0:=fun _ _ _ _ _ _ _ h=>h.elim
structure Fun (K:PySem.W.Frag) (x qual:Str) (st:Stmt) (f:Addr) (fd:FuncData):Prop where
 ex:∃ (oc:Value) (od:Option Addr) (kV doc pm:Value) (an:Option Addr) (cdv ct:Value) (osl:Array (Option Value)),
  fd=PySem.W.fnOf x qual (qH st) (qz st) (qb st) .none kV doc pm an cdv ct/\K.lookup f=some ⟨oc,od,.func fd,osl⟩/\PySem.W.codeIn K cdv qual=true
 kp:PySem.W.keepIn K (.ref f)=true
section
variable {P:Program} {w:World} {K:PySem.W.Frag} {mg:Str->Option Value} {base:Heap}
theorem Fun.ok {x qual:Str} {st:Stmt} {f:Addr} {fd:FuncData} {N ps:List Str} {k:Nat} {sp:Sp} (F:Fun K x qual st f fd) (S:FnScope N ps (qb st)) (len:∀ vs H Q E,sp vs H Q E->vs.length=ps.length)
  (hbody:∀ (cdv:Value) (A:Around) (outer:List Env) (s:Shared) (H:Hp) (vs:List V) (Q:VK) (E:XK),Room k (A.deeper (envOfC qual (qb st) s.heap.objs.size f cdv))->sp vs H Q E->
   ∃ t,PSs (cxOf CX0 P w K mg base N qual (qb st) f cdv A outer s H E).nox (qz st) t/\t { nx:=fun _ H'=>Q .non H',rt:=Q } (start N vs) H):FnOk P w K mg base CX0 (k + 1) f fd ps sp:=by
 obtain ⟨oc,od,kV,doc,pm,an,cdv,ct,osl,rfl,lk,hcd⟩:=F.ex
 refine qiP lk hcd S len fun A outer s H vs Q E hr hsp=>?_
 obtain ⟨t,h,q⟩:=hbody cdv A outer s H vs Q E hr hsp
 exact ⟨t,h.nox,q⟩
theorem Fun.binds {x qual:Str} {st:Stmt} {f:Addr} {fd:FuncData} {ps:List Str} (F:Fun K x qual st f fd)
  (h:∀ (kV doc pm:Value) (an:Option Addr) (cdv ct:Value) (us:List Value),us.length=ps.length->bindArgs (PySem.W.fnOf x qual (qH st) (qz st) (qb st) .none kV doc pm an cdv ct) ⟨us,[]⟩=pure (ps.zip us)):Binds K fd ps []:=by
 obtain ⟨oc,od,kV,doc,pm,an,cdv,ct,osl,rfl,lk,hcd⟩:=F.ex
 exact .all (h kV doc pm an cdv ct)
theorem qT {x qual:Str} {st:Stmt} {f:Addr} {oc:Value} {od an:Option Addr} {osl:Array (Option Value)} {kV doc pm cdv ct:Value} (l:K.lookup f=some ⟨oc,od,.func (PySem.W.fnOf x qual (qH st) (qz st) (qb st) .none kV doc pm an cdv ct),osl⟩)
  (c:PySem.W.codeIn K cdv qual=true) (k:PySem.W.keepIn K (.ref f)=true):Fun K x qual st f (PySem.W.fnOf x qual (qH st) (qz st) (qb st) .none kV doc pm an cdv ct):=⟨⟨oc,od,kV,doc,pm,an,cdv,ct,osl,rfl,l,c⟩,k⟩
end
theorem qX {n:Nat} (h:n <= 1000):n < sizeLine:=Nat.lt_of_le_of_lt h (by decide)
theorem iteF {A B:Prop} (h:B):if false=true then A else B:=by
 rw [if_neg Bool.false_ne_true]
 exact h
theorem iteT {A B:Prop} (h:A):if true=true then A else B:=by
 rw [if_pos rfl]
 exact h
noncomputable def Same (H H':Hp):Prop:=∀ b o,H b=some o->H' b=some o
theorem Same.refl (H:Hp):Same H H:=fun _ _ h=>h
theorem Same.trans {H H1 H2:Hp} (a:Same H H1) (b:Same H1 H2):Same H H2:=fun c o h=>b c o (a c o h)
theorem Same.free {H H':Hp} (e:Same H H') {l:Addr} (h:H' l=Option.none):H l=Option.none:=by
 cases q:H l with
 | none=>rfl
 | some o =>
  rw [e l o q] at h
  cases h
theorem Same.seq {K:PySem.W.Frag} {H H':Hp} {a:Addr} {xs:List V} (e:Same H H') (h:SqL K H a xs):SqL K H' a xs:=by
 rcases h with (h | ⟨o,h⟩) | h
 ·exact .inl (.inl (e _ _ h))
 ·exact .inl (.inr ⟨o,e _ _ h⟩)
 ·exact .inr h
end L2
set_option maxHeartbeats 4000000
namespace L2
open PySem PySem.Spec PyProof.Rows
theorem jg {env:Env} (body:(Str×NameKind)->List (Str×Addr)->Sem (ForInStep (List (Str×Addr))))
  (hf:∀ n k acc c,k=NameKind.free->env.cells.lookup n=some c->body (n,k) acc=pure (.yield ((n,c) :: acc)))
  (hn:∀ n k acc,k≠NameKind.free->body (n,k) acc=pure (.yield acc)) :
  ∀ (names:List (Str×NameKind)) (acc:List (Str×Addr)),(∀ y∈names,y.2=.free->∃ c,env.cells.lookup y.1=some c)->
   (∀ y c,acc.lookup y=some c->env.cells.lookup y=some c)->
   ∃ cl,forIn names acc body=pure cl/\(∀ y c,cl.lookup y=some c->env.cells.lookup y=some c)/\(∀ y,(∃ c,acc.lookup y=some c)->∃ c,cl.lookup y=some c)/\∀ y,(y,NameKind.free)∈names->∃ c,cl.lookup y=some c
 | [],acc,_,ha=>⟨acc,rfl,ha,fun _ h=>h,fun _ h=>by cases h⟩
 | (n,k) :: r,acc,h,ha=>by
  by_cases hk:k=NameKind.free
  ·obtain ⟨c,hc⟩:=h (n,k) List.mem_cons_self hk
   obtain ⟨cl,e,h1,h2,h3⟩:=jg body hf hn r ((n,c) :: acc) (fun y hy=>h y (List.mem_cons_of_mem _ hy)) (fun y c' e=>by
    rw [List.lookup_cons] at e
    split at e
    ·rename_i q
     have q':y=n:=by simpa using q
     subst q';cases e;exact hc
    ·exact ha y c' e)
   refine ⟨cl,?_,h1,fun y hy=>h2 y ?_,fun y hy=>?_⟩
   ·rw [List.forIn_cons,hf n k acc c hk hc]
    exact e
   ·obtain ⟨c',e'⟩:=hy
    rw [List.lookup_cons]
    split
    ·exact ⟨_,rfl⟩
    ·exact ⟨_,e'⟩
   ·rcases List.mem_cons.mp hy with q | q
    ·cases q
     exact h2 _ ⟨c,by rw [List.lookup_cons];simp⟩
    ·exact h3 y q
  ·obtain ⟨cl,e,h1,h2,h3⟩:=jg body hf hn r acc (fun y hy=>h y (List.mem_cons_of_mem _ hy)) ha
   refine ⟨cl,?_,h1,h2,fun y hy=>?_⟩
   ·rw [List.forIn_cons,hn n k acc hk]
    exact e
   ·rcases List.mem_cons.mp hy with q | q
    ·cases q;exact absurd rfl hk
    ·exact h3 y q
theorem Yg {sc:Scope} {env:Env} (h:∀ y∈sc.names,y.2=.free->∃ c,env.cells.lookup y.1=some c) :
  ∃ cl,closureFor sc env=pure cl/\(∀ y c,cl.lookup y=some c->env.cells.lookup y=some c)/\∀ y,(y,NameKind.free)∈sc.names->∃ c,cl.lookup y=some c:=by
 simp only [closureFor]
 obtain ⟨cl,e,h1,_,h3⟩:=jg (env:=env) (fun x cs=>if (x.2 == NameKind.free)=true then (do let a ← cellOf env x.1;pure (ForInStep.yield ((x.1,a) :: cs))) else pure (ForInStep.yield cs)) (fun n k acc c hk hc=>by
   subst hk
   simp only [cellOf,hc,beq_self_eq_true,if_true];rfl) (fun n k acc hk=>by
   have:(k == NameKind.free)=false:=by simpa using hk
   simp only [this,Bool.false_eq_true,if_false]) sc.names [] h (fun y c e=>by cases e)
 refine ⟨cl,?_,h1,h3⟩
 exact (congrArg (· >>= fun r=>pure r) e).trans rfl
noncomputable def qJ (X:Cx) (N':List Str) (sc:Scope) (cl:List (Str×Addr)) (C:Addr) (fp:List Addr) (pins:List (Addr×Obj)) (s:Shared) (H:Hp):Cx where
 prog:=X.prog
 w:=X.w
 K:=X.K
 mg:=X.mg
 base:=X.base
 A:=X.A
 N:=N'
 s₀:=s
 H₀:=H
 env:=compEnvC sc cl C X.env
 outer:=X.stack
 stack:=X.stack
 ex:=fp
 fn:=fun _=>false
 calm:=X.calm
 pn:=X.pn ++ pins
 xe:=fun _ _=>False
noncomputable def PTs (X:Cx) (ifs:List Expr) (t:TT):Prop :=
 ∀ (pins:List (Addr×Obj)) (s:Shared) (σ:St) (H:Hp) (Q:Bool->Hp->Prop),Inv X pins σ H s->t σ H Q->
  wpAny (model X.prog X.w) X.A (forIn ifs true fun c r=>if r=true then do let ok ← isTrue c X.env (eval c X.env);pure (ForInStep.yield ok) else pure (ForInStep.yield r)) (TP X pins σ Q) X.xe s
noncomputable def tTru:TT:=fun _ H Q=>Q true H
theorem qh8 {X:Cx}:PTs X [] tTru:=fun _ _ _ H _ I h=>wpAny_tests_nil ⟨H,I,h⟩
theorem qh9 {X:Cx} {c:Expr} {t:TT} (h:PT X c t):PTs X [c] t:=fun pins s σ H Q I q=>wpAny_tests_one (h pins s σ H Q I q)
theorem thF {α:Type} {t:Sem α} {Q Q':α->Shared->Prop} {M:Model} {A:Around} {E:Value->Shared->Prop} {s:Shared} (h:wpAny M A t Q (fun _ _=>False) s) (hQ:∀ a s,Q a s->Q' a s):wpAny M A t Q' E s:=wpAny_mono h hQ fun _ _ x=>x.elim
theorem qcd {prog:Program} {w:World} {A:Around} {R:Result->Shared->Prop} {s:Shared} {elt target iter:Expr} {ifs:List Expr} {scope:Scope} {pos:Pos} {it acc:Value} {env:Env} (I:Nat->Shared->Prop)
  (turn:∀ n s,I n s->wpAny (model prog w) A (pyNext it) (fun r s₁=>match r with
   | none=>R (.ok .next) s₁
   | some v=>wpAny (model prog w) A (letOwnedTupleGo target it v) (fun _ s₁=>wpAny (model prog w) A (assign target env v) (fun _ s₂ =>
     wpAny (model prog w) A (forIn ifs true fun c r=>if r=true then do let ok ← isTrue c env (eval c env);pure (ForInStep.yield ok) else pure (ForInStep.yield r)) (fun ok s₃ =>
      if ok=true then wpAny (model prog w) A (eval elt env) (fun x s₄ =>
       wpAny (model prog w) A (call (.builtin "list.append") [acc,x]) (fun _ s₅=>∃ m,m < n/\I m s₅) (notedBy (model prog w) A env fun e s'=>R (.error e) s') s₄) (notedBy (model prog w) A env fun e s'=>R (.error e) s') s₃
      else ∃ m,m < n/\I m s₃) (notedBy (model prog w) A env fun e s'=>R (.error e) s') s₂) (notedBy (model prog w) A env fun e s'=>R (.error e) s') s₁) (notedBy (model prog w) A env fun e s'=>R (.error e) s') s₁) (notedBy (model prog w) A env fun e s'=>R (.error e) s') s)
  (n:Nat) (h:I n s) :
  codeAny (model prog w) A (.compLoop (.ListComp elt [⟨target,iter,ifs,0⟩] scope pos) 0 it acc env) R s:=by
 refine codeAny_loop rfl I (fun n s hI=>?_) n h
 show wpAny _ A ((compTurn (.ListComp elt [⟨target,iter,ifs,0⟩] scope pos) 0 it acc env).onRaise (fun x=>do noteFrame x env;theTreesLotGoes x)) _ _ s
 refine wpAny_noted ?_
 rw [compTurn_list]
 refine wpAny_bind (wpAny_standAt (wpAny_bind (wpAny_mono (turn n s hI) (fun r s₁ h₁=>?_) fun _ _ h'=>h')))
 cases r with
 | none=>exact wpAny_pure h₁
 | some v =>
  refine wpAny_bind (wpAny_mono h₁ (fun _ s₁' h₁'=>?_) fun _ _ h'=>h')
  refine wpAny_bind (wpAny_mono h₁' (fun _ s₂ h₂=>wpAny_bind (wpAny_mono h₂ (fun ok s₃ h₃=>?_) fun _ _ h'=>h')) fun _ _ h'=>h')
  cases ok with
  | false=>exact wpAny_pure ⟨rfl,h₃⟩
  | true =>
   exact wpAny_bind (wpAny_bind (wpAny_mono h₃ (fun x s₄ h₄=>wpAny_bind (wpAny_mono h₄ (fun _ s₅ h₅=>wpAny_pure (wpAny_pure ⟨rfl,h₅⟩)) fun _ _ h'=>h')) fun _ _ h'=>h'))
structure CompOk (X:Cx) (N':List Str) (k:Nat) (sc:Scope):Prop where
 calm:X.calm=true
 kind:sc.kind=.function
 nd:X.N.Nodup
 nd':N'.Nodup
 len:N'.length=X.N.length + k
 ncell:∀ y∈sc.names,y.2≠.cell
 names:∀ y∈sc.names,y.2=.local->sc.names.lookup y.1=some .local
 old:∀ i y,i < X.N.length->N'[i]?=some y->(X.N[i]?=some y/\sc.names.lookup y≠some .local)\/sc.names.lookup y=none
 free:∀ y∈sc.names,y.2=.free->X.env.kindOf y.1=some .cell\/X.env.kindOf y.1=some .free
noncomputable def qgD (J:It) (wg:TG) (tt:TT) (te:TE) (W:Nat->Nat->List V->St->Hp->Prop) (i m:Nat) (ys:List V) (σ:St) (H:Hp):Prop :=
 ∀ x H2,J.yld i H x H2->wg x σ H2 fun σ3 H3=>tt σ3 H3 fun b H4=>if b=true then te σ3 H4 fun v H5=>ys.length < sizeLine/\∃ m',m' < m/\W (i + 1) m' (ys ++ [v]) σ3 H5
  else ∃ m',m' < m/\W (i + 1) m' ys σ3 H4
noncomputable def qgE (k:Nat) (J:It) (wg:TG) (tt:TT) (te:TE) (σ:St) (H:Hp) (Q:VK):Prop :=
 ∃ W:Nat->Nat->List V->St->Hp->Prop,(∃ m,W 0 m [] (σ ++ List.replicate k none) H)/\∀ i m ys σ' H',W i m ys σ' H'->
  (J.stop i H'/\∀ D,H' D=none->Q (.ref D) (upd H' D (.lst ys)))\/(J.go i H'/\qgD J wg tt te W i m ys σ' H')
noncomputable def qbH (k:Nat) (wi:TI) (wg:TG) (tt:TT) (te:TE):TE:=fun σ H Q=>wi σ H fun J H1=>qgE k J wg tt te σ H1 Q
theorem zW {env:Env}:∀ {names:List (Str×NameKind)} {x:Str} {k:NameKind},
  (names.map fun (n,k)=>if (k == NameKind.free && env.scope.kind == .function && env.kindOf n == some .cell) then (n,NameKind.cell) else (n,k)).lookup x=some k->
   (names.lookup x=some k)\/(k=.cell/\names.lookup x=some .free)
 | [],_,_,h=>by simp at h
 | (n,k') :: r,x,k,h=>by
  have h':List.lookup x ((if (k' == NameKind.free && env.scope.kind == .function && env.kindOf n == some .cell)=true then (n,NameKind.cell) else (n,k')) :: (r.map fun (n,k)=>if (k == NameKind.free && env.scope.kind == .function && env.kindOf n == some .cell) then (n,NameKind.cell) else (n,k)))=some k:=h
  have ih:=@zW env r x k
  cases hx:x == n with
  | true =>
   by_cases hc:(k' == NameKind.free && env.scope.kind == .function && env.kindOf n == some .cell)=true
   ·rw [if_pos hc] at h'
    simp only [List.lookup_cons,hx] at h' ⊢
    cases h'
    have:k'=.free:=by
     rw [Bool.and_eq_true,Bool.and_eq_true] at hc
     simpa using hc.1.1
    subst this
    exact .inr ⟨rfl,rfl⟩
   ·rw [if_neg hc] at h'
    simp only [List.lookup_cons,hx] at h' ⊢
    exact .inl h'
  | false =>
   by_cases hc:(k' == NameKind.free && env.scope.kind == .function && env.kindOf n == some .cell)=true
   ·rw [if_pos hc] at h'
    simp only [List.lookup_cons,hx] at h' ⊢
    exact ih h'
   ·rw [if_neg hc] at h'
    simp only [List.lookup_cons,hx] at h' ⊢
    exact ih h'
section
variable {X:Cx} {elt iter:Expr} {ifs:List Expr} {tg:Expr} {N':List Str} {sc:Scope} {pos:Pos} {wi:TI} {wg:TG} {tt:TT} {te:TE} {k:Nat}
theorem qfi {pins:List (Addr×Obj)} {σ:St} {H:Hp} {s s':Shared} {cl:List (Str×Addr)} {fp:List Addr} {m:Str->Option Value} (O:CompOk X N' k sc) (I:Inv X pins σ H s) (hcl1:∀ y c,cl.lookup y=some c->X.env.cells.lookup y=some c)
  (hcl2:∀ y,(y,NameKind.free)∈sc.names->∃ c,cl.lookup y=some c) (hf:∀ b∈fp,FpOk X pins H b) (hlt:∀ b∈fp,b < s.heap.objs.size) (hos:s'.os=s.os) (hg:s'.gens=s.gens) (hk:∀ b o,s.heap.get? b=some o->s'.heap.get? b=some o) (hns:s'.heap.Ns s.heap.objs.size m) :
  Inv (qJ X N' sc cl s.heap.objs.size fp pins s H) [] (σ ++ List.replicate k none) H s':=by
 have stk:∀ b,b≠X.env.locals->b∉X.fs->b∉frs X.stack:=fun b h1 h2 hb=>by
  rcases List.mem_cons.mp (I.stkSub b hb) with z | z
  ·exact h1 z
  ·exact h2 z
 have hr:∀ {y:Str},(relabel sc X.env).names.lookup y=some .cell\/(relabel sc X.env).names.lookup y=some .free->sc.names.lookup y=some .free:=fun {y} h=>by
  rcases h with h | h
  ·rcases zW h with q | q
   ·exact absurd rfl (O.ncell _ (PySem.mem_of_lookup q))
   ·exact q.2
  ·rcases zW h with q | q
   ·exact q
   ·exact q.2
 refine ⟨⟨I.ok.mod,O.kind,I.ok.glob,I.ok.blt,Nat.le_refl _,fun y z c h1 h2=>I.ok.inj y z c (hcl1 _ _ h1) (hcl1 _ _ h2),fun y hy=>?_,fun _ _ z=>(by cases z),I.ok.hd,I.ok.frames,.inl rfl,fun b hb=>?_,I.bs,Nat.le_trans I.ok.bsz I.sz,fun b o e hb=>?_,fun b hb=>?_,I.stack,I.stkFree⟩,
  hos,?_,Un.kept hk,⟨m,hns,fun i y v h1 h2 h3=>?_⟩,fun y c h=>?_,I.hok.fresh (Nat.le_refl _),fun y c h=>I.freeC y c (hcl1 _ _ h),fun p hp=>?_,I.hok.kept hk,?_⟩
 ·exact hcl2 y (PySem.mem_of_lookup (hr hy))
 ·have q:=hf b hb
  exact ⟨Nat.ne_of_lt (hlt b hb),fun z c e=>q.2.2.2.2.1 z c (hcl1 _ _ e)⟩
 ·have hb':b∈fp:=hb
  rcases (hf b hb').2.2.2.1 with z | z
  ·exact I.ok.noex b o e z
  ·exact absurd (Nat.lt_of_lt_of_le (Heap.lt_size (I.ok.bs b o e).1) z) (Nat.lt_irrefl _)
 ·exact stk b (hf b hb).2.1 (hf b hb).2.2.1
 ·rw [hg];exact I.bare
 ·have hl:=I.len
  have hi:i < X.N.length:=by
   by_cases hi:i < X.N.length
   ·exact hi
   ·rw [List.getElem?_append_right (by omega)] at h2
    have:=List.getElem?_replicate (a:=(none:Option V)) (n:=k) (i:=i - σ.length)
    rw [this] at h2
    split at h2<;>cases h2
  have h1':X.N[i]?=some y/\sc.names.lookup y≠some .local:=by
   rcases O.old i y hi h1 with q | q
   ·exact q
   ·have no:∀ kk,(relabel sc X.env).names.lookup y≠some kk:=fun kk z=>by
     rcases zW z with w | w
     ·rw [q] at w;cases w
     ·rw [q] at w;cases w.2
    rcases h3 with h3 | h3 | h3
    ·exact absurd h3 (no _)
    ·exact absurd h3 (no _)
    ·exact absurd h3 (no _)
  obtain ⟨h1',h1n⟩:=h1'
  have h2':σ[i]?=some (some v):=by
   rw [List.getElem?_append_left (by omega)] at h2
   exact h2
  have key:sc.names.lookup y=some .free/\((relabel sc X.env).names.lookup y=some .cell\/(relabel sc X.env).names.lookup y=some .free):=by
   rcases h3 with h3 | h3 | h3
   ·rcases zW h3 with q | q
    ·exact absurd q h1n
    ·cases q.1
   ·exact ⟨hr (.inl h3),.inl h3⟩
   ·exact ⟨hr (.inr h3),.inr h3⟩
  obtain ⟨q,kd⟩:=key
  have mem:=PySem.mem_of_lookup q
  have kx:=O.free _ mem rfl
  obtain ⟨m0,hn,hl'⟩:=I.loc
  obtain ⟨u,r,l⟩:=hl' i y v h1' h2' (by rcases kx with z | z;exact .inr (.inl z);exact .inr (.inr z))
  rcases l with ⟨l,_⟩ | ⟨_,c,e,z⟩
  ·rcases kx with z | z
   ·rw [l] at z;cases z
   ·rw [l] at z;cases z
  ·obtain ⟨c',e'⟩:=hcl2 y mem
   have e2:=hcl1 y c' e'
   rw [e] at e2;cases e2
   obtain ⟨o,ho,hd⟩:=z
   exact ⟨u,r,.inr ⟨kd,c,e',o,hk _ _ ho,hd⟩⟩
 ·obtain ⟨v,o,ho,hd⟩:=I.cell y c (hcl1 _ _ h)
  exact ⟨v,o,hk _ _ ho,hd⟩
 ·have hp':p∈X.pn ++ pins:=by
   rcases List.mem_append.mp hp with z | z
   ·exact z
   ·cases z
  obtain ⟨e,n,ne,nf,d⟩:=I.pin p hp'
  exact ⟨hk _ _ e,n,Nat.ne_of_lt (Heap.lt_size e),stk p.1 ne nf,d⟩
 ·show (σ ++ List.replicate k none).length=N'.length
  rw [List.length_append,List.length_replicate,I.len,O.len]
theorem comp_back {pins:List (Addr×Obj)} {σ σ':St} {H H':Hp} {s s1:Shared} {cl:List (Str×Addr)} {fp:List Addr} {C:Addr} (I:Inv X pins σ H s) (hf:∀ b∈fp,FpOk X pins H b)
  (J:Inv (qJ X N' sc cl C fp pins s H) [] σ' H' s1):Inv X pins σ H' s1 :=
 I.call' (ch:=fp) J.os J.base J.hok J.bare fun b hb=>⟨(hf b hb).2.2.2.1,(hf b hb).2.1,(hf b hb).2.2.2.2.1,(hf b hb).2.2.2.2.2⟩
theorem Inv.track {pins:List (Addr×Obj)} {σ:St} {H:Hp} {s:Shared} {D:Addr} {o:HO} (I:Inv X pins σ H s) (hn:H D=none) (hL:D≠X.env.locals) (h1:D∈X.ex\/X.s₀.heap.objs.size <= D) (h2:∀ x c,X.env.cells.lookup x=some c->c≠D) (h3:∀ p∈X.pn ++ pins,p.1≠D)
  (ok:Qp X.prog X.w (upd H D o) s.heap D o):Inv X pins σ (upd H D o) s:=by
 have ne:∀ b u,H b=some u->b≠D:=fun b u e=>zH e hn
 exact I.step (g':=s.gens) (d':=s.drawn) (t':=s.toks) (ch:=[D]) (h':=s.heap) (fun b hb=>by
   have e:b=D:=by simpa using hb
   subst e
   exact ⟨h1,hL,h2,h3⟩) (fun b o _ _ _ e _=>e) (fun b o _ _ _ e _=>⟨o.slots,e⟩) (fun b o hc e n=>by rw [qD (fun z=>hc (by simp [z]))];exact n) (fun b o _ e=>⟨o,e⟩)
  (fun b xs e=>by rw [qD (ne b _ e)];exact e) (fun b o u e=>by rw [qD (ne b _ e)];exact e) (fun b ps e=>⟨#[],by rw [qD (ne b _ e),e];simp⟩) (fun m hm=>hm) (fun b u e=>by
   by_cases hb:b=D
   ·subst hb;rw [qK] at e;cases e;exact ok
   ·rw [qD hb] at e
    exact (I.hok b u e).stay (fun c v _ q=>q) (fun c q=>by rw [qD (ne c _ q)];exact q) fun c xs q=>by rw [qD (ne c _ q)];exact q) I.bare
theorem qdK {pins:List (Addr×Obj)} {σ:St} {H:Hp} {s s':Shared} {cl:List (Str×Addr)} {fp:List Addr} {m:Str->Option Value} {it D:Addr} {tn:Nat->Heap->Prop} {J:It} {R:Result->Shared->Prop} {Qd:List V->Hp->Prop} (O:CompOk X N' k sc)
  (I:Inv X pins σ H s) (hcl1:∀ y c,cl.lookup y=some c->X.env.cells.lookup y=some c) (hcl2:∀ y,(y,NameKind.free)∈sc.names->∃ c,cl.lookup y=some c) (hf:∀ b∈D :: fp,FpOk X pins H b) (hlt:∀ b∈D :: fp,b < s.heap.objs.size)
  (hos:s'.os=s.os) (hg:s'.gens=s.gens) (hk:∀ b o,s.heap.get? b=some o->s'.heap.get? b=some o) (hns:s'.heap.Ns s.heap.objs.size m)
  (T:Turn X.prog X.w X.K tg J fp it tn) (hDf:D∉fp) (st:tn 0 s'.heap) (hD:s'.heap.PlainList D #[])
  (pg:PG (qJ X N' sc cl s.heap.objs.size (D :: fp) pins s H) tg wg) (hq:PTs (qJ X N' sc cl s.heap.objs.size (D :: fp) pins s H) ifs tt) (he:PE (qJ X N' sc cl s.heap.objs.size (D :: fp) pins s H) elt te)
  (W:Nat->Nat->List V->St->Hp->Prop) (m0:Nat) (w0:W 0 m0 [] (σ ++ List.replicate k none) H) (turn:∀ i m ys σ' H',W i m ys σ' H'->(J.stop i H'/\Qd ys H')\/(J.go i H'/\qgD J wg tt te W i m ys σ' H'))
  (fin:∀ s1 H1 σ1 (ys:List V) (its:List Value),Inv (qJ X N' sc cl s.heap.objs.size (D :: fp) pins s H) [] σ1 H1 s1->H1 D=none->s1.heap.PlainList D its.toArray->Vals ys its->ys.length <= sizeLine->Qd ys H1->R (.ok .next) s1) :
  codeAny (model X.prog X.w) X.A (.compLoop (.ListComp elt [⟨tg,iter,ifs,0⟩] sc pos) 0 (.ref it) (.ref D) (compEnvC sc cl s.heap.objs.size X.env)) R s':=by
 have I0:Inv (qJ X N' sc cl s.heap.objs.size (D :: fp) pins s H) [] (σ ++ List.replicate k none) H s':=qfi O I hcl1 hcl2 hf hlt hos hg hk hns
 have stk:∀ b,b≠X.env.locals->b∉X.fs->b∉frs X.stack:=fun b h1 h2 hb=>by
  rcases List.mem_cons.mp (I.stkSub b hb) with z | z
  ·exact h1 z
  ·exact h2 z
 have stat:∀ {H':Hp},(∀ b∈D :: fp,H' b=none)->∀ b∈D :: fp,FpOk (qJ X N' sc cl s.heap.objs.size (D :: fp) pins s H) [] H' b:=fun hn b hb =>
  ⟨hn b hb,Nat.ne_of_lt (hlt b hb),stk b (hf b hb).2.1 (hf b hb).2.2.1,.inl hb,fun z c e=>(hf b hb).2.2.2.2.1 z c (hcl1 _ _ e),fun p hp=>by
   have hp':p∈X.pn ++ pins:=by
    rcases List.mem_append.mp hp with z | z
    ·exact z
    ·cases z
   exact (hf b hb).2.2.2.2.2 p hp'⟩
 have statF:∀ {H':Hp},(∀ b∈D :: fp,H' b=none)->∀ b∈fp,FpOk (qJ X N' sc cl s.heap.objs.size (D :: fp) pins s H) [] H' b:=fun hn b hb=>stat hn b (List.mem_cons_of_mem _ hb)
 refine qcd (fun kk s1=>∃ i ys its σ' H',Inv (qJ X N' sc cl s.heap.objs.size (D :: fp) pins s H) [] σ' H' s1/\tn i s1.heap/\(∀ b∈D :: fp,H' b=none)/\s1.heap.PlainList D its.toArray/\Vals ys its/\ys.length <= sizeLine/\W i kk ys σ' H') ?_ m0 ⟨0,[],[],σ ++ List.replicate k none,H,I0,st,fun b hb=>(hf b hb).1,hD,.nil,Nat.zero_le _,w0⟩
 rintro kk s3 ⟨i,ys,its,σ3,H3,I3,st3,fr3,pl3,rv3,hz3,w3⟩
 rcases turn i kk ys σ3 H3 w3 with ⟨stop,qn⟩ | ⟨go,step⟩
 ·have J3:=I3.pinned (fp:=[D]) (fun b hb=>by
   have e:b=D:=by simpa using hb
   subst e
   exact stat fr3 b List.mem_cons_self) (fun b hb=>by
   have e:b=D:=by simpa using hb
   subst e
   obtain ⟨n,e⟩:=pl3
   exact ⟨_,e,fun v z=>by cases z⟩)
  have fpo:∀ b∈fp,FpOk (qJ X N' sc cl s.heap.objs.size (D :: fp) pins s H) ([] ++ QQ [D] s3.heap) H3 b:=fun b hb=>by
   obtain ⟨a1,a2,a3,a4,a5,a6⟩:=statF fr3 b hb
   refine ⟨a1,a2,a3,a4,a5,fun p hp=>?_⟩
   rcases List.mem_append.mp hp with z | z
   ·exact a6 p (List.mem_append_left _ z)
   ·have z':p∈QQ [D] s3.heap:=by simpa using z
    have:=(JT z').1
    have e:p.1=D:=by simpa using this
    rw [e]
    intro z2
    subst z2
    exact hDf hb
  refine thn (T.done (qJ X N' sc cl s.heap.objs.size (D :: fp) pins s H) rfl rfl rfl O.calm i _ s3 σ3 H3 _ J3 fpo st3 stop) fun r s4 ⟨hr,I4⟩=>?_
  subst hr
  obtain ⟨n,e⟩:=pl3
  have e4:=(I4.pin (D,_) (List.mem_append_right _ (List.mem_append_right _ (QC (by simp) e)))).1
  exact fin s4 H3 σ3 ys its I4.unpinned (fr3 D List.mem_cons_self) ⟨n,e4⟩ rv3 hz3 qn
 ·have J3:=I3.pinned (fp:=[D]) (fun b hb=>by
   have e:b=D:=by simpa using hb
   subst e
   exact stat fr3 b List.mem_cons_self) (fun b hb=>by
   have e:b=D:=by simpa using hb
   subst e
   obtain ⟨n,e⟩:=pl3
   exact ⟨_,e,fun v z=>by cases z⟩)
  have fpo:∀ {H':Hp},(∀ b∈fp,H' b=none)->∀ b∈fp,FpOk (qJ X N' sc cl s.heap.objs.size (D :: fp) pins s H) ([] ++ QQ [D] s3.heap) H' b:=fun {H'} hn b hb=>by
   obtain ⟨_,a2,a3,a4,a5,a6⟩:=statF fr3 b hb
   refine ⟨hn b hb,a2,a3,a4,a5,fun p hp=>?_⟩
   rcases List.mem_append.mp hp with z | z
   ·exact a6 p (List.mem_append_left _ z)
   ·have z':p∈QQ [D] s3.heap:=by simpa using z
    have:=(JT z').1
    have e:p.1=D:=by simpa using this
    rw [e]
    intro z2
    subst z2
    exact hDf hb
  refine thn (T.item (qJ X N' sc cl s.heap.objs.size (D :: fp) pins s H) rfl rfl rfl O.calm i _ s3 σ3 H3 _ J3 (fpo fun b hb=>fr3 b (List.mem_cons_of_mem _ hb)) st3 go) fun r s4 ⟨u,hr,h4⟩=>?_
  subst hr
  refine thn h4 fun _ s5 ⟨y,H5,I5,r5,y5,st5,fr5⟩=>?_
  have I5':=I5.pinned (fpo fr5) (T.obj _ _ st5)
  have step':=step y H5 y5
  obtain ⟨n3,e3⟩:=pl3
  have dpin:∀ {σ7:St} {H7:Hp} {s7:Shared},Inv (qJ X N' sc cl s.heap.objs.size (D :: fp) pins s H) ([] ++ QQ [D] s3.heap ++ QQ fp s5.heap) σ7 H7 s7->s7.heap.get? D=some { cls:=.type "list", data:=.seq its.toArray n3 }/\H7 D=none:=fun {σ7 H7 s7} I7=>by
   have q:=I7.pin (D,_) (List.mem_append_right _ (List.mem_append_left _ (List.mem_append_right _ (QC (by simp) e3))))
   exact ⟨q.1,q.2.1⟩
  have tkeep:∀ {σ7:St} {H7:Hp} {s7:Shared},Inv (qJ X N' sc cl s.heap.objs.size (D :: fp) pins s H) ([] ++ QQ [D] s3.heap ++ QQ fp s5.heap) σ7 H7 s7->tn (i + 1) s7.heap/\∀ b∈D :: fp,H7 b=none:=fun {σ7 H7 s7} I7=>by
   refine ⟨T.keep _ _ _ st5 fun b hb o e=>(I7.pin (b,o) (List.mem_append_right _ (List.mem_append_right _ (QC hb e)))).1,fun b hb=>?_⟩
   rcases List.mem_cons.mp hb with rfl | hb
   ·exact (dpin I7).2
   ·obtain ⟨o,e,d⟩:=T.obj _ _ st5 b hb
    exact (I7.pin (b,o) (List.mem_append_right _ (List.mem_append_right _ (QC hb e)))).2.1
  refine thF (pg _ s5 σ3 H5 y u _ I5' r5 step') fun _ s6 ⟨σ6,H6,I6,step6⟩=>?_
  refine thF (hq _ s6 _ H6 _ I6 step6) fun b s7 ⟨H7,I7,q7⟩=>?_
  cases b with
  | false =>
   simp only [Bool.false_eq_true,if_false] at q7 ⊢
   obtain ⟨m',hm,w8⟩:=q7
   obtain ⟨t8,f8⟩:=tkeep I7
   exact ⟨m',hm,i + 1,ys,its,_,H7,I7.unpinned.unpinned,t8,f8,⟨n3,(dpin I7).1⟩,rv3,hz3,w8⟩
  | true =>
   simp only [if_true] at q7 ⊢
   refine thF (he _ s7 _ H7 _ I7 q7) fun v s8 ⟨vv,H8,I8,r8,hz,m',hm,w8⟩=>?_
   have hlen:=rv3.length
   refine wpAny_list_append_plain ⟨n3,(dpin I8).1⟩ (fun h9 pl9 sb9=>?_) (by rw [List.size_toArray];omega)
   obtain ⟨t8,f8⟩:=tkeep I8
   have st8:=stat f8 D List.mem_cons_self
   have I9:Inv (qJ X N' sc cl s.heap.objs.size (D :: fp) pins s H) [] σ6 H8 { s8 with heap:=h9 } :=
    I8.unpinned.unpinned.turned (t':=s8.toks) (fun b o hb e=>(sb9.2 b hb).trans e) st8.1 st8.2.1 st8.2.2.2.1 st8.2.2.2.2.1 st8.2.2.2.2.2
   refine ⟨m',hm,i + 1,ys ++ [vv],its ++ [v],_,H8,I9,T.keep _ _ _ t8 fun b hb o e=>(sb9.2 b (fun z=>hDf (z ▸ hb))).trans e,f8,by simpa using pl9,rv3.append (.cons r8 .nil),?_,w8⟩
   rw [List.length_append,List.length_singleton]
   omega
theorem Yl {E:Value->Shared->Prop} {pins:List (Addr×Obj)} {σ:St} {H:Hp} {s:Shared} {cl:List (Str×Addr)} {fp:List Addr} {it:Addr} {tn:Nat->Heap->Prop} {J:It} {RR:Value->Addr->Result->Shared->Prop} {Qd:V->Hp->Prop} (O:CompOk X N' k sc)
  (I:Inv X pins σ H s) (hcl1:∀ y c,cl.lookup y=some c->X.env.cells.lookup y=some c) (hcl2:∀ y,(y,NameKind.free)∈sc.names->∃ c,cl.lookup y=some c) (hf:∀ b∈fp,FpOk X pins H b)
  (T:Turn X.prog X.w X.K tg J fp it tn) (st:tn 0 s.heap)
  (hg:∀ cl C fp pins s H,PG (qJ X N' sc cl C fp pins s H) tg wg) (hq:∀ cl C fp pins s H,PTs (qJ X N' sc cl C fp pins s H) ifs tt) (he:∀ cl C fp pins s H,PE (qJ X N' sc cl C fp pins s H) elt te)
  (turn:qgE k J wg tt te σ H Qd)
  (fin:∀ D C s1 H1 m,Inv X pins σ H1 s1->s1.heap.Ns C m->H1 C=none->C≠X.env.locals->(X.s₀.heap.objs.size <= C)->(∀ z c,X.env.cells.lookup z=some c->c≠C)->(∀ p∈X.pn ++ pins,p.1≠C)->Qd (.ref D) H1->RR (.ref D) C (.ok .next) s1) :
  wpAny (model X.prog X.w) X.A (newList []) (fun acc s₃=>wpAny (model X.prog X.w) X.A (newFunctionEnv sc X.env.globals cl [] X.env.qual none .none (some X.env)) (fun cenv s₄ =>
   codeAny (model X.prog X.w) X.A (.compStart (.ListComp elt [⟨tg,iter,ifs,0⟩] sc pos) 0 (.ref it) acc { cenv with scope:=relabel sc X.env }) (RR acc cenv.locals) s₄) E s₃) E s:=by
 refine wpAny_newObj_type (wpAny_newFunctionEnv O.ncell (by intro y hy;simp at hy) (fun h₁ hns₁ hsb₁=>?_) O.kind)
 dsimp only at hns₁ hsb₁ ⊢
 have hD:=I.hok.fresh (Nat.le_refl s.heap.objs.size)
 have I3:Inv X pins σ H { s with heap:=s.heap.push { cls:=.type "list", dict:=none,data:=.seq ([]:List Value).toArray } } :=
  I.kept (t':=s.toks) (fun b u e=>Heap.get?_push_of_some _ e)
 have fpl:∀ b∈fp,b < s.heap.objs.size:=fun b hb=>by
  obtain ⟨o,e,_⟩:=T.obj _ _ st b hb
  exact Heap.lt_size e
 have fD:FpOk X pins H s.heap.objs.size:=I.fpOk (Nat.le_refl _) hD
 have hf3:∀ b∈s.heap.objs.size :: fp,FpOk X pins H b:=fun b hb=>by
  rcases List.mem_cons.mp hb with rfl | hb
  ·exact fD
  ·exact hf b hb
 have eD:(s.heap.push { cls:=.type "list", dict:=none,data:=.seq ([]:List Value).toArray }).get? s.heap.objs.size=some { cls:=.type "list", dict:=none,data:=.seq ([]:List Value).toArray }:=Heap.get?_push_size _ rfl
 generalize hH2:s.heap.push { cls:=.type "list", dict:=none,data:=.seq ([]:List Value).toArray }=H2 at hns₁ hsb₁ I3 eD ⊢
 have hC:H2.objs.size=s.heap.objs.size + 1:=by rw [← hH2,Heap.size_push]
 have old3:∀ b o,H2.get? b=some o->h₁.get? b=some o:=fun b o e=>hsb₁.extBut b o (Nat.ne_of_lt (Heap.lt_size e)) (Heap.get?_push_of_some _ e)
 have old2:∀ b o,s.heap.get? b=some o->H2.get? b=some o:=fun b o e=>hH2 ▸ Heap.get?_push_of_some _ e
 obtain ⟨W,⟨m0,w0⟩,tr⟩:=turn
 have st1:tn 0 h₁:=T.keep _ _ _ st fun b _ o e=>old3 b o (old2 b o e)
 have loop:codeAny (model X.prog X.w) X.A (.compLoop (.ListComp elt [⟨tg,iter,ifs,0⟩] sc pos) 0 (.ref it) (.ref s.heap.objs.size) (compEnvC sc cl H2.objs.size X.env)) (RR (.ref s.heap.objs.size) H2.objs.size)
   { s with heap:=h₁,toks:=s.toks + ([]:List (Str×Value)).length }:=by
  refine qdK (s:={ s with heap:=H2 }) (s':={ s with heap:=h₁,toks:=s.toks + ([]:List (Str×Value)).length }) (Qd:=fun ys H'=>∀ D,H' D=none->Qd (.ref D) (upd H' D (.lst ys))) O I3 hcl1 hcl2 hf3 (fun b hb=>?_) rfl rfl old3 hns₁ T (fun z=>Nat.lt_irrefl _ (fpl _ z)) st1 ⟨0,old3 _ _ eD⟩ (hg _ _ _ _ _ _) (hq _ _ _ _ _ _) (he _ _ _ _ _ _) W m0 w0 tr ?_
  ·show b < H2.objs.size
   rw [hC]
   rcases List.mem_cons.mp hb with hb | hb
   ·rw [hb];exact Nat.lt_succ_self _
   ·exact Nat.lt_succ_of_lt (fpl b hb)
  intro s1 H1 σ1 ys its J1 hD1 pl1 rv1 hz1 q1
  obtain ⟨m,hn1,_⟩:=J1.loc
  obtain ⟨n1,e1⟩:=pl1
  have I4:=(comp_back I3 hf3 J1).track (D:=s.heap.objs.size) (o:=.lst ys) hD1 fD.2.1 fD.2.2.2.1 fD.2.2.2.2.1 fD.2.2.2.2.2 ⟨hz1,its,n1,rv1,e1⟩
  refine fin _ _ s1 _ m I4 hn1 (by rw [qD (by show H2.objs.size≠s.heap.objs.size;omega)];exact J1.free) (Nat.ne_of_gt I3.lt) I3.sz (fun z c e h=>?_) (fun p hp h=>?_) (q1 _ hD1)
  ·obtain ⟨v,q⟩:=I3.cell z c e
   have:=q.lt
   rw [h] at this
   exact Nat.lt_irrefl _ this
  ·have:=Heap.lt_size (I3.pin p hp).1
   rw [h] at this
   exact Nat.lt_irrefl _ this
 exact codeAny_compStart_list loop (T.self _ 0 _ _ _ st1 loop)
theorem qhX (O:CompOk X N' k sc) (hi:PI X tg iter wi) (hg:∀ cl C fp pins s H,PG (qJ X N' sc cl C fp pins s H) tg wg) (hq:∀ cl C fp pins s H,PTs (qJ X N' sc cl C fp pins s H) ifs tt) (he:∀ cl C fp pins s H,PE (qJ X N' sc cl C fp pins s H) elt te)
  (hs:∀ v,foldedSetIterable iter X.env v=pure v:=by intro _;rfl):PE X (.ListComp elt [⟨tg,iter,ifs,0⟩] sc pos) (qbH k wi wg tt te):=by
 intro pins s σ H Q I h
 rw [eval_ListComp]
 obtain ⟨cl,hcl,hcl1,hcl2⟩:=Yg (sc:=sc) (env:=X.env) (fun y hy hf=>I.ok.has y.1 (O.free y hy hf))
 refine wpAny_comprehension_free (use:=none) rfl hs hcl O.kind O.names ?_
 refine thn (hi pins s σ H _ I h) fun v s1 h1=>thn h1 fun itv s2 h2=>?_
 obtain ⟨it,fp,tn,J,H2,e,I2,T,st2,f2,q⟩:=h2
 subst e
 refine Yl (RR:=fun acc C=>compPost (model X.prog X.w) X.A X.xe none (EP X pins σ Q) acc C) (Qd:=Q) O I2 hcl1 hcl2 f2 T st2 hg hq he q ?_
 intro D C s3 H3 m I3 hn3 hC3 hL hsz hcl3 hp3 q3
 exact ⟨m,hn3,fun h' sb=>⟨.ref D,H3,I3.turned (t':=s3.toks) (fun b o hb e=>(sb.2 b hb).trans e) hC3 hL (.inr hsz) hcl3 hp3,rfl,q3⟩⟩
theorem qh4 {j:Nat} {y:Str} {py spos:Pos} (O:CompOk X N' k sc) (hj:X.N[j]?=some y) (hy:X.env.scope.names.lookup y=some .local) (hi:PI X tg iter wi) (hg:∀ cl C fp pins s H,PG (qJ X N' sc cl C fp pins s H) tg wg) (hq:∀ cl C fp pins s H,PTs (qJ X N' sc cl C fp pins s H) ifs tt) (he:∀ cl C fp pins s H,PE (qJ X N' sc cl C fp pins s H) elt te)
  (hsw:swapsWith (.ListComp elt [⟨tg,iter,ifs,0⟩] sc pos) (some (.Name y py)) spos.line X.env=pure true:=by rfl)
  (hs:∀ v,foldedSetIterable iter X.env v=pure v:=by intro _;rfl):PS X (.Assign [.Name y py] (.ListComp elt [⟨tg,iter,ifs,0⟩] sc pos) spos) (tAsg (qbH k wi wg tt te) (qc1 j)):=by
 intro pins s σ H D I h
 rw [exec_Assign_Name_used _ _ _ _ hsw]
 refine wpAny_bind (wpAny_standAt (wpAny_bind ?_))
 show wpAny _ X.A (do let _ ← comprehension (.ListComp elt [⟨tg,iter,ifs,0⟩] sc pos) sc X.env _ (newList []) false (eval iter X.env) (some (assign (.Name y py) X.env))) _ _ s
 obtain ⟨cl,hcl,hcl1,hcl2⟩:=Yg (sc:=sc) (env:=X.env) (fun y hy hf=>I.ok.has y.1 (O.free y hy hf))
 refine wpAny_bind (wpAny_mono (wpAny_comprehension_free (use:=some (assign (.Name y py) X.env)) (Q:=fun _ s'=>SP X pins D .next s') rfl hs hcl O.kind O.names ?_) (fun _ s' hq=>wpAny_pure (wpAny_pure hq)) fun _ _ e=>e)
 refine thn (hi pins s σ H _ I h) fun v s1 h1=>thn h1 fun itv s2 h2=>?_
 obtain ⟨it,fp,tn,J,H2,e,I2,T,st2,f2,q⟩:=h2
 subst e
 refine Yl (RR:=fun acc C=>compPost (model X.prog X.w) X.A X.xe (some (assign (.Name y py) X.env)) (fun _ s'=>SP X pins D .next s') acc C) (Qd:=fun x H1=>qc1 j x σ H1 D.nx) O I2 hcl1 hcl2 f2 T st2 hg hq he q ?_
 intro B C s3 H3 m I3 hn3 hC3 hL hsz hcl3 hp3 q3
 refine wpAny_assign_Name (Ws I3 O.nd hj (.inl hy) (v:=.ref B) rfl (fun s4 I4 ⟨a,sb,ha⟩=>?_) (.inr hy))
 have hCa:C≠a:=by
  rcases ha with ha | ha
  ·rw [ha];exact hL
  ·exact Ne.symm (hcl3 _ _ ha)
 refine ⟨m,hn3.sameBut sb hCa,fun h' sb'=>⟨_,H3,I4.turned (t':=s4.toks) (fun b o hb e=>(sb'.2 b hb).trans e) hC3 hL (.inr hsz) hcl3 hp3,q3⟩⟩
end
noncomputable abbrev K2:=List (Int ⊕ List Int)
noncomputable def k2D (k:Int ⊕ List Int):PyData:=match k with
 | .inl i=>.int i
 | .inr js=>.tuple (js.map .int)
noncomputable def k2T (ks:K2):PyData:=.tuple (ks.map k2D)
noncomputable def k2H (k:Int ⊕ List Int):Int:=match k with
 | .inl i=>hashInt i
 | .inr js=>reduceHash (Builtin.Tuple.tupleHashOf (js.map hashInt))
noncomputable def k2N (k:Int ⊕ List Int):Nat:=match k with
 | .inl _=>1
 | .inr js=>js.length + 1
theorem ym:∀ {a b:List Int},a.map PyData.int=b.map PyData.int->a=b
 | [],[],_=>rfl
 | [],_ :: _,e=>by simp at e
 | _ :: _,[],e=>by simp at e
 | x :: xs,y :: ys,e=>by
  rw [List.map_cons,List.map_cons] at e
  injection e with e1 e2
  injection e1 with e1
  rw [e1,ym e2]
theorem qhu {a b:Int ⊕ List Int} (e:k2D a=k2D b):a=b:=by
 cases a with
 | inl i=>cases b with
  | inl j=>injection (show PyData.int i=PyData.int j from e) with e;rw [e]
  | inr js=>cases (show PyData.int i=PyData.tuple _ from e)
 | inr is=>cases b with
  | inl j=>cases (show PyData.tuple _=PyData.int j from e)
  | inr js=>injection (show PyData.tuple (is.map .int)=PyData.tuple (js.map .int) from e) with e;rw [ym e]
theorem qa1:∀ {a b:K2},a.map k2D=b.map k2D->a=b
 | [],[],_=>rfl
 | [],_ :: _,e=>by simp at e
 | _ :: _,[],e=>by simp at e
 | x :: xs,y :: ys,e=>by
  rw [List.map_cons,List.map_cons] at e
  injection e with e1 e2
  rw [qhu e1,qa1 e2]
theorem qhv {a b:K2} (e:k2T a=k2T b):a=b:=by
 injection (show PyData.tuple (a.map k2D)=PyData.tuple (b.map k2D) from e) with e
 exact qa1 e
theorem qfd (ns:List Int):PyData.canLayAll0 (ns.map .int)=true/\PyData.depthAll (ns.map .int)=0:=by
 induction ns with
 | nil=>exact ⟨rfl,rfl⟩
 | cons n ns ih=>exact ⟨ih.1,by show max 0 (PyData.depthAll (ns.map .int))=0;rw [ih.2];rfl⟩
theorem qfe (ks:K2):PyData.canLayAll0 (ks.map k2D)=true/\PyData.depthAll (ks.map k2D) <= 1:=by
 induction ks with
 | nil=>exact ⟨rfl,Nat.zero_le _⟩
 | cons k ks ih =>
  have hk:(k2D k).canLay0=true/\(k2D k).depth <= 1:=by
   cases k with
   | inl i=>exact ⟨rfl,Nat.zero_le _⟩
   | inr js=>exact ⟨(qfd js).1,by show PyData.depthAll (js.map .int) + 1 <= 1;rw [(qfd js).2];exact Nat.le_refl _⟩
  refine ⟨?_,?_⟩
  ·show ((k2D k).canLay0 && PyData.canLayAll0 (ks.map k2D))=true
   rw [hk.1,ih.1];rfl
  ·show max (k2D k).depth (PyData.depthAll (ks.map k2D)) <= 1
   exact Nat.max_le.mpr ⟨hk.2,ih.2⟩
theorem yC (ks:K2):(k2T ks).canLay0=true/\(k2T ks).depth <= 2:=⟨(qfe ks).1,Nat.succ_le_succ (qfe ks).2⟩
noncomputable def Is2 (h:Heap) (ks:K2) (a:Addr):Prop:=∃ as,Reads h (.ref a) (k2T ks) as
section
variable {prog:Program} {w:World} {A:Around} {E:Value->Shared->Prop} {s:Shared}
noncomputable def JK (prog:Program) (w:World) (A:Around) (h:Heap) (v:Value) (p:Int×Nat):Prop :=
 ∀ (E:Value->Shared->Prop) (s:Shared) (Q:Int->Shared->Prop),s.heap=h->Q p.1 { s with toks:=s.toks + p.2 }->wpAny (model prog w) A (pyHash v) Q E s
theorem qa0 {a:Addr} {o:Obj} {items:Array Value} {n:Nat} {hs:List (Int×Nat)} {Q:Int->Shared->Prop} (hu:A.units < cLine) (ho:s.heap.get? a=some o) (hc:o.cls=.type "tuple") (hd:o.data=.seq items n)
  (hi:Paired (JK prog w A.in1 s.heap) items.toList hs) (h:Q (reduceHash (Builtin.Tuple.tupleHashOf (hs.map (·.1)))) { s with toks:=s.toks + ((hs.map (·.2)).sum + 1) }):wpAny (model prog w) A (pyHash (.ref a)) Q E s:=by
 have hT:s.TypeIs (.ref a) "tuple" := ⟨o,ho,hc⟩
 unfold pyHash
 first | unfold pyHashByItsType | skip
 first | exact wpAny_bind (wpAny_cRoomFor_or (.inr hu) ?_) | skip
 first | refine wpAny_bind (wpAny_cRoomFor_or (.inr hu) (wpAny_bind (wpAny_specialOf hT F.slot_tuple_hash.lookup ?_))) | refine wpAny_bind (wpAny_specialOf hT F.slot_tuple_hash.lookup (id ?_))
 refine (id ?_:wpAny _ _ (if (some (Value.builtin "tuple.__hash__") == some Value.none)=true then _ else _) Q E s)
 rw [if_neg (fun z=>by rw [beq_builtin_none] at z;cases z)]
 refine wpAny_bind (wpAny_specialOf hT F.slot_tuple_hash.lookup (id ?_:wpAny _ _ (callSpecialIfBoundUnlessNone? (.ref a) "__hash__" _ >>= _) Q E s))
 refine wpAny_bind (wpAny_callSpecialIfBoundUnlessNone?_slot hT F.slot_tuple_hash (wpAny_call_entry F.slot_tuple_hash hT F.entry_tuple_hash (?_:wpAny _ _ (Builtin.Tuple.tupleItemsOf (.ref a) >>= _) _ _ s) (F.args_tuple_hash_1 _)))
 refine wpAny_bind (wpAny_tupleItemsOf ho hd (wpAny_bind ?_))
 rw [← Array.forIn_toList]
 refine wpAny_forIn_list _ (fun rest (b:Array Int) s'=>∃ done left,hs=done ++ left/\Paired (JK prog w A.in1 s.heap) rest left/\b.toList=done.map (·.1)/\s'={ s with toks:=s.toks + (done.map (·.2)).sum }) _ ?_ ?_ _ _ ⟨[],hs,rfl,hi,rfl,rfl⟩
 ·rintro x rest b s' ⟨done,left,rfl,hl,hb,rfl⟩
  cases hl with
  | @cons _ p _ ps h1 hl' =>
   refine wpAny_bind (h1 _ _ _ rfl ?_)
   first
    | exact wpAny_pure ⟨done ++ [p],ps,by simp,hl',by simp [hb],by simp [Nat.add_assoc]⟩
    | exact wpAny_bind (wpAny_pure (wpAny_pure ⟨done ++ [p],ps,by simp,hl',by simp [hb],by simp [Nat.add_assoc]⟩))
 ·rintro b s' ⟨done,left,rfl,hl,hb,rfl⟩
  cases hl
  rw [List.append_nil] at h
  refine (id ?_:wpAny _ _ (retInt (Builtin.Tuple.tupleHashOf b.toList)) _ _ _)
  rw [hb]
  refine wpAny_ret_mkInt (id ?_:wpAny _ _ (if (decide (-(2:Int) ^ 63 <= Builtin.Tuple.tupleHashOf (done.map (·.1))) && decide (Builtin.Tuple.tupleHashOf (done.map (·.1)) < 2 ^ 63))=true then _ else _) Q E _)
  unfold reduceHash at h
  by_cases hr:(decide (-(2:Int) ^ 63 <= Builtin.Tuple.tupleHashOf (done.map (·.1))) && decide (Builtin.Tuple.tupleHashOf (done.map (·.1)) < 2 ^ 63))=true
  ·rw [if_pos hr] at h ⊢
   exact wpAny_pure (by simpa [Nat.add_assoc] using h)
  ·rw [if_neg hr] at h ⊢
   exact wpAny_bind (wpAny_rule (wpAny_pure (by simpa [Nat.add_assoc] using h)))
theorem qaZ {h:Heap} (i:Int) (t:Tok):JK prog w A h (.int i t) (hashInt i,1):=fun _ _ _ _ q=>wpAny_pyHash_int q
theorem wV {h:Heap}:∀ {vs:List Value} {ns:List Int} {as:List Addr},ReadsAll h vs (ns.map .int) as->Paired (JK prog w A h) vs (ns.map fun i=>(hashInt i,1))
 | _,[],_,r=>by cases r;exact .nil
 | _,n :: ns,_,r=>by
  cases r with
  | cons a t=>cases a;exact .cons (qaZ _ _) (wV t)
theorem qgC (ns:List Int):((ns.map fun i=>(hashInt i,1)).map (·.2)).sum=ns.length:=by
 induction ns with
 | nil=>rfl
 | cons n ns ih=>rw [List.map_cons,List.map_cons,List.sum_cons,ih,List.length_cons];omega
theorem qdR {h:Heap} {v:Value} {k:Int ⊕ List Int} {as:List Addr} (hu:A.units < cLine) (r:Reads h v (k2D k) as):JK prog w A h v (k2H k,k2N k):=by
 cases k with
 | inl i =>
  cases (show Reads h v (.int i) as from r)
  exact qaZ _ _
 | inr js =>
  cases (show Reads h v (.tuple (js.map .int)) as from r) with
  | tuple h1 h2 h3 h4 =>
   intro E s Q e q
   subst e
   refine qa0 hu h1 h2 h3 (wV h4) ?_
   have e:(js.map fun i=>(hashInt i,1)).map (·.1)=js.map hashInt:=by rw [List.map_map];rfl
   rw [e,qgC]
   exact q
theorem yf {h:Heap} (hu:A.units < cLine):∀ {vs:List Value} {ks:K2} {as:List Addr},ReadsAll h vs (ks.map k2D) as->Paired (JK prog w A h) vs (ks.map fun k=>(k2H k,k2N k))
 | _,[],_,r=>by cases r;exact .nil
 | _,k :: ks,_,r=>by
  cases r with
  | cons a t=>exact .cons (qdR hu a) (yf hu t)
theorem qdp {n:Nat} {h:Heap} {v:Value} {as:List Addr} {i:Int} (r:Reads h v (.int i) as):eqIsQuiet n v=pure true:=by
 cases r
 cases n<;>rfl
theorem Wo {m:Nat} {a:Addr} {o:Obj} {items:Array Value} {n:Nat} {Q:Bool->Shared->Prop} (ho:s.heap.get? a=some o) (hc:o.cls=.type "tuple") (hd:o.data=.seq items n)
  (hi:∀ v∈items.toList,∀ Q':Bool->Shared->Prop,Q' true s->wpAny (model prog w) A (eqIsQuiet m v) Q' E s) (h:Q true s):wpAny (model prog w) A (eqIsQuiet (m + 1) (.ref a)) Q E s:=by
 have hT:s.TypeIs (.ref a) "tuple" := ⟨o,ho,hc⟩
 unfold eqIsQuiet
 refine wpAny_bind (wpAny_specialOf hT F.slot_tuple_eq.lookup (?_:wpAny _ _ (isInstance (.ref a) (.type "tuple") >>= _) _ _ s))
 refine wpAny_bind (wpAny_isInstance hT isSubtype_tuple_tuple (id ?_))
 simp only [Bool.not_true,if_false,Bool.false_eq_true]
 refine wpAny_bind (wpAny_seqItems ho hd (wpAny_bind (?_:wpAny _ _ (forIn items _ _) _ _ s)))
 rw [← Array.forIn_toList]
 refine wpAny_forIn_list _ (fun rest r s'=>r.1=none/\s'=s/\∀ v∈rest,∀ Q':Bool->Shared->Prop,Q' true s->wpAny (model prog w) A (eqIsQuiet m v) Q' E s) _ ?_ ?_ _ _ ⟨rfl,rfl,hi⟩
 ·rintro v rest r s' ⟨hr,rfl,hall⟩
  refine wpAny_bind (hall v List.mem_cons_self _ ?_)
  simp only [Bool.not_true,if_false,Bool.false_eq_true]
  exact wpAny_pure ⟨rfl,rfl,fun u hu'=>hall u (List.mem_cons_of_mem _ hu')⟩
 ·rintro ⟨r1,r2⟩ s' ⟨hr,rfl,_⟩
  simp only at hr
  subst hr
  exact wpAny_pure h
theorem Zj {h:Heap}:∀ {vs:List Value} {ds:List PyData} {as:List Addr},ReadsAll h vs ds as->∀ v∈vs,∃ d∈ds,∃ bs,Reads h v d bs
 | _,_,_,.nil,v,hv=>by cases hv
 | _,_,_,.cons r t,v,hv=>by
  rcases List.mem_cons.mp hv with rfl | hv
  ·exact ⟨_,.head _,_,r⟩
  ·obtain ⟨d,hd,bs,q⟩:=Zj t v hv
   exact ⟨d,.tail _ hd,bs,q⟩
theorem Is2.quiet {ks:K2} {a:Addr} {Q:Bool->Shared->Prop} (x:Is2 s.heap ks a) (h:Q true s):wpAny (model prog w) A (eqIsQuiet 8 (.ref a)) Q E s:=by
 obtain ⟨as,r⟩:=x
 cases r with
 | tuple h1 h2 h3 h4 =>
  refine Wo h1 h2 h3 (fun v hv Q' q=>?_) h
  obtain ⟨d,hd,bs,rv⟩:=Zj h4 v hv
  obtain ⟨k,_,rfl⟩:=List.mem_map.mp hd
  cases k with
  | inl i=>rw [qdp (show Reads s.heap v (.int i) bs from rv)];exact wpAny_pure q
  | inr js =>
   cases (show Reads s.heap v (.tuple (js.map .int)) bs from rv) with
   | tuple g1 g2 g3 g4 =>
    refine Wo g1 g2 g3 (fun u hu Q2 q2=>?_) q
    obtain ⟨d,hd,cs,ru⟩:=Zj g4 u hu
    obtain ⟨i,_,rfl⟩:=List.mem_map.mp hd
    rw [qdp ru]
    exact wpAny_pure q2
theorem Is2.inj {h:Heap} {a:Addr} {x y:K2} (hx:Is2 h x a) (hy:Is2 h y a):x=y:=by
 obtain ⟨as,r⟩:=hx
 obtain ⟨bs,q⟩:=hy
 exact qhv (SeqAt.Reads.unique _ _ _ _ _ (yC x).1 r q)
theorem JB {h h':Heap} {d:Addr} (k:∀ b o,b≠d->h.get? b=some o->h'.get? b=some o):∀ {vs:List Value} {ns:List Int} {as:List Addr},ReadsAll h vs (ns.map .int) as->ReadsAll h' vs (ns.map .int) as
 | _,[],_,r=>by cases r;exact .nil
 | _,n :: ns,_,r=>by
  cases r with
  | cons a t=>cases a;exact .cons (.int _ _) (JB k t)
theorem Is2.keeps {h h':Heap} {ks:K2} {a d:Addr} {o:Obj} {es:Array DictEntry} {ep:Nat} (x:Is2 h ks a) (ho:h.get? d=some o) (hd:o.data=.dict es ep) (hs:Heap.SameBut d h h'):Is2 h' ks a:=by
 have k:∀ b o,b≠d->h.get? b=some o->h'.get? b=some o:=fun b o hb e=>(hs.2 b hb).trans e
 have ne:∀ {b:Addr} {ob:Obj} {items:Array Value} {n:Nat},h.get? b=some ob->ob.data=.seq items n->b≠d:=fun e q z=>by
  subst z
  rw [ho] at e
  cases e
  rw [hd] at q
  cases q
 have item:∀ {vs:List Value} {ks:K2} {as:List Addr},ReadsAll h vs (ks.map k2D) as->ReadsAll h' vs (ks.map k2D) as:=by
  intro vs ks
  induction ks generalizing vs with
  | nil=>intro as r;cases r;exact .nil
  | cons k1 ks ih =>
   intro as r
   cases r with
   | cons a t =>
    refine .cons ?_ (ih t)
    cases k1 with
    | inl i=>cases (show Reads h _ (.int i) _ from a);exact .int _ _
    | inr js =>
     cases (show Reads h _ (.tuple (js.map .int)) _ from a) with
     | tuple g1 g2 g3 g4=>exact .tuple (k _ _ (ne g1 g3) g1) g2 g3 (JB k g4)
 obtain ⟨as,r⟩:=x
 cases r with
 | tuple h1 h2 h3 h4=>exact ⟨_,.tuple (k _ _ (ne h1 h3) h1) h2 h3 (item h4)⟩
theorem qaO:∀ a b:List Int,PyData.eqv (.tuple (a.map .int)) (.tuple (b.map .int))=decide (a=b)
 | [],[]=>rfl
 | [],_ :: _=>rfl
 | _ :: _,[]=>rfl
 | x :: xs,y :: ys=>by
  have:PyData.eqv (.tuple ((x :: xs).map .int)) (.tuple ((y :: ys).map .int))=((x == y) && PyData.eqv (.tuple (xs.map .int)) (.tuple (ys.map .int))):=rfl
  rw [this,qaO xs ys,Bool.eq_iff_iff]
  simp
theorem qhk (a b:Int ⊕ List Int):PyData.eqv (k2D a) (k2D b)=decide (a=b):=by
 cases a with
 | inl i=>cases b with
  | inl j =>
   have:PyData.eqv (k2D (.inl i)) (k2D (.inl j))=(i == j):=rfl
   rw [this,Bool.eq_iff_iff]
   simp
  | inr js=>exact (decide_eq_false (fun z=>by cases z)).symm
 | inr is=>cases b with
  | inl j=>exact (decide_eq_false (fun z=>by cases z)).symm
  | inr js =>
   have:PyData.eqv (k2D (.inr is)) (k2D (.inr js))=PyData.eqv (.tuple (is.map .int)) (.tuple (js.map .int)):=rfl
   rw [this,qaO,Bool.eq_iff_iff]
   simp
theorem WX:∀ a b:K2,PyData.eqv (k2T a) (k2T b)=decide (a=b)
 | [],[]=>rfl
 | [],_ :: _=>rfl
 | _ :: _,[]=>rfl
 | x :: xs,y :: ys=>by
  have:PyData.eqv (k2T (x :: xs)) (k2T (y :: ys))=(PyData.eqv (k2D x) (k2D y) && PyData.eqv (k2T xs) (k2T ys)):=rfl
  rw [this,qhk,WX xs ys,Bool.eq_iff_iff]
  simp
end
noncomputable def yh (prog:Program) (w:World):HeapKind prog w K2 where
 is:=Is2
 hash:=fun ks=>reduceHash (Builtin.Tuple.tupleHashOf (ks.map k2H))
 draws:=fun ks=>((ks.map fun k=>(k2H k,k2N k)).map (·.2)).sum + 1
 room:=fun A=>A.units + 3 < cLine
 inj:=fun hx hy=>hx.inj hy
 keeps:=fun x ho hd hs=>x.keeps ho hd hs
 pyHash:=fun {A E s k a Q} hu hk h=>by
  obtain ⟨as,r⟩:=hk
  cases r with
  | tuple h1 h2 h3 h4 =>
   have hu1:A.in1.units < cLine:=by show A.units + 1 < cLine;omega
   refine qa0 (by omega) h1 h2 h3 (yf hu1 h4) ?_
   have e:(k.map fun x=>(k2H x,k2N x)).map (·.1)=k.map k2H:=by rw [List.map_map];rfl
   rw [e]
   exact h
 eqBool:=fun {A E s x y a b Q} hu hx hy h=>by
  obtain ⟨as,r⟩:=hx
  obtain ⟨bs,q⟩:=hy
  refine SeqAt.eqAt_reads _ _ A s _ _ _ _ r q (yC x).1 (yC y).1 ?_ prog w E Q (by rw [WX];exact h)
  have:=(yC x).2
  have:=Nat.min_le_left (k2T x).depth (k2T y).depth
  omega
 quiet:=fun hk h=>hk.quiet h
noncomputable def qjx (ks:K2):Int:=reduceHash (Builtin.Tuple.tupleHashOf (ks.map k2H))
noncomputable abbrev KX:=Int ⊕ K2
noncomputable def kxD (k:KX):PyData:=match k with
 | .inl i=>.int i
 | .inr ks=>k2T ks
noncomputable def kxV (k:KX) (b:Addr):V:=match k with
 | .inl i=>.int i
 | .inr _=>.ref b
noncomputable def kxI (k:KX):Bool:=match k with
 | .inl _=>true
 | .inr _=>false
noncomputable def qfC:PyData->Bool
 | .int _=>true
 | _=>false
theorem qb6 (k:KX):qfC (kxD k)=kxI k:=by cases k<;>rfl
theorem Jl (a b:KX):PyData.eqv (kxD a) (kxD b)=decide (a=b):=by
 cases a with
 | inl i=>cases b with
  | inl j =>
   have:PyData.eqv (kxD (.inl i)) (kxD (.inl j))=(i == j):=rfl
   rw [this,Bool.eq_iff_iff]
   simp
  | inr js=>exact (decide_eq_false (fun z=>by cases z)).symm
 | inr is=>cases b with
  | inl j=>exact (decide_eq_false (fun z=>by cases z)).symm
  | inr js =>
   have:PyData.eqv (kxD (.inr is)) (kxD (.inr js))=PyData.eqv (k2T is) (k2T js):=rfl
   rw [this,WX,Bool.eq_iff_iff]
   simp
noncomputable abbrev PkT (p:KX×Addr×V) (q:K2×Addr×Value):Prop:=p.1=.inr q.1/\p.2.1=q.2.1/\RelV p.2.2 q.2.2
noncomputable abbrev PkI (p:KX×Addr×V) (q:Int×Value):Prop:=p.1=.inl q.1/\RelV p.2.2 q.2
noncomputable abbrev EnI (e:DictEntry) (q:Int×Value):Prop:=e.hash=hashInt q.1/\(∃ t,e.key=.int q.1 t)/\e.val=q.2
noncomputable def DctT (a:Addr) (kvs:List (KX×Addr×V)) (ep:Nat) (h:Heap):Prop :=
 ∃ xs:List (K2×Addr×Value),Paired PkT kvs xs/\∃ o es,h.get? a=some o/\o.ExactDict/\o.data=.dict es ep/\es.toList=xs.map (fun x=>(⟨qjx x.1,.ref x.2.1,x.2.2⟩:DictEntry))/\(xs.map (·.1)).Nodup
noncomputable def DctI (a:Addr) (kvs:List (KX×Addr×V)) (ep:Nat) (h:Heap):Prop :=
 ∃ vs:List (Int×Value),Paired PkI kvs vs/\∃ o es,h.get? a=some o/\o.ExactDict/\o.data=.dict es ep/\Paired EnI es.toList vs/\(vs.map (·.1)).Nodup
noncomputable def qU (a:Addr) (kvs:List (KX×Addr×V)) (ep:Nat) (h:Heap):Prop :=
 kvs.length <= sizeLine/\(a == sysModules)=false/\(DctT a kvs ep h\/DctI a kvs ep h)
noncomputable def DctO (a:Addr) (kvs:List (KX×Addr×V)) (ep:Nat):HO:=.ext (qU a kvs ep)
theorem qU.ok {P:Program} {w:World} {H:Hp} {h:Heap} {a:Addr} {kvs:List (KX×Addr×V)} {ep:Nat} (d:qU a kvs ep h):Qp P w H h a (DctO a kvs ep):=by
 refine ⟨d,?_,fun h1 h2 ⟨z,y,e⟩ k=>⟨z,y,e.imp (fun ⟨xs,r,o,es,g1,g2⟩=>⟨xs,r,o,es,k o g1,g2⟩) fun ⟨xs,r,o,es,g1,g2⟩=>⟨xs,r,o,es,k o g1,g2⟩⟩⟩
 obtain ⟨_,_,⟨_,_,o,_,g1,_⟩ | ⟨_,_,o,_,g1,_⟩⟩:=d
 ·exact ⟨o,g1⟩
 ·exact ⟨o,g1⟩
theorem qU.of {P:Program} {w:World} {H:Hp} {h:Heap} {a:Addr} {kvs:List (KX×Addr×V)} {ep:Nat} (x:Qp P w H h a (DctO a kvs ep)):qU a kvs ep h:=x.1
noncomputable def dkv (kvs:List (KX×Addr×V)) (ds:List PyData):List (PyData×PyData):=(kvs.map fun p=>kxD p.1).zip ds
theorem Yn {kvs:List (KX×Addr×V)} {ds:List PyData} (h:kvs.length=ds.length):(dkv kvs ds).map (·.1)=kvs.map fun p=>kxD p.1:=by
 unfold dkv
 rw [List.map_fst_zip (by rw [List.length_map,h];exact Nat.le_refl _)]
theorem qfn {kvs:List (KX×Addr×V)} {ds:List PyData} (h:kvs.length=ds.length):(dkv kvs ds).map (·.2)=ds:=by
 unfold dkv
 rw [List.map_snd_zip (by rw [List.length_map,h];exact Nat.le_refl _)]
theorem qgm {kvs:List (KX×Addr×V)} {xs:List (K2×Addr×Value)} (r:Paired PkT kvs xs):Vals (kvs.map fun p=>kxV p.1 p.2.1) (xs.map fun x=>Value.ref x.2.1)/\Vals (kvs.map (·.2.2)) (xs.map (·.2.2)):=by
 induction r with
 | nil=>exact ⟨.nil,.nil⟩
 | cons h t ih=>exact ⟨.cons (by dsimp only;rw [h.1,h.2.1];rfl) ih.1,.cons h.2.2 ih.2⟩
theorem qbr:∀ {kvs:List (KX×Addr×V)} {vs:List (Int×Value)} {es:List DictEntry},Paired PkI kvs vs->Paired EnI es vs->Vals (kvs.map fun p=>kxV p.1 p.2.1) (es.map (·.key))/\Vals (kvs.map (·.2.2)) (es.map (·.val))
 | _,_,_,.nil,.nil=>⟨.nil,.nil⟩
 | _,_,_,.cons h t,.cons g u=>by
  obtain ⟨i1,i2⟩:=qbr t u
  obtain ⟨_,⟨tk,g1⟩,g2⟩:=g
  exact ⟨.cons (by dsimp only;rw [h.1,g1];exact ⟨tk,rfl⟩) i1,.cons (by dsimp only;rw [g2];exact h.2) i2⟩
theorem qU.vals {h:Heap} {a:Addr} {kvs:List (KX×Addr×V)} {ep:Nat} (d:qU a kvs ep h):∃ o es,h.get? a=some o/\o.ExactDict/\o.data=.dict es ep/\Vals (kvs.map fun p=>kxV p.1 p.2.1) (es.toList.map (·.key))/\Vals (kvs.map (·.2.2)) (es.toList.map (·.val)):=by
 obtain ⟨_,_,⟨xs,r,o,es,g1,g2,g3,g4,_⟩ | ⟨vs,r,o,es,g1,g2,g3,g4,_⟩⟩:=d
 ·refine ⟨o,es,g1,g2,g3,?_⟩
  rw [g4,List.map_map,List.map_map]
  exact qgm r
 ·exact ⟨o,es,g1,g2,g3,qbr r g4⟩
theorem qU.tup {h:Heap} {a:Addr} {kvs:List (KX×Addr×V)} {ep:Nat} (d:qU a kvs ep h) (hk:∀ p∈kvs,kxI p.1=false):DctT a kvs ep h:=by
 obtain ⟨_,_,d | ⟨vs,r,o,es,g1,g2,g3,g4,g5⟩⟩:=d
 ·exact d
 ·cases r with
  | nil =>
   have he:es.toList=[]:=by cases h:es.toList with
    | nil=>rfl
    | cons=>rw [h] at g4;cases g4
   exact ⟨[],.nil,o,es,g1,g2,g3,he,List.nodup_nil⟩
  | @cons p q _ _ h t =>
   have:=hk p (.head _)
   rw [h.1] at this
   cases this
theorem qU.int {h:Heap} {a:Addr} {kvs:List (KX×Addr×V)} {ep:Nat} (d:qU a kvs ep h) (hk:∀ p∈kvs,kxI p.1=true):DctI a kvs ep h:=by
 obtain ⟨_,_,⟨xs,r,o,es,g1,g2,g3,g4,g5⟩ | d⟩:=d
 ·cases r with
  | nil=>exact ⟨[],.nil,o,es,g1,g2,g3,by rw [g4];exact .nil,List.nodup_nil⟩
  | @cons p q _ _ h t =>
   have:=hk p (.head _)
   rw [h.1] at this
   cases this
 ·exact d
noncomputable abbrev Av:=Addr->Prop
noncomputable def Z8:HO->Bool
 | .lst _=>true
 | .dK _=>true
 | .dT _=>true
 | .ext _=>true
 | _=>false
noncomputable def Dm (S:Av) (H:Hp):Prop:=∀ a,S a->∃ o,H a=some o/\Z8 o=true
noncomputable def Off (S:Av) (H H':Hp):Prop:=∀ b o,¬ S b->H b=some o->H' b=some o
noncomputable def KqL (K:PySem.W.Frag) (a:Addr) (xs:List V):Prop:=∃ (o:Obj) (its:Array Value) (n:Nat),K.lookup a=some o/\o.cls=.type "list"/\o.dict=none/\o.data=.seq its n/\its.size <= sizeLine/\Vals xs its.toList
noncomputable def SqLS (K:PySem.W.Frag) (H:Hp) (S:Av) (a:Addr) (xs:List V):Prop:=(Rd H a (.lst xs)/\¬ S a)\/KqL K a xs
mutual
inductive Den (K:PySem.W.Frag) (H:Hp) (S:Av):V->PyData->Prop
 | none:Den K H S .non .none
 | bool (b:Bool):Den K H S (.bl b) (.bool b)
 | int (i:Int):Den K H S (.int i) (.int i)
 | str (x:Str):Den K H S (.str x) (.str x)
 | list {a:Addr} {xs:List V} {ds:List PyData}:SqLS K H S a xs->DenL K H S xs ds->Den K H S (.ref a) (.list ds)
 | tuple {a:Addr} {xs:List V} {ds:List PyData}:SqT K H a xs->DenL K H S xs ds->Den K H S (.ref a) (.tuple ds)
 | dict {a:Addr} {kvs:List (KX×Addr×V)} {ep:Nat} {ds:List PyData}:(H a=some (DctO a kvs ep)/\¬ S a)->DenL K H S (kvs.map fun p=>kxV p.1 p.2.1) (kvs.map fun p=>kxD p.1)->DenL K H S (kvs.map (·.2.2)) ds->Den K H S (.ref a) (.dict (dkv kvs ds))
inductive DenL (K:PySem.W.Frag) (H:Hp) (S:Av):List V->List PyData->Prop
 | nil:DenL K H S [] []
 | cons {x:V} {d:PyData} {xs:List V} {ds:List PyData}:Den K H S x d->DenL K H S xs ds->DenL K H S (x :: xs) (d :: ds)
end
mutual
noncomputable def flat:PyData->Bool
 | .none=>true
 | .bool _=>true
 | .int _=>true
 | .str _=>true
 | .list _=>false
 | .tuple ds=>Jo ds
 | .dict _=>false
noncomputable def Jo:List PyData->Bool
 | []=>true
 | d :: ds=>flat d && Jo ds
end
section
variable {K:PySem.W.Frag} {H H':Hp} {S S':Av}
theorem SqLS.sq {a:Addr} {xs:List V} (h:SqLS K H S a xs):SqL K H a xs:=h.imp (·.1) id
theorem SqLS.new {a:Addr} {xs:List V} (h:H a=some (.lst xs)) (n:¬ S a):SqLS K H S a xs:=.inl ⟨.inl h,n⟩
theorem Dm.free {p:Addr} (m:Dm S H) (h:H p=none):¬ S p:=fun q=>by
 obtain ⟨o,e,_⟩:=m p q
 rw [h] at e;cases e
theorem Dm.same (e:Same H H') (m:Dm S H):Dm S H':=fun a q=>by
 obtain ⟨o,h,w⟩:=m a q
 exact ⟨o,e a o h,w⟩
theorem Dm.sub (m:Dm S H) (h:∀ a,S' a->S a):Dm S' H:=fun a q=>m a (h a q)
theorem Dm.tup {a:Addr} {xs:List V} (m:Dm S H) (h:Rd H a (.tup xs)):¬ S a:=fun q=>by
 obtain ⟨o,e,w⟩:=m a q
 rcases h with h | ⟨u,h⟩
 ·rw [h] at e;cases e;cases w
 ·rw [h] at e;cases e;cases w
theorem Rd.off {a:Addr} {o:HO} (e:Off S H H') (n:¬ S a) (h:Rd H a o):Rd H' a o:=by
 rcases h with h | ⟨u,h⟩
 ·exact .inl (e _ _ n h)
 ·exact .inr ⟨u,e _ _ n h⟩
theorem Rd.dom {a:Addr} {o:HO} (h:Rd H a o):H a≠none:=by
 rcases h with h | ⟨u,h⟩<;>(rw [h];exact fun z=>nomatch z)
theorem Same.off (e:Same H H'):Off S H H':=fun b o _ h=>e b o h
theorem SqT.upd {a p:Addr} {o:HO} {xs:List V} (h:SqT K H a xs) (hn:H p=none):SqT K (upd H p o) a xs:=by
 rcases h with (h | ⟨o',h⟩) | h
 ·exact .inl (.inl (by rw [qD (zH h hn)];exact h))
 ·exact .inl (.inr ⟨o',by rw [qD (zH h hn)];exact h⟩)
 ·exact .inr h
theorem Same.sqT {a:Addr} {xs:List V} (e:Same H H') (h:SqT K H a xs):SqT K H' a xs:=by
 rcases h with (h | ⟨o,h⟩) | h
 ·exact .inl (.inl (e _ _ h))
 ·exact .inl (.inr ⟨o,e _ _ h⟩)
 ·exact .inr h
theorem Same.lay {p:Addr} {o:HO} (hn:H p=none):Same H (L2.upd H p o):=fun b u q=>by rw [qD (zH q hn)];exact q
theorem Same.lay' {H0:Hp} {p:Addr} {o:HO} (e:Same H0 H) (hn:H p=none):Same H0 (L2.upd H p o):=e.trans (Same.lay hn)
mutual
theorem Den.off (m:Dm S H) (e:Off S H H'):∀ {v:V} {d:PyData},Den K H S v d->Den K H' S v d
 | _,_,.none=>.none
 | _,_,.bool b=>.bool b
 | _,_,.int i=>.int i
 | _,_,.str x=>.str x
 | _,_,.list h t=>.list (h.imp (fun q=>⟨q.1.off e q.2,q.2⟩) id) (DenL.off m e t)
 | _,_,.tuple h t=>.tuple (h.imp (fun q=>q.off e (m.tup q)) id) (DenL.off m e t)
 | _,_,.dict h k t=>.dict ⟨e _ _ h.2 h.1,h.2⟩ (DenL.off m e k) (DenL.off m e t)
theorem DenL.off (m:Dm S H) (e:Off S H H'):∀ {vs:List V} {ds:List PyData},DenL K H S vs ds->DenL K H' S vs ds
 | _,_,.nil=>.nil
 | _,_,.cons h t=>.cons (Den.off m e h) (DenL.off m e t)
end
mutual
theorem Den.same (e:Same H H'):∀ {v:V} {d:PyData},Den K H S v d->Den K H' S v d
 | _,_,.none=>.none
 | _,_,.bool b=>.bool b
 | _,_,.int i=>.int i
 | _,_,.str x=>.str x
 | _,_,.list h t=>.list (h.imp (fun q=>⟨q.1.off (S:=S) e.off q.2,q.2⟩) id) (DenL.same e t)
 | _,_,.tuple h t=>.tuple (e.sqT h) (DenL.same e t)
 | _,_,.dict h k t=>.dict ⟨e _ _ h.1,h.2⟩ (DenL.same e k) (DenL.same e t)
theorem DenL.same (e:Same H H'):∀ {vs:List V} {ds:List PyData},DenL K H S vs ds->DenL K H' S vs ds
 | _,_,.nil=>.nil
 | _,_,.cons h t=>.cons (Den.same e h) (DenL.same e t)
end
mutual
theorem Den.sub (e:∀ a,H a≠none->S' a->S a):∀ {v:V} {d:PyData},Den K H S v d->Den K H S' v d
 | _,_,.none=>.none
 | _,_,.bool b=>.bool b
 | _,_,.int i=>.int i
 | _,_,.str x=>.str x
 | _,_,.list h t=>.list (h.imp (fun q=>⟨q.1,fun z=>q.2 (e _ q.1.dom z)⟩) id) (DenL.sub e t)
 | _,_,.tuple h t=>.tuple h (DenL.sub e t)
 | _,_,.dict h k t=>.dict ⟨h.1,fun z=>h.2 (e _ (by rw [h.1];exact fun y=>nomatch y) z)⟩ (DenL.sub e k) (DenL.sub e t)
theorem DenL.sub (e:∀ a,H a≠none->S' a->S a):∀ {vs:List V} {ds:List PyData},DenL K H S vs ds->DenL K H S' vs ds
 | _,_,.nil=>.nil
 | _,_,.cons h t=>.cons (Den.sub e h) (DenL.sub e t)
end
mutual
theorem Den.flat:∀ {v:V} {d:PyData},L2.flat d=true->Den K H S v d->Den K H S' v d
 | _,_,_,.none=>.none
 | _,_,_,.bool b=>.bool b
 | _,_,_,.int i=>.int i
 | _,_,_,.str x=>.str x
 | _,_,f,.list h t=>by cases f
 | _,_,f,.tuple h t=>.tuple h (DenL.flat (by rw [L2.flat] at f;exact f) t)
 | _,_,f,.dict h k t=>by cases f
theorem DenL.flat:∀ {vs:List V} {ds:List PyData},Jo ds=true->DenL K H S vs ds->DenL K H S' vs ds
 | _,_,_,.nil=>.nil
 | _,_,f,.cons h t=>by
  rw [Jo,Bool.and_eq_true] at f
  exact .cons (Den.flat f.1 h) (DenL.flat f.2 t)
end
theorem DenL.length:∀ {vs:List V} {ds:List PyData},DenL K H S vs ds->vs.length=ds.length
 | _,_,.nil=>rfl
 | _,_,.cons _ t=>by rw [List.length_cons,List.length_cons,t.length]
theorem DenL.snoc:∀ {vs:List V} {ds:List PyData} {v:V} {d:PyData},DenL K H S vs ds->Den K H S v d->DenL K H S (vs ++ [v]) (ds ++ [d])
 | _,_,_,_,.nil,h=>.cons h .nil
 | _,_,_,_,.cons h t,q=>.cons h (t.snoc q)
theorem DenL.append:∀ {vs ws:List V} {ds es:List PyData},DenL K H S vs ds->DenL K H S ws es->DenL K H S (vs ++ ws) (ds ++ es)
 | _,_,_,_,.nil,h=>h
 | _,_,_,_,.cons h t,q=>.cons h (t.append q)
theorem DenL.get:∀ {vs:List V} {ds:List PyData} {i:Nat} {d:PyData},DenL K H S vs ds->ds[i]?=some d->∃ v,vs[i]?=some v/\Den K H S v d
 | _,_,_,_,.nil,e=>by simp at e
 | _,_,0,_,.cons h _,e=>by simp at e;subst e;exact ⟨_,rfl,h⟩
 | _,_,i + 1,d,.cons _ t,e=>by
  obtain ⟨v,h1,h2⟩:=DenL.get (i:=i) (d:=d) t (by simpa using e)
  exact ⟨v,by simpa using h1,h2⟩
theorem DenL.drop:∀ {vs:List V} {ds:List PyData} (n:Nat),DenL K H S vs ds->DenL K H S (vs.drop n) (ds.drop n)
 | _,_,0,h=>h
 | _,_,_ + 1,.nil=>.nil
 | _,_,n + 1,.cons _ t=>t.drop n
theorem DenL.take:∀ {vs:List V} {ds:List PyData} (n:Nat),DenL K H S vs ds->DenL K H S (vs.take n) (ds.take n)
 | _,_,0,_=>.nil
 | _,_,_ + 1,.nil=>.nil
 | _,_,n + 1,.cons h t=>.cons h (t.take n)
theorem DenL.ints:∀ ns:List Int,DenL K H S (ns.map V.int) (ns.map PyData.int)
 | []=>.nil
 | n :: ns=>.cons (.int n) (DenL.ints ns)
theorem Den.int_inv {v:V} {i:Int} (h:Den K H S v (.int i)):v=.int i:=by cases h;rfl
theorem Den.bool_inv {v:V} {b:Bool} (h:Den K H S v (.bool b)):v=.bl b:=by cases h;rfl
theorem Den.list_inv {v:V} {ds:List PyData} (h:Den K H S v (.list ds)):∃ a xs,v=.ref a/\SqLS K H S a xs/\DenL K H S xs ds:=by
 cases h with
 | list h t=>exact ⟨_,_,rfl,h,t⟩
theorem Den.tuple_inv {v:V} {ds:List PyData} (h:Den K H S v (.tuple ds)):∃ a xs,v=.ref a/\SqT K H a xs/\DenL K H S xs ds:=by
 cases h with
 | tuple h t=>exact ⟨_,_,rfl,h,t⟩
theorem DenL.inv1 {vs:List V} {d:PyData} (h:DenL K H S vs [d]):∃ v,vs=[v]/\Den K H S v d:=by
 cases h with
 | cons a t=>cases t;exact ⟨_,rfl,a⟩
theorem DenL.inv2 {vs:List V} {d e:PyData} (h:DenL K H S vs [d,e]):∃ v w,vs=[v,w]/\Den K H S v d/\Den K H S w e:=by
 cases h with
 | cons a t=>obtain ⟨w,rfl,b⟩:=t.inv1;exact ⟨_,w,rfl,a,b⟩
end
section
variable {X:Cx} {pins:List (Addr×Obj)} {σ:St} {H:Hp} {s:Shared} {S:Av}
mutual
theorem Den.reads (I:Inv X pins σ H s):∀ {v:V} {d:PyData} {u:Value},Den X.K H S v d->RelV v u->∃ as,Reads s.heap u d as
 | _,_,u,.none,r=>by cases (show u=Value.none from r);exact ⟨_,.none⟩
 | _,_,u,.bool b,r=>by cases (show u=Value.bool b from r);exact ⟨_,.bool b⟩
 | _,_,u,.int i,r=>by obtain ⟨t,e⟩:=(show ∃ t,u=Value.int i t from r);cases e;exact ⟨_,.int i t⟩
 | _,_,u,.str x,r=>by obtain ⟨t,e⟩:=(show ∃ t,u=Value.str x t from r);cases e;exact ⟨_,.str x t⟩
 | _,_,u,@Den.list _ _ _ a xs ds h t,r=>by
  cases (show u=Value.ref a from r)
  obtain ⟨its,rv,⟨o,n,e,c,_,d⟩,_⟩:=I.list h.sq
  obtain ⟨as,q⟩:=DenL.reads I t rv
  exact ⟨_,.list e c d (by simpa using q)⟩
 | _,_,u,@Den.tuple _ _ _ a xs ds h t,r=>by
  cases (show u=Value.ref a from r)
  obtain ⟨its,rv,⟨o,e,c,n,d⟩,_⟩:=I.tuple h
  obtain ⟨as,q⟩:=DenL.reads I t rv
  exact ⟨_,.tuple e c d (by simpa using q)⟩
 | _,_,u,@Den.dict _ _ _ a kvs ep ds h k t,r=>by
  cases (show u=Value.ref a from r)
  obtain ⟨o,es,h1,h2,h3,vk,vv⟩:=(qU.of (I.hok a _ h.1)).vals
  obtain ⟨as,q⟩:=DenL.reads I k vk
  obtain ⟨bs,q'⟩:=DenL.reads I t vv
  have hl:kvs.length=ds.length:=by
   have:=t.length
   rwa [List.length_map] at this
  refine ⟨_,.dict h1 h2.1 h3 (as:=as) (bs:=bs) ?_ ?_⟩
  ·rw [Yn hl];exact q
  ·rw [qfn hl];exact q'
theorem DenL.reads (I:Inv X pins σ H s):∀ {vs:List V} {ds:List PyData} {us:List Value},DenL X.K H S vs ds->Vals vs us->∃ as,ReadsAll s.heap us ds as
 | _,_,_,.nil,.nil=>⟨_,.nil⟩
 | _,_,_,.cons h t,.cons r rr=>by
  obtain ⟨as,q⟩:=Den.reads I h r
  obtain ⟨bs,q'⟩:=DenL.reads I t rr
  exact ⟨_,.cons q q'⟩
end
end
section
variable {X:Cx} {pins:List (Addr×Obj)} {σ:St} {H:Hp} {s:Shared}
noncomputable def rEqD (K:PySem.W.Frag):R2:=fun x y H Q=>∃ S d e,Den K H S x d/\Den K H S y e/\SeqAt.shaped d=true/\SeqAt.shaped e=true/\Q (.bl (PyData.eqv d e)) H
noncomputable def rNeD (K:PySem.W.Frag):R2:=fun x y H Q=>∃ S d e,Den K H S x d/\Den K H S y e/\SeqAt.shaped d=true/\SeqAt.shaped e=true/\Q (.bl (!PyData.eqv d e)) H
theorem qjO {k:Nat} (hr:Room k X.A):OpR X (compareOp .Eq) (rEqD X.K):=by
 intro pins s σ H x y v u Q I rx ry h
 obtain ⟨S,d,e,h1,h2,s1,s2,q⟩:=h
 obtain ⟨as,q1⟩:=h1.reads I rx
 obtain ⟨bs,q2⟩:=h2.reads I ry
 exact eq_dataH q1 q2 s1 s2 hr.units (ZJ I q rfl)
theorem qjQ {k:Nat} (hr:Room k X.A):OpR X (compareOp .NotEq) (rNeD X.K):=by
 intro pins s σ H x y v u Q I rx ry h
 obtain ⟨S,d,e,h1,h2,s1,s2,q⟩:=h
 obtain ⟨as,q1⟩:=h1.reads I rx
 obtain ⟨bs,q2⟩:=h2.reads I ry
 exact ne_dataH q1 q2 s1 s2 hr.units (ZJ I q rfl)
theorem qhO:OpR X (binaryOp .Mult) (rI IntMulOk fun i j=>.int (i * j)):=opI fun _ _ _ _ _ _ _ hc q=>mul_int q hc
inductive TyD (K:PySem.W.Frag) (H:Hp):V->String->Prop
 | non:TyD K H .non "NoneType"
 | bl (b:Bool):TyD K H (.bl b) "bool"
 | int (i:Int):TyD K H (.int i) "int"
 | str (x:Str):TyD K H (.str x) "str"
 | lst {a:Addr} {xs:List V} (h:SqL K H a xs):TyD K H (.ref a) "list"
 | tup {a:Addr} {xs:List V} (h:SqT K H a xs):TyD K H (.ref a) "tuple"
 | dct {a:Addr} {kvs:List (KX×Addr×V)} {ep:Nat} (h:H a=some (DctO a kvs ep)):TyD K H (.ref a) "dict"
noncomputable def rIsi (K:PySem.W.Frag):List V->Hp->VK->Prop:=fun vs H Q=>∃ x T t b,vs=[x,.ty T]/\TyD K H x t/\PySem.W.kitOne K (.type t) (.type T)=some b/\Q (.bl b) H
theorem qfb:J2 X (.builtin "isinstance") (rIsi X.K):=by
 intro pins s σ H xs us Q I r h
 obtain ⟨x,T,t,b,rfl,ty,e,q⟩:=h
 obtain ⟨u,c,rfl,ru,rc⟩:=r.two
 cases (show c=Value.type T from rc)
 have fin:∀ tk,EP X pins σ Q (.bool b) { s with toks:=tk }:=fun tk=>⟨.bl b,H,I.tok tk,rfl,q⟩
 cases ty with
 | non=>cases (show u=Value.none from ru);exact PySem.W.kia_one PySem.W.kitx_none I.kIn True.intro e (fun z=>nomatch z) fin
 | bl y=>cases (show u=Value.bool y from ru);exact PySem.W.kia_one PySem.W.kitx_bool I.kIn True.intro e (fun z=>nomatch z) fin
 | int i=>obtain ⟨t,q⟩:=(show ∃ t,u=Value.int i t from ru);cases q;exact PySem.W.kia_one PySem.W.kitx_int I.kIn True.intro e (fun z=>nomatch z) fin
 | str y=>obtain ⟨t,q⟩:=(show ∃ t,u=Value.str y t from ru);cases q;exact PySem.W.kia_one PySem.W.kitx_str I.kIn True.intro e (fun z=>nomatch z) fin
 | @lst a xs ea =>
  cases (show u=Value.ref a from ru)
  obtain ⟨_,_,⟨o,n,h1,h2,_⟩,_⟩:=I.list ea
  exact PySem.W.kia_one PySem.W.kitx_list I.kIn ⟨o,h1,h2⟩ e (fun z=>nomatch z) fin
 | @tup a xs ea =>
  cases (show u=Value.ref a from ru)
  obtain ⟨_,_,⟨o,h1,h2,_⟩,_⟩:=I.tuple ea
  exact PySem.W.kia_one PySem.W.kitx_tuple I.kIn ⟨o,h1,h2⟩ e (fun z=>nomatch z) fin
 | @dct a kvs ep ea =>
  cases (show u=Value.ref a from ru)
  obtain ⟨o,_,h1,h2,_⟩:=(qU.of (I.hok a _ ea)).vals
  exact PySem.W.kia_one PySem.W.kitx_dict I.kIn ⟨o,h1,h2.1⟩ e (fun z=>nomatch z) fin
end
noncomputable abbrev Rho:=List (Option PyData)
noncomputable def DenS (K:PySem.W.Frag) (H:Hp) (S:Av) (M:List Nat) (σ:St) (ρ:Rho):Prop:=Dm S H/\σ.length=ρ.length/\∀ (i:Nat) (d:PyData),i∉M->ρ[i]?=some (some d)->∃ v,σ[i]?=some (some v)/\Den K H S v d
section
variable {K:PySem.W.Frag} {H H':Hp} {S:Av} {M:List Nat} {σ:St} {ρ:Rho} {v:V} {d:PyData}
theorem DenS.same (e:Same H H') (h:DenS K H S M σ ρ):DenS K H' S M σ ρ:=⟨h.1.same e,h.2.1,fun i d n q=>let ⟨v,a,b⟩:=h.2.2 i d n q;⟨v,a,b.same e⟩⟩
theorem DenS.set (h:DenS K H S M σ ρ) (q:Den K H S v d) (i:Nat):DenS K H S M (σ.set i (some v)) (ρ.set i (some d)):=by
 refine ⟨h.1,by rw [List.length_set,List.length_set];exact h.2.1,fun j e n he=>?_⟩
 by_cases hj:i=j
 ·subst hj
  by_cases hi:i < ρ.length
  ·rw [List.getElem?_set_self hi] at he
   cases he
   exact ⟨v,List.getElem?_set_self (by rw [h.2.1];exact hi),q⟩
  ·rw [List.set_eq_of_length_le (by omega)] at he
   exact absurd (List.getElem?_eq_some_iff.mp he).1 hi
 ·rw [List.getElem?_set_ne hj] at he
  obtain ⟨w,a,b⟩:=h.2.2 j e n he
  exact ⟨w,by rw [List.getElem?_set_ne hj];exact a,b⟩
theorem DenS.start {vs:List V} {ds:List PyData} (m:Dm S H) (h:DenL K H S vs ds) (N:List Str):DenS K H S [] (start N vs) (ds.map some ++ List.replicate (N.length - ds.length) none):=by
 have hl:=h.length
 refine ⟨m,?_,fun j e _ he=>?_⟩
 ·unfold L2.start
  rw [List.length_append,List.length_append,List.length_map,List.length_map,List.length_replicate,List.length_replicate,hl]
 ·by_cases hj:j < ds.length
  ·rw [List.getElem?_append_left (by simpa using hj),List.getElem?_map] at he
   cases e1:ds[j]? with
   | none=>rw [e1] at he;cases he
   | some d =>
    rw [e1] at he
    cases he
    obtain ⟨v,a,b⟩:=h.get e1
    refine ⟨v,?_,b⟩
    unfold L2.start
    rw [List.getElem?_append_left (by rw [List.length_map];omega),List.getElem?_map,a]
    rfl
  ·rw [List.getElem?_append_right (by simpa using hj),List.getElem?_replicate] at he
   split at he<;>cases he
end
noncomputable def tD (K:PySem.W.Frag) (M:List Nat) (f:Rho->Option PyData):TE:=fun σ H Q=>∃ S ρ d,DenS K H S M σ ρ/\f ρ=some d/\∀ v H',Same H H'->Den K H' S v d->Q v H'
noncomputable def tDA (K:PySem.W.Frag) (M:List Nat) (f:Rho->Option (List PyData)):TA:=fun σ H Q=>∃ S ρ ds,DenS K H S M σ ρ/\f ρ=some ds/\∀ vs H',Same H H'->DenL K H' S vs ds->Q vs H'
noncomputable def tDT (K:PySem.W.Frag) (M:List Nat) (f:Rho->Option Bool):TT:=fun σ H Q=>∃ S ρ b,DenS K H S M σ ρ/\f ρ=some b/\∀ H',Same H H'->Q b H'
inductive Out where
 | nx (ρ:Rho) | rt (d:PyData) | bk (ρ:Rho) | ct (ρ:Rho)
noncomputable def PD (X:Cx) (M:List Nat) (e:Expr) (f:Rho->Option PyData):Prop:=PE X e (tD X.K M f)
noncomputable def PDA (X:Cx) (M:List Nat) (es:List Expr) (f:Rho->Option (List PyData)):Prop:=PA X es (tDA X.K M f)
noncomputable def PDT (X:Cx) (M:List Nat) (e:Expr) (f:Rho->Option Bool):Prop:=PT X e (tDT X.K M f)
theorem PE.weak {X:Cx} {e:Expr} {t t':TE} (h:PE X e t) (w:∀ σ H Q,t' σ H Q->t σ H Q):PE X e t':=fun pins s σ H Q I q=>h pins s σ H Q I (w σ H Q q)
theorem PT.weak {X:Cx} {e:Expr} {t t':TT} (h:PT X e t) (w:∀ σ H Q,t' σ H Q->t σ H Q):PT X e t':=fun pins s σ H Q I q=>h pins s σ H Q I (w σ H Q q)
theorem PW.weak {X:Cx} {e:Expr} {t t':TT} (h:PW X e t) (w:∀ σ H Q,t' σ H Q->t σ H Q):PW X e t':=fun wh pins s σ H Q I q=>h wh pins s σ H Q I (w σ H Q q)
theorem PA.weak {X:Cx} {e:List Expr} {t t':TA} (h:PA X e t) (w:∀ σ H Q,t' σ H Q->t σ H Q):PA X e t':=fun pos pins s σ H Q I q=>h pos pins s σ H Q I (w σ H Q q)
theorem PS.weak {X:Cx} {e:Stmt} {t t':TS} (h:PS X e t) (w:∀ D σ H,t' D σ H->t D σ H):PS X e t':=fun pins s σ H D I q=>h pins s σ H D I (w D σ H q)
theorem PSs.weak {X:Cx} {e:List Stmt} {t t':TS} (h:PSs X e t) (w:∀ D σ H,t' D σ H->t D σ H):PSs X e t':=fun pins s σ H D I q=>h pins s σ H D I (w D σ H q)
noncomputable def ob {α β:Type} (a:Option α) (f:α->Option β):Option β:=match a with | some x=>f x | none=>none
theorem qi {α β:Type} {a:Option α} {f:α->Option β} {y:β} (h:ob a f=some y):∃ x,a=some x/\f x=some y:=by
 cases a with
 | none=>cases h
 | some x=>exact ⟨x,rfl,h⟩
noncomputable def visB (sc:Scope) (x:Str):Bool:=decide (sc.names.lookup x=some .local) || decide (sc.names.lookup x=some .cell) || decide (sc.names.lookup x=some .free)
noncomputable def locB (sc:Scope) (x:Str):Bool:=decide (sc.names.lookup x=some .local) || decide (sc.names.lookup x=some .cell)
noncomputable def glB (sc:Scope) (x:Str):Bool:=decide (sc.names.lookup x=some .globalImplicit)
theorem qg {sc:Scope} {x:Str} (h:visB sc x=true):Vis sc x:=by
 unfold visB at h
 simp only [Bool.or_eq_true,decide_eq_true_eq] at h
 rcases h with (h | h) | h
 ·exact .inl h
 ·exact .inr (.inl h)
 ·exact .inr (.inr h)
theorem qx {sc:Scope} {x:Str} (h:locB sc x=true):Loc sc x:=by
 unfold locB at h
 simp only [Bool.or_eq_true,decide_eq_true_eq] at h
 exact h
theorem qu {X:Cx} {x:Str} (sc:Scope) (hs:X.env.scope=sc) (h:glB sc x=true):Gl X x:=by
 subst hs
 have h':X.env.scope.names.lookup x=some .globalImplicit:=of_decide_eq_true h
 exact h'
theorem Zd {env:Env}:∀ {names:List (Str×NameKind)} {x:Str} {k:NameKind},names.lookup x=some k->
  (names.map fun (n,k)=>if (k == NameKind.free && env.scope.kind == .function && env.kindOf n == some .cell) then (n,NameKind.cell) else (n,k)).lookup x=some k\/
  (k=.free/\(names.map fun (n,k)=>if (k == NameKind.free && env.scope.kind == .function && env.kindOf n == some .cell) then (n,NameKind.cell) else (n,k)).lookup x=some .cell)
 | [],_,_,h=>by simp at h
 | (n,k') :: r,x,k,h=>by
  have ih:=@Zd env r x k
  show List.lookup x ((if (k' == NameKind.free && env.scope.kind == .function && env.kindOf n == some .cell)=true then (n,NameKind.cell) else (n,k')) :: _)=_\/(_/\List.lookup x ((if (k' == NameKind.free && env.scope.kind == .function && env.kindOf n == some .cell)=true then (n,NameKind.cell) else (n,k')) :: _)=_)
  cases hx:x == n with
  | true =>
   simp only [List.lookup_cons,hx] at h
   cases h
   by_cases hc:(k' == NameKind.free && env.scope.kind == .function && env.kindOf n == some .cell)=true
   ·rw [if_pos hc]
    rw [Bool.and_eq_true,Bool.and_eq_true] at hc
    exact .inr ⟨by simpa using hc.1.1,by simp [List.lookup_cons,hx]⟩
   ·rw [if_neg hc]
    exact .inl (by simp [List.lookup_cons,hx])
  | false =>
   simp only [List.lookup_cons,hx] at h
   by_cases hc:(k' == NameKind.free && env.scope.kind == .function && env.kindOf n == some .cell)=true
   ·rw [if_pos hc]
    simp only [List.lookup_cons,hx]
    exact ih h
   ·rw [if_neg hc]
    simp only [List.lookup_cons,hx]
    exact ih h
section
variable {X:Cx} {x:Str} {N':List Str} {sc:Scope} {cl:List (Str×Addr)} {C:Addr} {fp:List Addr} {pins:List (Addr×Obj)} {s:Shared} {H:Hp}
theorem qy (h:visB sc x=true):Vis (qJ X N' sc cl C fp pins s H).env.scope x:=by
 rcases qg h with h | h | h
 ·rcases Zd (env:=X.env) h with q | q
  ·exact .inl q
  ·cases q.1
 ·rcases Zd (env:=X.env) h with q | q
  ·exact .inr (.inl q)
  ·cases q.1
 ·rcases Zd (env:=X.env) h with q | q
  ·exact .inr (.inr q)
  ·exact .inr (.inl q.2)
theorem yG (h:glB sc x=true):Gl (qJ X N' sc cl C fp pins s H) x:=by
 rcases Zd (env:=X.env) (of_decide_eq_true h) with q | q
 ·exact q
 ·cases q.1
end
noncomputable def vr (i:Nat):Rho->Option PyData:=fun ρ=>(ρ[i]?).join
noncomputable def kd (d:PyData):Rho->Option PyData:=fun _=>some d
noncomputable def ev1 (fa:Rho->Option PyData) (g:PyData->Option PyData):Rho->Option PyData:=fun ρ=>ob (fa ρ) g
noncomputable def aN:Rho->Option (List PyData):=fun _=>some []
noncomputable def aC (fa:Rho->Option PyData) (fs:Rho->Option (List PyData)):Rho->Option (List PyData):=fun ρ=>ob (fa ρ) fun x=>ob (fs ρ) fun xs=>some (x :: xs)
noncomputable def evA (fs:Rho->Option (List PyData)) (h:List PyData->Option PyData):Rho->Option PyData:=fun ρ=>ob (fs ρ) h
noncomputable def evC (n:Nat) (fs:Rho->Option (List PyData)) (h:List PyData->Option PyData):Rho->Option PyData:=fun ρ=>ob (fs ρ) fun ds=>if ds.length=n then h ds else none
noncomputable def evC0 (h:List PyData->Option PyData):Rho->Option PyData:=fun _=>h []
section
variable {X:Cx} {M:List Nat} {a b c:Expr} {es:List Expr} {f g fa fb:Rho->Option PyData} {pos:Pos}
theorem qe (i:Nat) {x:Str} (hv:Vis X.env.scope x) (hM:i∉M) (hN:X.N[i]?=some x:=by rfl) (hd:(x == ("__debug__" : Str))=false:=by decide +kernel)
  (hcd:(x == ("__classdict__" : Str))=false:=by decide +kernel):PD X M (.Name x pos) (vr i) :=
 (qgh hN hv hd hcd).weak fun σ H Q ⟨S,ρ,d,hs,e,q⟩=>by
  have e:(ρ[i]?).join=some d:=e
  have e':ρ[i]?=some (some d):=by
   cases h:ρ[i]? with
   | none=>rw [h] at e;cases e
   | some o=>rw [h] at e;exact congrArg some e
  obtain ⟨v,h1,h2⟩:=hs.2.2 i d hM e'
  exact ⟨v,h1,q v H (Same.refl H) h2⟩
theorem ql {i j p}:PD X M (.Constant (.int i) j p) (kd (.int i)):=qj3.weak fun σ H Q ⟨S,_,d,_,e,q⟩=>by cases e;exact q _ H (Same.refl H) (.int i)
theorem qbi {i j p}:PD X M (.Constant (.bool i) j p) (kd (.bool i)):=pe_bl.weak fun σ H Q ⟨S,_,d,_,e,q⟩=>by cases e;exact q _ H (Same.refl H) (.bool i)
theorem qf5 {j p}:PD X M (.Constant .none j p) (kd .none):=qj4.weak fun σ H Q ⟨S,_,d,_,e,q⟩=>by cases e;exact q _ H (Same.refl H) .none
theorem qhR {x:Str} {v:V} {u:Value} {d:PyData} (hg:Gl X x) (hm:X.mg x=some u) (r:RelV v u) (hd:∀ H S,Den X.K H S v d) (hdb:(x == ("__debug__" : Str))=false:=by decide +kernel):PD X M (.Name x pos) (kd d) :=
 (qhY hg hm r hdb).weak fun σ H Q ⟨S,_,d',_,e,q⟩=>by cases e;exact q _ H (Same.refl H) (hd H S)
noncomputable def rD2 (K:PySem.W.Frag) (g:PyData->PyData->Option PyData):R2:=fun x y H Q=>∃ S dx dy d,Dm S H/\Den K H S x dx/\Den K H S y dy/\g dx dy=some d/\∀ v H',Same H H'->Den K H' S v d->Q v H'
noncomputable def OpD (X:Cx) (f:Value->Value->Sem Value) (g:PyData->PyData->Option PyData):Prop:=OpR X f (rD2 X.K g)
noncomputable def UnD (X:Cx) (f:Value->Sem Value) (g:PyData->Option PyData):Prop:=UnR X f (fun x H Q=>∃ S dx d,Dm S H/\Den X.K H S x dx/\g dx=some d/\∀ v H',Same H H'->Den X.K H' S v d->Q v H')
noncomputable def CallD (X:Cx) (f:Value) (g:List PyData->Option PyData):Prop:=J2 X f (fun vs H Q=>∃ S ds d,Dm S H/\DenL X.K H S vs ds/\g ds=some d/\∀ v H',Same H H'->Den X.K H' S v d->Q v H')
noncomputable def ev2 (fa fb:Rho->Option PyData) (g:PyData->PyData->Option PyData) (ρ:Rho):Option PyData:=ob (fa ρ) fun x=>ob (fb ρ) fun y=>g x y
theorem tD2 {K:PySem.W.Frag} {g:PyData->PyData->Option PyData}:∀ σ H Q,tD K M (ev2 fa fb g) σ H Q->tOp (rD2 K g) (tD K M fa) (tD K M fb) σ H Q:=by
 intro σ H Q ⟨S,ρ,d,hs,e,q⟩
 obtain ⟨x,e1,e⟩:=qi e
 obtain ⟨y,e2,e⟩:=qi e
 exact ⟨S,ρ,x,hs,e1,fun v H1 g1 d1=>⟨S,ρ,y,hs.same g1,e2,fun w H2 g2 d2=>⟨S,x,y,d,hs.1.same (g1.trans g2),d1.same g2,d2,e,fun z H3 g3 d3=>q z H3 (g1.trans (g2.trans g3)) d3⟩⟩⟩
theorem qG {op:Operator} {g:PyData->PyData->Option PyData} (ho:OpD X (binaryOp op) g) (ha:PD X M a fa) (hb:PD X M b fb):PD X M (.BinOp a op b pos) (ev2 fa fb g):=(pe_op ho ha hb).weak tD2
theorem qjX {op:CmpOp} {g:PyData->PyData->Option PyData} (ho:OpD X (compareOp op) g) (ha:PD X M a fa) (hb:PD X M b fb) (hm:behindInMarks op b=false):PD X M (.Compare a [op] [b] pos) (ev2 fa fb g):=(qhW ho ha hb hm).weak tD2
theorem Jv {op:UnaryOp} {g:PyData->Option PyData} (ho:UnD X (unaryOp op) g) (ha:PD X M a fa):PD X M (.UnaryOp op a pos) (ev1 fa g) :=
 (pe_un ho ha).weak fun σ H Q ⟨S,ρ,d,hs,e,q⟩=>by
  obtain ⟨x,e1,e⟩:=qi e
  exact ⟨S,ρ,x,hs,e1,fun v H1 g1 d1=>⟨S,x,d,hs.1.same g1,d1,e,fun z H3 g3 d3=>q z H3 (g1.trans g3) d3⟩⟩
noncomputable def ixD:PyData->PyData->Option PyData
 | .tuple ds,.int i=>atI ds i
 | .list ds,.int i=>atI ds i
 | _,_=>none
theorem DenL.atI {K:PySem.W.Frag} {H:Hp} {S:Av} {vs:List V} {ds:List PyData} {i:Int} {d:PyData} (h:DenL K H S vs ds) (e:atI ds i=some d):∃ v,L2.atI vs i=some v/\Den K H S v d:=by
 unfold L2.atI at e ⊢
 rw [h.length]
 cases q:ixN ds.length i with
 | none=>rw [q] at e;cases e
 | some j=>rw [q] at e;exact h.get e
theorem qN (ha:PD X M a fa) (hb:PD X M b fb) (hs:yw b:=by intro _ _;rfl):PD X M (.Subscript a b pos) (ev2 fa fb ixD) :=
 (qge (r:=fun x y H Q=>rIxL X.K x y H Q\/rIxT X.K x y H Q) (qc6.or qfG) ha hb hs).weak fun σ H Q ⟨S,ρ,d,hs,e,q⟩=>by
  obtain ⟨x,e1,e⟩:=qi e
  obtain ⟨y,e2,e⟩:=qi e
  refine ⟨S,ρ,x,hs,e1,fun v H1 g1 d1=>⟨S,ρ,y,hs.same g1,e2,fun w H2 g2 d2=>?_⟩⟩
  have d1':=d1.same g2
  cases d1' with
  | list h t =>
   cases d2 with
   | int i=>obtain ⟨z,z1,z2⟩:=t.atI e;exact .inl ⟨_,_,_,_,rfl,rfl,h.sq,z1,q z H2 (g1.trans g2) z2⟩
   | _=>cases e
  | tuple h t =>
   cases d2 with
   | int i=>obtain ⟨z,z1,z2⟩:=t.atI e;exact .inr ⟨_,_,_,_,rfl,rfl,h,z1,q z H2 (g1.trans g2) z2⟩
   | _=>cases e
  | _=>cases e
theorem qj:PDA X M [] aN:=qf4.weak fun σ H Q ⟨S,_,d,_,e,q⟩=>by cases e;exact q [] H (Same.refl H) .nil
theorem qd {fs:Rho->Option (List PyData)} (ha:PD X M a fa) (hr:PDA X M es fs) (hs:starEach (a :: es) X.env=(false,eval a X.env) :: starEach es X.env:=by rfl):PDA X M (a :: es) (aC fa fs) :=
 (qaj ha hr hs).weak fun σ H Q ⟨S,ρ,d,hs,e,q⟩=>by
  obtain ⟨x,e1,e⟩:=qi e
  obtain ⟨xs,e2,e⟩:=qi e
  cases e
  exact ⟨S,ρ,x,hs,e1,fun v H1 g1 d1=>⟨S,ρ,xs,hs.same g1,e2,fun vs H2 g2 d2=>q _ H2 (g1.trans g2) (.cons (d1.same g2) d2)⟩⟩
noncomputable def tupD (ds:List PyData):Option PyData:=if ds.length <= 1000 then some (.tuple ds) else none
noncomputable def lstD (ds:List PyData):Option PyData:=if ds.length <= 1000 then some (.list ds) else none
theorem qen {ds:List PyData} {d:PyData} (h:tupD ds=some d):ds.length <= 1000/\d=.tuple ds:=by
 unfold tupD at h
 split at h
 ·rename_i q;cases h;exact ⟨q,rfl⟩
 ·cases h
theorem w6 {ds:List PyData} {d:PyData} (h:lstD ds=some d):ds.length <= 1000/\d=.list ds:=by
 unfold lstD at h
 split at h
 ·rename_i q;cases h;exact ⟨q,rfl⟩
 ·cases h
theorem zB {fs:Rho->Option (List PyData)} {x1} (h:PDA X M es fs):PD X M (.Tuple es x1 pos) (evA fs tupD) :=
 (qj7 h).weak fun σ H Q ⟨S,ρ,d,hs,e,q⟩=>by
  obtain ⟨xs,e1,e⟩:=qi e
  obtain ⟨hz,rfl⟩:=qen e
  refine ⟨S,ρ,xs,hs,e1,fun vs H1 g1 d1=>⟨Nat.le_of_lt (qX (by rw [d1.length];exact hz)),fun p hp=>?_⟩⟩
  exact q _ _ (g1.lay' hp) (.tuple (SqT.of qK) (d1.same (Same.lay hp)))
theorem qjY {fs:Rho->Option (List PyData)} (h:PDA X M es fs):PD X M (.List es pos) (evA fs lstD) :=
 (qgf h).weak fun σ H Q ⟨S,ρ,d,hs,e,q⟩=>by
  obtain ⟨xs,e1,e⟩:=qi e
  obtain ⟨hz,rfl⟩:=w6 e
  refine ⟨S,ρ,xs,hs,e1,fun vs H1 g1 d1=>⟨Nat.le_of_lt (qX (by rw [d1.length];exact hz)),fun p hp=>?_⟩⟩
  exact q _ _ (g1.lay' hp) (.list (SqLS.new qK ((hs.1.same g1).free hp)) (d1.same (Same.lay hp)))
noncomputable def spF (K:PySem.W.Frag) (n:Nat) (f:List PyData->Option PyData):Sp:=fun vs H Q _=>∃ S ds d,Dm S H/\DenL K H S vs ds/\ds.length=n/\f ds=some d/\∀ v H',Same H H'->Den K H' S v d->Q v H'
theorem qhQ {CX:CXT} {k n:Nat} {fn:Addr} {fd:FuncData} {ps:List Str} {h:List PyData->Option PyData} {E:XK} {x:Str} {p:Pos} {fs:Rho->Option (List PyData)} (F:FnOk X.prog X.w X.K X.mg X.base CX k fn fd ps (spF X.K n h)) (hr:Room k X.A) (hg:Gl X x) (hm:X.mg x=some (.ref fn)) (hk:PySem.W.keepIn X.K (.ref fn)=true)
  (hb:Binds X.K fd ps []) (hx:WK CX X E) (ha:PDA X M (a :: es) fs) (hl:(a :: es).length=n) (hdb:(x == ("__debug__" : Str))=false:=by decide +kernel) (he:starEach (a :: es) X.env=(false,eval a X.env) :: starEach es X.env:=by rfl) (hpl:(backTo pos (starEach es X.env)).any (·.1)=false:=by rfl) :
  PD X M (.Call (.Name x p) (a :: es) [] pos) (evC n fs h) :=
 (qdj F hr hg hm hk hb .nil hx ha hdb he hpl).weak fun σ H Q ⟨S,ρ,d,hs,e,q⟩=>by
  obtain ⟨ds,e1,e⟩:=qi e
  have e:(if ds.length=n then h ds else none)=some d:=e
  split at e
  ·rename_i hn
   exact ⟨S,ρ,ds,hs,e1,fun vs H1 g1 d1=>⟨S,ds,d,hs.1.same g1,by rw [List.append_nil];exact d1,hn,e,fun v H' g2 d2=>q v H' (g1.trans g2) d2⟩⟩
  ·cases e
theorem Q6 {id:String} {x:Str} {p:Pos} {h:List PyData->Option PyData} {fs:Rho->Option (List PyData)} (hc:CallD X (.builtin id) h) (hg:Gl X x) (hm:X.mg x=none) (hv:bootBuiltins x=some (.builtin id)) (ha:PDA X M (a :: es) fs) (hn:x ≠ "__name__" := by decide +kernel) (hdb:(x == ("__debug__" : Str))=false:=by decide +kernel)
  (he:starEach (a :: es) X.env=(false,eval a X.env) :: starEach es X.env:=by rfl) (hpl:(backTo pos (starEach es X.env)).any (·.1)=false:=by rfl):PD X M (.Call (.Name x p) (a :: es) [] pos) (evA fs h) :=
 (YJ hc hg hm hv ha hn hdb he hpl).weak fun σ H Q ⟨S,ρ,d,hs,e,q⟩=>by
  obtain ⟨ds,e1,e⟩:=qi e
  exact ⟨S,ρ,ds,hs,e1,fun vs H1 g1 d1=>⟨S,ds,d,hs.1.same g1,d1,e,fun v H' g2 d2=>q v H' (g1.trans g2) d2⟩⟩
theorem zM {T:String} {x:Str} {p:Pos} {h:List PyData->Option PyData} {fs:Rho->Option (List PyData)} (hc:CallD X (.type T) h) (hg:Gl X x) (hm:X.mg x=none) (hv:bootBuiltins x=some (.type T)) (ha:PDA X M (a :: es) fs) (hn:x ≠ "__name__" := by decide +kernel) (hdb:(x == ("__debug__" : Str))=false:=by decide +kernel)
  (he:starEach (a :: es) X.env=(false,eval a X.env) :: starEach es X.env:=by rfl) (hpl:(backTo pos (starEach es X.env)).any (·.1)=false:=by rfl):PD X M (.Call (.Name x p) (a :: es) [] pos) (evA fs h) :=
 (Wl hc hg hm hv ha hn hdb he hpl).weak fun σ H Q ⟨S,ρ,d,hs,e,q⟩=>by
  obtain ⟨ds,e1,e⟩:=qi e
  exact ⟨S,ρ,ds,hs,e1,fun vs H1 g1 d1=>⟨S,ds,d,hs.1.same g1,d1,e,fun v H' g2 d2=>q v H' (g1.trans g2) d2⟩⟩
noncomputable def tyS:PyData->String
 | .none => "NoneType" | .bool _ => "bool" | .int _ => "int" | .str _ => "str" | .list _ => "list" | .tuple _ => "tuple" | .dict _ => "dict"
noncomputable def isiT (T:String):PyData->Bool
 | .none=>T == "NoneType" || T == "object"
 | .bool _=>T == "bool" || T == "int" || T == "object"
 | .int _=>T == "int" || T == "object"
 | .str _=>T == "str" || T == "object"
 | .list _=>T == "list" || T == "object"
 | .tuple _=>T == "tuple" || T == "object"
 | .dict _=>T == "dict" || T == "object"
noncomputable def isiD (T:String) (d:PyData):Option PyData:=some (.bool (isiT T d))
noncomputable def qaC (K:PySem.W.Frag) (T:String):Prop:=∀ d:PyData,PySem.W.kitOne K (.type (tyS d)) (.type T)=some (isiT T d)
theorem qhz (K:PySem.W.Frag):qaC K "int" := fun d=>by cases d<;>rfl
theorem qfL (K:PySem.W.Frag):qaC K "bool" := fun d=>by cases d<;>rfl
theorem kit_tuple (K:PySem.W.Frag):qaC K "tuple" := fun d=>by cases d<;>rfl
theorem qfM (K:PySem.W.Frag):qaC K "list" := fun d=>by cases d<;>rfl
theorem qak {T:String} {p p2:Pos} (kit:qaC X.K T) (hg:Gl X "isinstance") (hm:X.mg "isinstance" = none) (hgT:Gl X (Str.ofString T)) (hmT:X.mg (Str.ofString T)=none) (hvT:bootBuiltins (Str.ofString T)=some (.type T)) (hv:bootBuiltins "isinstance" = some (.builtin "isinstance")) (ha:PD X M a fa) (hnT:Str.ofString T ≠ "__name__" := by decide +kernel) (hdT:(Str.ofString T == ("__debug__" : Str))=false:=by decide +kernel)
  (he:starEach [a,.Name (Str.ofString T) p2] X.env=(false,eval a X.env) :: starEach [.Name (Str.ofString T) p2] X.env:=by rfl) (hpl:(backTo pos (starEach [.Name (Str.ofString T) p2] X.env)).any (·.1)=false:=by rfl)
  (hs2:starEach [.Name (Str.ofString T) p2] X.env=(false,eval (.Name (Str.ofString T) p2) X.env) :: starEach [] X.env:=by rfl) :
  PD X M (.Call (.Name "isinstance" p) [a,.Name (Str.ofString T) p2] [] pos) (ev1 fa (isiD T)) :=
 (YJ qfb hg hm hv (qaj ha (qaj (qhV (v:=.ty T) hgT hmT hvT rfl hnT hdT) qf4 hs2) he) (by decide +kernel) (by decide +kernel) he hpl).weak fun σ H Q ⟨S,ρ,d,hs,e,q⟩=>by
  obtain ⟨x,e1,e⟩:=qi e
  cases e
  refine ⟨S,ρ,x,hs,e1,fun v H1 g1 d1=>?_⟩
  have fin:=q (.bl (isiT T x)) H1 g1 (.bool _)
  have k:=kit x
  show rIsi X.K [v,.ty T] H1 Q
  cases d1 with
  | none=>exact ⟨_,_,_,_,rfl,.non,k,fin⟩
  | bool y=>exact ⟨_,_,_,_,rfl,.bl y,k,fin⟩
  | int y=>exact ⟨_,_,_,_,rfl,.int y,k,fin⟩
  | str y=>exact ⟨_,_,_,_,rfl,.str y,k,fin⟩
  | list h t=>exact ⟨_,_,_,_,rfl,.lst h.sq,k,fin⟩
  | tuple h t=>exact ⟨_,_,_,_,rfl,.tup h,k,fin⟩
  | dict h k2 t=>exact ⟨_,_,_,_,rfl,.dct h.1,k,fin⟩
theorem jV {f:Value->Value->Sem Value} {g:PyData->PyData->Option PyData} {r:R2} (h:OpR X f r) (w:∀ x y dx dy d H S (Q:VK),Dm S H->Den X.K H S x dx->Den X.K H S y dy->g dx dy=some d->(∀ v H',Same H H'->Den X.K H' S v d->Q v H')->r x y H Q):OpD X f g :=
 fun pins s σ H x y v u Q I rx ry ⟨S,dx,dy,d,m,h1,h2,e,q⟩=>h pins s σ H x y v u Q I rx ry (w x y dx dy d H S Q m h1 h2 e q)
noncomputable def iiD (h:Int->Int->Option PyData):PyData->PyData->Option PyData
 | .int i,.int j=>h i j
 | _,_=>none
theorem Yu {h:Int->Int->Option PyData} {x y d:PyData} (e:iiD h x y=some d):∃ i j,x=.int i/\y=.int j/\h i j=some d:=by
 cases x<;>cases y<;>first | exact ⟨_,_,rfl,rfl,e⟩ | cases e
theorem qhJ {f:Value->Value->Sem Value} {gi:Int->Int->Int} (h:OpR X f (rI0 fun i j=>.int (gi i j))):OpD X f (iiD fun i j=>some (.int (gi i j))) :=
 jV h fun x y dx dy d H S Q m h1 h2 e q=>by
  obtain ⟨i,j,rfl,rfl,e⟩:=Yu e
  cases h1;cases h2;cases e
  exact ⟨i,j,rfl,rfl,q _ H (Same.refl H) (.int _)⟩
theorem Jt {f:Value->Value->Sem Value} {C:Int->Int->Prop} [∀ i j,Decidable (C i j)] {gi:Int->Int->Int} (h:OpR X f (rI C fun i j=>.int (gi i j))):OpD X f (iiD fun i j=>if C i j then some (.int (gi i j)) else none) :=
 jV h fun x y dx dy d H S Q m h1 h2 e q=>by
  obtain ⟨i,j,rfl,rfl,e'⟩:=Yu e
  split at e'
  ·rename_i c
   cases h1;cases h2;cases e'
   exact ⟨i,j,rfl,rfl,c,q _ H (Same.refl H) (.int _)⟩
  ·cases e'
theorem qf1 {f:Value->Value->Sem Value} {gi:Int->Int->Bool} (h:OpR X f (rI0 fun i j=>.bl (gi i j))):OpD X f (iiD fun i j=>some (.bool (gi i j))) :=
 jV h fun x y dx dy d H S Q m h1 h2 e q=>by
  obtain ⟨i,j,rfl,rfl,e⟩:=Yu e
  cases h1;cases h2;cases e
  exact ⟨i,j,rfl,rfl,q _ H (Same.refl H) (.bool _)⟩
noncomputable instance (i j:Int):Decidable (IntMulOk i j):=by unfold IntMulOk;exact inferInstance
noncomputable instance (i j:Int):Decidable (CDiv i j):=by unfold CDiv;exact inferInstance
noncomputable instance (i j:Int):Decidable (CPow i j):=by unfold CPow;exact inferInstance
noncomputable def subD:PyData->PyData->Option PyData:=iiD fun i j=>some (.int (i - j))
noncomputable def mulD:PyData->PyData->Option PyData:=iiD fun i j=>if IntMulOk i j then some (.int (i * j)) else none
noncomputable def Qe:PyData->PyData->Option PyData:=iiD fun i j=>if CDiv i j then some (.int (i / j)) else none
noncomputable def modD:PyData->PyData->Option PyData:=iiD fun i j=>if 0 < j then some (.int (i % j)) else none
noncomputable def powD:PyData->PyData->Option PyData:=iiD fun i j=>if CPow i j then some (.int (i ^ j.toNat)) else none
theorem Ym:OpD X (binaryOp .Sub) subD:=qhJ qjS
theorem ye:OpD X (binaryOp .Mult) mulD:=Jt qhO
theorem ZG:OpD X (binaryOp .FloorDiv) Qe:=Jt qhN
theorem Zg:OpD X (binaryOp .Mod) modD:=Jt (C:=fun _ j=>0 < j) qjP
theorem qiO:OpD X (binaryOp .Pow) powD:=Jt qjR
noncomputable def gtD:PyData->PyData->Option PyData:=iiD fun i j=>some (.bool (decide (j < i)))
theorem d_gt:OpD X (compareOp .Gt) gtD:=qf1 op_gt
noncomputable def eqD (x y:PyData):Option PyData:=if SeqAt.shaped x=true/\SeqAt.shaped y=true then some (.bool (PyData.eqv x y)) else none
noncomputable def neD (x y:PyData):Option PyData:=if SeqAt.shaped x=true/\SeqAt.shaped y=true then some (.bool (!PyData.eqv x y)) else none
theorem d_eq {k:Nat} (hr:Room k X.A):OpD X (compareOp .Eq) eqD:=jV (qjO hr) fun x y dx dy d H S Q m h1 h2 e q=>by
 unfold eqD at e
 split at e
 ·rename_i c;cases e;exact ⟨S,dx,dy,h1,h2,c.1,c.2,q _ H (Same.refl H) (.bool _)⟩
 ·cases e
theorem d_ne {k:Nat} (hr:Room k X.A):OpD X (compareOp .NotEq) neD:=jV (qjQ hr) fun x y dx dy d H S Q m h1 h2 e q=>by
 unfold neD at e
 split at e
 ·rename_i c;cases e;exact ⟨S,dx,dy,h1,h2,c.1,c.2,q _ H (Same.refl H) (.bool _)⟩
 ·cases e
noncomputable def negD:PyData->Option PyData
 | .int i=>some (.int (-i))
 | _=>none
theorem Jg:UnD X (unaryOp .USub) negD:=fun pins s σ H x v Q I rx ⟨S,dx,d,m,h1,e,q⟩=>qkF pins s σ H x v Q I rx (by
 cases h1<;>first | (cases e;exact ⟨_,rfl,q _ H (Same.refl H) (.int _)⟩) | cases e)
noncomputable def lenD:List PyData->Option PyData
 | [.list ds]=>some (.int ds.length)
 | [.tuple ds]=>some (.int ds.length)
 | _=>none
theorem yZ:CallD X (.builtin "len") lenD:=fun pins s σ H xs us Q I r ⟨S,ds,d,m,h1,e,q⟩=>WN pins s σ H xs us Q I r (by
 cases h1 with
 | nil=>cases e
 | cons a t =>
  cases t with
  | cons a' t'=>cases a<;>cases e
  | nil =>
   cases a with
   | list h t=>cases e;exact ⟨_,_,rfl,.inl h.sq,by rw [t.length];exact q _ H (Same.refl H) (.int _)⟩
   | tuple h t=>cases e;exact ⟨_,_,rfl,.inr h,by rw [t.length];exact q _ H (Same.refl H) (.int _)⟩
   | _=>cases e)
noncomputable def qL:List PyData->Option PyData
 | [.list ds]=>some (.tuple ds)
 | [.tuple ds]=>some (.tuple ds)
 | _=>none
theorem QT:CallD X (.type "tuple") qL:=fun pins s σ H xs us Q I r ⟨S,ds,d,m,h1,e,q⟩=>wu pins s σ H xs us Q I r (by
 cases h1 with
 | nil=>cases e
 | cons a t =>
  cases t with
  | cons a' t'=>cases a<;>cases e
  | nil =>
   cases a with
   | list h t=>cases e;exact ⟨_,_,rfl,.inl ⟨h.sq,fun l hl=>q _ _ (Same.lay hl) (.tuple (SqT.of qK) (t.same (Same.lay hl)))⟩⟩
   | tuple h t=>cases e;exact ⟨_,_,rfl,.inr ⟨h,q _ H (Same.refl H) (.tuple h t)⟩⟩
   | _=>cases e)
noncomputable def zP:List PyData->Option PyData
 | [.list ds]=>some (.list ds)
 | [.tuple ds]=>some (.list ds)
 | _=>none
theorem qjc:CallD X (.type "list") zP:=fun pins s σ H xs us Q I r ⟨S,ds,d,m,h1,e,q⟩=>Je pins s σ H xs us Q I r (by
 cases h1 with
 | nil=>cases e
 | cons a t =>
  cases t with
  | cons a' t'=>cases a<;>cases e
  | nil =>
   cases a with
   | list h t=>cases e;exact ⟨_,_,rfl,.inl h.sq,fun l hl=>q _ _ (Same.lay hl) (.list (SqLS.new qK (m.free hl)) (t.same (Same.lay hl)))⟩
   | tuple h t=>cases e;exact ⟨_,_,rfl,.inr h,fun l hl=>q _ _ (Same.lay hl) (.list (SqLS.new qK (m.free hl)) (t.same (Same.lay hl)))⟩
   | _=>cases e)
end
noncomputable def Yd:PyData->Option Bool
 | .bool b=>some b
 | _=>none
noncomputable def tV (f:Rho->Option PyData):Rho->Option Bool:=fun ρ=>ob (f ρ) Yd
noncomputable def tN (p:Rho->Option Bool):Rho->Option Bool:=fun ρ=>ob (p ρ) fun b=>some (!b)
noncomputable def tA (p q:Rho->Option Bool):Rho->Option Bool:=fun ρ=>ob (p ρ) fun c=>if c=true then q ρ else some false
noncomputable def tO (p q:Rho->Option Bool):Rho->Option Bool:=fun ρ=>ob (p ρ) fun c=>if c=true then some true else q ρ
noncomputable def tT:Rho->Option Bool:=fun _=>some true
noncomputable def vA (fa fb:Rho->Option PyData):Rho->Option PyData:=fun ρ=>ob (fa ρ) fun x=>ob (Yd x) fun c=>if c=true then fb ρ else some (.bool false)
noncomputable def vN (fa:Rho->Option PyData):Rho->Option PyData:=fun ρ=>ob (fa ρ) fun x=>ob (Yd x) fun c=>some (.bool (!c))
noncomputable def vIf (p:Rho->Option Bool) (fa fb:Rho->Option PyData):Rho->Option PyData:=fun ρ=>ob (p ρ) fun x=>if x=true then fa ρ else fb ρ
noncomputable def evI (f:Rho->Option PyData) (h:PyData->Option (List PyData)):Rho->Option (List PyData):=fun ρ=>ob (f ρ) h
noncomputable def evR (fs:Rho->Option (List PyData)) (h:List PyData->Option (List PyData)):Rho->Option (List PyData):=fun ρ=>ob (fs ρ) h
noncomputable def sN:Rho->Option Out:=fun ρ=>some (.nx ρ)
noncomputable def sRet (f:Rho->Option PyData):Rho->Option Out:=fun ρ=>ob (f ρ) fun d=>some (.rt d)
noncomputable def sIf (p:Rho->Option Bool) (u w:Rho->Option Out):Rho->Option Out:=fun ρ=>ob (p ρ) fun b=>if b=true then u ρ else w ρ
noncomputable def sSet (i:Nat) (f:Rho->Option PyData):Rho->Option Out:=fun ρ=>ob (f ρ) fun d=>some (.nx (ρ.set i (some d)))
noncomputable def gNm (i:Nat):PyData->Rho->Option Rho:=fun d ρ=>some (ρ.set i (some d))
noncomputable def gsN:List PyData->Rho->Option Rho:=fun ds ρ=>match ds with | []=>some ρ | _=>none
noncomputable def gsC (g1:PyData->Rho->Option Rho) (g2:List PyData->Rho->Option Rho):List PyData->Rho->Option Rho:=fun ds ρ=>match ds with | d :: r=>ob (g1 d ρ) fun ρ'=>g2 r ρ' | []=>none
noncomputable def sBk:Rho->Option Out:=fun ρ=>some (.bk ρ)
noncomputable def sCt:Rho->Option Out:=fun ρ=>some (.ct ρ)
section
variable {X:Cx} {M:List Nat} {a b c:Expr} {es rest:List Expr} {f g fa fb:Rho->Option PyData} {p q:Rho->Option Bool} {pos:Pos}
theorem ZF {d:PyData} {b:Bool} (h:Yd d=some b):d=.bool b:=by cases d<;>first | (cases h;rfl) | cases h
theorem yI (h:PD X M a f) (he:∀ whole,isTrue a X.env whole=(do let v ← whole;standAt a.pos;holding [v] (truthy v)):=by intro _;rfl):PDT X M a (tV f) :=
 (qkd h he).weak fun σ H Q ⟨S,ρ,d,hs,e,q⟩=>by
  obtain ⟨x,e1,e⟩:=qi e
  cases ZF e
  exact ⟨S,ρ,_,hs,e1,fun v H1 g1 d1=>⟨d,d1.bool_inv,q H1 g1⟩⟩
theorem qQ {op:CmpOp} {g:PyData->PyData->Option PyData} (ho:OpD X (compareOp op) g) (ha:PD X M a fa) (hb:PD X M b fb) (hm:behindInMarks op b=false):PDT X M (.Compare a [op] [b] pos) (tV (ev2 fa fb g)) :=
 (qh7 ho ha hb hm).weak fun σ H Q ⟨S,ρ,d,hs,e,q⟩=>by
  obtain ⟨x,e1,e⟩:=qi e
  cases ZF e
  exact tD2 σ H _ ⟨S,ρ,_,hs,e1,fun v H1 g1 d1=>⟨d,d1.bool_inv,q H1 g1⟩⟩
theorem yH (h:PDT X M a p):PDT X M (.UnaryOp .Not a pos) (tN p) :=
 (qkc h).weak fun σ H Q ⟨S,ρ,d,hs,e,q⟩=>by
  obtain ⟨x,e1,e⟩:=qi e
  cases e
  exact ⟨S,ρ,x,hs,e1,fun H1 g1=>q H1 g1⟩
noncomputable def PDW (X:Cx) (M:List Nat) (e:Expr) (f:Rho->Option Bool):Prop:=PW X e (tDT X.K M f)
theorem PDW.pdt (h:PDW X M a p):PDT X M a p:=PW.pt h
theorem qgc (h:PDT X M a p):PDW X M (.BoolOp .And [a] pos) p:=qia h
theorem qdh (h:PDT X M a p):PDW X M (.BoolOp .Or [a] pos) p:=qkg h
theorem qhU (ha:PDT X M a p) (hb:PDW X M (.BoolOp .And (b :: rest) pos) q):PDW X M (.BoolOp .And (a :: b :: rest) pos) (tA p q) :=
 (qkf ha hb).weak fun σ H Q ⟨S,ρ,d,hs,e,w⟩=>by
  obtain ⟨x,e1,e⟩:=qi e
  refine ⟨S,ρ,x,hs,e1,fun H1 g1=>?_⟩
  cases x with
  | true=>exact iteT ⟨S,ρ,d,hs.same g1,e,fun H2 g2=>w H2 (g1.trans g2)⟩
  | false=>cases e;exact iteF (w H1 g1)
theorem qci (ha:PDT X M a p) (hb:PDW X M (.BoolOp .Or (b :: rest) pos) q):PDW X M (.BoolOp .Or (a :: b :: rest) pos) (tO p q) :=
 (pw_or ha hb).weak fun σ H Q ⟨S,ρ,d,hs,e,w⟩=>by
  obtain ⟨x,e1,e⟩:=qi e
  refine ⟨S,ρ,x,hs,e1,fun H1 g1=>?_⟩
  cases x with
  | true=>cases e;exact iteT (w H1 g1)
  | false=>exact iteF ⟨S,ρ,d,hs.same g1,e,fun H2 g2=>w H2 (g1.trans g2)⟩
theorem qj0 {op} (h:PD X M a f):PD X M (.BoolOp op [a] pos) f:=qj6 h
theorem qjW (ha:PD X M a fa) (hb:PD X M (.BoolOp .And (b :: rest) pos) fb):PD X M (.BoolOp .And (a :: b :: rest) pos) (vA fa fb) :=
 (qj1 ha hb).weak fun σ H Q ⟨S,ρ,d,hs,e,w⟩=>by
  obtain ⟨x,e1,e⟩:=qi e
  obtain ⟨c,e2,e⟩:=qi e
  cases ZF e2
  refine ⟨S,ρ,_,hs,e1,fun v H1 g1 d1=>⟨c,d1.bool_inv,?_⟩⟩
  cases c with
  | true=>exact iteT ⟨S,ρ,d,hs.same g1,e,fun v H2 g2 d2=>w v H2 (g1.trans g2) d2⟩
  | false=>cases e;exact iteF (w _ H1 g1 (.bool false))
theorem qjZ (ha:PD X M a fa):PD X M (.UnaryOp .Not a pos) (vN fa) :=
 (qj5 ha).weak fun σ H Q ⟨S,ρ,d,hs,e,w⟩=>by
  obtain ⟨x,e1,e⟩:=qi e
  obtain ⟨c,e2,e⟩:=qi e
  cases ZF e2
  cases e
  exact ⟨S,ρ,_,hs,e1,fun v H1 g1 d1=>⟨c,d1.bool_inv,w _ H1 g1 (.bool _)⟩⟩
theorem YD (hc:PDT X M c p) (ha:PD X M a fa) (hb:PD X M b fb):PD X M (.IfExp c a b pos) (vIf p fa fb) :=
 (qgd hc ha hb).weak fun σ H Q ⟨S,ρ,d,hs,e,w⟩=>by
  obtain ⟨x,e1,e⟩:=qi e
  refine ⟨S,ρ,x,hs,e1,fun H1 g1=>?_⟩
  cases x with
  | true=>exact iteT ⟨S,ρ,d,hs.same g1,e,fun v H2 g2 d2=>w v H2 (g1.trans g2) d2⟩
  | false=>exact iteF ⟨S,ρ,d,hs.same g1,e,fun v H2 g2 d2=>w v H2 (g1.trans g2) d2⟩
structure IsIt (K:PySem.W.Frag) (S:Av) (J:It) (H:Hp) (ds:List PyData):Prop where
 go:∀ (i:Nat) (H':Hp),Same H H'->i < ds.length->J.go i H'
 yld:∀ (i:Nat) (H':Hp) (x:V) (H2:Hp),Same H H'->J.yld i H' x H2->Same H' H2/\∀ d,ds[i]?=some d->∀ S':Av,(∀ y e,Den K H S y e->Den K H2 S' y e)->Den K H2 S' x d
 stop:∀ H':Hp,Same H H'->J.stop ds.length H'
theorem IsIt.lst {K:PySem.W.Frag} {H:Hp} {S:Av} {l:Addr} {xs:List V} {ds:List PyData} (h:SqL K H l xs) (t:DenL K H S xs ds):IsIt K S (Itl K l) H ds where
 go:=fun i H' e hi=>by
  have hi':i < xs.length:=by rw [t.length];exact hi
  exact ⟨xs,xs[i],e.seq h,List.getElem?_eq_getElem hi'⟩
 yld:=fun i H' x H2 e ⟨e2,q⟩=>⟨by rw [e2];exact Same.refl _,fun d hd S' w=>by
  obtain ⟨v,h1,h2⟩:=t.get hd
  have:=q xs (e.seq h)
  rw [h1] at this
  cases this
  exact w _ _ h2⟩
 stop:=fun H' e=>⟨xs,e.seq h,by rw [t.length];exact Nat.le_refl _⟩
theorem IsIt.tup {K:PySem.W.Frag} {H:Hp} {S:Av} {l:Addr} {xs:List V} {ds:List PyData} (h:SqT K H l xs) (t:DenL K H S xs ds):IsIt K S (Itt K l) H ds where
 go:=fun i H' e hi=>by
  have hi':i < xs.length:=by rw [t.length];exact hi
  exact ⟨xs,xs[i],e.sqT h,List.getElem?_eq_getElem hi'⟩
 yld:=fun i H' x H2 e ⟨e2,q⟩=>⟨by rw [e2];exact Same.refl _,fun d hd S' w=>by
  obtain ⟨v,h1,h2⟩:=t.get hd
  have:=q xs (e.sqT h)
  rw [h1] at this
  cases this
  exact w _ _ h2⟩
 stop:=fun H' e=>⟨xs,e.sqT h,by rw [t.length];exact Nat.le_refl _⟩
theorem SqLS.off {K:PySem.W.Frag} {H H':Hp} {S:Av} {a:Addr} {xs:List V} (e:Off S H H') (h:SqLS K H S a xs):SqLS K H' S a xs:=h.imp (fun q=>⟨q.1.off e q.2,q.2⟩) id
theorem SqT.off {K:PySem.W.Frag} {H H':Hp} {S:Av} {a:Addr} {xs:List V} (m:Dm S H) (e:Off S H H') (h:SqT K H a xs):SqT K H' a xs:=h.imp (fun q=>q.off e (m.tup q)) id
noncomputable def rngL:Int->Nat->List PyData
 | _,0=>[]
 | lo,n + 1=>.int lo :: rngL (lo + 1) n
theorem jm:∀ (lo:Int) (n:Nat),(rngL lo n).length=n
 | _,0=>rfl
 | lo,n + 1=>by rw [rngL,List.length_cons,jm]
theorem qbz:∀ (lo:Int) (n i:Nat) (d:PyData),(rngL lo n)[i]?=some d->d=.int (lo + i)
 | _,0,_,_,h=>by simp [rngL] at h
 | lo,n + 1,0,d,h=>by simp [rngL] at h;subst h;simp
 | lo,n + 1,i + 1,d,h=>by
  have:=qbz (lo + 1) n i d (by simpa [rngL] using h)
  rw [this]
  congr 1
  omega
theorem IsIt.rng {K:PySem.W.Frag} {H:Hp} {S:Av} (lo:Int) (n:Nat):IsIt K S (Itr lo n) H (rngL lo n) where
 go:=fun i H' e hi=>by rw [jm] at hi;exact hi
 yld:=fun i H' x H2 e ⟨e2,q⟩=>⟨by rw [e2];exact Same.refl _,fun d hd _ _=>by
  have q':x=.int (lo + i):=q
  rw [qbz lo n i d hd,q']
  exact .int _⟩
 stop:=fun H' e=>by rw [jm];exact Nat.le_refl n
noncomputable def tDI (K:PySem.W.Frag) (M:List Nat) (f:Rho->Option (List PyData)):TI:=fun σ H R=>∃ S ρ ds,DenS K H S M σ ρ/\f ρ=some ds/\∀ J H',Same H H'->(∀ H2,Off S H' H2->IsIt K S J H2 ds)->R J H'
noncomputable def PDI (X:Cx) (M:List Nat) (tg iter:Expr) (f:Rho->Option (List PyData)):Prop:=PI X tg iter (tDI X.K M f)
theorem PI.weak {X:Cx} {tg e:Expr} {t t':TI} (h:PI X tg e t) (w:∀ σ H R,t' σ H R->t σ H R):PI X tg e t':=fun pins s σ H Q I q=>h pins s σ H Q I (w σ H Q q)
noncomputable def iSeq (K:PySem.W.Frag) (tl:TE):TI:=fun σ H R=>tl σ H fun x H1=>∃ a,x=.ref a/\(((∃ xs,SqL K H1 a xs)/\R (Itl K a) H1)\/((∃ xs,SqT K H1 a xs)/\R (Itt K a) H1))
theorem qj8 {tg l:Expr} {tl:TE} (hl:PE X l tl):PI X tg l (iSeq X.K tl):=by
 intro pins s σ H R I h
 refine thn (hl pins s σ H _ I h) fun v s1 ⟨x,H1,I1,r1,q1⟩=>?_
 obtain ⟨a,e,q1⟩:=q1
 subst e
 cases r1
 have fp:∀ b∈[s1.heap.objs.size],FpOk X pins H1 b:=fun b hb=>by
  have e:b=s1.heap.objs.size:=by simpa using hb
  subst e
  exact I1.fpOk (Nat.le_refl _) (I1.hok.fresh (Nat.le_refl _))
 rcases q1 with ⟨⟨xs,hq⟩,q⟩ | ⟨⟨xs,hq⟩,q⟩
 ·obtain ⟨its,rv,p,hz⟩:=I1.list hq
  refine wpAny_pyIter_list p.isList ?_
  exact ⟨s1.heap.objs.size,[s1.heap.objs.size],_,_,H1,rfl,I1.kept (t':=s1.toks) fun b o e=>Heap.get?_push_of_some _ e,qeq a _,⟨_,Heap.get?_push_size _ rfl,rfl,rfl⟩,fp,q⟩
 ·obtain ⟨its,rv,p,hz⟩:=I1.tuple hq
  refine wpAny_pyIter_tuple (show s1.heap.IsTuple a its.toArray from p) ?_
  exact ⟨s1.heap.objs.size,[s1.heap.objs.size],_,_,H1,rfl,I1.kept (t':=s1.toks) fun b o e=>Heap.get?_push_of_some _ e,qct a _,⟨_,Heap.get?_push_size _ rfl,rfl,rfl⟩,fp,q⟩
noncomputable def seqD:PyData->Option (List PyData)
 | .list ds=>some ds
 | .tuple ds=>some ds
 | _=>none
theorem qR {tg:Expr} (h:PD X M a f):PDI X M tg a (evI f seqD) :=
 (qj8 h).weak fun σ H R ⟨S,ρ,ds,hs,e,w⟩=>by
  obtain ⟨x,e1,e⟩:=qi e
  refine ⟨S,ρ,x,hs,e1,fun v H1 g1 d1=>?_⟩
  cases d1 with
  | list h t=>cases e;exact ⟨_,rfl,.inl ⟨⟨_,h.sq⟩,w _ _ g1 fun H2 o=>IsIt.lst (h.off o).sq (t.off (hs.1.same g1) o)⟩⟩
  | tuple h t=>cases e;exact ⟨_,rfl,.inr ⟨⟨_,h⟩,w _ _ g1 fun H2 o=>IsIt.tup (h.off (hs.1.same g1) o) (t.off (hs.1.same g1) o)⟩⟩
  | _=>cases e
noncomputable def QR:List PyData->Option (List PyData)
 | [.int j]=>if -1000 <= j/\j <= 1000 then some (rngL 0 j.toNat) else none
 | _=>none
theorem YG {tg:Expr} {fs:Rho->Option (List PyData)} {p:Pos} (hg:Gl X "range") (hm:X.mg "range" = none) (ha:PDA X M [a] fs) (hs:starEach [a] X.env=[(false,eval a X.env)]:=by rfl):PDI X M tg (.Call (.Name "range" p) [a] [] pos) (evR fs QR) :=
 (Wm hg hm ha hs).weak fun σ H R ⟨S,ρ,ds,hs,e,w⟩=>by
  obtain ⟨xs,e1,e⟩:=qi e
  refine ⟨S,ρ,xs,hs,e1,fun vs H1 g1 d1=>?_⟩
  unfold QR at e
  split at e
  ·rename_i j
   split at e
   ·rename_i hj
    cases e
    obtain ⟨v,rfl,q⟩:=d1.inv1
    cases q
    exact ⟨j,rfl,by omega,by omega,w _ _ g1 fun _ _=>IsIt.rng 0 _⟩
   ·cases e
  ·cases e
noncomputable def zO (tt:Rho->Option Bool) (te:Rho->Option PyData) (ρ:Rho):List PyData->Option (List PyData)
 | []=>some []
 | d :: ds=>ob (tt (ρ ++ [some d])) fun b=>if b=true then ob (te (ρ ++ [some d])) fun y=>ob (zO tt te ρ ds) fun ys=>some (y :: ys) else zO tt te ρ ds
noncomputable def qY (n:Nat) (fi:Rho->Option (List PyData)) (tt:Rho->Option Bool) (te:Rho->Option PyData) (ρ:Rho):Option PyData :=
 ob (fi ρ) fun ds=>if ρ.length=n/\ds.length <= 1000 then ob (zO tt te ρ ds) fun ys=>some (.list ys) else none
noncomputable def PDTs (X:Cx) (M:List Nat) (ifs:List Expr) (p:Rho->Option Bool):Prop:=PTs X ifs (tDT X.K M p)
theorem Za:PDTs X M [] tT:=fun pins s σ H Q I ⟨S,ρ,b,hs,e,q⟩=>by
 cases e
 exact qh8 pins s σ H Q I (q H (Same.refl H))
theorem Zb (h:PDT X M c p):PDTs X M [c] p:=qh9 h
noncomputable def lc1 (sc:Scope) (x:Str):Bool:=decide (sc.names.lookup x=some .local)
noncomputable def tDGc (K:PySem.W.Frag) (M:List Nat) (g:PyData->Rho->Option Rho):TG:=fun v σ H Q=>∃ S ρ d ρ',DenS K H S M σ ρ/\Den K H S v d/\g d ρ=some ρ'/\∀ σ' H',Same H H'->DenS K H' S M σ' ρ'->Q σ' H'
noncomputable def tDGcs (K:PySem.W.Frag) (M:List Nat) (g:List PyData->Rho->Option Rho):TGs:=fun vs σ H Q=>∃ S ρ ds ρ',DenS K H S M σ ρ/\DenL K H S vs ds/\g ds ρ=some ρ'/\∀ σ' H',Same H H'->DenS K H' S M σ' ρ'->Q σ' H'
noncomputable def PDGc (X:Cx) (M:List Nat) (t:Expr) (g:PyData->Rho->Option Rho):Prop:=PG X t (tDGc X.K M g)
noncomputable def qcx (X:Cx) (M:List Nat) (t:List Expr) (g:List PyData->Rho->Option Rho):Prop:=PGs X t (tDGcs X.K M g)
theorem PG.weak {X:Cx} {e:Expr} {t t':TG} (h:PG X e t) (w:∀ v σ H Q,t' v σ H Q->t v σ H Q):PG X e t':=fun pins s σ H v u Q I r q=>h pins s σ H v u Q I r (w v σ H Q q)
theorem PGs.weak {X:Cx} {e:List Expr} {t t':TGs} (h:PGs X e t) (w:∀ v σ H Q,t' v σ H Q->t v σ H Q):PGs X e t':=fun pins s σ H v u Q I r q=>h pins s σ H v u Q I r (w v σ H Q q)
noncomputable def unpD (n:Nat) (g:List PyData->Rho->Option Rho):PyData->Rho->Option Rho
 | .tuple ds,ρ=>if ds.length=n then g ds ρ else none
 | _,_=>none
theorem qd8 (i:Nat) {x:Str} (hN:X.N.Nodup) (hx:Loc X.env.scope x) (hi:X.N[i]?=some x) (hf:X.fn x=true\/X.env.scope.names.lookup x=some .local):PDGc X M (.Name x pos) (gNm i) :=
 (qdk hN hi hx hf).weak fun v σ H Q ⟨S,ρ,d,ρ',hs,hd,e,q⟩=>by
  cases e
  exact q _ H (Same.refl H) (hs.set hd i)
theorem Wh:qcx X M [] gsN :=
 qdl.weak fun v σ H Q ⟨S,ρ,d,ρ',hs,hd,e,q⟩=>by
  cases hd with
  | nil=>cases e;exact ⟨rfl,q _ H (Same.refl H) hs⟩
  | cons a t=>cases e
theorem ZW {t:Expr} {ts:List Expr} {g1:PyData->Rho->Option Rho} {g2:List PyData->Rho->Option Rho} (h1:PDGc X M t g1) (h2:qcx X M ts g2) (hs:(assignEach (t :: ts) X.env).map (·.2)=assign t X.env :: (assignEach ts X.env).map (·.2):=by rfl) :
  qcx X M (t :: ts) (gsC g1 g2) :=
 (qbp h1 h2 hs).weak fun v σ H Q ⟨S,ρ,d,ρ',hs,hd,e,q⟩=>by
  cases hd with
  | nil=>cases e
  | cons a t =>
   obtain ⟨ρ1,e1,e⟩:=qi e
   exact ⟨_,_,rfl,S,ρ,_,ρ1,hs,a,e1,fun σ' H' g1 hs'=>⟨S,ρ1,_,ρ',hs',t.same g1,e,fun σ2 H2 g2 hs2=>q σ2 H2 (g1.trans g2) hs2⟩⟩
theorem qbl {ts:List Expr} {k:Nat} {n:Nat} {g:List PyData->Rho->Option Rho} (hc:X.calm=true) (h:qcx X M ts g) (hn:(assignEach ts X.env).length=n:=by rfl) (hst:(assignEach ts X.env).findIdx? (·.1)=none:=by rfl):PDGc X M (.Tuple ts k pos) (unpD n g) :=
 (qgj hc h hn hst).weak fun v σ H Q ⟨S,ρ,d,ρ',hs,hd,e,q⟩=>by
  cases hd with
  | @tuple a xs ds h t =>
   have e:(if ds.length=n then g ds ρ else none)=some ρ':=e
   split at e
   ·rename_i hl
    exact ⟨_,_,rfl,h,by rw [t.length];exact hl,S,ρ,_,ρ',hs,t,e,q⟩
   ·cases e
  | _=>cases e
noncomputable def GIn (n k:Nat) (g:PyData->Rho->Option Rho):Prop:=∀ d (ρ r ρ1:Rho),ρ.length=n->r.length=k->g d (ρ ++ r)=some ρ1->∃ r',r'.length=k/\ρ1=ρ ++ r'
noncomputable def GIns (n k:Nat) (g:List PyData->Rho->Option Rho):Prop:=∀ d (ρ r ρ1:Rho),ρ.length=n->r.length=k->g d (ρ ++ r)=some ρ1->∃ r',r'.length=k/\ρ1=ρ ++ r'
theorem Zt {n k i:Nat} (h:n <= i):GIn n k (gNm i):=fun d ρ r ρ1 h1 h2 e=>by
 cases e
 refine ⟨r.set (i - n) (some d),by rw [List.length_set];exact h2,?_⟩
 rw [List.set_append_right _ _ (by omega),h1]
theorem qaW {n k:Nat}:GIns n k gsN:=fun d ρ r ρ1 h1 h2 e=>by
 cases d with
 | nil=>cases e;exact ⟨r,h2,rfl⟩
 | cons _ _=>cases e
theorem jC {n k:Nat} {g1:PyData->Rho->Option Rho} {g2:List PyData->Rho->Option Rho} (a:GIn n k g1) (b:GIns n k g2):GIns n k (gsC g1 g2):=fun d ρ r ρ1 h1 h2 e=>by
 cases d with
 | nil=>cases e
 | cons d ds =>
  obtain ⟨ρ2,e1,e2⟩:=qi e
  obtain ⟨r1,l1,rfl⟩:=a d ρ r ρ2 h1 h2 e1
  exact b ds ρ r1 ρ1 h1 l1 e2
theorem qc2 {n k m:Nat} {g:List PyData->Rho->Option Rho} (a:GIns n k g):GIn n k (unpD m g):=fun d ρ r ρ1 h1 h2 e=>by
 cases d with
 | tuple ds =>
  have e:(if ds.length=m then g ds (ρ ++ r) else none)=some ρ1:=e
  split at e
  ·exact a ds ρ r ρ1 h1 h2 e
  ·cases e
 | _=>cases e
noncomputable def Qh (k:Nat) (g:PyData->Rho->Option Rho) (tt:Rho->Option Bool) (te:Rho->Option PyData) (ρ:Rho):List PyData->Option (List PyData)
 | []=>some []
 | d :: ds=>ob (g d (ρ ++ List.replicate k none)) fun ρ1=>ob (tt ρ1) fun b=>if b=true then ob (te ρ1) fun y=>ob (Qh k g tt te ρ ds) fun ys=>some (y :: ys) else Qh k g tt te ρ ds
noncomputable def jh (n k:Nat) (fi:Rho->Option (List PyData)) (g:PyData->Rho->Option Rho) (tt:Rho->Option Bool) (te:Rho->Option PyData) (ρ:Rho):Option PyData :=
 ob (fi ρ) fun ds=>if ρ.length=n/\ds.length <= 1000 then ob (Qh k g tt te ρ ds) fun ys=>some (.list ys) else none
theorem Yk {tt:Rho->Option Bool} {te:Rho->Option PyData} {ρ:Rho} {n:Nat} (hn:ρ.length=n):∀ ds,Qh 1 (gNm n) tt te ρ ds=zO tt te ρ ds
 | []=>rfl
 | d :: ds=>by
  have e:gNm n d (ρ ++ List.replicate 1 none)=some (ρ ++ [some d]):=by
   show some ((ρ ++ [none]).set n (some d))=_
   rw [← hn,List.set_append_right _ _ (Nat.le_refl _)]
   simp
  rw [Qh,zO,e]
  show (ob (tt (ρ ++ [some d])) fun b=>_)=_
  rw [Yk hn ds]
theorem Yh (n:Nat) (fi:Rho->Option (List PyData)) (tt:Rho->Option Bool) (te:Rho->Option PyData):qY n fi tt te=jh n 1 fi (gNm n) tt te:=by
 funext ρ
 unfold qY jh
 cases fi ρ with
 | none=>rfl
 | some ds =>
  show (if ρ.length=n/\ds.length <= 1000 then _ else none)=(if ρ.length=n/\ds.length <= 1000 then _ else none)
  split
  ·rename_i h
   rw [Yk h.1]
  ·rfl
theorem DenS.forget {K:PySem.W.Frag} {H:Hp} {S:Av} {σ:St} {ρ r':Rho} {k:Nat} (h:DenS K H S M σ (ρ ++ r')) (hk:r'.length=k):DenS K H S M σ (ρ ++ List.replicate k none):=by
 refine ⟨h.1,by rw [h.2.1,List.length_append,List.length_append,List.length_replicate,hk],fun i d hi e=>?_⟩
 by_cases hlt:i < ρ.length
 ·rw [List.getElem?_append_left hlt] at e
  exact h.2.2 i d hi (by rw [List.getElem?_append_left hlt];exact e)
 ·rw [List.getElem?_append_right (by omega)] at e
  have:=List.getElem?_replicate (a:=(none:Option PyData)) (n:=k) (i:=i - ρ.length)
  rw [this] at e
  split at e<;>cases e
theorem DenS.more {K:PySem.W.Frag} {H:Hp} {S:Av} {σ:St} {ρ:Rho} (k:Nat) (h:DenS K H S M σ ρ):DenS K H S M (σ ++ List.replicate k none) (ρ ++ List.replicate k none):=by
 refine ⟨h.1,by rw [List.length_append,List.length_append,h.2.1,List.length_replicate,List.length_replicate],fun i d hi e=>?_⟩
 by_cases hlt:i < ρ.length
 ·rw [List.getElem?_append_left hlt] at e
  obtain ⟨v,a,b⟩:=h.2.2 i d hi e
  exact ⟨v,by rw [List.getElem?_append_left (by rw [h.2.1];exact hlt)];exact a,b⟩
 ·rw [List.getElem?_append_right (by omega)] at e
  have:=List.getElem?_replicate (a:=(none:Option PyData)) (n:=k) (i:=i - ρ.length)
  rw [this] at e
  split at e<;>cases e
theorem qdv {K:PySem.W.Frag} {n k:Nat} {fi:Rho->Option (List PyData)} {g:PyData->Rho->Option Rho} (hg:GIn n k g):∀ σ H Q S ρ ds ys,DenS K H S M σ ρ->fi ρ=some ds->ρ.length=n->ds.length <= 1000->Qh k g p f ρ ds=some ys->(∀ H' zs,Same H H'->DenL K H' S zs ys->∀ D,H' D=none->Q (.ref D) (upd H' D (.lst zs)))->qbH k (tDI K M fi) (tDGc K M g) (tDT K M p) (tD K M f) σ H Q:=by
 intro σ H Q S ρ ds ys hs e1 hn hz e2 q
 refine ⟨S,ρ,ds,hs,e1,fun J H1 g1 hJ0=>?_⟩
 have hJ:=hJ0 H1 fun _ _ _ z=>z
 have z1000:1000 < sizeLine:=qX (Nat.le_refl _)
 refine ⟨fun i m zs σ' H'=>m=ds.length - i/\i <= ds.length/\zs.length <= i/\Same H1 H'/\DenS K H' S M σ' (ρ ++ List.replicate k none)/\∃ pre rest,DenL K H' S zs pre/\Qh k g p f ρ (ds.drop i)=some rest/\pre ++ rest=ys,⟨ds.length,by simp,Nat.zero_le _,Nat.le_refl _,Same.refl _,(hs.same g1).more k,[],ys,.nil,e2,rfl⟩,?_⟩
 rintro i m zs σ' H' ⟨rfl,hi,hzi,g2,hS,pre,rest,dl,er,rfl⟩
 by_cases hlt:i < ds.length
 ·refine .inr ⟨hJ.go i H' g2 hlt,fun x H2 y=>?_⟩
  obtain ⟨g2',yd⟩:=hJ.yld i H' x H2 g2 y
  have hd:=yd _ (List.getElem?_eq_getElem hlt) S fun y e q=>q.same (g2.trans g2')
  rw [List.drop_eq_getElem_cons hlt] at er
  obtain ⟨ρ1,r1,er⟩:=qi er
  obtain ⟨bb,b1,er⟩:=qi er
  obtain ⟨r',hr',rfl⟩:=hg _ ρ _ ρ1 hn (List.length_replicate) r1
  have g2:=g2.trans g2'
  have dl:=dl.same g2'
  refine ⟨S,_,_,_,hS.same g2',hd,r1,fun σ3 H3 g3 hS3=>⟨S,_,bb,hS3,b1,fun H4 g4=>?_⟩⟩
  cases bb with
  | true =>
   rw [if_pos rfl] at er
   obtain ⟨y1,e3,er⟩:=qi er
   obtain ⟨ys1,e4,er⟩:=qi er
   cases er
   refine iteT ⟨S,_,y1,hS3.same g4,e3,fun v H5 g5 d5=>⟨by omega,ds.length - (i + 1),by omega,rfl,hlt,by rw [List.length_append,List.length_singleton];omega,g2.trans (g3.trans (g4.trans g5)),(hS3.same (g4.trans g5)).forget hr',pre ++ [y1],ys1,(dl.same (g3.trans (g4.trans g5))).snoc d5,e4,by simp⟩⟩
  | false =>
   rw [if_neg Bool.false_ne_true] at er
   exact iteF ⟨ds.length - (i + 1),by omega,rfl,hlt,by omega,g2.trans (g3.trans g4),(hS3.same g4).forget hr',pre,rest,dl.same (g3.trans g4),er,rfl⟩
 ·have hi':i=ds.length:=by omega
  subst hi'
  rw [List.drop_length] at er
  cases er
  refine .inl ⟨hJ.stop H' g2,fun D hD=>q H' zs (g1.trans g2) (by rw [List.append_nil];exact dl) D hD⟩
theorem Yi {n k:Nat} {fi:Rho->Option (List PyData)} {g:PyData->Rho->Option Rho} {tt:Rho->Option Bool} {te:Rho->Option PyData} {ρ:Rho} {d:PyData} (e:jh n k fi g tt te ρ=some d):∃ ds ys,fi ρ=some ds/\ρ.length=n/\ds.length <= 1000/\Qh k g tt te ρ ds=some ys/\d=.list ys:=by
 obtain ⟨ds,e1,e⟩:=qi e
 split at e
 ·rename_i hc
  obtain ⟨ys,e2,e⟩:=qi e
  cases e
  exact ⟨ds,ys,e1,hc.1,hc.2,e2,rfl⟩
 ·cases e
theorem qkA {K:PySem.W.Frag} {n k:Nat} {fi:Rho->Option (List PyData)} {g:PyData->Rho->Option Rho} (hg:GIn n k g):∀ σ H Q,tD K M (jh n k fi g p f) σ H Q->qbH k (tDI K M fi) (tDGc K M g) (tDT K M p) (tD K M f) σ H Q:=by
 intro σ H Q ⟨S,ρ,d,hs,e,q⟩
 obtain ⟨ds,ys,e1,hn,hz,e2,rfl⟩:=Yi e
 exact qdv hg σ H Q S ρ ds ys hs e1 hn hz e2 fun H' zs g2 dl D hD=>q _ _ (g2.lay' hD) (.list (SqLS.new qK ((hs.1.same g2).free hD)) (dl.same (Same.lay hD)))
section
variable {elt iter tg:Expr} {ifs:List Expr} {x:Str} {N':List Str} {px:Pos} {sc:Scope} {n k:Nat} {fi:Rho->Option (List PyData)} {g:PyData->Rho->Option Rho}
theorem jF {i:Nat} (O:CompOk X N' k sc) (hx:N'[i]?=some x) (hl:lc1 sc x=true) (cl:List (Str×Addr)) (C:Addr) (fp:List Addr) (pins:List (Addr×Obj)) (s:Shared) (H:Hp):PDGc (qJ X N' sc cl C fp pins s H) M (.Name x px) (gNm i) :=
 have hloc:(relabel sc X.env).names.lookup x=some .local:=lookup_relabel_local (of_decide_eq_true hl)
 qd8 (X:=qJ X N' sc cl C fp pins s H) i O.nd' (.inl hloc) hx (.inr hloc)
theorem qbj (O:CompOk X N' k sc) (gi:GIn n k g) (hi:PDI X M tg iter fi) (hg:∀ cl C fp pins s H,PDGc (qJ X N' sc cl C fp pins s H) M tg g) (hq:∀ cl C fp pins s H,PDTs (qJ X N' sc cl C fp pins s H) M ifs p) (he:∀ cl C fp pins s H,PD (qJ X N' sc cl C fp pins s H) M elt f)
  (hs:∀ v,foldedSetIterable iter X.env v=pure v:=by intro _;rfl):PD X M (.ListComp elt [⟨tg,iter,ifs,0⟩] sc pos) (jh n k fi g p f) :=
 (qhX (wg:=tDGc X.K M g) (tt:=tDT X.K M p) (te:=tD X.K M f) O hi hg hq he hs).weak (qkA gi)
theorem QV (O:CompOk X N' 1 sc) (hx:N'[n]?=some x) (hl:lc1 sc x=true) (hi:PDI X M (.Name x px) iter fi) (hq:∀ cl C fp pins s H,PDTs (qJ X N' sc cl C fp pins s H) M ifs p) (he:∀ cl C fp pins s H,PD (qJ X N' sc cl C fp pins s H) M elt f)
  (hs:∀ v,foldedSetIterable iter X.env v=pure v:=by intro _;rfl):PD X M (.ListComp elt [⟨.Name x px,iter,ifs,0⟩] sc pos) (qY n fi p f):=by
 rw [Yh]
 exact qbj O (Zt (Nat.le_refl _)) hi (jF O hx hl) hq he hs
end
end
structure Gm where
 H0:Hp
 S0:Av
 lk:Nat->Addr×PyData
noncomputable def insA (S:Av) (p:Addr):Av:=fun a=>S a\/a=p
inductive OwnO (K:PySem.W.Frag) (H:Hp) (S:Av) (p:Addr):PyData->Prop
 | lst {xs:List V} {ds:List PyData}:H p=some (.lst xs)->DenL K H S xs ds->OwnO K H S p (.list ds)
 | dct {kvs:List (KX×Addr×V)} {ep:Nat} {ds:List PyData}:H p=some (DctO p kvs ep)->DenL K H S (kvs.map fun p=>kxV p.1 p.2.1) (kvs.map fun p=>kxD p.1)->DenL K H S (kvs.map (·.2.2)) ds->OwnO K H S p (.dict (dkv kvs ds))
section
variable {K:PySem.W.Frag} {H H':Hp} {S S':Av} {p:Addr} {d:PyData}
theorem OwnO.same (e:Same H H') (h:OwnO K H S p d):OwnO K H' S p d:=by
 cases h with
 | lst h t=>exact .lst (e _ _ h) (t.same e)
 | dct h k t=>exact .dct (e _ _ h) (k.same e) (t.same e)
theorem OwnO.sub (e:∀ a,H a≠none->S' a->S a) (h:OwnO K H S p d):OwnO K H S' p d:=by
 cases h with
 | lst h t=>exact .lst h (t.sub e)
 | dct h k t=>exact .dct h (k.sub e) (t.sub e)
theorem OwnO.mut (h:OwnO K H S p d):∃ o,H p=some o/\Z8 o=true:=by
 cases h with
 | lst h t=>exact ⟨_,h,rfl⟩
 | dct h k t=>exact ⟨_,h,rfl⟩
theorem OwnO.dom (h:OwnO K H S p d):H p≠none:=by
 obtain ⟨o,e,_⟩:=h.mut
 rw [e];exact fun z=>nomatch z
theorem OwnO.den (h:OwnO K H S p d) (n:¬ S' p) (e:∀ a,H a≠none->S' a->S a):Den K H S' (.ref p) d:=by
 cases h with
 | lst h t=>exact .list (SqLS.new h n) (t.sub e)
 | dct h k t=>exact .dict ⟨h,n⟩ (k.sub e) (t.sub e)
theorem OwnO.upd {q:Addr} {o:HO} (m:Dm S H) (h:OwnO K H S p d) (hq:S q) (hm:Z8 o=true) (ne:p≠q):OwnO K (upd H q o) S p d:=by
 have off:Off S H (L2.upd H q o):=fun b u n e=>by
  rw [qD (fun z=>n (by rw [z];exact hq))];exact e
 cases h with
 | lst h t=>exact .lst (by rw [qD ne];exact h) (t.off m off)
 | dct h k t=>exact .dct (by rw [qD ne];exact h) (k.off m off) (t.off m off)
theorem Dm.upd {q:Addr} {o:HO} (m:Dm S H) (hm:Z8 o=true):Dm S (upd H q o):=fun a ha=>by
 by_cases e:a=q
 ·subst e;exact ⟨o,qK,hm⟩
 ·rw [qD e];exact m a ha
theorem Dm.ins (m:Dm S H) (h:∃ o,H p=some o/\Z8 o=true):Dm (insA S p) H:=fun a ha=>by
 rcases ha with ha | rfl
 ·exact m a ha
 ·exact h
end
inductive Kids (K:PySem.W.Frag) (H:Hp) (S:Av):List Addr->List PyData->Prop
 | nil:Kids K H S [] []
 | cons {q:Addr} {xs:List V} {es:List PyData} {qs:List Addr} {ds:List PyData}:H q=some (.lst xs)->DenL K H S xs es->q∉qs->Kids K H S qs ds->Kids K H S (q :: qs) (.list es :: ds)
inductive DeepO (K:PySem.W.Frag) (H:Hp) (S:Av):List Addr->Addr->PyData->Prop
 | tpl {p:Addr} {qs:List Addr} {ds:List PyData}:H p=some (.tup (qs.map V.ref))->Kids K H S qs ds->DeepO K H S qs p (.tuple ds)
 | lst {p:Addr} {qs:List Addr} {ds:List PyData}:H p=some (.lst (qs.map V.ref))->p∉qs->Kids K H S qs ds->DeepO K H S (p :: qs) p (.list ds)
 | dct {p:Addr} {kvs:List (KX×Addr×V)} {ep:Nat} {qs:List Addr} {ds:List PyData}:H p=some (DctO p kvs ep)->DenL K H S (kvs.map fun p=>kxV p.1 p.2.1) (kvs.map fun p=>kxD p.1)->kvs.map (·.2.2)=qs.map V.ref->p∉qs->Kids K H S qs ds->DeepO K H S (p :: qs) p (.dict (dkv kvs ds))
section
variable {K:PySem.W.Frag} {H H':Hp} {S S':Av} {p:Addr} {d:PyData} {fp qs:List Addr} {ds:List PyData}
theorem Kids.same (e:Same H H'):∀ {qs:List Addr} {ds:List PyData},Kids K H S qs ds->Kids K H' S qs ds
 | _,_,.nil=>.nil
 | _,_,.cons h t n r=>.cons (e _ _ h) (t.same e) n (r.same e)
theorem Kids.sub (e:∀ a,H a≠none->S' a->S a):∀ {qs:List Addr} {ds:List PyData},Kids K H S qs ds->Kids K H S' qs ds
 | _,_,.nil=>.nil
 | _,_,.cons h t n r=>.cons h (t.sub e) n (r.sub e)
theorem Kids.mut:∀ {qs:List Addr} {ds:List PyData},Kids K H S qs ds->∀ q∈qs,∃ o,H q=some o/\Z8 o=true
 | _,_,.nil,q,hq=>absurd hq (by simp)
 | _,_,.cons h t n r,q,hq=>by
  rcases List.mem_cons.mp hq with e | hq
  ·rw [e];exact ⟨_,h,rfl⟩
  ·exact r.mut q hq
theorem Kids.den (e:∀ a,H a≠none->S' a->S a):∀ {qs:List Addr} {ds:List PyData},(∀ q∈qs,¬ S' q)->Kids K H S qs ds->DenL K H S' (qs.map V.ref) ds
 | _,_,_,.nil=>.nil
 | _,_,n,.cons h t _ r=>.cons (.list (SqLS.new h (n _ (.head _))) (t.sub e)) (r.den e fun q hq=>n q (.tail _ hq))
theorem Kids.upd {q:Addr} {o:HO} (m:Dm S H) (hq:S q):∀ {qs:List Addr} {ds:List PyData},q∉qs->Kids K H S qs ds->Kids K (upd H q o) S qs ds
 | _,_,_,.nil=>.nil
 | _,_,n,.cons h t n' r=>.cons (by rw [qD (fun z=>n (by rw [z];exact .head _))];exact h) (t.off m fun b u z e=>by rw [qD (fun y=>z (by rw [y];exact hq))];exact e) n' (r.upd m hq fun z=>n (.tail _ z))
theorem DeepO.same (e:Same H H') (h:DeepO K H S fp p d):DeepO K H' S fp p d:=by
 cases h with
 | tpl h t=>exact .tpl (e _ _ h) (t.same e)
 | lst h n t=>exact .lst (e _ _ h) n (t.same e)
 | dct h k v n t=>exact .dct (e _ _ h) (k.same e) v n (t.same e)
theorem DeepO.sub (e:∀ a,H a≠none->S' a->S a) (h:DeepO K H S fp p d):DeepO K H S' fp p d:=by
 cases h with
 | tpl h t=>exact .tpl h (t.sub e)
 | lst h n t=>exact .lst h n (t.sub e)
 | dct h k v n t=>exact .dct h (k.sub e) v n (t.sub e)
theorem DeepO.mut (h:DeepO K H S fp p d):∀ q∈fp,∃ o,H q=some o/\Z8 o=true:=by
 cases h with
 | tpl h t=>exact t.mut
 | lst h n t=>exact fun q hq=>(List.mem_cons.mp hq).elim (fun e=>by rw [e];exact ⟨_,h,rfl⟩) (t.mut q)
 | dct h k v n t=>exact fun q hq=>(List.mem_cons.mp hq).elim (fun e=>by rw [e];exact ⟨_,h,rfl⟩) (t.mut q)
theorem DeepO.den (h:DeepO K H S fp p d) (n:∀ q∈fp,¬ S' q) (e:∀ a,H a≠none->S' a->S a):Den K H S' (.ref p) d:=by
 cases h with
 | tpl h t=>exact .tuple (.inl (.inl h)) (t.den e n)
 | lst h _ t=>exact .list (SqLS.new h (n _ (.head _))) (t.den e fun q hq=>n q (.tail _ hq))
 | dct h k v _ t=>exact .dict ⟨h,n _ (.head _)⟩ (k.sub e) (by rw [v];exact t.den e fun q hq=>n q (.tail _ hq))
theorem DeepO.upd {q:Addr} {o:HO} (m:Dm S H) (h:DeepO K H S fp p d) (hq:S q) (ne:q∉fp):DeepO K (upd H q o) S fp p d:=by
 have off:Off S H (L2.upd H q o):=fun b u n e=>by
  rw [qD (fun z=>n (by rw [z];exact hq))];exact e
 cases h with
 | tpl h t=>exact .tpl (by rw [qD (fun z=>m.tup (.inl h) (by rw [z];exact hq))];exact h) (t.upd m hq ne)
 | lst h n t=>exact .lst (by rw [qD (fun z=>ne (by rw [z];exact .head _))];exact h) n (t.upd m hq fun z=>ne (.tail _ z))
 | dct h k v n t=>exact .dct (by rw [qD (fun z=>ne (by rw [z];exact .head _))];exact h) (k.off m off) v n (t.upd m hq fun z=>ne (.tail _ z))
end
noncomputable abbrev Flt (M:List Nat) (i:Nat):Prop:=i∈M/\i + 1000∉M
noncomputable abbrev Dp (M:List Nat) (i:Nat):Prop:=i∈M/\i + 1000∈M
noncomputable abbrev Out0 (M:List Nat) (i:Nat):Prop:=i∉M/\i + 1000∉M/\i < 1000
structure SubM (A B:List Nat):Prop where
 sub:∀ i∈A,i∈B
 dp:∀ i∈A,i + 1000∈B->i + 1000∈A
theorem SubM.flt {A B:List Nat} {i:Nat} (h:SubM A B) (q:Flt A i):Flt B i:=⟨h.sub i q.1,fun z=>q.2 (h.dp i q.1 z)⟩
theorem SubM.deep {A B:List Nat} {i:Nat} (h:SubM A B) (q:Dp A i):Dp B i:=⟨h.sub i q.1,h.sub _ q.2⟩
noncomputable def Has (ρ:Rho) (i:Nat):Prop:=∃ d:PyData,ρ[i]?=some (some d)
structure DeepF (K:PySem.W.Frag) (G:Gm) (M:List Nat) (H:Hp) (S:Av) (σ:St) (ρ:Rho) (F:Nat->List Addr):Prop where
 own:∀ i,Dp M i->∀ d,ρ[i]?=some (some d)->∃ p,σ[i]?=some (some (.ref p))/\DeepO K H S (F i) p d/\∀ q∈F i,S q/\¬ G.S0 q/\G.H0 q=none
 disj:∀ i,Dp M i->∀ j,Dp M j->Has ρ i->Has ρ j->∀ q,q∈F i->q∈F j->i=j
 flat:∀ i,Flt M i->∀ j,Dp M j->Has ρ i->Has ρ j->∀ p,σ[i]?=some (some (.ref p))->p∉F j
structure OwnS (K:PySem.W.Frag) (G:Gm) (M L:List Nat) (H:Hp) (S:Av) (σ:St) (ρ:Rho):Prop where
 ds:DenS K H S M σ ρ
 s0:∀ a,G.S0 a->S a
 h0:Same G.H0 H
 own:∀ i,Flt M i->∀ d,ρ[i]?=some (some d)->∃ p,σ[i]?=some (some (.ref p))/\OwnO K H S p d/\S p/\¬ G.S0 p/\(i∉L->G.H0 p=none)/\(i∈L->(p,d)=G.lk i)
 apart:∀ i,Flt M i->∀ j,Flt M j->∀ d e p,ρ[i]?=some (some d)->ρ[j]?=some (some e)->σ[i]?=some (some (.ref p))->σ[j]?=some (some (.ref p))->i=j
 bnd:∀ a,S a->G.S0 a\/G.H0 a=none\/∃ i∈L,a=(G.lk i).1
 lkd:∀ i∈L,Flt M i/\ρ[i]?=some (some (G.lk i).2)
 deep:∃ F,DeepF K G M H S σ ρ F
section
variable {K:PySem.W.Frag} {G:Gm} {M M' L:List Nat} {H H':Hp} {S:Av} {σ:St} {ρ:Rho} {v:V} {d:PyData}
theorem OwnS.same (e:Same H H') (h:OwnS K G M L H S σ ρ):OwnS K G M L H' S σ ρ :=
 ⟨h.ds.same e,h.s0,h.h0.trans e,fun i hi d q=>let ⟨p,a,b,c⟩:=h.own i hi d q;⟨p,a,b.same e,c⟩,h.apart,h.bnd,h.lkd,let ⟨F,f⟩:=h.deep;⟨F,fun i hi d q=>let ⟨p,a,b,c⟩:=f.own i hi d q;⟨p,a,b.same e,c⟩,f.disj,f.flat⟩⟩
theorem OwnS.lks (h:OwnS K G M L H S σ ρ):∀ i∈L,S (G.lk i).1:=fun i hi=>by
 obtain ⟨hm,e⟩:=h.lkd i hi
 obtain ⟨p,_,_,c,_,_,w⟩:=h.own i hm _ e
 rw [← w hi];exact c
theorem OwnS.den (h:OwnS K G M L H S σ ρ):DenS K H G.S0 [] σ ρ:=by
 refine ⟨h.ds.1.sub h.s0,h.ds.2.1,fun i d _ q=>?_⟩
 by_cases hi:i∈M
 ·by_cases hk:i + 1000∈M
  ·obtain ⟨F,f⟩:=h.deep
   obtain ⟨p,a,b,c⟩:=f.own i ⟨hi,hk⟩ d q
   exact ⟨_,a,b.den (fun q hq=>(c q hq).2.1) fun a _ z=>h.s0 a z⟩
  ·obtain ⟨p,a,b,c,n,_⟩:=h.own i ⟨hi,hk⟩ d q
   exact ⟨_,a,b.den n fun a _ z=>h.s0 a z⟩
 ·obtain ⟨v,a,b⟩:=h.ds.2.2 i d hi q
  exact ⟨v,a,b.sub fun a _ z=>h.s0 a z⟩
theorem qp {α:Type} {xs:List α} {i j:Nat} {x:α} (h:i≠j):(xs.set i x)[j]?=xs[j]?:=List.getElem?_set_ne h
theorem OwnS.set (h:OwnS K G M L H S σ ρ) (q:Den K H S v d) {i:Nat} (hi:i∉M):OwnS K G M L H S (σ.set i (some v)) (ρ.set i (some d)):=by
 have ne:∀ j∈M,i≠j:=fun j hj e=>hi (by rw [e];exact hj)
 obtain ⟨F,f⟩:=h.deep
 refine ⟨h.ds.set q i,h.s0,h.h0,fun j hj e he=>?_,fun j hj k hk e e' p h1 h2 h3 h4=>?_,h.bnd,fun j hj=>⟨(h.lkd j hj).1,by rw [qp (ne j (h.lkd j hj).1.1)];exact (h.lkd j hj).2⟩,F,fun j hj e he=>?_,fun j hj k hk h1 h2=>?_,fun j hj k hk h1 h2 p h3=>?_⟩
 ·rw [qp (ne j hj.1)] at he ⊢
  exact h.own j hj e he
 ·rw [qp (ne j hj.1)] at h1 h3
  rw [qp (ne k hk.1)] at h2 h4
  exact h.apart j hj k hk e e' p h1 h2 h3 h4
 ·rw [qp (ne j hj.1)] at he ⊢
  exact f.own j hj e he
 ·unfold Has at h1 h2
  rw [qp (ne j hj.1)] at h1
  rw [qp (ne k hk.1)] at h2
  exact f.disj j hj k hk h1 h2
 ·unfold Has at h1 h2
  rw [qp (ne j hj.1)] at h1 h3
  rw [qp (ne k hk.1)] at h2
  exact f.flat j hj k hk h1 h2 p h3
theorem OwnS.frz (h:OwnS K G M L H S σ ρ) (hs:SubM M' M) (hl:∀ i∈L,i∈M->i∈M'):∃ S',OwnS K G M' L H S' σ ρ:=by
 obtain ⟨F,f⟩:=h.deep
 have sb:∀ a,(S a/\(¬ ∃ i,Flt M i/\i∉M'/\Has ρ i/\σ[i]?=some (some (.ref a)))/\¬ ∃ i,Dp M i/\i∉M'/\Has ρ i/\a∈F i)->S a:=fun a z=>z.1
 refine ⟨fun a=>S a/\(¬ ∃ i,Flt M i/\i∉M'/\Has ρ i/\σ[i]?=some (some (.ref a)))/\¬ ∃ i,Dp M i/\i∉M'/\Has ρ i/\a∈F i,⟨?_,?_,?_⟩,?_,h.h0,?_,?_,?_,fun i hi=>⟨⟨hl i hi (h.lkd i hi).1.1,fun z=>(h.lkd i hi).1.2 (hs.sub _ z)⟩,(h.lkd i hi).2⟩,F,?_,?_,?_⟩
 ·exact h.ds.1.sub fun a z=>z.1
 ·exact h.ds.2.1
 ·intro i d hi q
  by_cases hm:i∈M
  ·by_cases hk:i + 1000∈M
   ·obtain ⟨p,a,b,c⟩:=f.own i ⟨hm,hk⟩ d q
    exact ⟨_,a,b.den (fun r hr z=>z.2.2 ⟨i,⟨hm,hk⟩,hi,⟨d,q⟩,hr⟩) fun a _ z=>z.1⟩
   ·obtain ⟨p,a,b,c,_⟩:=h.own i ⟨hm,hk⟩ d q
    exact ⟨_,a,b.den (fun z=>z.2.1 ⟨i,⟨hm,hk⟩,hi,⟨d,q⟩,a⟩) fun a _ z=>z.1⟩
  ·obtain ⟨v,a,b⟩:=h.ds.2.2 i d hm q
   exact ⟨v,a,b.sub fun a _ z=>z.1⟩
 ·intro a ha
  refine ⟨h.s0 a ha,fun ⟨i,hm,hi,⟨d,q⟩,e⟩=>?_,fun ⟨i,hm,hi,⟨d,q⟩,e⟩=>?_⟩
  ·obtain ⟨p,e',b,c,n,_⟩:=h.own i hm d q
   rw [e] at e';cases e'
   exact n ha
  ·obtain ⟨p,e',b,c⟩:=f.own i hm d q
   exact (c a e).2.1 ha
 ·intro i hi d q
  obtain ⟨p,a,b,c,n,w,w'⟩:=h.own i (hs.flt hi) d q
  refine ⟨p,a,b.sub fun a _ z=>z.1,⟨c,fun ⟨j,hj,hj',⟨e,q'⟩,a'⟩=>?_,fun ⟨j,hj,hj',q',a'⟩=>?_⟩,n,w,w'⟩
  ·have:=h.apart i (hs.flt hi) j hj d e p q q' a a'
   subst this
   exact hj' hi.1
  ·exact f.flat i (hs.flt hi) j hj ⟨d,q⟩ q' p a a'
 ·exact fun i hi j hj=>h.apart i (hs.flt hi) j (hs.flt hj)
 ·exact fun a z=>h.bnd a z.1
 ·intro i hi d q
  obtain ⟨p,a,b,c⟩:=f.own i (hs.deep hi) d q
  refine ⟨p,a,b.sub fun a _ z=>z.1,fun r hr=>⟨⟨(c r hr).1,fun ⟨j,hj,hj',q',a'⟩=>?_,fun ⟨j,hj,hj',q',a'⟩=>?_⟩,(c r hr).2⟩⟩
  ·exact f.flat j hj i (hs.deep hi) q' ⟨d,q⟩ r a' hr
  ·have:=f.disj i (hs.deep hi) j hj ⟨d,q⟩ q' r hr a'
   subst this
   exact hj' hi.1
 ·exact fun i hi j hj=>f.disj i (hs.deep hi) j (hs.deep hj)
 ·exact fun i hi j hj=>f.flat i (hs.flt hi) j (hs.deep hj)
theorem qjm {i j:Nat} (hi:Out0 M i) (hj:Flt M j):Flt (i :: M) j:=⟨.tail _ hj.1,fun z=>by rcases List.mem_cons.mp z with e | z;(have:=hi.2.2;omega);exact hj.2 z⟩
theorem JR {i j:Nat} (hj:Flt (i :: M) j) (ne:i≠j):Flt M j:=⟨(List.mem_cons.mp hj.1).resolve_left fun z=>ne z.symm,fun z=>hj.2 (.tail _ z)⟩
theorem qcU {i j:Nat} (hi:Out0 M i) (hj:Dp (i :: M) j):Dp M j:=by
 have q:j + 1000∈M:=(List.mem_cons.mp hj.2).resolve_left fun z=>by have:=hi.2.2;omega
 refine ⟨(List.mem_cons.mp hj.1).resolve_left fun z=>hi.2.1 (by rw [← z];exact q),q⟩
theorem OwnS.take (h:OwnS K G M L H S σ ρ) {p:Addr} {i:Nat} (hn:H p=none) (e:Same H H') (o:OwnO K H' (insA S p) p d) (hi:Out0 M i) (hl:i∉L) (hz:i < ρ.length):OwnS K G (i :: M) L H' (insA S p) (σ.set i (some (.ref p))) (ρ.set i (some d)):=by
 have np:¬ S p:=h.ds.1.free hn
 have sub:∀ a,H a≠none->insA S p a->S a:=fun a ha z=>by
  rcases z with z | rfl
  ·exact z
  ·exact absurd hn ha
 have ne:∀ j∈M,i≠j:=fun j hj e=>hi.1 (by rw [e];exact hj)
 have hz':i < σ.length:=by rw [h.ds.2.1];exact hz
 have gi:(ρ.set i (some d))[i]?=some (some d):=List.getElem?_set_self hz
 have gi':(σ.set i (some (.ref p)))[i]?=some (some (.ref p)):=List.getElem?_set_self hz'
 obtain ⟨F,f⟩:=h.deep
 refine ⟨⟨(h.ds.1.same e).ins o.mut,by rw [List.length_set,List.length_set];exact h.ds.2.1,fun j d' hj q=>?_⟩,fun a z=>.inl (h.s0 a z),h.h0.trans e,fun j hj d' q=>?_,fun j hj k hk d1 d2 q h1 h2 h3 h4=>?_,fun a z=>?_,fun j hj=>⟨qjm hi (h.lkd j hj).1,by rw [qp (fun z=>hl (by rw [z];exact hj))];exact (h.lkd j hj).2⟩,
  F,fun j hj d' q=>?_,fun j hj k hk h1 h2=>?_,fun j hj k hk h1 h2 r h3=>?_⟩
 ·have hij:i≠j:=fun z=>hj (by rw [z];exact .head _)
  rw [qp hij] at q ⊢
  obtain ⟨v,a,b⟩:=h.ds.2.2 j d' (fun z=>hj (.tail _ z)) q
  exact ⟨v,a,(b.sub sub).same e⟩
 ·by_cases hij:i=j
  ·subst hij
   rw [gi] at q;cases q
   exact ⟨p,gi',o,.inr rfl,fun z=>np (h.s0 p z),fun _=>h.h0.free hn,fun z=>absurd z hl⟩
  ·rw [qp hij] at q ⊢
   obtain ⟨q',a,b,c,n,w⟩:=h.own j (JR hj hij) d' q
   exact ⟨q',a,(b.sub sub).same e,.inl c,n,w⟩
 ·have key:∀ m,Flt M m->∀ (d':PyData) (q:Addr),(ρ.set i (some d))[m]?=some (some d')->(σ.set i (some (.ref p)))[m]?=some (some (.ref q))->q≠p:=fun m hm d' q e1 e2 z=>by
   rw [qp (ne m hm.1)] at e1 e2
   obtain ⟨q',a,b,_⟩:=h.own m hm d' e1
   rw [e2] at a;cases a
   subst z
   exact b.dom hn
  by_cases ej:i=j
  ·by_cases ek:i=k
   ·rw [← ej,← ek]
   ·rw [← ej,gi'] at h3
    cases h3
    exact absurd rfl (key k (JR hk ek) d2 p h2 h4)
  ·by_cases ek:i=k
   ·rw [← ek,gi'] at h4
    cases h4
    exact absurd rfl (key j (JR hj ej) d1 p h1 h3)
   ·rw [qp ej] at h1 h3
    rw [qp ek] at h2 h4
    exact h.apart j (JR hj ej) k (JR hk ek) d1 d2 q h1 h2 h3 h4
 ·rcases z with z | rfl
  ·exact h.bnd a z
  ·exact .inr (.inl (h.h0.free hn))
 ·have hj':=qcU hi hj
  rw [qp (ne j hj'.1)] at q ⊢
  obtain ⟨q',a,b,c⟩:=f.own j hj' d' q
  exact ⟨q',a,(b.sub sub).same e,fun r hr=>⟨.inl (c r hr).1,(c r hr).2⟩⟩
 ·have hj':=qcU hi hj
  have hk':=qcU hi hk
  unfold Has at h1 h2
  rw [qp (ne j hj'.1)] at h1
  rw [qp (ne k hk'.1)] at h2
  exact f.disj j hj' k hk' h1 h2
 ·have hk':=qcU hi hk
  unfold Has at h1 h2
  rw [qp (ne k hk'.1)] at h2
  by_cases ej:i=j
  ·rw [← ej,gi'] at h3
   cases h3
   obtain ⟨d2,e2⟩:=h2
   obtain ⟨q',a,b,c⟩:=f.own k hk' d2 e2
   intro z
   obtain ⟨o2,z2,_⟩:=b.mut p z
   rw [hn] at z2;cases z2
  ·rw [qp ej] at h1 h3
   exact f.flat j (JR hj ej) k hk' h1 h2 r h3
noncomputable def insL (S:Av) (fp:List Addr):Av:=fun a=>S a\/a∈fp
theorem Dm.insL {fp:List Addr} (m:Dm S H) (h:∀ q∈fp,∃ o,H q=some o/\Z8 o=true):Dm (insL S fp) H:=fun a ha=>by
 rcases ha with ha | ha
 ·exact m a ha
 ·exact h a ha
theorem qgH {i j:Nat} (hj:j∈i :: (i + 1000) :: M) (ne:i≠j) (n2:j≠i + 1000):j∈M:=(List.mem_cons.mp ((List.mem_cons.mp hj).resolve_left fun z=>ne z.symm)).resolve_left n2
theorem yM {i j:Nat} (hj:Flt (i :: (i + 1000) :: M) j) (n2:j≠i + 1000):i≠j/\Flt M j:=by
 have ne:i≠j:=fun z=>hj.2 (by rw [← z];exact .tail _ (.head _))
 exact ⟨ne,qgH hj.1 ne n2,fun z=>hj.2 (.tail _ (.tail _ z))⟩
theorem qcu {i j:Nat} (hi:i < 1000) (hj:Dp (i :: (i + 1000) :: M) j) (ne:i≠j) (n2:j≠i + 1000):Dp M j:=by
 refine ⟨qgH hj.1 ne n2,?_⟩
 rcases List.mem_cons.mp hj.2 with z | z
 ·omega
 ·rcases List.mem_cons.mp z with z | z
  ·omega
  ·exact z
theorem qkE {i j:Nat} (hi:i < 1000) (hj:Flt M j) (ne:i≠j):Flt (i :: (i + 1000) :: M) j:=⟨.tail _ (.tail _ hj.1),fun z=>by
 rcases List.mem_cons.mp z with z | z
 ·omega
 ·rcases List.mem_cons.mp z with z | z
  ·omega
  ·exact hj.2 z⟩
theorem qjo {i:Nat} (h:Has ρ i):i < ρ.length:=by
 obtain ⟨d,e⟩:=h
 exact (List.getElem?_eq_some_iff.mp e).1
theorem OwnS.takeD (h:OwnS K G M L H S σ ρ) {p:Addr} {fp:List Addr} {i:Nat} (hn:∀ q∈fp,H q=none) (e:Same H H') (o:DeepO K H' (insL S fp) fp p d) (hi:Out0 M i) (hl:i∉L) (hz:i < ρ.length) (hz2:ρ.length <= 1000) :
  OwnS K G (i :: (i + 1000) :: M) L H' (insL S fp) (σ.set i (some (.ref p))) (ρ.set i (some d)):=by
 have sub:∀ a,H a≠none->insL S fp a->S a:=fun a ha z=>by
  rcases z with z | z
  ·exact z
  ·exact absurd (hn a z) ha
 have hz':i < σ.length:=by rw [h.ds.2.1];exact hz
 have gi:(ρ.set i (some d))[i]?=some (some d):=List.getElem?_set_self hz
 have gi':(σ.set i (some (.ref p)))[i]?=some (some (.ref p)):=List.getElem?_set_self hz'
 have n2:∀ j,Has (ρ.set i (some d)) j->j≠i + 1000:=fun j hj=>by
  have:=qjo hj
  rw [List.length_set] at this
  omega
 obtain ⟨F,f⟩:=h.deep
 have fne:∀ j,j≠i->(if j=i then fp else F j)=F j:=fun j hj=>if_neg hj
 refine ⟨⟨(h.ds.1.same e).insL o.mut,by rw [List.length_set,List.length_set];exact h.ds.2.1,fun j d' hj q=>?_⟩,fun a z=>.inl (h.s0 a z),h.h0.trans e,fun j hj d' q=>?_,fun j hj k hk d1 d2 q h1 h2 h3 h4=>?_,fun a z=>?_,fun j hj=>?_,
  fun j=>if j=i then fp else F j,fun j hj d' q=>?_,fun j hj k hk h1 h2=>?_,fun j hj k hk h1 h2 r h3=>?_⟩
 ·have hij:i≠j:=fun z=>hj (by rw [z];exact .head _)
  rw [qp hij] at q ⊢
  obtain ⟨v,a,b⟩:=h.ds.2.2 j d' (fun z=>hj (.tail _ (.tail _ z))) q
  exact ⟨v,a,(b.sub sub).same e⟩
 ·obtain ⟨hij,hj'⟩:=yM hj (n2 j ⟨d',q⟩)
  rw [qp hij] at q ⊢
  obtain ⟨q',a,b,c,n,w⟩:=h.own j hj' d' q
  exact ⟨q',a,(b.sub sub).same e,.inl c,n,w⟩
 ·obtain ⟨ej,hj'⟩:=yM hj (n2 j ⟨d1,h1⟩)
  obtain ⟨ek,hk'⟩:=yM hk (n2 k ⟨d2,h2⟩)
  rw [qp ej] at h1 h3
  rw [qp ek] at h2 h4
  exact h.apart j hj' k hk' d1 d2 q h1 h2 h3 h4
 ·rcases z with z | z
  ·exact h.bnd a z
  ·exact .inr (.inl (h.h0.free (hn a z)))
 ·have ne:i≠j:=fun z=>hl (by rw [z];exact hj)
  exact ⟨qkE hi.2.2 (h.lkd j hj).1 ne,by rw [qp ne];exact (h.lkd j hj).2⟩
 ·by_cases hij:i=j
  ·subst hij
   rw [gi] at q;cases q
   rw [if_pos rfl]
   exact ⟨p,gi',o,fun r hr=>⟨.inr hr,fun z=>h.ds.1.free (hn r hr) (h.s0 r z),h.h0.free (hn r hr)⟩⟩
  ·rw [fne j (Ne.symm hij)]
   have hj':=qcu hi.2.2 hj hij (n2 j ⟨d',q⟩)
   rw [qp hij] at q ⊢
   obtain ⟨q',a,b,c⟩:=f.own j hj' d' q
   exact ⟨q',a,(b.sub sub).same e,fun r hr=>⟨.inl (c r hr).1,(c r hr).2⟩⟩
 ·have old:∀ j,i≠j->Dp (i :: (i + 1000) :: M) j->Has (ρ.set i (some d)) j->Has ρ j/\Dp M j/\∀ r∈F j,r∉fp:=fun j ne hj h1=>by
   have hj':=qcu hi.2.2 hj ne (n2 j h1)
   unfold Has at h1
   rw [qp ne] at h1
   refine ⟨h1,hj',fun r hr z=>?_⟩
   obtain ⟨d2,e2⟩:=h1
   obtain ⟨q',a,b,c⟩:=f.own j hj' d2 e2
   obtain ⟨o2,z2,_⟩:=b.mut r hr
   rw [hn r z] at z2;cases z2
  intro r hr hr'
  by_cases ej:i=j
  ·by_cases ek:i=k
   ·rw [← ej,← ek]
   ·rw [if_pos ej.symm] at hr
    rw [fne k (Ne.symm ek)] at hr'
    exact absurd hr ((old k ek hk h2).2.2 r hr')
  ·rw [fne j (Ne.symm ej)] at hr
   by_cases ek:i=k
   ·rw [if_pos ek.symm] at hr'
    exact absurd hr' ((old j ej hj h1).2.2 r hr)
   ·rw [fne k (Ne.symm ek)] at hr'
    exact f.disj j (old j ej hj h1).2.1 k (old k ek hk h2).2.1 (old j ej hj h1).1 (old k ek hk h2).1 r hr hr'
 ·obtain ⟨ej,hj'⟩:=yM hj (n2 j h1)
  obtain ⟨d1,e1⟩:=h1
  rw [qp ej] at e1 h3
  by_cases ek:i=k
  ·rw [if_pos ek.symm]
   intro z
   obtain ⟨q',a,b,c⟩:=h.own j hj' d1 e1
   rw [h3] at a;cases a
   exact b.dom (hn _ z)
  ·rw [fne k (Ne.symm ek)]
   have hk':=qcu hi.2.2 hk ek (n2 k h2)
   unfold Has at h2
   rw [qp ek] at h2
   exact f.flat j hj' k hk' ⟨d1,e1⟩ h2 r h3
theorem OwnS.write (h:OwnS K G M L H S σ ρ) {p:Addr} {i:Nat} {o:HO} {d₀:PyData} (hi:Flt M i) (hl:i∉L) (e0:ρ[i]?=some (some d₀)) (e1:σ[i]?=some (some (.ref p))) (hm:Z8 o=true) (ow:OwnO K (upd H p o) S p d):OwnS K G M L (upd H p o) S σ (ρ.set i (some d)):=by
 obtain ⟨p',a,b,c,n,w,_⟩:=h.own i hi d₀ e0
 rw [e1] at a;cases a
 have off:Off S H (upd H p o):=fun b u z e=>by
  rw [qD (fun y=>z (by rw [y];exact c))];exact e
 have hz:i < ρ.length:=(List.getElem?_eq_some_iff.mp e0).1
 have get:∀ m d',(ρ.set i (some d))[m]?=some (some d')->∃ d'',ρ[m]?=some (some d''):=fun m d' q=>by
  by_cases him:i=m
  ·subst him;exact ⟨_,e0⟩
  ·rw [qp him] at q;exact ⟨_,q⟩
 have get2:∀ m,Has (ρ.set i (some d)) m->Has ρ m:=fun m ⟨d',q⟩=>get m d' q
 have dne:∀ j,Dp M j->i≠j:=fun j hj z=>hi.2 (by rw [z];exact hj.2)
 obtain ⟨F,f⟩:=h.deep
 refine ⟨⟨h.ds.1.upd hm,by rw [List.length_set];exact h.ds.2.1,fun j d' hj q=>?_⟩,h.s0,fun a u q=>?_,fun j hj d' q=>?_,fun j hj k hk d1 d2 q h1 h2 h3 h4=>?_,h.bnd,fun j hj=>⟨(h.lkd j hj).1,by rw [qp (fun z=>hl (by rw [z];exact hj))];exact (h.lkd j hj).2⟩,
  F,fun j hj d' q=>?_,fun j hj k hk h1 h2=>f.disj j hj k hk (get2 j h1) (get2 k h2),fun j hj k hk h1 h2=>f.flat j hj k hk (get2 j h1) (get2 k h2)⟩
 ·have hij:i≠j:=fun z=>hj (by rw [← z];exact hi.1)
  rw [qp hij] at q
  obtain ⟨v,a,b⟩:=h.ds.2.2 j d' hj q
  exact ⟨v,a,b.off h.ds.1 off⟩
 ·have:a≠p:=fun z=>by subst z;rw [w hl] at q;cases q
  rw [qD this]
  exact h.h0 a u q
 ·by_cases hij:i=j
  ·subst hij
   rw [List.getElem?_set_self hz] at q;cases q
   exact ⟨p,e1,ow,c,n,w,fun z=>absurd z hl⟩
  ·rw [qp hij] at q
   obtain ⟨q',a,b',c',n',w'⟩:=h.own j hj d' q
   have:q'≠p:=fun z=>by subst z;exact hij (h.apart i hi j hj d₀ d' q' e0 q e1 a)
   exact ⟨q',a,b'.upd h.ds.1 c hm this,c',n',w'⟩
 ·obtain ⟨x1,y1⟩:=get j d1 h1
  obtain ⟨x2,y2⟩:=get k d2 h2
  exact h.apart j hj k hk x1 x2 q y1 y2 h3 h4
 ·rw [qp (dne j hj)] at q
  obtain ⟨q',a,b',c'⟩:=f.own j hj d' q
  exact ⟨q',a,b'.upd h.ds.1 c (f.flat i hi j hj ⟨_,e0⟩ ⟨_,q⟩ p e1),c'⟩
theorem OwnS.writeD (h:OwnS K G M L H S σ ρ) {F:Nat->List Addr} (f:DeepF K G M H S σ ρ F) {p q2:Addr} {i:Nat} {o:HO} {d₀:PyData} (hi:Dp M i) (e0:ρ[i]?=some (some d₀)) (e1:σ[i]?=some (some (.ref p))) (hq:q2∈F i) (hm:Z8 o=true) (ow:DeepO K (upd H q2 o) S (F i) p d) :
  OwnS K G M L (upd H q2 o) S σ (ρ.set i (some d)):=by
 obtain ⟨p',a,b,cc⟩:=f.own i hi d₀ e0
 rw [e1] at a;cases a
 obtain ⟨c,n,w⟩:=cc q2 hq
 have off:Off S H (upd H q2 o):=fun b u z e=>by
  rw [qD (fun y=>z (by rw [y];exact c))];exact e
 have hz:i < ρ.length:=(List.getElem?_eq_some_iff.mp e0).1
 have get:∀ m d',(ρ.set i (some d))[m]?=some (some d')->∃ d'',ρ[m]?=some (some d''):=fun m d' q=>by
  by_cases him:i=m
  ·subst him;exact ⟨_,e0⟩
  ·rw [qp him] at q;exact ⟨_,q⟩
 have get2:∀ m,Has (ρ.set i (some d)) m->Has ρ m:=fun m ⟨d',q⟩=>get m d' q
 have dne:∀ j,Flt M j->i≠j:=fun j hj z=>hj.2 (by rw [← z];exact hi.2)
 refine ⟨⟨h.ds.1.upd hm,by rw [List.length_set];exact h.ds.2.1,fun j d' hj q=>?_⟩,h.s0,fun a u q=>?_,fun j hj d' q=>?_,fun j hj k hk d1 d2 q h1 h2 h3 h4=>?_,h.bnd,fun j hj=>⟨(h.lkd j hj).1,by rw [qp (dne j (h.lkd j hj).1)];exact (h.lkd j hj).2⟩,
  F,fun j hj d' q=>?_,fun j hj k hk h1 h2=>f.disj j hj k hk (get2 j h1) (get2 k h2),fun j hj k hk h1 h2=>f.flat j hj k hk (get2 j h1) (get2 k h2)⟩
 ·have hij:i≠j:=fun z=>hj (by rw [← z];exact hi.1)
  rw [qp hij] at q
  obtain ⟨v,a,b⟩:=h.ds.2.2 j d' hj q
  exact ⟨v,a,b.off h.ds.1 off⟩
 ·have e2:=h.h0 a u q
  by_cases ne:a=q2
  ·rw [ne,w] at q;cases q
  ·rw [qD ne];exact e2
 ·rw [qp (dne j hj)] at q
  obtain ⟨q',a,b',c',n',w'⟩:=h.own j hj d' q
  exact ⟨q',a,b'.upd h.ds.1 c hm (fun z=>by subst z;exact f.flat j hj i hi ⟨_,q⟩ ⟨_,e0⟩ _ a hq),c',n',w'⟩
 ·rw [qp (dne j hj)] at h1
  rw [qp (dne k hk)] at h2
  exact h.apart j hj k hk d1 d2 q h1 h2 h3 h4
 ·by_cases hij:i=j
  ·subst hij
   rw [List.getElem?_set_self hz] at q;cases q
   exact ⟨p,e1,ow,cc⟩
  ·rw [qp hij] at q
   obtain ⟨q',a,b',c'⟩:=f.own j hj d' q
   exact ⟨q',a,b'.upd h.ds.1 c (fun z=>hij (f.disj i hi j hj ⟨_,e0⟩ ⟨_,q⟩ _ hq z)),c'⟩
noncomputable def cut (P:Prop) (o:Option HO):Option HO:=@ite _ P (Classical.propDecidable P) none o
theorem yE {P:Prop} {o:Option HO} (h:P):cut P o=none:=if_pos h
theorem WQ {P:Prop} {o:Option HO} (h:¬ P):cut P o=o:=if_neg h
noncomputable def Gm.base (G:Gm) (S:Av) (H:Hp):Gm:={ G with H0:=fun a=>cut (S a/\G.H0 a=none) (H a) }
theorem qdF (h:Same G.H0 H):Same G.H0 (G.base S H).H0:=fun a o q=>(WQ (fun z=>by rw [q] at z;cases z.2)).trans (h a o q)
theorem qe2:Off S H (G.base S H).H0:=fun a o n q=>(WQ (fun z=>n z.1)).trans q
theorem qgU:Same (G.base S H).H0 H:=fun a o q=>by
 have q:cut (S a/\G.H0 a=none) (H a)=some o:=q
 by_cases h:S a/\G.H0 a=none
 ·rw [yE h] at q;cases q
 ·rw [WQ h] at q;exact q
theorem OwnS.base (h:OwnS K G M L H S σ ρ):OwnS K (G.base S H) M L H S σ ρ:=by
 obtain ⟨F,f⟩:=h.deep
 refine ⟨h.ds,h.s0,qgU,fun i hi d q=>?_,h.apart,fun a z=>?_,h.lkd,F,fun i hi d q=>let ⟨p,a,b,c⟩:=f.own i hi d q;⟨p,a,b,fun r hr=>⟨(c r hr).1,(c r hr).2.1,yE ⟨(c r hr).1,(c r hr).2.2⟩⟩⟩,f.disj,f.flat⟩
 ·obtain ⟨p,a,b,c,n,w,w'⟩:=h.own i hi d q
  exact ⟨p,a,b,c,n,fun hl=>yE ⟨c,w hl⟩,w'⟩
 ·rcases h.bnd a z with y | y | y
  ·exact .inl y
  ·exact .inr (.inl (yE ⟨z,y⟩))
  ·exact .inr (.inr y)
theorem OwnS.unbase {G':Gm} (s:Same G.H0 G'.H0) (e:G'.S0=G.S0) (e':G'.lk=G.lk) (h:OwnS K G' M L H S σ ρ):OwnS K G M L H S σ ρ:=by
 obtain ⟨F,f⟩:=h.deep
 refine ⟨h.ds,by rw [← e];exact h.s0,s.trans h.h0,fun i hi d q=>?_,h.apart,fun a z=>?_,by rw [← e'];exact h.lkd,F,fun i hi d q=>let ⟨p,a,b,c⟩:=f.own i hi d q;⟨p,a,b,fun r hr=>⟨(c r hr).1,by rw [← e];exact (c r hr).2.1,s.free (c r hr).2.2⟩⟩,f.disj,f.flat⟩
 ·obtain ⟨p,a,b,c,n,w,w'⟩:=h.own i hi d q
  exact ⟨p,a,b,c,by rw [← e];exact n,fun hl=>s.free (w hl),by rw [← e'];exact w'⟩
 ·rcases h.bnd a z with y | y | y
  ·exact .inl (by rw [← e];exact y)
  ·exact .inr (.inl (s.free y))
  ·exact .inr (.inr (by rw [← e'];exact y))
theorem OwnS.turn {G':Gm} {S':Av} {x:V} (s0:∀ a,G'.S0 a->S a) (sl:∀ i∈L,S (G'.lk i).1) (h:OwnS K G' M L H S' σ ρ) (q:Den K G'.H0 S x d):Den K H S' x d:=by
 refine (q.sub fun a ha z=>?_).same h.h0
 rcases h.bnd a z with y | y | ⟨i,hi,rfl⟩
 ·exact s0 a y
 ·exact absurd y ha
 ·exact sl i hi
end
inductive Fr where
 | pl | nw | dp
noncomputable def OutQ (K:PySem.W.Frag) (G:Gm) (M' Mb L:List Nat) (fr:Fr) (D:Ends):Out->Prop
 | .nx ρ=>∀ σ' H' S',OwnS K G M' L H' S' σ' ρ->D.nx σ' H'
 | .rt d=>match fr with
  | .nw=>∀ p H',Same G.H0 H'->G.H0 p=none->¬ G.S0 p->OwnO K H' (insA G.S0 p) p d->D.rt (.ref p) H'
  | .dp=>∀ p fp H',Same G.H0 H'->(∀ q∈fp,G.H0 q=none/\¬ G.S0 q)->DeepO K H' (insL G.S0 fp) fp p d->D.rt (.ref p) H'
  | .pl=>∀ v H',Same G.H0 H'->Den K H' G.S0 v d->D.rt v H'
 | .bk ρ=>∀ σ' H' S',OwnS K G Mb L H' S' σ' ρ->D.bk σ' H'
 | .ct ρ=>∀ σ' H' S',OwnS K G Mb L H' S' σ' ρ->D.ct σ' H'
noncomputable def tDS (K:PySem.W.Frag) (G:Gm) (M L M' Mb:List Nat) (fr:Fr) (f:Rho->Option Out):TS:=fun D σ H=>∃ S ρ o,OwnS K G M L H S σ ρ/\f ρ=some o/\OutQ K G M' Mb L fr D o
noncomputable def PDS (X:Cx) (G:Gm) (M L M' Mb:List Nat) (fr:Fr) (s:Stmt) (f:Rho->Option Out):Prop:=PS X s (tDS X.K G M L M' Mb fr f)
noncomputable def PDSs (X:Cx) (G:Gm) (M L M' Mb:List Nat) (fr:Fr) (s:List Stmt) (f:Rho->Option Out):Prop:=PSs X s (tDS X.K G M L M' Mb fr f)
noncomputable def tF (K:PySem.W.Frag) (M:List Nat) (f:Rho->Option PyData):TE:=fun σ H Q=>∃ S ρ d,DenS K H S M σ ρ/\f ρ=some d/\∀ p H',Same H H'->H p=none->OwnO K H' (insA S p) p d->Q (.ref p) H'
noncomputable def PF (X:Cx) (M:List Nat) (e:Expr) (f:Rho->Option PyData):Prop:=PE X e (tF X.K M f)
noncomputable def qF (f:Rho->Option PyData):Rho->Option PyData:=fun ρ=>ob (f ρ) fun d=>if flat d=true then some d else none
noncomputable def wR:PyData->Bool
 | .list ds=>Jo ds
 | _=>false
noncomputable def Yq (f:Rho->Option PyData):Rho->Option PyData:=fun ρ=>ob (f ρ) fun d=>if wR d=true then some d else none
noncomputable def seqO (u w:Rho->Option Out) (ρ:Rho):Option Out:=ob (u ρ) fun o=>match o with | .nx ρ'=>w ρ' | o=>some o
section
variable {X:Cx} {G:Gm} {M M1 M2 M' Mb L:List Nat} {fr:Fr} {a b c:Expr} {es:List Expr} {f g:Rho->Option PyData} {p:Rho->Option Bool} {pos:Pos} {s1:Stmt} {ss st1 st2:List Stmt} {u w:Rho->Option Out}
theorem Q7 (h:PF X M a f):PD X M a f:=h.weak fun σ H Q ⟨S,ρ,d,hs,e,q⟩=>⟨S,ρ,d,hs,e,fun p H' g n o=>q _ H' g (o.den (hs.1.free n) fun a _ z=>.inl z)⟩
theorem OwnO.flat {K:PySem.W.Frag} {H:Hp} {S S':Av} {p:Addr} {d:PyData} (fl:wR d=true) (h:OwnO K H S p d):OwnO K H S' p d:=by
 cases h with
 | lst h t=>exact .lst h (t.flat fl)
 | dct h k t=>cases fl
theorem Qc:PDSs X G M L M Mb fr [] sN:=qh5.weak fun D σ H ⟨S,ρ,o,hs,e,q⟩=>by cases e;exact q σ H S hs
theorem qm (h1:PDS X G M L M1 Mb fr s1 u) (h2:PDSs X G M1 L M2 Mb fr ss w):PDSs X G M L M2 Mb fr (s1 :: ss) (seqO u w) :=
 (qgq h1 h2).weak fun D σ H ⟨S,ρ,o,hs,e,q⟩=>by
  obtain ⟨o1,e1,e⟩:=qi e
  refine ⟨S,ρ,o1,hs,e1,?_⟩
  cases o1 with
  | nx ρ'=>exact fun σ' H' S' hs'=>⟨S',ρ',o,hs',e,q⟩
  | rt d=>cases e;exact q
  | bk d=>cases e;exact q
  | ct d=>cases e;exact q
theorem qt (h1:PDS X G M L M' Mb fr s1 u):PDSs X G M L M' Mb fr [s1] u:=qh6 h1
noncomputable def subB (A B:List Nat):Bool:=A.all fun i=>B.contains i && (!(B.contains (i + 1000)) || A.contains (i + 1000))
theorem qcq {A B:List Nat} (h:subB A B=true):∀ i∈A,i∈B:=fun i hi=>by
 have:=List.all_eq_true.mp h i hi
 rw [Bool.and_eq_true] at this
 simpa using this.1
theorem qdu {A B:List Nat} (h:subB A B=true):SubM A B:=⟨qcq h,fun i hi hk=>by
 have:=List.all_eq_true.mp h i hi
 rw [Bool.and_eq_true,Bool.or_eq_true] at this
 rcases this.2 with z | z
 ·rw [Bool.not_eq_true',← Bool.not_eq_true] at z
  exact absurd (by simpa using hk) z
 ·simpa using z⟩
theorem qea (h:PDS X G M1 L M' Mb fr s1 u) (h1:subB M1 M=true:=by decide) (h2:subB L M1=true:=by decide):PDS X G M L M' Mb fr s1 u :=
 h.weak fun D σ H ⟨S,ρ,o,hs,e,q⟩=>let ⟨S',hs'⟩:=hs.frz (qdu h1) fun i hi _=>qcq h2 i hi;⟨S',ρ,o,hs',e,q⟩
theorem OutQ.drop {K:PySem.W.Frag} {D:Ends} {o:Out} (h1:subB M1 M'=true) (h2:subB L M1=true) (q:OutQ K G M1 Mb L fr D o):OutQ K G M' Mb L fr D o:=by
 cases o with
 | nx ρ=>exact fun σ' H' S' hs=>let ⟨S2,hs2⟩:=hs.frz (qdu h1) fun i hi _=>qcq h2 i hi;q σ' H' S2 hs2
 | rt d=>exact q
 | bk ρ=>exact q
 | ct ρ=>exact q
theorem qhT (h:PDSs X G M L M' Mb fr ss u) (h1:subB M1 M'=true:=by decide) (h2:subB L M1=true:=by decide):PDSs X G M L M1 Mb fr ss u :=
 h.weak fun D σ H ⟨S,ρ,o,hs,e,q⟩=>⟨S,ρ,o,hs,e,q.drop h1 h2⟩
theorem qI (h:PD X [] a f):PDS X G M L M' Mb .pl (.Return (some a) pos) (sRet f) :=
 (qgp h).weak fun D σ H ⟨S,ρ,o,hs,e,q⟩=>by
  obtain ⟨d,e1,e⟩:=qi e
  cases e
  exact ⟨G.S0,ρ,d,hs.den,e1,fun v H' g1 d1=>q v H' (hs.h0.trans g1) d1⟩
theorem qga (h:PF X [] a f):PDS X G M L M' Mb .nw (.Return (some a) pos) (sRet f) :=
 (qgp h).weak fun D σ H ⟨S,ρ,o,hs,e,q⟩=>by
  obtain ⟨d,e1,e⟩:=qi e
  cases e
  exact ⟨G.S0,ρ,d,hs.den,e1,fun p H' g1 n o=>q p H' (hs.h0.trans g1) (hs.h0.free n) (hs.den.1.free n) o⟩
theorem jY (i:Nat) {x:Str} (hv:Vis X.env.scope x) (hN:X.N[i]?=some x:=by rfl) (hd:(x == ("__debug__" : Str))=false:=by decide +kernel)
  (hcd:(x == ("__classdict__" : Str))=false:=by decide +kernel):PE X (.Name x pos) (fun σ H Q=>∃ v,σ[i]?=some (some v)/\Q v H):=qgh hN hv hd hcd
theorem zQ {i:Nat} {ρ:Rho} {d:PyData} (e:vr i ρ=some d):ρ[i]?=some (some d):=by
 have e:(ρ[i]?).join=some d:=e
 cases h:ρ[i]? with
 | none=>rw [h] at e;cases e
 | some o=>rw [h] at e;exact congrArg some e
theorem Qu (hc:PDT X [] c p) (h1:PDSs X G M L M' Mb fr st1 u) (h2:PDSs X G M L M' Mb fr st2 w):PDS X G M L M' Mb fr (.If c st1 st2 pos) (sIf p u w) :=
 (ps_if hc h1 h2).weak fun D σ H ⟨S,ρ,o,hs,e,q⟩=>by
  obtain ⟨d,e1,e⟩:=qi e
  refine ⟨G.S0,ρ,d,hs.den,e1,fun H1 g1=>?_⟩
  cases d with
  | true=>exact iteT ⟨S,ρ,o,hs.same g1,e,q⟩
  | false=>exact iteF ⟨S,ρ,o,hs.same g1,e,q⟩
noncomputable def tDG (K:PySem.W.Frag) (G:Gm) (M L:List Nat) (g:PyData->Rho->Option Rho):TG:=fun v σ H Q=>∃ S ρ d ρ',OwnS K G M L H S σ ρ/\Den K H S v d/\g d ρ=some ρ'/\∀ σ' H',Same H H'->OwnS K G M L H' S σ' ρ'->Q σ' H'
noncomputable def tDGs (K:PySem.W.Frag) (G:Gm) (M L:List Nat) (g:List PyData->Rho->Option Rho):TGs:=fun vs σ H Q=>∃ S ρ ds ρ',OwnS K G M L H S σ ρ/\DenL K H S vs ds/\g ds ρ=some ρ'/\∀ σ' H',Same H H'->OwnS K G M L H' S σ' ρ'->Q σ' H'
noncomputable def PDG (X:Cx) (G:Gm) (M L:List Nat) (t:Expr) (g:PyData->Rho->Option Rho):Prop:=PG X t (tDG X.K G M L g)
noncomputable def PDGs (X:Cx) (G:Gm) (M L:List Nat) (t:List Expr) (g:List PyData->Rho->Option Rho):Prop:=PGs X t (tDGs X.K G M L g)
theorem qO (i:Nat) {x:Str} (hN:X.N.Nodup) (hx:Loc X.env.scope x) (hM:i∉M) (hi:X.N[i]?=some x:=by rfl) (hf:X.fn x=true\/X.env.scope.names.lookup x=some .local:=by first | exact .inl rfl | exact .inr rfl | assumption):PDG X G M L (.Name x pos) (gNm i) :=
 (qdk hN hi hx hf).weak fun v σ H Q ⟨S,ρ,d,ρ',hs,hd,e,q⟩=>by
  cases e
  exact q _ H (Same.refl H) (hs.set hd hM)
theorem qf7:PDGs X G M L [] gsN :=
 qdl.weak fun v σ H Q ⟨S,ρ,d,ρ',hs,hd,e,q⟩=>by
  cases hd with
  | nil=>cases e;exact ⟨rfl,q _ H (Same.refl H) hs⟩
  | cons a t=>cases e
theorem Wi {t:Expr} {ts:List Expr} {g1:PyData->Rho->Option Rho} {g2:List PyData->Rho->Option Rho} (h1:PDG X G M L t g1) (h2:PDGs X G M L ts g2) (hs:(assignEach (t :: ts) X.env).map (·.2)=assign t X.env :: (assignEach ts X.env).map (·.2):=by rfl) :
  PDGs X G M L (t :: ts) (gsC g1 g2) :=
 (qbp h1 h2 hs).weak fun v σ H Q ⟨S,ρ,d,ρ',hs,hd,e,q⟩=>by
  cases hd with
  | nil=>cases e
  | cons a t =>
   obtain ⟨ρ1,e1,e⟩:=qi e
   exact ⟨_,_,rfl,S,ρ,_,ρ1,hs,a,e1,fun σ' H' g1 hs'=>⟨S,ρ1,_,ρ',hs',t.same g1,e,fun σ2 H2 g2 hs2=>q σ2 H2 (g1.trans g2) hs2⟩⟩
theorem qhS {ts:List Expr} {k:Nat} {n:Nat} {g:List PyData->Rho->Option Rho} (hc:X.calm=true) (h:PDGs X G M L ts g) (hn:(assignEach ts X.env).length=n:=by rfl) (hst:(assignEach ts X.env).findIdx? (·.1)=none:=by rfl):PDG X G M L (.Tuple ts k pos) (unpD n g) :=
 (qgj hc h hn hst).weak fun v σ H Q ⟨S,ρ,d,ρ',hs,hd,e,q⟩=>by
  cases hd with
  | @tuple a xs ds h t =>
   have e:(if ds.length=n then g ds ρ else none)=some ρ':=e
   split at e
   ·rename_i hl
    exact ⟨_,_,rfl,h,by rw [t.length];exact hl,S,ρ,_,ρ',hs,t,e,q⟩
   ·cases e
  | _=>cases e
theorem zb (i:Nat) {x:Str} {p':Pos} (hN:X.N.Nodup) (hx:Loc X.env.scope x) (hi:X.N[i]?=some x) (hs:swapsWith a (some (.Name x p')) pos.line X.env=pure false) (hf:X.fn x=true\/X.env.scope.names.lookup x=some .local) (hM:i∉M) (he:PD X M a f) :
  PDS X G M L M Mb fr (.Assign [.Name x p'] a pos) (sSet i f) :=
 (qam hN hi hx he hs hf).weak fun D σ H ⟨S,ρ,o,hs,e,q⟩=>by
  obtain ⟨d,e1,e⟩:=qi e
  cases e
  exact ⟨S,ρ,d,hs.ds,e1,fun v H1 g1 d1=>q _ H1 S ((hs.same g1).set d1 hM)⟩
noncomputable def qM (i:Nat) (f:Rho->Option PyData):Rho->Option Out:=fun ρ=>if i < ρ.length then ob (f ρ) fun d=>some (.nx (ρ.set i (some d))) else none
theorem zj (i:Nat) {x:Str} {p':Pos} (hN:X.N.Nodup) (hx:Loc X.env.scope x) (hi:X.N[i]?=some x) (hs:swapsWith a (some (.Name x p')) pos.line X.env=pure false) (hf:X.fn x=true\/X.env.scope.names.lookup x=some .local) (hM:Out0 M i) (hL:i∉L) (he:PF X M a f) :
  PDS X G M L (i :: M) Mb fr (.Assign [.Name x p'] a pos) (qM i f) :=
 (qam hN hi hx he hs hf).weak fun D σ H ⟨S,ρ,o,hs,e,q⟩=>by
  unfold qM at e
  split at e
  ·rename_i hz
   obtain ⟨d,e1,e⟩:=qi e
   cases e
   exact ⟨S,ρ,d,hs.ds,e1,fun p H1 g1 n o=>q _ H1 _ (hs.take n g1 o hM hL hz)⟩
  ·cases e
theorem qee (i:Nat) {x:Str} {p':Pos} (hN:X.N.Nodup) (hx:Loc X.env.scope x) (hi:X.N[i]?=some x) (hs:swapsWith a (some (.Name x p')) pos.line X.env=pure false) (hf:X.fn x=true\/X.env.scope.names.lookup x=some .local) (hM:Out0 M i) (hL:i∉L) (he:PF X [] a f) :
  PDS X G M L (i :: M) Mb fr (.Assign [.Name x p'] a pos) (qM i (Yq f)) :=
 (qam hN hi hx he hs hf).weak fun D σ H ⟨S,ρ,o,hs,e,q⟩=>by
  unfold qM at e
  split at e
  ·rename_i hz
   obtain ⟨d,e1,e⟩:=qi e
   cases e
   obtain ⟨d',e3,e4⟩:=qi e1
   split at e4
   ·rename_i hf
    cases e4
    exact ⟨G.S0,ρ,d,hs.den,e3,fun p H1 g1 n o=>q _ H1 _ (hs.take n g1 (o.flat hf) hM hL hz)⟩
   ·cases e4
  ·cases e
noncomputable def forD (g:PyData->Rho->Option Rho) (body:Rho->Option Out):List PyData->Rho->Option Out
 | [],ρ=>some (.nx ρ)
 | d :: ds,ρ=>ob (g d ρ) fun ρ1=>ob (body ρ1) fun o=>match o with
  | .nx ρ'=>forD g body ds ρ'
  | .ct ρ'=>forD g body ds ρ'
  | .bk ρ'=>some (.nx ρ')
  | .rt r=>some (.rt r)
noncomputable def sFor (fi:Rho->Option (List PyData)) (g:PyData->Rho->Option Rho) (u:Rho->Option Out):Rho->Option Out:=fun ρ=>ob (fi ρ) fun ds=>forD g u ds ρ
theorem OutQ.based {K:PySem.W.Frag} {G':Gm} {D:Ends} {o:Out} (s:Same G.H0 G'.H0) (e:G'.S0=G.S0) (e':G'.lk=G.lk) (q:OutQ K G M' Mb L fr D o):OutQ K G' M' Mb L fr D o:=by
 cases o with
 | nx ρ=>exact fun σ' H' S' hs=>q σ' H' S' (hs.unbase s e e')
 | rt d =>
  cases fr with
  | nw=>exact fun p H' h0 n n' o=>q p H' (s.trans h0) (s.free n) (by rw [← e];exact n') (by rw [← e];exact o)
  | dp=>exact fun p fp H' h0 n o=>q p fp H' (s.trans h0) (fun r hr=>⟨s.free (n r hr).1,by rw [← e];exact (n r hr).2⟩) (by rw [← e];exact o)
  | pl=>exact fun v H' h0 d=>q v H' (s.trans h0) (by rw [← e];exact d)
 | bk ρ=>exact fun σ' H' S' hs=>q σ' H' S' (hs.unbase s e e')
 | ct ρ=>exact fun σ' H' S' hs=>q σ' H' S' (hs.unbase s e e')
theorem za {tg iter:Expr} {body:List Stmt} {fi:Rho->Option (List PyData)} {g:PyData->Rho->Option Rho} (hp:PassesOwn (model X.prog X.w) X.A X.env X.xe) (hc:X.calm=true) (hi:PDI X M tg iter fi) (hg:∀ G,PDG X G M L tg g) (hb:∀ G,PDSs X G M L M M fr body u)
  (hs:∀ x,foldedSetIterable iter X.env x=pure x:=by intro _;rfl):PDS X G M L M Mb fr (.For tg iter body [] pos) (sFor fi g u):=by
 have hg':PG X tg (fun v σ H Q=>∃ G,tDG X.K G M L g v σ H Q):=fun pins s σ H v u Q I r ⟨G,q⟩=>hg G pins s σ H v u Q I r q
 have hb':PSs X body (fun D σ H=>∃ G,tDS X.K G M L M M fr u D σ H):=fun pins s σ H D I ⟨G,q⟩=>hb G pins s σ H D I q
 refine (qgo hp hc hi hg' hb' hs).weak fun D σ H ⟨S,ρ,o,os,e,q⟩=>?_
 obtain ⟨ds,e1,e⟩:=qi e
 refine ⟨S,ρ,ds,os.ds,e1,fun J H1 g1 hJ0=>?_⟩
 have os1:=os.same g1
 have hJ:IsIt X.K S J ((G.base S H1).H0) ds:=hJ0 _ qe2
 have bs:Same G.H0 (G.base S H1).H0:=qdF os1.h0
 have bo:=os1.base
 have sl:=os1.lks
 generalize hG:G.base S H1=G1 at hJ bs bo
 have eS:G1.S0=G.S0:=by rw [← hG];rfl
 have eL:G1.lk=G.lk:=by rw [← hG];rfl
 have sl1:∀ i∈L,S (G1.lk i).1:=by rw [eL];exact sl
 have s01:∀ a,G1.S0 a->S a:=by rw [eS];exact os.s0
 refine ⟨fun i m σ' H'=>m=ds.length - i/\i <= ds.length/\∃ S' ρ o,OwnS X.K G1 M L H' S' σ' ρ/\forD g u (ds.drop i) ρ=some o/\OutQ X.K G M Mb L fr D o,⟨ds.length,by simp,Nat.zero_le _,S,ρ,o,bo,e,q⟩,?_⟩
 rintro i m σ' H' ⟨rfl,hi,S',ρ',o',hs',e',q'⟩
 by_cases hlt:i < ds.length
 ·rw [List.drop_eq_getElem_cons hlt] at e'
  obtain ⟨ρ1,e2,e'⟩:=qi e'
  obtain ⟨o1,e3,e'⟩:=qi e'
  have key:∀ N:St->Hp->Prop,OutQ X.K G1 M M L fr { D with nx:=N,ct:=N,bk:=D.nx } o1->∀ x H2,J.yld i H' x H2->∃ G,tDG X.K G M L g x σ' H2 fun σ2 H2=>∃ G,tDS X.K G M L M M fr u { D with nx:=N,ct:=N,bk:=D.nx } σ2 H2:=fun N hN x H2 y=>by
   obtain ⟨e4,yd⟩:=hJ.yld i H' x H2 hs'.h0 y
   exact ⟨G1,S',ρ',_,ρ1,hs'.same e4,yd _ (List.getElem?_eq_getElem hlt) S' fun y e q=>(hs'.turn s01 sl1 q).same e4,e2,fun σ2 H3 g3 hs3=>⟨G1,S',ρ1,o1,hs3,e3,hN⟩⟩
  refine .inr ⟨hJ.go i H' hs'.h0 hlt,?_⟩
  have next:∀ ρ2,forD g u (ds.drop (i + 1)) ρ2=some o'->∃ N:St->Hp->Prop,(∀ σ' H'',N σ' H''->∃ m',m' < ds.length - i/\(m'=ds.length - (i + 1)/\i + 1 <= ds.length/\∃ S' ρ o,OwnS X.K G1 M L H'' S' σ' ρ/\forD g u (ds.drop (i + 1)) ρ=some o/\OutQ X.K G M Mb L fr D o))/\∀ σ2 H2 S2,OwnS X.K G1 M L H2 S2 σ2 ρ2->N σ2 H2:=fun ρ2 e4 =>
   ⟨fun σ2 H2=>∃ S2,OwnS X.K G1 M L H2 S2 σ2 ρ2,fun σ2 H2 ⟨S2,hs3⟩=>⟨ds.length - (i + 1),by omega,rfl,hlt,S2,ρ2,o',hs3,e4,q'⟩,fun σ2 H2 S2 hs3=>⟨S2,hs3⟩⟩
  cases o1 with
  | nx ρ2 =>
   obtain ⟨N,n1,n2⟩:=next ρ2 e'
   exact ⟨N,n1,key N fun σ3 H3 S3 hs3=>n2 σ3 H3 S3 hs3⟩
  | ct ρ2 =>
   obtain ⟨N,n1,n2⟩:=next ρ2 e'
   exact ⟨N,n1,key N fun σ3 H3 S3 hs3=>n2 σ3 H3 S3 hs3⟩
  | bk ρ2 =>
   cases e'
   exact ⟨fun _ _=>False,fun _ _ z=>z.elim,key _ fun σ3 H3 S3 hs3=>q' σ3 H3 S3 (hs3.unbase bs eS eL)⟩
  | rt r =>
   cases e'
   refine ⟨fun _ _=>False,fun _ _ z=>z.elim,key _ ?_⟩
   have q2:OutQ X.K G1 M Mb L fr D (.rt r):=q'.based bs eS eL
   exact q2
 ·have hi':i=ds.length:=by omega
  subst hi'
  rw [List.drop_length] at e'
  cases e'
  exact .inl ⟨hJ.stop H' hs'.h0,q' σ' H' S' (hs'.unbase bs eS eL)⟩
end
noncomputable def outD:Out->Option PyData
 | .rt d=>some d
 | .nx _=>some .none
 | _=>none
noncomputable def outF:Out->Option PyData
 | .rt d=>some d
 | _=>none
noncomputable def rho0 (n:Nat) (ds:List PyData):Rho:=ds.map some ++ List.replicate (n - ds.length) none
noncomputable def G0 (H:Hp) (S:Av):Gm:=⟨H,S,fun _=>(0,.none)⟩
theorem OwnS.start {K:PySem.W.Frag} {H:Hp} {S:Av} {vs:List V} {ds:List PyData} (m:Dm S H) (h:DenL K H S vs ds) (N:List Str):OwnS K (G0 H S) [] [] H S (start N vs) (rho0 N.length ds) :=
 ⟨DenS.start m h N,fun _ z=>z,Same.refl _,(fun _ h=>nomatch h.1),(fun _ h=>nomatch h.1),fun _ z=>.inl z,(fun _ h=>nomatch h),fun _=>[],(fun _ h=>nomatch h.1),(fun _ h=>nomatch h.1),(fun _ h=>nomatch h.1)⟩
noncomputable def spN (K:PySem.W.Frag) (n:Nat) (f:List PyData->Option PyData):Sp:=fun vs H Q _=>∃ S ds d,Dm S H/\DenL K H S vs ds/\ds.length=n/\f ds=some d/\∀ p H',Same H H'->H p=none->OwnO K H' (insA S p) p d->Q (.ref p) H'
structure FunG (K:PySem.W.Frag) (x qual:Str) (st:Stmt) (f:Addr) (fd:FuncData):Prop where
 ex:∃ (oc dV:Value) (od:Option Addr) (kV doc pm:Value) (an:Option Addr) (cdv ct:Value) (osl:Array (Option Value)),
  fd=PySem.W.fnOf x qual (qH st) (qz st) (qb st) dV kV doc pm an cdv ct/\K.lookup f=some ⟨oc,od,.func fd,osl⟩/\PySem.W.codeIn K cdv qual=true
 kp:PySem.W.keepIn K (.ref f)=true
theorem Fun.g {K:PySem.W.Frag} {x qual:Str} {st:Stmt} {f:Addr} {fd:FuncData} (F:Fun K x qual st f fd):FunG K x qual st f fd:=by
 obtain ⟨oc,od,kV,doc,pm,an,cdv,ct,osl,e,lk,hcd⟩:=F.ex
 exact ⟨⟨oc,_,od,kV,doc,pm,an,cdv,ct,osl,e,lk,hcd⟩,F.kp⟩
section
variable {P:Program} {w:World} {K:PySem.W.Frag} {mg:Str->Option Value} {base:Heap}
theorem FunG.ok {x qual:Str} {st:Stmt} {f:Addr} {fd:FuncData} {N ps:List Str} {k:Nat} {sp:Sp} (F:FunG K x qual st f fd) (S:FnScope N ps (qb st)) (len:∀ vs H Q E,sp vs H Q E->vs.length=ps.length)
  (hbody:∀ (cdv:Value) (A:Around) (outer:List Env) (s:Shared) (H:Hp) (vs:List V) (Q:VK) (E:XK),Room k (A.deeper (envOfC qual (qb st) s.heap.objs.size f cdv))->sp vs H Q E->
   ∃ t,PSs (cxOf CX0 P w K mg base N qual (qb st) f cdv A outer s H E).nox (qz st) t/\t { nx:=fun _ H'=>Q .non H',rt:=Q } (start N vs) H):FnOk P w K mg base CX0 (k + 1) f fd ps sp:=by
 obtain ⟨oc,dV,od,kV,doc,pm,an,cdv,ct,osl,rfl,lk,hcd⟩:=F.ex
 refine qiP lk hcd S len fun A outer s H vs Q E hr hsp=>?_
 obtain ⟨t,h,q⟩:=hbody cdv A outer s H vs Q E hr hsp
 exact ⟨t,h.nox,q⟩
theorem FunG.pure {x qual:Str} {st:Stmt} {f:Addr} {fd:FuncData} {N ps:List Str} {k n:Nat} {u:Rho->Option Out} {M':List Nat} (F:FunG K x qual st f fd) (S:FnScope N ps (qb st)) (hn:ps.length=n)
  (hbody:∀ (cdv:Value) (A:Around) (outer:List Env) (s:Shared) (H:Hp) (E:XK),Room k (A.deeper (envOfC qual (qb st) s.heap.objs.size f cdv))->∀ G:Gm,
   PDSs (cxOf CX0 P w K mg base N qual (qb st) f cdv A outer s H E).nox G [] [] M' [] .pl (qz st) u) :
  FnOk P w K mg base CX0 (k + 1) f fd ps (spF K n fun ds=>ob (u (rho0 N.length ds)) outD):=by
 refine F.ok S (fun vs H Q E h=>?_) (fun cdv A outer s H vs Q E hr h=>?_)
 ·obtain ⟨_,ds,d,_,h1,h2,_⟩:=h
  rw [h1.length,h2,hn]
 ·obtain ⟨Sv,ds,d,m,h1,h2,e,q⟩:=h
  obtain ⟨o,e1,e⟩:=qi e
  refine ⟨_,hbody cdv A outer s H E hr (G0 H Sv),Sv,rho0 N.length ds,o,OwnS.start m h1 N,e1,?_⟩
  cases o with
  | rt r=>cases e;exact q
  | nx ρ=>cases e;exact fun σ' H' S' hs=>q _ H' hs.h0 .none
  | bk ρ=>cases e
  | ct ρ=>cases e
theorem Fun.pure {x qual:Str} {st:Stmt} {f:Addr} {fd:FuncData} {N ps:List Str} {k n:Nat} {u:Rho->Option Out} {M':List Nat} (F:Fun K x qual st f fd) (S:FnScope N ps (qb st)) (hn:ps.length=n)
  (hbody:∀ (cdv:Value) (A:Around) (outer:List Env) (s:Shared) (H:Hp) (E:XK),Room k (A.deeper (envOfC qual (qb st) s.heap.objs.size f cdv))->∀ G:Gm,
   PDSs (cxOf CX0 P w K mg base N qual (qb st) f cdv A outer s H E).nox G [] [] M' [] .pl (qz st) u) :
  FnOk P w K mg base CX0 (k + 1) f fd ps (spF K n fun ds=>ob (u (rho0 N.length ds)) outD) :=
 F.g.pure S hn hbody
theorem FunG.new {x qual:Str} {st:Stmt} {f:Addr} {fd:FuncData} {N ps:List Str} {k n:Nat} {u:Rho->Option Out} {M':List Nat} (F:FunG K x qual st f fd) (S:FnScope N ps (qb st)) (hn:ps.length=n)
  (hbody:∀ (cdv:Value) (A:Around) (outer:List Env) (s:Shared) (H:Hp) (E:XK),Room k (A.deeper (envOfC qual (qb st) s.heap.objs.size f cdv))->∀ G:Gm,
   PDSs (cxOf CX0 P w K mg base N qual (qb st) f cdv A outer s H E).nox G [] [] M' [] .nw (qz st) u) :
  FnOk P w K mg base CX0 (k + 1) f fd ps (spN K n fun ds=>ob (u (rho0 N.length ds)) outF):=by
 refine F.ok S (fun vs H Q E h=>?_) (fun cdv A outer s H vs Q E hr h=>?_)
 ·obtain ⟨_,ds,d,_,h1,h2,_⟩:=h
  rw [h1.length,h2,hn]
 ·obtain ⟨Sv,ds,d,m,h1,h2,e,q⟩:=h
  obtain ⟨o,e1,e⟩:=qi e
  refine ⟨_,hbody cdv A outer s H E hr (G0 H Sv),Sv,rho0 N.length ds,o,OwnS.start m h1 N,e1,?_⟩
  cases o with
  | rt r=>cases e;exact fun p H' g n _ o=>q p H' g n o
  | nx ρ=>cases e
  | bk ρ=>cases e
  | ct ρ=>cases e
theorem Fun.new {x qual:Str} {st:Stmt} {f:Addr} {fd:FuncData} {N ps:List Str} {k n:Nat} {u:Rho->Option Out} {M':List Nat} (F:Fun K x qual st f fd) (S:FnScope N ps (qb st)) (hn:ps.length=n)
  (hbody:∀ (cdv:Value) (A:Around) (outer:List Env) (s:Shared) (H:Hp) (E:XK),Room k (A.deeper (envOfC qual (qb st) s.heap.objs.size f cdv))->∀ G:Gm,
   PDSs (cxOf CX0 P w K mg base N qual (qb st) f cdv A outer s H E).nox G [] [] M' [] .nw (qz st) u) :
  FnOk P w K mg base CX0 (k + 1) f fd ps (spN K n fun ds=>ob (u (rho0 N.length ds)) outF) :=
 F.g.new S hn hbody
structure Known (P:Program) (w:World) (K:PySem.W.Frag) (mg:Str->Option Value) (base:Heap) (x:Str) (n k:Nat) (h:List PyData->Option PyData):Prop where
 ex:∃ (f:Addr) (fd:FuncData) (ps:List Str),FnOk P w K mg base CX0 k f fd ps (spF K n h)/\mg x=some (.ref f)/\PySem.W.keepIn K (.ref f)=true/\Binds K fd ps []
structure KnownN (P:Program) (w:World) (K:PySem.W.Frag) (mg:Str->Option Value) (base:Heap) (x:Str) (n k:Nat) (h:List PyData->Option PyData):Prop where
 ex:∃ (f:Addr) (fd:FuncData) (ps:List Str),FnOk P w K mg base CX0 k f fd ps (spN K n h)/\mg x=some (.ref f)/\PySem.W.keepIn K (.ref f)=true/\Binds K fd ps []
theorem KnownN.known {x:Str} {n k:Nat} {h:List PyData->Option PyData} (F:KnownN P w K mg base x n k h):Known P w K mg base x n k h:=by
 obtain ⟨f,fd,ps,F,m,kp,b⟩:=F.ex
 exact ⟨f,fd,ps,F.imp fun vs H Q E ⟨S,ds,d,m,h1,h2,e,q⟩=>⟨S,ds,d,m,h1,h2,e,fun p H' g n o=>q _ H' g (o.den (m.free n) fun a _ z=>.inl z)⟩,m,kp,b⟩
end
section
variable {X:Cx} {G:Gm} {M M' Mb L:List Nat} {fr:Fr} {a b c:Expr} {es:List Expr} {f g:Rho->Option PyData} {p:Rho->Option Bool} {pos:Pos} {u:Rho->Option Out}
theorem qw {x:Str} {p:Pos} {n k k':Nat} {h:List PyData->Option PyData} {fs:Rho->Option (List PyData)} (F:Known X.prog X.w X.K X.mg X.base x n k h) (hr:Room k' X.A) (hk:k <= k') (hg:Gl X x) (ha:PDA X M (a :: es) fs) (hl:(a :: es).length=n)
  (hdb:(x == ("__debug__" : Str))=false:=by decide +kernel) (he:starEach (a :: es) X.env=(false,eval a X.env) :: starEach es X.env:=by rfl) (hpl:(backTo pos (starEach es X.env)).any (·.1)=false:=by rfl) :
  PD X M (.Call (.Name x p) (a :: es) [] pos) (evC n fs h):=by
 obtain ⟨f,fd,ps,F,m,kp,b⟩:=F.ex
 exact qhQ F (hr.mono hk) hg m kp b qiW ha hl hdb he hpl
theorem qgi {x:Str} {p:Pos} {n k k':Nat} {h:List PyData->Option PyData} {fs:Rho->Option (List PyData)} (F:KnownN X.prog X.w X.K X.mg X.base x n k h) (hr:Room k' X.A) (hk:k <= k') (hg:Gl X x) (ha:PDA X M (a :: es) fs) (hl:(a :: es).length=n)
  (hdb:(x == ("__debug__" : Str))=false:=by decide +kernel) (he:starEach (a :: es) X.env=(false,eval a X.env) :: starEach es X.env:=by rfl) (hpl:(backTo pos (starEach es X.env)).any (·.1)=false:=by rfl) :
  PF X M (.Call (.Name x p) (a :: es) [] pos) (evC n fs h):=by
 obtain ⟨f,fd,ps,F,m,kp,b⟩:=F.ex
 refine (qdj F (hr.mono hk) hg m kp b .nil qiW ha hdb he hpl).weak fun σ H Q ⟨S,ρ,d,hs,e,q⟩=>?_
 obtain ⟨ds,e1,e⟩:=qi e
 have e:(if ds.length=n then h ds else none)=some d:=e
 split at e
 ·rename_i hn
  exact ⟨S,ρ,ds,hs,e1,fun vs H1 g1 d1=>⟨S,ds,d,hs.1.same g1,by rw [List.append_nil];exact d1,hn,e,fun p H' g2 n o=>q p H' (g1.trans g2) (g1.free n) o⟩⟩
 ·cases e
theorem OwnO.laid {K:PySem.W.Frag} {H:Hp} {S:Av} {p:Addr} {vs:List V} {ds:List PyData} (n:H p=none) (t:DenL K H S vs ds):OwnO K (L2.upd H p (.lst vs)) (insA S p) p (.list ds) :=
 .lst qK ((t.sub fun a ha z=>z.elim id fun y=>absurd (by rw [y];exact n) ha).same (Same.lay n))
theorem ZZ {fs:Rho->Option (List PyData)} (h:PDA X M es fs):PF X M (.List es pos) (evA fs lstD) :=
 (qgf h).weak fun σ H Q ⟨S,ρ,d,hs,e,q⟩=>by
  obtain ⟨xs,e1,e⟩:=qi e
  obtain ⟨hz,rfl⟩:=w6 e
  exact ⟨S,ρ,xs,hs,e1,fun vs H1 g1 d1=>⟨Nat.le_of_lt (qX (by rw [d1.length];exact hz)),fun p hp=>q _ _ (g1.lay' hp) (g1.free hp) (OwnO.laid hp d1)⟩⟩
noncomputable def qat (X:Cx) (f:Value) (g:List PyData->Option PyData):Prop:=J2 X f (fun vs H Q=>∃ S ds d,Dm S H/\DenL X.K H S vs ds/\g ds=some d/\∀ p H',Same H H'->H p=none->OwnO X.K H' (insA S p) p d->Q (.ref p) H')
theorem Zc {id:String} {x:Str} {p:Pos} {h:List PyData->Option PyData} {fs:Rho->Option (List PyData)} (hc:qat X (.builtin id) h) (hg:Gl X x) (hm:X.mg x=none) (hv:bootBuiltins x=some (.builtin id)) (ha:PDA X M (a :: es) fs) (hn:x ≠ "__name__" := by decide +kernel) (hdb:(x == ("__debug__" : Str))=false:=by decide +kernel)
  (he:starEach (a :: es) X.env=(false,eval a X.env) :: starEach es X.env:=by rfl) (hpl:(backTo pos (starEach es X.env)).any (·.1)=false:=by rfl):PF X M (.Call (.Name x p) (a :: es) [] pos) (evA fs h) :=
 (YJ hc hg hm hv ha hn hdb he hpl).weak fun σ H Q ⟨S,ρ,d,hs,e,q⟩=>by
  obtain ⟨ds,e1,e⟩:=qi e
  exact ⟨S,ρ,ds,hs,e1,fun vs H1 g1 d1=>⟨S,ds,d,hs.1.same g1,d1,e,fun p H' g2 n o=>q p H' (g1.trans g2) (g1.free n) o⟩⟩
theorem Zx {T:String} {x:Str} {p:Pos} {h:List PyData->Option PyData} {fs:Rho->Option (List PyData)} (hc:qat X (.type T) h) (hg:Gl X x) (hm:X.mg x=none) (hv:bootBuiltins x=some (.type T)) (ha:PDA X M (a :: es) fs) (hn:x ≠ "__name__" := by decide +kernel) (hdb:(x == ("__debug__" : Str))=false:=by decide +kernel)
  (he:starEach (a :: es) X.env=(false,eval a X.env) :: starEach es X.env:=by rfl) (hpl:(backTo pos (starEach es X.env)).any (·.1)=false:=by rfl):PF X M (.Call (.Name x p) (a :: es) [] pos) (evA fs h) :=
 (Wl hc hg hm hv ha hn hdb he hpl).weak fun σ H Q ⟨S,ρ,d,hs,e,q⟩=>by
  obtain ⟨ds,e1,e⟩:=qi e
  exact ⟨S,ρ,ds,hs,e1,fun vs H1 g1 d1=>⟨S,ds,d,hs.1.same g1,d1,e,fun p H' g2 n o=>q p H' (g1.trans g2) (g1.free n) o⟩⟩
theorem qag:qat X (.type "list") zP:=fun pins s σ H xs us Q I r ⟨S,ds,d,m,h1,e,q⟩=>Je pins s σ H xs us Q I r (by
 cases h1 with
 | nil=>cases e
 | cons a t =>
  cases t with
  | cons a' t'=>cases a<;>cases e
  | nil =>
   cases a with
   | list h t=>cases e;exact ⟨_,_,rfl,.inl h.sq,fun l hl=>q _ _ (Same.lay hl) hl (OwnO.laid hl t)⟩
   | tuple h t=>cases e;exact ⟨_,_,rfl,.inr h,fun l hl=>q _ _ (Same.lay hl) hl (OwnO.laid hl t)⟩
   | _=>cases e)
noncomputable def appD:PyData->PyData->Option PyData
 | .list ds,d=>if ds.length < 1000 then some (.list (ds ++ [d])) else none
 | _,_=>none
noncomputable def sApp (i:Nat) (f:Rho->Option PyData):Rho->Option Out:=fun ρ=>ob (vr i ρ) fun l=>ob (f ρ) fun d=>ob (appD l d) fun l'=>some (.nx (ρ.set i (some l')))
theorem JP {l d l':PyData} (e:appD l d=some l'):∃ ds,l=.list ds/\ds.length < 1000/\l'=.list (ds ++ [d]):=by
 unfold appD at e
 split at e
 ·split at e
  ·rename_i hz;cases e;exact ⟨_,rfl,hz,rfl⟩
  ·cases e
 ·cases e
theorem Off.upd {S:Av} {H:Hp} {p:Addr} {o:HO} (c:S p):Off S H (L2.upd H p o):=fun b u z e=>by
 rw [qD (fun y=>z (by rw [y];exact c))];exact e
theorem qal (i:Nat) {x:Str} {px apos cpos:Pos} (hv:Vis X.env.scope x) (hM:Flt M i) (hL:i∉L) (he:PD X M a f) (hN:X.N[i]?=some x:=by rfl) (hd:(x == ("__debug__" : Str))=false:=by decide +kernel) (hcd:(x == ("__classdict__" : Str))=false:=by decide +kernel)
  (hbase:attributeBase (.Name x px) "append" X.env (eval (.Name x px) X.env)=eval (.Name x px) X.env:=by rfl)
  (hfew:((backTo cpos (starEach [a] X.env)).all (fun x=>!x.1) && (backToKw cpos (keywordEach [] X.env)).all (fun x=>x.1.isSome)
   && decide ([a].length + ([]:List Keyword).length + (if ([]:List Keyword).isEmpty then 0 else 1) < 30))=true:=by rfl)
  (hline:(apos.endLine == cpos.line)=true:=by rfl) (hs:starEach [a] X.env=(false,eval a X.env) :: starEach [] X.env:=by rfl) (hplain:(backTo cpos (starEach [] X.env)).any (·.1)=false:=by rfl)
  (hsw:swapsWith (.Call (.Attribute (.Name x px) "append" apos) [a] [] cpos) none pos.line X.env=pure false:=by rfl) :
  PDS X G M L M Mb fr (.Expr (.Call (.Attribute (.Name x px) "append" apos) [a] [] cpos) pos) (sApp i f) :=
 (yJ (qdi PySem.F.plainAttrs_list PySem.F.slot_list_append PySem.F.type_list_append JS (jY i hv hN hd hcd) (qd he qj hs) hbase hfew hline hs hplain) hsw).weak fun D σ H ⟨S,ρ,o,os,e,q⟩=>by
  obtain ⟨l,e1,e⟩:=qi e
  obtain ⟨d,e2,e⟩:=qi e
  obtain ⟨l',e3,e⟩:=qi e
  cases e
  obtain ⟨ds,rfl,hz,rfl⟩:=JP e3
  obtain ⟨pp,a1,b1,c1,n1,w1,_⟩:=os.own i hM _ (zQ e1)
  cases b1 with
  | @lst xs _ h t =>
   refine ⟨_,a1,.inl ⟨rfl,_,SqL.of h⟩,S,ρ,[d],os.ds,by show ob (f ρ) _=_;rw [e2];rfl,fun vs H2 g2 dl=>?_⟩
   obtain ⟨v,rfl,dv⟩:=dl.inv1
   have os2:=os.same g2
   refine ⟨pp,xs,v,rfl,rfl,g2 _ _ h,Nat.lt_of_lt_of_le (by rw [t.length];exact hz) (Nat.le_of_lt (qX (Nat.le_refl _))),?_⟩
   exact q _ _ _ (os2.write hM hL (zQ e1) a1 rfl (.lst qK (((t.same g2).snoc dv).off os2.ds.1 (Off.upd c1))))
noncomputable def isNone:PyData->Bool
 | .none=>true
 | _=>false
noncomputable def isnD:PyData->PyData->Option PyData
 | x,.none=>some (.bool (!isNone x))
 | .bool b,.bool c=>some (.bool (!(b == c)))
 | _,_=>none
theorem qb7 {K:PySem.W.Frag} {H:Hp} {S:Av} {v:V} {d:PyData} (h:Den K H S v d):decide (v=.non)=isNone d:=by cases h<;>rfl
theorem d_isn:OpD X (compareOp .IsNot) isnD:=by
 intro pins s σ H x y v u Q I rx ry ⟨S,dx,dy,d,m,h1,h2,e,q⟩
 unfold isnD at e
 split at e
 ·cases e;cases h2
  exact qhP pins s σ H x _ v u Q I rx ry ⟨rfl,by rw [qb7 h1];exact q _ H (Same.refl H) (.bool _)⟩
 ·cases e;cases h1;cases h2
  cases (show v=Value.bool _ from rx);cases (show u=Value.bool _ from ry)
  exact isnot_bool (ZJ I (q _ H (Same.refl H) (.bool _)) rfl)
 ·cases e
end
section
variable {X:Cx} {G:Gm} {M M' Mb L:List Nat} {fr:Fr} {a b c:Expr} {es:List Expr} {f g:Rho->Option PyData} {p:Rho->Option Bool} {pos:Pos} {u:Rho->Option Out}
noncomputable def intD:PyData->Option Int
 | .int i=>some i
 | _=>none
noncomputable def PDO (X:Cx) (M:List Nat) (e:Option Expr) (f:Rho->Option (Option Int)):Prop:=PO X e (fun σ H Q=>∃ S ρ i,DenS X.K H S M σ ρ/\f ρ=some i/\∀ H',Same H H'->Q i H')
noncomputable def oN:Rho->Option (Option Int):=fun _=>some none
noncomputable def oS (f:Rho->Option PyData):Rho->Option (Option Int):=fun ρ=>ob (f ρ) fun d=>ob (intD d) fun i=>some (some i)
theorem qdT {d:PyData} {i:Int} (h:intD d=some i):d=.int i:=by cases d<;>first | (cases h;rfl) | cases h
theorem qbn (h:PD X M a f):PDO X M (some a) (oS f):=fun pins s σ H Q I ⟨S,ρ,i,hs,e,q⟩=>by
 obtain ⟨d,e1,e⟩:=qi e
 obtain ⟨j,e2,e⟩:=qi e
 cases e
 cases qdT e2
 exact qh3 h pins s σ H Q I ⟨S,ρ,_,hs,e1,fun v H' g d=>⟨j,d.int_inv,q H' g⟩⟩
noncomputable def cutD (ds:List PyData) (lo hi:Option Int):List PyData:=(ds.drop (HT.sIx ds.length 0 lo)).take (HT.sIx ds.length ds.length hi - HT.sIx ds.length 0 lo)
noncomputable def sliD (x:PyData) (lo hi:Option Int):Option PyData:=match x with
 | .list ds=>some (.list (cutD ds lo hi))
 | .tuple ds=>if HT.sIx ds.length 0 lo=0/\HT.sIx ds.length ds.length hi=ds.length then none else some (.tuple (cutD ds lo hi))
 | _=>none
noncomputable def evS (fa:Rho->Option PyData) (fl fh:Rho->Option (Option Int)):Rho->Option PyData:=fun ρ=>ob (fa ρ) fun x=>ob (fl ρ) fun l=>ob (fh ρ) fun h=>sliD x l h
theorem qaJ {K:PySem.W.Frag} {H:Hp} {S:Av} {vs:List V} {ds:List PyData} (t:DenL K H S vs ds) (lo hi:Option Int):DenL K H S (cutV vs lo hi) (cutD ds lo hi):=by
 unfold cutV cutD
 rw [t.length]
 exact (t.drop _).take _
theorem qf6 {lo hi:Option Expr} {fl fh:Rho->Option (Option Int)} {p2:Pos} (ha:PD X M a f) (hl:PDO X M lo fl) (hh:PDO X M hi fh):PD X M (.Subscript a (.Slice lo hi none p2) pos) (evS f fl fh) :=
 (qgg (r:=fun x lo hi H Q=>rSlL X.K x lo hi H Q\/rSlT X.K x lo hi H Q) (qik.or qkw) ha hl hh).weak fun σ H Q ⟨S,ρ,d,hs,e,q⟩=>by
  obtain ⟨x,e1,e⟩:=qi e
  obtain ⟨l,e2,e⟩:=qi e
  obtain ⟨h,e3,e⟩:=qi e
  refine ⟨S,ρ,x,hs,e1,fun v H1 g1 d1=>⟨S,ρ,l,hs.same g1,e2,fun H2 g2=>⟨S,ρ,h,hs.same (g1.trans g2),e3,fun H3 g3=>?_⟩⟩⟩
  have g13:=g1.trans (g2.trans g3)
  have d3:=d1.same (g2.trans g3)
  cases d3 with
  | list hq t =>
   cases e
   exact .inl ⟨_,_,rfl,hq.sq,fun p hp=>q _ _ (g13.lay' hp) (.list (SqLS.new qK ((hs.1.same g13).free hp)) ((qaJ t l h).same (Same.lay hp)))⟩
  | @tuple a' xs ds hq t =>
   have e:(if HT.sIx ds.length 0 l=0/\HT.sIx ds.length ds.length h=ds.length then none else some (PyData.tuple (cutD ds l h)))=some d:=e
   split at e
   ·cases e
   ·rename_i hc
    cases e
    refine .inr ⟨_,_,rfl,hq,by rw [t.length];exact hc,fun p hp=>q _ _ (g13.lay' hp) (.tuple (SqT.of qK) ((qaJ t l h).same (Same.lay hp)))⟩
  | _=>cases e
noncomputable def qcB (x y:PyData):Option PyData:=match x,y with
 | .int i,.int j=>some (.int (i + j))
 | .tuple ds,.tuple es=>if ds.length + es.length <= 1000 then some (.tuple (ds ++ es)) else none
 | _,_=>none
theorem qff {prog:Program} {w:World} {A:Around} {E:Value->Shared->Prop} {s:Shared} {t b:Addr} {vs ws:List Value} {Q:Value->Shared->Prop} (ht:IsTup s.heap t vs.toArray) (hb:IsTup s.heap b ws.toArray) (hv:vs=[]) (h:Q (.ref b) s) :
  wpAny (model prog w) A (binaryOp .Add (.ref t) (.ref b)) Q E s:=by
 obtain ⟨⟨cls,dd,data,sl⟩,ho,hc,n,hd⟩:=id ht
 obtain ⟨⟨cls2,dd2,data2,sl2⟩,ho2,hc2,n2,hd2⟩:=id hb
 simp only at hc hd hc2 hd2
 subst hc hd hc2 hd2
 exact concat_meets ⟨_,ho,rfl⟩ ⟨_,ho2,rfl⟩ noFill_tuple_add seq_tuple_add PySem.F.slot_tuple_add PySem.F.entry_tuple_add (PySem.F.args_tuple_add_2 _ _) (tuple_addW0 t b vs.toArray ws.toArray n n2 dd dd2 sl sl2 (by simp [hv])) ⟨ho,ho2,h⟩
theorem qhK:OpR X (binaryOp .Add) (fun x y H Q=>∃ a b ys,x=.ref a/\y=.ref b/\SqT X.K H a []/\SqT X.K H b ys/\Q (.ref b) H):=by
 intro pins s σ H x y v u Q I rx ry h
 obtain ⟨a,b,ys,rfl,rfl,ha,hb,q⟩:=h
 cases rx
 cases ry
 obtain ⟨its,r1,p1,_⟩:=I.tuple ha
 obtain ⟨its2,r2,p2,_⟩:=I.tuple hb
 exact qff p1 p2 (r1.nil_iff.mpr rfl) ⟨.ref b,H,I,rfl,q⟩
theorem qfj:OpD X (binaryOp .Add) qcB:=by
 refine jV (r:=fun x y H Q=>rI0 (fun i j=>.int (i + j)) x y H Q\/(qiY X.K x y H Q\/(∃ a b ys,x=.ref a/\y=.ref b/\SqT X.K H a []/\SqT X.K H b ys/\Q (.ref b) H))) (qjN.or (qhM.or qhK)) fun x y dx dy d H S Q m h1 h2 e q=>?_
 unfold qcB at e
 split at e
 ·cases e;cases h1;cases h2
  exact .inl ⟨_,_,rfl,rfl,q _ H (Same.refl H) (.int _)⟩
 ·split at e
  ·rename_i ds es hc
   cases e
   cases h1 with
   | tuple a1 t1 =>
    cases h2 with
    | tuple a2 t2 =>
     cases ds with
     | nil =>
      cases t1
      exact .inr (.inr ⟨_,_,_,rfl,rfl,a1,a2,q _ H (Same.refl H) (.tuple a2 t2)⟩)
     | cons d0 ds =>
      refine .inr (.inl ⟨_,_,_,_,rfl,rfl,a1,a2,fun z=>?_,?_,fun z=>?_,fun z p hp=>q _ _ (Same.lay hp) (.tuple (SqT.of qK) ((t1.append t2).same (Same.lay hp)))⟩)
      ·subst z;cases t1
      ·rw [t1.length,t2.length]
       exact Nat.le_of_lt (qX hc)
      ·subst z;cases t2
       rw [List.append_nil] at q
       exact q _ H (Same.refl H) (.tuple a1 t1)
  ·cases e
 ·cases e
end
section
variable {X:Cx} {G:Gm} {M M1 M' Mb L:List Nat} {fr:Fr} {a b c:Expr} {es:List Expr} {f g:Rho->Option PyData} {p:Rho->Option Bool} {pos:Pos} {u:Rho->Option Out} {ss:List Stmt} {s1:Stmt}
noncomputable def PDR (X:Cx) (tg iter:Expr) (f:Rho->Option (List PyData)):Prop:=PI X tg iter (fun σ H R=>∃ S ρ ds,DenS X.K H S [] σ ρ/\f ρ=some ds/\∀ J H',Same H H'->(∀ H2 S2,IsIt X.K S2 J H2 ds)->R J H')
theorem jX {tg:Expr} {fs:Rho->Option (List PyData)} {p:Pos} (hg:Gl X "range") (hm:X.mg "range" = none) (ha:PDA X [] [a] fs) (hs:starEach [a] X.env=[(false,eval a X.env)]:=by rfl):PDR X tg (.Call (.Name "range" p) [a] [] pos) (evR fs QR) :=
 (Wm hg hm ha hs).weak fun σ H R ⟨S,ρ,ds,hs,e,w⟩=>by
  obtain ⟨xs,e1,e⟩:=qi e
  refine ⟨S,ρ,xs,hs,e1,fun vs H1 g1 d1=>?_⟩
  unfold QR at e
  split at e
  ·rename_i j
   split at e
   ·rename_i hj
    cases e
    obtain ⟨v,rfl,q⟩:=d1.inv1
    cases q
    exact ⟨j,rfl,by omega,by omega,w _ _ g1 fun _ _=>IsIt.rng 0 _⟩
   ·cases e
  ·cases e
theorem Jx {tg iter:Expr} {body:List Stmt} {fi:Rho->Option (List PyData)} {g:PyData->Rho->Option Rho} (hp:PassesOwn (model X.prog X.w) X.A X.env X.xe) (hc:X.calm=true) (hi:PDR X tg iter fi) (hg:PDG X G M L tg g) (hb:PDSs X G M L M M fr body u)
  (hs:∀ x,foldedSetIterable iter X.env x=pure x:=by intro _;rfl):PDS X G M L M Mb fr (.For tg iter body [] pos) (sFor fi g u):=by
 refine (qgo hp hc hi hg hb hs).weak fun D σ H ⟨S,ρ,o,os,e,q⟩=>?_
 obtain ⟨ds,e1,e⟩:=qi e
 refine ⟨G.S0,ρ,ds,os.den,e1,fun J H1 g1 hJ=>?_⟩
 refine ⟨fun i m σ' H'=>m=ds.length - i/\i <= ds.length/\∃ S' ρ o,OwnS X.K G M L H' S' σ' ρ/\forD g u (ds.drop i) ρ=some o/\OutQ X.K G M Mb L fr D o,⟨ds.length,by simp,Nat.zero_le _,S,ρ,o,os.same g1,e,q⟩,?_⟩
 rintro i m σ' H' ⟨rfl,hi,S',ρ',o',hs',e',q'⟩
 by_cases hlt:i < ds.length
 ·rw [List.drop_eq_getElem_cons hlt] at e'
  obtain ⟨ρ1,e2,e'⟩:=qi e'
  obtain ⟨o1,e3,e'⟩:=qi e'
  have key:∀ N:St->Hp->Prop,OutQ X.K G M M L fr { D with nx:=N,ct:=N,bk:=D.nx } o1->∀ x H2,J.yld i H' x H2->tDG X.K G M L g x σ' H2 fun σ2 H2=>tDS X.K G M L M M fr u { D with nx:=N,ct:=N,bk:=D.nx } σ2 H2:=fun N hN x H2 y=>by
   obtain ⟨e4,yd⟩:=(hJ H' S').yld i H' x H2 (Same.refl _) y
   exact ⟨S',ρ',_,ρ1,hs'.same e4,yd _ (List.getElem?_eq_getElem hlt) S' fun y e q=>q.same e4,e2,fun σ2 H3 g3 hs3=>⟨S',ρ1,o1,hs3,e3,hN⟩⟩
  refine .inr ⟨(hJ H' S').go i H' (Same.refl _) hlt,?_⟩
  have next:∀ ρ2,forD g u (ds.drop (i + 1)) ρ2=some o'->∃ N:St->Hp->Prop,(∀ σ' H'',N σ' H''->∃ m',m' < ds.length - i/\(m'=ds.length - (i + 1)/\i + 1 <= ds.length/\∃ S' ρ o,OwnS X.K G M L H'' S' σ' ρ/\forD g u (ds.drop (i + 1)) ρ=some o/\OutQ X.K G M Mb L fr D o))/\∀ σ2 H2 S2,OwnS X.K G M L H2 S2 σ2 ρ2->N σ2 H2:=fun ρ2 e4 =>
   ⟨fun σ2 H2=>∃ S2,OwnS X.K G M L H2 S2 σ2 ρ2,fun σ2 H2 ⟨S2,hs3⟩=>⟨ds.length - (i + 1),by omega,rfl,hlt,S2,ρ2,o',hs3,e4,q'⟩,fun σ2 H2 S2 hs3=>⟨S2,hs3⟩⟩
  cases o1 with
  | nx ρ2 =>
   obtain ⟨N,n1,n2⟩:=next ρ2 e'
   exact ⟨N,n1,key N fun σ3 H3 S3 hs3=>n2 σ3 H3 S3 hs3⟩
  | ct ρ2 =>
   obtain ⟨N,n1,n2⟩:=next ρ2 e'
   exact ⟨N,n1,key N fun σ3 H3 S3 hs3=>n2 σ3 H3 S3 hs3⟩
  | bk ρ2 =>
   cases e'
   exact ⟨fun _ _=>False,fun _ _ z=>z.elim,key _ fun σ3 H3 S3 hs3=>q' σ3 H3 S3 hs3⟩
  | rt r =>
   cases e'
   have q2:OutQ X.K G M Mb L fr D (.rt r):=q'
   exact ⟨fun _ _=>False,fun _ _ z=>z.elim,key _ q2⟩
 ·have hi':i=ds.length:=by omega
  subst hi'
  rw [List.drop_length] at e'
  cases e'
  exact .inl ⟨(hJ H' S').stop H' (Same.refl _),q' σ' H' S' hs'⟩
theorem Q8 (M1:List Nat) (h:PDSs X G M L M' Mb fr ss u) (h1:subB M1 M'=true) (h2:subB L M1=true):PDSs X G M L M1 Mb fr ss u:=qhT h h1 h2
theorem qeb (M1:List Nat) (h1:subB M1 M=true) (h2:subB L M1=true) (h:PDS X G M1 L M' Mb fr s1 u):PDS X G M L M' Mb fr s1 u:=qea h h1 h2
theorem jk (i:Nat) {x:Str} {px apos cpos:Pos} (hv:Vis X.env.scope x) (hM:Flt M i) (hL:i∉L) (he:PD X [] a f) (hN:X.N[i]?=some x:=by rfl) (hd:(x == ("__debug__" : Str))=false:=by decide +kernel) (hcd:(x == ("__classdict__" : Str))=false:=by decide +kernel)
  (hbase:attributeBase (.Name x px) "append" X.env (eval (.Name x px) X.env)=eval (.Name x px) X.env:=by rfl)
  (hfew:((backTo cpos (starEach [a] X.env)).all (fun x=>!x.1) && (backToKw cpos (keywordEach [] X.env)).all (fun x=>x.1.isSome)
   && decide ([a].length + ([]:List Keyword).length + (if ([]:List Keyword).isEmpty then 0 else 1) < 30))=true:=by rfl)
  (hline:(apos.endLine == cpos.line)=true:=by rfl) (hs:starEach [a] X.env=(false,eval a X.env) :: starEach [] X.env:=by rfl) (hplain:(backTo cpos (starEach [] X.env)).any (·.1)=false:=by rfl)
  (hsw:swapsWith (.Call (.Attribute (.Name x px) "append" apos) [a] [] cpos) none pos.line X.env=pure false:=by rfl) :
  PDS X G M L M Mb fr (.Expr (.Call (.Attribute (.Name x px) "append" apos) [a] [] cpos) pos) (sApp i (qF f)) :=
 (yJ (qdi PySem.F.plainAttrs_list PySem.F.slot_list_append PySem.F.type_list_append JS (jY i hv hN hd hcd) (qd he qj hs) hbase hfew hline hs hplain) hsw).weak fun D σ H ⟨S,ρ,o,os,e,q⟩=>by
  obtain ⟨l,e1,e⟩:=qi e
  obtain ⟨d,e2,e⟩:=qi e
  obtain ⟨l',e3,e⟩:=qi e
  cases e
  obtain ⟨d',e4,e5⟩:=qi e2
  split at e5
  ·rename_i hf
   cases e5
   obtain ⟨ds,rfl,hz,rfl⟩:=JP e3
   obtain ⟨pp,a1,b1,c1,n1,w1,_⟩:=os.own i hM _ (zQ e1)
   cases b1 with
   | @lst xs _ h t =>
    refine ⟨_,a1,.inl ⟨rfl,_,SqL.of h⟩,G.S0,ρ,[d],os.den,by show ob (f ρ) _=_;rw [e4];rfl,fun vs H2 g2 dl=>?_⟩
    obtain ⟨v,rfl,dv⟩:=dl.inv1
    have os2:=os.same g2
    refine ⟨pp,xs,v,rfl,rfl,g2 _ _ h,Nat.lt_of_lt_of_le (by rw [t.length];exact hz) (Nat.le_of_lt (qX (Nat.le_refl _))),?_⟩
    exact q _ _ _ (os2.write hM hL (zQ e1) a1 rfl (.lst qK (((t.same g2).snoc (dv.flat hf)).off os2.ds.1 (Off.upd c1))))
  ·cases e5
end
noncomputable def intsOf:List PyData->Option (List Int)
 | []=>some []
 | .int i :: r=>ob (intsOf r) fun ns=>some (i :: ns)
 | _ :: _=>none
theorem yg:∀ {ds:List PyData} {ns:List Int},intsOf ds=some ns->ds=ns.map .int
 | [],_,h=>by cases h;rfl
 | .int i :: r,ns,h=>by
  obtain ⟨ms,e1,e2⟩:=qi h
  cases e2
  rw [yg e1]
  rfl
 | .none :: _,_,h=>by cases h
 | .bool _ :: _,_,h=>by cases h
 | .str _ :: _,_,h=>by cases h
 | .list _ :: _,_,h=>by cases h
 | .tuple _ :: _,_,h=>by cases h
 | .dict _ :: _,_,h=>by cases h
noncomputable def inOk (ds:List PyData) (x:PyData):Bool:=PyData.canLayAll0 ds && (x.canLay0 && decide (x.depth <= 63))
noncomputable def inL (ds:List PyData) (x:PyData):Bool:=ds.any fun y=>PyData.eqv y x
noncomputable def inD (x y:PyData):Option PyData:=match y with
 | .list ds=>if inOk ds x=true then some (.bool (inL ds x)) else none
 | .tuple ds=>if inOk ds x=true then some (.bool (inL ds x)) else none
 | _=>none
noncomputable def ninD (x y:PyData):Option PyData:=match y with
 | .list ds=>if inOk ds x=true then some (.bool (!inL ds x)) else none
 | .tuple ds=>if inOk ds x=true then some (.bool (!inL ds x)) else none
 | _=>none
section
variable {X:Cx}
theorem Q3 {ds:List PyData} {x:PyData} (h:inOk ds x=true):PyData.canLayAll0 ds=true/\x.canLay0=true/\x.depth <= 63:=by
 unfold inOk at h
 rw [Bool.and_eq_true,Bool.and_eq_true] at h
 exact ⟨h.1,h.2.1,of_decide_eq_true h.2.2⟩
theorem Jq {A:Around} {ds:List PyData} {x:PyData} (hd:x.depth <= 63) (hu:A.units + 64 < cLine):A.units + 1 + min (PyData.depthAll ds) x.depth < cLine:=by
 have:=Nat.min_le_right (PyData.depthAll ds) x.depth
 omega
theorem d_in {k:Nat} (hr:Room k X.A):OpD X (compareOp .In) inD:=by
 intro pins s σ H x y v u Q I rx ry h
 obtain ⟨S,dx,dy,d,m,h1,h2,e,q⟩:=h
 obtain ⟨as,q1⟩:=h1.reads I rx
 obtain ⟨bs,q2⟩:=h2.reads I ry
 unfold inD at e
 split at e
 ·split at e
  ·rename_i hc
   obtain ⟨c1,c2,c3⟩:=Q3 hc
   cases e
   exact SeqAt.in_list_reads q2 q1 c1 c2 (Jq c3 hr.units) (ZJ I (q _ H (Same.refl H) (.bool _)) rfl)
  ·cases e
 ·split at e
  ·rename_i hc
   obtain ⟨c1,c2,c3⟩:=Q3 hc
   cases e
   exact SeqAt.in_tuple_reads q2 q1 c1 c2 (Jq c3 hr.units) (ZJ I (q _ H (Same.refl H) (.bool _)) rfl)
  ·cases e
 ·cases e
theorem yF {k:Nat} (hr:Room k X.A):OpD X (compareOp .NotIn) ninD:=by
 intro pins s σ H x y v u Q I rx ry h
 obtain ⟨S,dx,dy,d,m,h1,h2,e,q⟩:=h
 obtain ⟨as,q1⟩:=h1.reads I rx
 obtain ⟨bs,q2⟩:=h2.reads I ry
 unfold ninD at e
 split at e
 ·split at e
  ·rename_i hc
   obtain ⟨c1,c2,c3⟩:=Q3 hc
   cases e
   exact SeqAt.notIn_list_reads q2 q1 c1 c2 (Jq c3 hr.units) (ZJ I (q _ H (Same.refl H) (.bool _)) rfl)
  ·cases e
 ·split at e
  ·rename_i hc
   obtain ⟨c1,c2,c3⟩:=Q3 hc
   cases e
   exact SeqAt.notIn_tuple_reads q2 q1 c1 c2 (Jq c3 hr.units) (ZJ I (q _ H (Same.refl H) (.bool _)) rfl)
  ·cases e
 ·cases e
end
section
variable {X:Cx} {G:Gm} {M M' Mb L:List Nat} {fr:Fr} {f:Rho->Option PyData} {p:Rho->Option Bool} {pos:Pos}
theorem qkB {K:PySem.W.Frag} {n k:Nat} {fi:Rho->Option (List PyData)} {g:PyData->Rho->Option Rho} (hg:GIn n k g):∀ σ H Q,tF K M (jh n k fi g p f) σ H Q->qbH k (tDI K M fi) (tDGc K M g) (tDT K M p) (tD K M f) σ H Q:=by
 intro σ H Q ⟨S,ρ,d,hs,e,q⟩
 obtain ⟨ds,ys,e1,hn,hz,e2,rfl⟩:=Yi e
 exact qdv hg σ H Q S ρ ds ys hs e1 hn hz e2 fun H' zs g2 dl D hD=>q _ _ (g2.lay' hD) (g2.free hD) (OwnO.laid hD dl)
variable {elt iter tg:Expr} {ifs:List Expr} {x:Str} {N':List Str} {px:Pos} {sc:Scope} {n k:Nat} {fi:Rho->Option (List PyData)} {g:PyData->Rho->Option Rho}
noncomputable def swB (sc₀ sc:Scope) (t:Str) (pt p:Pos):Bool:=decide (sc₀.names.lookup t=some .local) && (pt.line == p.line) && !(sc.names.any fun (n,k)=>n == t && (k == .local || k == .cell))
theorem qbG {sc:Scope} {y:Str} {py:Pos} {sc₀:Scope} (hsc:X.env.scope=sc₀) (h:swB sc₀ sc y py pos=true):X.env.scope.names.lookup y=some .local:=by
 subst hsc
 unfold swB at h
 rw [Bool.and_eq_true,Bool.and_eq_true] at h
 exact of_decide_eq_true h.1.1
theorem sw_of {elt:Expr} {gens:List Comprehension} {sc:Scope} {y:Str} {py:Pos} {line:Nat} {sc₀:Scope} (hsc:X.env.scope=sc₀) (h:swB sc₀ sc y py pos=true) (hbk:X.env.blockKind=.function):swapsWith (.ListComp elt gens sc pos) (some (.Name y py)) line X.env=pure true:=by
 have h0:=qbG hsc h
 subst hsc
 unfold swB at h
 rw [Bool.and_eq_true,Bool.and_eq_true] at h
 show pure (X.env.blockKind == .function && X.env.kindOf y == some .local && py.line == pos.line && !(sc.names.any fun (n,k)=>n == y && (k == .local || k == .cell)))=pure true
 have e1:(X.env.blockKind == ScopeKind.function)=true:=by rw [hbk];rfl
 have e2:(X.env.kindOf y == some NameKind.local)=true:=by
  show (X.env.scope.names.lookup y == some NameKind.local)=true
  rw [h0];rfl
 rw [e1,e2,h.1.2,h.2]
 rfl
theorem Wj (j:Nat) {y:Str} {py spos:Pos} (O:CompOk X N' k sc) (gi:GIn n k g) (sc₀:Scope) (hsc:X.env.scope=sc₀) (hB:swB sc₀ sc y py pos=true) (hM:Out0 M j) (hL:j∉L) (hi:PDI X M tg iter fi) (hg:∀ cl C fp pins s H,PDGc (qJ X N' sc cl C fp pins s H) M tg g) (hq:∀ cl C fp pins s H,PDTs (qJ X N' sc cl C fp pins s H) M ifs p) (he:∀ cl C fp pins s H,PD (qJ X N' sc cl C fp pins s H) M elt f)
  (hj:X.N[j]?=some y:=by rfl) (hbk:X.env.blockKind=.function:=by rfl)
  (hs:∀ v,foldedSetIterable iter X.env v=pure v:=by intro _;rfl):PDS X G M L (j :: M) Mb fr (.Assign [.Name y py] (.ListComp elt [⟨tg,iter,ifs,0⟩] sc pos) spos) (qM j (jh n k fi g p f)) :=
 (qh4 (wg:=tDGc X.K M g) (tt:=tDT X.K M p) (te:=tD X.K M f) O hj (qbG hsc hB) hi hg hq he (sw_of hsc hB hbk) hs).weak fun D σ H ⟨S,ρ,o,hs,e,q⟩=>by
  unfold qM at e
  split at e
  ·rename_i hz
   obtain ⟨d,e1,e⟩:=qi e
   cases e
   exact qkB gi σ H _ ⟨S,ρ,d,hs.ds,e1,fun p H1 g1 n o=>q _ H1 _ (hs.take n g1 o hM hL hz)⟩
  ·cases e
theorem YH (j:Nat) {y:Str} {py spos:Pos} (O:CompOk X N' 1 sc) (hx:N'[n]?=some x) (hl:lc1 sc x=true) (sc₀:Scope) (hsc:X.env.scope=sc₀) (hB:swB sc₀ sc y py pos=true) (hM:Out0 M j) (hL:j∉L) (hi:PDI X M (.Name x px) iter fi) (hq:∀ cl C fp pins s H,PDTs (qJ X N' sc cl C fp pins s H) M ifs p) (he:∀ cl C fp pins s H,PD (qJ X N' sc cl C fp pins s H) M elt f)
  (hj:X.N[j]?=some y:=by rfl) (hbk:X.env.blockKind=.function:=by rfl)
  (hs:∀ v,foldedSetIterable iter X.env v=pure v:=by intro _;rfl):PDS X G M L (j :: M) Mb fr (.Assign [.Name y py] (.ListComp elt [⟨.Name x px,iter,ifs,0⟩] sc pos) spos) (qM j (qY n fi p f)):=by
 rw [Yh]
 exact Wj j O (Zt (Nat.le_refl _)) sc₀ hsc hB hM hL hi (jF O hx hl) hq he hj hbk hs
end
noncomputable def qcS (N N':List Str) (k:Nat) (sc₀ sc:Scope):Bool :=
 decide (sc.kind=.function) && decide N.Nodup && decide N'.Nodup && decide (N'.length=N.length + k) && sc.names.all (fun y=>decide (y.2≠.cell)) && sc.names.all (fun y=>decide (y.2≠.local) || decide (sc.names.lookup y.1=some .local)) &&
 (N.zip N').all (fun y=>(decide (y.1=y.2) && decide (sc.names.lookup y.2≠some .local)) || decide (sc.names.lookup y.2=none)) &&
 sc.names.all (fun y=>decide (y.2≠.free) || decide (sc₀.names.lookup y.1=some .cell) || decide (sc₀.names.lookup y.1=some .free))
theorem CompOk.of {X:Cx} {sc:Scope} {k:Nat} (N N':List Str) (sc₀:Scope) (hc:X.calm=true) (hN:X.N=N) (hs:X.env.scope=sc₀) (h:qcS N N' k sc₀ sc=true):CompOk X N' k sc:=by
 subst hN
 subst hs
 unfold qcS at h
 simp only [Bool.and_eq_true,decide_eq_true_eq,List.all_eq_true,Bool.or_eq_true] at h
 obtain ⟨⟨⟨⟨⟨⟨⟨h1,h2⟩,h2'⟩,h2l⟩,h3⟩,h4⟩,h7⟩,h8⟩:=h
 refine ⟨hc,h1,h2,h2',h2l,h3,fun y hy q=>(h4 y hy).resolve_left (fun z=>z q),fun i y hi e=>?_,fun y hy q=>?_⟩
 ·have hz:(X.N.zip N')[i]?=some (X.N[i],y):=by
   rw [List.getElem?_zip_eq_some]
   exact ⟨List.getElem?_eq_getElem hi,e⟩
  rcases h7 _ (List.mem_of_getElem? hz) with ⟨q,w⟩ | q
  ·refine .inl ⟨?_,w⟩
   rw [List.getElem?_eq_getElem hi]
   exact congrArg some q
  ·exact .inr q
 ·rcases h8 y hy with (z | z) | z
  ·exact absurd q z
  ·exact .inl z
  ·exact .inr z
theorem Y0:∀ {ns:List Int} {n:Int},n∈ns->PySem.W.WData.weight (.int n) <= PySem.W.WData.weightAll (ns.map .int)
 | m :: ns,n,h=>by
  rw [List.map_cons,PySem.W.WData.weightAll]
  rcases List.mem_cons.mp h with rfl | h
  ·omega
  ·have:=Y0 h
   omega
theorem Yc {ns:List Int} (h:PySem.W.WData.layableAll [.list (ns.map .int)]=true):∀ n∈ns,Builtin.Int.intBits n <= 2 ^ 20:=by
 intro n hn
 have h1:PySem.W.WData.layable (.list (ns.map .int))=true:=by
  unfold PySem.W.WData.layableAll at h
  simpa using h
 unfold PySem.W.WData.layable at h1
 rw [Bool.and_eq_true] at h1
 have h2:=of_decide_eq_true h1.2
 rw [PySem.W.WData.weight] at h2
 have h3:=Nat.le_trans (Y0 hn) h2
 rw [PySem.W.WData.weight] at h3
 exact h3
end L2
namespace Att
open PySem PySem.W PySem.Calls PyProof.Rows
theorem attach_callB {l:OpenLaw} {n:Nat} {q:Program} {loose:List Str} {XP:(Str->Option Value)->Heap->Prop} {YP:World->Heap->Prop} {d:DefRec}
  (hn:l.most=some n) (hdf:d.params.defaults=[])
  (call:∀ (w:World) (s₀ s₁:Shared) (mg mb:Str->Option Value) (fa:Addr) (o:Obj) (pm cd doc:Value) (a:Addr) (vs:List Value) (ns:List Int),
   Ground q loose [] XP w s₀ mg mb s₁.heap->YP w s₁.heap->
   s₁.heap.get? fa=some o->o.data=.func (docDef d.name d.params d.body d.scope pm cd doc)->s₁.heap.CodeRec cd d.name->mg d.name=some (.ref fa)->
   s₁.heap.get? a=some { cls:=.type "list", data:=.seq vs.toArray }->IntsAre vs ns->ns.length <= n->(∀ k∈ns,Builtin.Int.intBits k <= 2 ^ 20)->s₁.gens=#[]->
   codeAny (model l.prog w) callerA (.call (.ref fa) ⟨[.ref a],[]⟩) (fun r s'=>r=.ok (.ret (.bool true))/\OldK s₁.heap s'.heap/\s'.os=s₁.os/\AllBare s'.gens) s₁) :
  WalkO q loose XP YP l.row.toRowW d [] (fun f vs=>PySem.call f vs):=by
 intro w s₀ s₁ mg mb G Y fa o pm cd doc dV kV ho hd hcd hD hmg hg args vals as hpre hlay hrd hwl hlo
 obtain rfl:dV=.none:=Dflts.none hD hdf
 obtain rfl:kV=.none:=Dflts.noKw hD
 obtain ⟨a,vs,ns,rfl,rfl,hobj,hints,hlen⟩:=qek hn hpre hwl
 refine enter_call (codeAny_mono (call w s₀ s₁ mg mb fa o pm cd doc a vs ns G Y ho (fd_plain hd) hcd hmg hobj hints hlen (L2.Yc hlay) hg) fun r s' hq=>?_)
 obtain ⟨rfl,h2,h3,h4⟩:=hq
 exact ⟨.inl ⟨.bool true,.bool true,[],rfl,fun _=>rfl,.bool true,qei l _,fun _=>⟨List.Pairwise.nil,fun _ hm=>(nomatch hm)⟩⟩,h2,h3,h4⟩
end Att
namespace L2
open PySem PySem.Spec PyProof.Rows
noncomputable def qcp (K:PySem.W.Frag) (n:Nat):Sp:=fun vs H Q _=>∃ (a:Addr) (ns:List Int),vs=[.ref a]/\SqL K H a (ns.map V.int)/\ns.length <= n/\(∀ k∈ns,Builtin.Int.intBits k <= 2 ^ 20)/\∀ H',Q (.bl true) H'
theorem qfO {P:Program} {w:World} {K:PySem.W.Frag} {mg:Str->Option Value} {base:Heap} {CX:CXT} {k n:Nat} {f:Addr} {fd:FuncData} {ps:List Str} {h:List PyData->Option PyData} (F:FnOk P w K mg base CX k f fd ps (spF K 1 h))
  (e:∀ ns:List Int,ns.length <= n->(∀ k∈ns,Builtin.Int.intBits k <= 2 ^ 20)->h [.list (ns.map .int)]=some (.bool true)):FnOk P w K mg base CX k f fd ps (qcp K n) :=
 F.imp fun vs H Q E ⟨a,ns,h1,h2,h3,h4,q⟩=>by
  subst h1
  exact ⟨fun _=>False,[.list (ns.map .int)],.bool true,(fun _ z=>z.elim),.cons (.list (h2.imp (fun y=>⟨y,id⟩) id) (DenL.ints ns)) .nil,rfl,e ns h3 h4,fun v H' _ d=>by rw [d.bool_inv];exact q H'⟩
theorem qer {l:PySem.W.OpenLaw} {n k:Nat} {q:Program} {loose:List Str} {XP:(Str->Option Value)->Heap->Prop} {YP:World->Heap->Prop} {d:DefRec} {K:Params->PySem.W.Frag} {x:Str}
  (hn:l.most=some n) (hn2:n <= sizeLine) (hdf:d.params.defaults=[]) (hr:Room k callerA)
  (hY:∀ (w:World) (h:Heap),YP w h->(K w.params).In h)
  (F:∀ (w:World) (mg:Str->Option Value) (fa:Addr) (h:Heap),(K w.params).In h->h.Ns mainGlobals mg->mg d.name=some (.ref fa)->
   ∃ fd:FuncData,(∀ (s:Shared) (u:Value),BindsTo s fd ⟨[u],[]⟩ [(x,u)])/\
    ∀ base:Heap,(K w.params).In base->base.Ns mainGlobals mg->FnOk l.prog w (K w.params) mg base CX0 k fa fd [x] (qcp (K w.params) n)) :
  PySem.W.WalkO q loose XP YP l.row.toRowW d [] (fun f vs=>PySem.call f vs):=by
 refine Att.attach_callB hn hdf fun w s₀ s₁ mg mb fa o pm cd doc a vs ns G Y ho hd hcd hmg hobj hints hlen hbits hg=>?_
 have KX:=hY w _ Y
 obtain ⟨fd,hb,hF⟩:=F w mg fa _ KX G.T.g hmg
 exact qfN KX G.T.g G.T.b G.T.builtins G.T.nolimit hg hobj hints (Nat.le_trans hlen hn2) hr hF hb (fun H hO hS=>⟨a,ns,rfl,hS,hlen,hbits,fun _=>rfl⟩) fun H e s' h=>h
mutual
noncomputable def ltX:PyData->PyData->Option Bool
 | .int i,.int j=>some (decide (i < j))
 | .tuple xs,.tuple ys=>ltXs xs ys
 | _,_=>none
noncomputable def ltXs:List PyData->List PyData->Option Bool
 | [],[]=>some false
 | [],_ :: _=>some true
 | _ :: _,[]=>some false
 | x :: xs,y :: ys=>if PyData.eqv x y=true then ltXs xs ys else ltX x y
end
noncomputable def LtAt (A:Around) (s:Shared) (y x:Value) (b:Bool):Prop:=∀ (prog:Program) (w:World) (E Q:Value->Shared->Prop),Q (.bool b) s->wpAny (model prog w) A (richCompare .Lt y x) Q E s
noncomputable def qaD (A:Around) (s:Shared):List Value->List Value->Bool->Prop
 | [],[],r=>r=false
 | [],_ :: _,r=>r=true
 | _ :: _,[],r=>r=false
 | y :: ys,x :: xs,r=>∃ e,SeqAt.EqAt A s y x e/\(e=true->qaD A s ys xs r)/\(e=false->LtAt A s y x r)
section
open PySem.SeqAt
open PySem.AutoSeq1 (wpAny_loadPart')
open PySem.MeetsSeq PySem.MeetsSeq2 PySem.MeetsSeq3
theorem qas (l b:Addr) (items items2:Array Value) (n n2:Nat) (dd dd2:Option Addr) (sl sl2:Array (Option Value)) :
  Meets (Builtin.«tuple.__lt__» ⟨[.ref l,.ref b],[]⟩)
   (fun A R s=>s.heap.get? l=some { cls:=.type "tuple", dict:=dd,data:=.seq items n,slots:=sl }/\s.heap.get? b=some { cls:=.type "tuple", dict:=dd2,data:=.seq items2 n2,slots:=sl2 }/\
    ∃ r,qaD A.in1 s items.toList items2.toList r/\R (.ok (.ret (.bool r))) s) :=
 .of_wp fun prog w A R s h=>by
  obtain ⟨hp,g,d,tk,os⟩:=s;obtain ⟨hl,hb,r,hx,h⟩:=h
  have f2:=AutoSeq1.sub_tuple_tuple
  wp_walk using wpAny_loadPart' hl,wpAny_loadPart' hb,wpAny_forIn_list _ (fun rest b s'=>b.1=none/\s'=⟨hp,g,d,tk,os⟩/\∃ (vs ws:List Value),rest=vs.zip ws/\
   qaD A.in1 ⟨hp,g,d,tk,os⟩ vs ws r/\vs.length + items2.size=ws.length + items.size) _
  case turn =>
   rintro ⟨y,x⟩ rest b s' ⟨hb',rfl,vs,ws,hz,hlx,hlen⟩
   cases vs with
   | nil=>rw [List.zip_nil_left] at hz;cases hz
   | cons v vs =>
    cases ws with
    | nil=>rw [List.zip_nil_right] at hz;cases hz
    | cons u ws =>
     rw [List.zip_cons_cons] at hz
     injection hz with hyx hrest
     injection hyx with hy hx'
     subst hy hx'
     simp only [List.length_cons] at hlen
     obtain ⟨e,he,h1,h2⟩:=hlx
     refine wpAny_bind (he prog w _ _ ?_)
     cases e with
     | true =>
      wp_walk
      exact ⟨rfl,rfl,_,_,hrest,h1 rfl,by omega⟩
     | false =>
      have hri:=h2 rfl prog w
      wp_walk using hri
      exact ⟨_,rfl,by simpa using h⟩
  case fin =>
   rintro ⟨b1,b2⟩ s' ⟨hb',rfl,vs,ws,hz,hlx,hlen⟩
   simp only at hb'
   subst hb'
   have hv:r=decide (items.size < items2.size):=by
    cases vs with
    | nil =>
     cases ws with
     | nil =>
      simp only [List.length_nil] at hlen
      rw [show r=false from hlx]
      exact (decide_eq_false (by omega)).symm
     | cons c hw =>
      simp only [List.length_nil,List.length_cons] at hlen
      rw [show r=true from hlx]
      exact (decide_eq_true (by omega)).symm
    | cons a hv =>
     cases ws with
     | nil =>
      simp only [List.length_nil,List.length_cons] at hlen
      rw [show r=false from hlx]
      exact (decide_eq_false (by omega)).symm
     | cons c hw =>
      rw [List.zip_cons_cons] at hz
      cases hz
   rw [hv] at h
   wp_walk
   exact ⟨_,rfl,by simpa [Builtin.Tuple.tupleCompareSizes] using h⟩
  case h =>
   exact ⟨rfl,rfl,items.toList,items2.toList,rfl,hx,by simp [Nat.add_comm]⟩
end
theorem qfS {A:Around} {s:Shared} {l b:Addr} {items items2:Array Value} {r:Bool} (hl:IsTup s.heap l items) (hb:IsTup s.heap b items2) (hu:A.units < cLine) (h:qaD A.in1 s items.toList items2.toList r):LtAt A s (.ref l) (.ref b) r:=fun prog w E Q q=>by
 obtain ⟨⟨cls,dd,data,sl⟩,ho,hc,n,hd⟩:=id hl
 obtain ⟨⟨cls2,dd2,data2,sl2⟩,ho2,hc2,n2,hd2⟩:=id hb
 simp only at hc hd hc2 hd2
 subst hc hd hc2 hd2
 exact richCompare_meets_room (op:=.Lt) ⟨_,ho,rfl⟩ ⟨_,ho2,rfl⟩ PySem.F.slot_tuple_lt PySem.F.entry_tuple_lt (PySem.F.args_tuple_lt_2 _ _) (qas l b items items2 n n2 dd dd2 sl sl2)
  ⟨ho,ho2,r,h,show Value.bool r≠Value.notImplemented/\Q (.bool r) s from ⟨(fun x=>nomatch x),q⟩⟩ hu
theorem qa8 {A:Around} {s:Shared} {m:Nat} (hu:A.units + m + 1 < cLine) (hit:∀ (x y:PyData) (a b:Value) (as bs:List Addr) (r:Bool),x.depth <= m->Reads s.heap a x as->Reads s.heap b y bs->x.canLay0=true->y.canLay0=true->ltX x y=some r->LtAt A s a b r) :
  ∀ (xs ys:List PyData) (vs ws:List Value) (as bs:List Addr) (r:Bool),PyData.depthAll xs <= m->ReadsAll s.heap vs xs as->ReadsAll s.heap ws ys bs->PyData.canLayAll0 xs=true->PyData.canLayAll0 ys=true->ltXs xs ys=some r->qaD A s vs ws r:=by
 intro xs
 induction xs with
 | nil =>
  intro ys vs ws as bs r _ h1 h2 _ _ e
  cases h1
  cases ys with
  | nil=>cases h2;rw [ltXs] at e;cases e;rfl
  | cons y ys=>cases h2;rw [ltXs] at e;cases e;rfl
 | cons x xs ih =>
  intro ys vs ws as bs r hm h1 h2 c1 c2 e
  cases h1 with
  | cons rx rxs =>
   cases ys with
   | nil=>cases h2;rw [ltXs] at e;cases e;rfl
   | cons y ys =>
    cases h2 with
    | cons ry rys =>
     have c1':x.canLay0=true/\PyData.canLayAll0 xs=true:=by simpa [PyData.canLayAll0] using c1
     have c2':y.canLay0=true/\PyData.canLayAll0 ys=true:=by simpa [PyData.canLayAll0] using c2
     have hd:max x.depth (PyData.depthAll xs) <= m:=by rw [PyData.depthAll] at hm;exact hm
     have m1:=Nat.le_trans (Nat.le_max_left x.depth (PyData.depthAll xs)) hd
     have m2:=Nat.le_trans (Nat.le_max_right x.depth (PyData.depthAll xs)) hd
     rw [ltXs] at e
     refine ⟨PyData.eqv x y,SeqAt.eqAt_reads x y A s _ _ _ _ rx ry c1'.1 c2'.1 (by have:=Nat.min_le_left x.depth y.depth;omega),fun q=>?_,fun q=>?_⟩
     ·rw [if_pos q] at e
      exact ih ys _ _ _ _ r m2 rxs rys c1'.2 c2'.2 e
     ·rw [if_neg (by rw [q];exact Bool.false_ne_true)] at e
      exact hit x y _ _ _ _ r m1 rx ry c1'.1 c2'.1 e
theorem jU:∀ (n:Nat) (da db:PyData) (A:Around) (s:Shared) (a b:Value) (as bs:List Addr) (r:Bool),da.depth <= n->Reads s.heap a da as->Reads s.heap b db bs->da.canLay0=true->db.canLay0=true->A.units + n + 1 < cLine->ltX da db=some r->LtAt A s a b r:=by
 intro n
 induction n with
 | zero =>
  intro da db A s a b as bs r hd ra rb ca cb hu e
  cases da with
  | int i =>
   cases db with
   | int j =>
    cases ra;cases rb
    rw [ltX] at e
    cases e
    exact fun prog w E Q q=>HT.qby A s i _ j _ prog w E Q q
   | _=>simp [ltX] at e
  | tuple xs =>
   rw [PyData.depth] at hd
   omega
  | _=>simp [ltX] at e
 | succ n ih =>
  intro da db A s a b as bs r hd ra rb ca cb hu e
  cases da with
  | int i =>
   cases db with
   | int j =>
    cases ra;cases rb
    rw [ltX] at e
    cases e
    exact fun prog w E Q q=>HT.qby A s i _ j _ prog w E Q q
   | _=>simp [ltX] at e
  | tuple xs =>
   cases db with
   | tuple ys =>
    rw [PyData.depth] at hd
    rw [ltX] at e
    cases ra with
    | tuple e1 c1 d1 t1 =>
     cases rb with
     | tuple e2 c2 d2 t2 =>
      refine qfS ⟨_,e1,c1,_,d1⟩ ⟨_,e2,c2,_,d2⟩ (by omega) ?_
      exact qa8 (m:=n) (by show A.units + 1 + n + 1 < cLine;omega) (fun x y a b as bs r hx r1 r2 k1 k2 e=>ih x y A.in1 s a b as bs r hx r1 r2 k1 k2 (by show A.units + 1 + n + 1 < cLine;omega) e)
       xs ys _ _ _ _ r (by omega) t1 t2 (by simpa [PyData.canLay0] using ca) (by simpa [PyData.canLay0] using cb) e
   | _=>simp [ltX] at e
  | _=>simp [ltX] at e
noncomputable def ltD2 (x y:PyData):Option PyData:=if SeqAt.shaped x=true/\SeqAt.shaped y=true/\x.depth <= 60 then ob (ltX x y) fun r=>some (.bool r) else none
theorem qiN {X:Cx} {k:Nat} (hr:Room k X.A):OpD X (compareOp .Lt) ltD2:=by
 intro pins s σ H x y v u Q I rx ry ⟨S,dx,dy,d,m,h1,h2,e,q⟩
 obtain ⟨as,q1⟩:=h1.reads I rx
 obtain ⟨bs,q2⟩:=h2.reads I ry
 unfold ltD2 at e
 split at e
 ·rename_i hc
  obtain ⟨r,e1,e⟩:=qi e
  cases e
  have hu:=hr.units
  exact jU 60 dx dy X.A s v u as bs r hc.2.2 q1 q2 (SeqAt.canLay_of_shaped hc.1) (SeqAt.canLay_of_shaped hc.2.1) (by omega) e1 X.prog X.w X.xe _ (ZJ I (q _ H (Same.refl H) (.bool r)) rfl)
 ·cases e
end L2
namespace L2
open PySem PySem.Spec PyProof.Rows PySem.W
noncomputable def runC {α:Type} (lt:Nat->Nat->Option Bool):KasT α->Option α
 | .ret a=>some a
 | .ask i j k=>ob (lt i j) fun b=>runC lt (k b)
theorem qdr {α:Type} {cmp:Nat->Nat->(Bool->Shared->Prop)->Shared->Prop} {lt:Nat->Nat->Option Bool} {s:Shared} {Q:α->Shared->Prop} (hc:∀ i j b C,lt i j=some b->C b s->cmp i j C s) :
  ∀ (t:KasT α) (a:α),runC lt t=some a->Q a s->t.kasWp cmp Q s
 | .ret x,a,e,q=>by cases e;exact q
 | .ask i j k,a,e,q=>by
  obtain ⟨b,e1,e2⟩:=qi e
  exact hc i j b _ e1 (qdr hc (k b) a e2 q)
section
variable {prog:Program} {w:World} {A:Around} {E:Value->Shared->Prop} {s:Shared}
noncomputable def Kept (a:Addr) (s s':Shared):Prop:=∀ b o,b≠a->s.heap.get? b=some o->s'.heap.get? b=some o
theorem qcn {a:Addr} {vs:List Value} {n:Nat} {P:PySem.Fin->Shared->Prop} {κ:SortKind} {p:Array Nat} (ho:s.heap.get? a=some (seqObj "list" vs.toArray n)) (h2:2 <= vs.length) (h64:vs.length < 64)
  (hk:∀ (s':Shared) (Q:SortKind->Shared->Prop),Kept a s s'->Q κ s'->wpAny (model prog w) A (keyKind' vs.toArray) Q E s')
  (hr:∀ (s':Shared) (G:Array Nat->Shared->Prop),Kept a s s'->G p s'->(kas_sort vs.length).kasWp (kas_ask prog w A κ vs) G s')
  (h:P (.done (.ret .none)) { s with heap:=sortedHeap s.heap a vs (p.toList.map fun i=>vs.getD i Value.none).toArray }) :
  wpAny (model prog w) A (Builtin.«list.sort» ⟨[.ref a],[]⟩) P E s:=by
 have small:vs.length <= sizeLine:=by rw [sizeLine_eq];omega
 have lt:=Heap.lt_size ho
 obtain ⟨e1,o1⟩:∃ e1,(s.heap.update a (Obj.mapSeq fun _=>#[])).get? a=some (seqObj "list" #[] e1):=⟨_,get?_update_seq ho fun _=>#[]⟩
 rw [list_sort_plain]
 refine wpAny_bind (listItems_at ho rfl (wpAny_bind (listUpdate_at ho rfl (wpAny_bind (seqEpoch_at o1 rfl (wpAny_bind ?_))) (by simpa using small) (Nat.zero_le _))))
 refine wpAny_newTuple (wpAny_bind (wpAny_newList (wpAny_holding ?_) (Nat.zero_le _))) (by simpa using small)
 obtain ⟨h6,hE⟩:∃ h6,h6=((s.heap.update a (Obj.mapSeq fun _=>(#[]:Array Value))).push (seqObj "tuple" vs.toArray 0)).push (seqObj "list" #[] 0):=⟨_,rfl⟩
 have kp:Kept a s { s with heap:=h6 }:=fun b o ne e=>by
  show h6.get? b=some o
  rw [hE]
  refine Heap.get?_push_of_some _ (Heap.get?_push_of_some _ ?_)
  rw [Heap.get?_update_ne _ _ _ _ ne]
  exact e
 have o6:h6.get? a=some (seqObj "list" #[] e1):=by
  rw [hE]
  exact Heap.get?_push_of_some _ (Heap.get?_push_of_some _ o1)
 show wpAny (model prog w) A _ P E { s with heap:=((s.heap.update a (Obj.mapSeq fun _=>(#[]:Array Value))).push (seqObj "tuple" vs.toArray 0)).push (seqObj "list" #[] 0) }
 rw [← hE]
 have n2:¬ vs.toArray.size < 2:=by rw [List.size_toArray];omega
 dsimp only
 rw [if_neg n2,if_neg n2]
 refine wpAny_bind (hk _ _ kp ?_)
 refine wpAny_bind (wpAny_mono (kat_run (Q:=fun st' s'=>s'={ s with heap:=h6 }/\arrOf st'=p.map (kas_item (vs.toArray.zip vs.toArray))/\failedOf st'=none/\p.size=vs.length) rfl h2 h64
  (fun p' st' s' z har hf hg=>⟨hg.1,by rw [← hg.2];exact har,hf,by rw [← hg.2];exact z⟩) (hr _ (fun p' s'=>s'={ s with heap:=h6 }/\p'=p) kp ⟨rfl,rfl⟩)) ?_ fun _ _ e=>e)
 rintro ⟨⟨⟩,st'⟩ s' ⟨rfl,har,hf,hz⟩
 dsimp only
 rw [kat_snds rfl har]
 refine wpAny_bind (seqEpoch_at o6 rfl (wpAny_bind (listUpdate_at o6 rfl ?_ (Nat.zero_le _) (by rw [List.size_toArray,List.length_map,Array.length_toList,hz];omega))))
 rw [hf]
 simp only [bne_self_eq_false,Bool.false_eq_true,if_false]
 refine wpAny_pure ?_
 rw [hE]
 exact h
theorem qco {a:Addr} {vs:List Value} {n:Nat} {P:PySem.Fin->Shared->Prop} (ho:s.heap.get? a=some (seqObj "list" vs.toArray n)) (h2:vs.length < 2)
  (h:P (.done (.ret .none)) { s with heap:=sortedHeap s.heap a vs vs.toArray }):wpAny (model prog w) A (Builtin.«list.sort» ⟨[.ref a],[]⟩) P E s:=by
 have small:vs.length <= sizeLine:=by rw [sizeLine_eq];omega
 obtain ⟨e1,o1⟩:∃ e1,(s.heap.update a (Obj.mapSeq fun _=>#[])).get? a=some (seqObj "list" #[] e1):=⟨_,get?_update_seq ho fun _=>#[]⟩
 rw [list_sort_plain]
 refine wpAny_bind (listItems_at ho rfl (wpAny_bind (listUpdate_at ho rfl (wpAny_bind (seqEpoch_at o1 rfl (wpAny_bind ?_))) (by simpa using small) (Nat.zero_le _))))
 refine wpAny_newTuple (wpAny_bind (wpAny_newList (wpAny_holding ?_) (Nat.zero_le _))) (by simpa using small)
 obtain ⟨h6,hE⟩:∃ h6,h6=((s.heap.update a (Obj.mapSeq fun _=>(#[]:Array Value))).push (seqObj "tuple" vs.toArray 0)).push (seqObj "list" #[] 0):=⟨_,rfl⟩
 have o6:h6.get? a=some (seqObj "list" #[] e1):=by
  rw [hE]
  exact Heap.get?_push_of_some _ (Heap.get?_push_of_some _ o1)
 show wpAny (model prog w) A _ P E { s with heap:=((s.heap.update a (Obj.mapSeq fun _=>(#[]:Array Value))).push (seqObj "tuple" vs.toArray 0)).push (seqObj "list" #[] 0) }
 rw [← hE]
 have n2:vs.toArray.size < 2:=by rw [List.size_toArray];omega
 dsimp only
 rw [if_pos n2,if_pos n2]
 refine wpAny_bind (wpAny_pure ?_)
 rw [StateT.run_pure]
 refine wpAny_bind (wpAny_pure ?_)
 dsimp only
 have eo:Array.map (fun x=>x.2) (vs.toArray.zip vs.toArray)=vs.toArray:=by
  apply Array.toList_inj.mp
  simp [List.map_snd_zip]
 show wpAny (model prog w) A (seqEpoch a >>= _) P E { s with heap:=h6 }
 refine wpAny_bind (seqEpoch_at o6 rfl (wpAny_bind ?_))
 rw [show Array.map (fun x=>x.2) (arrOf (SortSt.mk' general' (vs.toArray.zip vs.toArray) #[] 7 none))=vs.toArray from eo]
 refine listUpdate_at o6 rfl ?_ (Nat.zero_le _) (by rw [List.size_toArray];omega)
 simp only [bne_self_eq_false,Bool.false_eq_true,if_false]
 refine wpAny_pure ?_
 rw [hE]
 exact h
theorem qaq {l:Addr} {vs:List Value} {Q:Value->Shared->Prop} {κ:SortKind} {p:Array Nat} (hl:s.heap.IsList l vs.toArray) (h2:2 <= vs.length) (h64:vs.length < 64)
  (hk:∀ (s':Shared) (Q:SortKind->Shared->Prop),(∀ b o,s.heap.get? b=some o->s'.heap.get? b=some o)->Q κ s'->wpAny (model prog w) A.in1.in1 (keyKind' vs.toArray) Q (fun _ _=>False) s')
  (hr:∀ (s':Shared) (G:Array Nat->Shared->Prop),(∀ b o,s.heap.get? b=some o->s'.heap.get? b=some o)->G p s'->(kas_sort vs.length).kasWp (kas_ask prog w A.in1.in1 κ vs) G s')
  (h:Q (.ref (s.heap.objs.size + 1)) { s with heap:=sortedAll s.heap vs (p.toList.map fun i=>vs.getD i Value.none).toArray }) :
  wpAny (model prog w) A (call (.builtin "sorted") [.ref l]) Q E s:=by
 have small:vs.length <= sizeLine:=by rw [sizeLine_eq];omega
 refine Calls.call_function_entry kind_sorted plain_sorted entry_sorted (args_sorted1 _) ?_
 unfold Builtin.«sorted»
 refine wpAny_bind (m:=checkCount "sorted" 1 1 _) (wpAny_pure (wpAny_bind (collect_list hl (wpAny_bind (wpAny_newList ?_ (by simpa using small))) (by simpa using small))))
 have zz:((s.heap.push (seqObj "list" #[] 0)).update s.heap.objs.size (Obj.mapSeq (· ++ vs.toArray))).objs.size=s.heap.objs.size + 1:=by rw [Heap.size_update,size_push']
 obtain ⟨h3,hH⟩:∃ h3,h3=((s.heap.push (seqObj "list" #[] 0)).update s.heap.objs.size (Obj.mapSeq (· ++ vs.toArray))).push (seqObj "list" vs.toArray 0):=⟨_,rfl⟩
 have oL:h3.get? (s.heap.objs.size + 1)=some (seqObj "list" vs.toArray 0):=by
  rw [hH,← zz]
  exact Heap.get?_push_size _ rfl
 have keep:∀ b o,s.heap.get? b=some o->h3.get? b=some o:=fun b o e=>by
  rw [hH]
  have hlt:=Heap.lt_size e
  refine Heap.get?_push_of_some _ ?_
  rw [Heap.get?_update_ne _ _ _ _ (Nat.ne_of_lt hlt)]
  exact Heap.get?_push_of_some _ e
 show wpAny _ _ _ _ _ { s with heap:=((s.heap.push (seqObj "list" #[] 0)).update s.heap.objs.size (Obj.mapSeq (· ++ vs.toArray))).push (seqObj "list" vs.toArray 0) }
 rw [zz,← hH]
 have k2:∀ s':Shared,Kept (s.heap.objs.size + 1) { s with heap:=h3 } s'->∀ b o,s.heap.get? b=some o->s'.heap.get? b=some o:=fun s' kp b o e=>kp b o (Nat.ne_of_lt (Nat.lt_succ_of_lt (Heap.lt_size e))) (keep b o e)
 refine wpAny_bind (wpAny_holding (wpAny_call_entry slot_list_sort ⟨_,oL,rfl⟩ entry_list_sort (qcn (κ:=κ) (p:=p) oL h2 h64 (fun s' Q kp q=>wpAny_mono (hk s' Q (k2 s' kp) q) (fun _ _ z=>z) fun _ _ z=>z.elim) (fun s' G kp q=>hr s' G (k2 s' kp) q) ⟨_,rfl,?_⟩) (args_list_sort _)))
 refine wpAny_pure ⟨_,rfl,?_⟩
 have hA:sortedHeap h3 (s.heap.objs.size + 1) vs (p.toList.map fun i=>vs.getD i Value.none).toArray=sortedAll s.heap vs (p.toList.map fun i=>vs.getD i Value.none).toArray:=by
  rw [hH]
  rfl
 rw [hA]
 exact h
theorem qar {l:Addr} {vs:List Value} {Q:Value->Shared->Prop} (hl:s.heap.IsList l vs.toArray) (h2:vs.length < 2)
  (h:Q (.ref (s.heap.objs.size + 1)) { s with heap:=sortedAll s.heap vs vs.toArray }) :
  wpAny (model prog w) A (call (.builtin "sorted") [.ref l]) Q E s:=by
 have small:vs.length <= sizeLine:=by rw [sizeLine_eq];omega
 refine Calls.call_function_entry kind_sorted plain_sorted entry_sorted (args_sorted1 _) ?_
 unfold Builtin.«sorted»
 refine wpAny_bind (m:=checkCount "sorted" 1 1 _) (wpAny_pure (wpAny_bind (collect_list hl (wpAny_bind (wpAny_newList ?_ (by simpa using small))) (by simpa using small))))
 have zz:((s.heap.push (seqObj "list" #[] 0)).update s.heap.objs.size (Obj.mapSeq (· ++ vs.toArray))).objs.size=s.heap.objs.size + 1:=by rw [Heap.size_update,size_push']
 obtain ⟨h3,hH⟩:∃ h3,h3=((s.heap.push (seqObj "list" #[] 0)).update s.heap.objs.size (Obj.mapSeq (· ++ vs.toArray))).push (seqObj "list" vs.toArray 0):=⟨_,rfl⟩
 have oL:h3.get? (s.heap.objs.size + 1)=some (seqObj "list" vs.toArray 0):=by
  rw [hH,← zz]
  exact Heap.get?_push_size _ rfl
 show wpAny _ _ _ _ _ { s with heap:=((s.heap.push (seqObj "list" #[] 0)).update s.heap.objs.size (Obj.mapSeq (· ++ vs.toArray))).push (seqObj "list" vs.toArray 0) }
 rw [zz,← hH]
 refine wpAny_bind (wpAny_holding (wpAny_call_entry slot_list_sort ⟨_,oL,rfl⟩ entry_list_sort (qco oL h2 ⟨_,rfl,?_⟩) (args_list_sort _)))
 refine wpAny_pure ⟨_,rfl,?_⟩
 have hA:sortedHeap h3 (s.heap.objs.size + 1) vs vs.toArray=sortedAll s.heap vs vs.toArray:=by
  rw [hH]
  rfl
 rw [hA]
 exact h
end
noncomputable def qba (ds:List PyData) (i j:Nat):Option Bool:=match ds[i]?,ds[j]? with
 | some x,some y=>ltX x y
 | _,_=>none
noncomputable def keyD:PyData->Nat
 | .tuple (.int _ :: _)=>0
 | .tuple (.tuple _ :: _)=>1
 | .int _=>2
 | _=>3
noncomputable def qbq (ds:List PyData) (p:Array Nat):Option PyData:=if (p.toList.all fun i=>decide (i < ds.length))=true/\p.toList.length <= 1000 then some (.list (p.toList.map fun i=>ds.getD i .none)) else none
noncomputable def Zk (k:Nat) (ds:List PyData):Bool:=(ds.all fun d=>keyD d == k) && (decide (2 <= ds.length) && (decide (ds.length < 64) && (PyData.canLayAll0 ds && decide (PyData.depthAll ds <= 50))))
noncomputable def qZ:List PyData->Option PyData
 | [.list ds]=>if ds.length < 2 then some (.list ds) else if Zk 0 ds=true\/Zk 1 ds=true then ob (runC (qba ds) (kas_sort ds.length)) fun p=>qbq ds p else none
 | _=>none
section
variable {prog:Program} {w:World} {A:Around} {s:Shared}
theorem qac {b fin:Bool} {m:Nat} {Q:Bool->Shared->Prop} {r:Bool} (hu:A.units + m + 1 < cLine) (q:Q r s) :
  ∀ (xs ys:List PyData) (vs ws:List Value) (as bs:List Addr) (i:Nat),PyData.depthAll xs <= m->ReadsAll s.heap vs xs as->ReadsAll s.heap ws ys bs->PyData.canLayAll0 xs=true->PyData.canLayAll0 ys=true->ltXs xs ys=some r->
   (b=true->i=0->∀ x y,xs.head?=some x->ys.head?=some y->∃ n k,x=.int n/\y=.int k)->fin=decide (xs.length < ys.length)->KatLex prog w A b fin Q (vs.zip ws) i s:=by
 intro xs
 induction xs with
 | nil =>
  intro ys vs ws as bs i _ h1 h2 _ _ e _ hf
  cases h1
  rw [List.zip_nil_left]
  refine kat_nil ?_
  cases ys with
  | nil=>rw [ltXs] at e;cases e;rw [hf];simpa using q
  | cons y ys=>rw [ltXs] at e;cases e;rw [hf];simpa using q
 | cons x xs ih =>
  intro ys vs ws as bs i hm h1 h2 c1 c2 e hb hf
  cases h1 with
  | cons rx rxs =>
   cases ys with
   | nil =>
    cases h2
    rw [List.zip_nil_right]
    refine kat_nil ?_
    rw [ltXs] at e;cases e;rw [hf];simpa using q
   | cons y ys =>
    cases h2 with
    | cons ry rys =>
     have c1':x.canLay0=true/\PyData.canLayAll0 xs=true:=by simpa [PyData.canLayAll0] using c1
     have c2':y.canLay0=true/\PyData.canLayAll0 ys=true:=by simpa [PyData.canLayAll0] using c2
     have hd:max x.depth (PyData.depthAll xs) <= m:=by rw [PyData.depthAll] at hm;exact hm
     have m1:=Nat.le_trans (Nat.le_max_left x.depth (PyData.depthAll xs)) hd
     have m2:=Nat.le_trans (Nat.le_max_right x.depth (PyData.depthAll xs)) hd
     rw [ltXs] at e
     rw [List.zip_cons_cons]
     refine kat_cons (SeqAt.eqAt_reads x y A s _ _ _ _ rx ry c1'.1 c2'.1 (by have:=Nat.min_le_left x.depth y.depth;omega) prog w _ _ (kat_go (fun z=>?_) fun z=>?_))
     ·rw [if_pos z] at e
      refine kat_yes (ih ys _ _ _ _ (i + 1) m2 rxs rys c1'.2 c2'.2 e (fun _ z=>by omega) ?_)
      rw [hf,List.length_cons,List.length_cons]
      exact decide_eq_decide.mpr (by omega)
     ·rw [if_neg (by rw [z];exact Bool.false_ne_true)] at e
      refine kat_no ?_
      cases hbi:(b && i == 0) with
      | true =>
       rw [Bool.and_eq_true] at hbi
       obtain ⟨n,k,rfl,rfl⟩:=hb hbi.1 (by simpa using hbi.2) x y rfl rfl
       cases rx;cases ry
       rw [ltX] at e
       cases e
       exact oneLt_int q
      | false =>
       exact kat_one _ _ (jU m x y A s _ _ _ _ r m1 rx ry c1'.1 c2'.1 hu e prog w _ _ q)
theorem Jz {h:Heap}:∀ {vs:List Value} {ds:List PyData} {as:List Addr},ReadsAll h vs ds as->vs.length=ds.length
 | _,_,_,.nil=>rfl
 | _,_,_,.cons _ t=>by rw [List.length_cons,List.length_cons,Jz t]
theorem Jy {h:Heap}:∀ {vs:List Value} {ds:List PyData} {as:List Addr} {i:Nat} {d:PyData},ReadsAll h vs ds as->ds[i]?=some d->∃ v bs,vs[i]?=some v/\Reads h v d bs
 | _,_,_,_,_,.nil,e=>by simp at e
 | _,_,_,0,_,.cons r _,e=>by simp at e;subst e;exact ⟨_,_,rfl,r⟩
 | _,_,_,i + 1,d,.cons _ t,e=>by
  obtain ⟨v,bs,h1,h2⟩:=Jy (i:=i) (d:=d) t (by simpa using e)
  exact ⟨v,bs,by simpa using h1,h2⟩
theorem jP:∀ {ds:List PyData} {i:Nat} {d:PyData},PyData.canLayAll0 ds=true->ds[i]?=some d->d.canLay0=true/\d.depth <= PyData.depthAll ds
 | [],_,_,_,e=>by simp at e
 | x :: xs,0,d,h,e=>by
  have h':x.canLay0=true/\PyData.canLayAll0 xs=true:=by simpa [PyData.canLayAll0] using h
  simp at e
  subst e
  exact ⟨h'.1,by rw [PyData.depthAll];exact Nat.le_max_left _ _⟩
 | x :: xs,i + 1,d,h,e=>by
  have h':x.canLay0=true/\PyData.canLayAll0 xs=true:=by simpa [PyData.canLayAll0] using h
  obtain ⟨h1,h2⟩:=jP (i:=i) (d:=d) h'.2 (by simpa using e)
  exact ⟨h1,Nat.le_trans h2 (by rw [PyData.depthAll];exact Nat.le_max_right _ _)⟩
theorem Yy {h:Heap} {k:Nat} (hk:k < 2):∀ {vs:List Value} {ds:List PyData} {as:List Addr},ReadsAll h vs ds as->(ds.all fun d=>keyD d == k)=true->∃ fs:List Value,KatTups h vs fs/\fs.length=vs.length/\∀ (M:Model),∀ f∈fs,Looks M h (typeOf f) (if k=0 then Value.type "int" else Value.type "tuple")
 | _,_,_,.nil,_=>⟨[],trivial,rfl,fun _ _ z=>nomatch z⟩
 | _,d :: ds,_,.cons (d:=_) r t,e=>by
  rw [List.all_cons,Bool.and_eq_true] at e
  obtain ⟨fs,h1,h2,h3⟩:=Yy hk t e.2
  have e1:keyD d=k:=by simpa using e.1
  cases d with
  | tuple xs =>
   cases r with
   | @tuple a o its n xs' as' g1 g2 g3 g4 =>
    cases xs with
    | nil=>rw [show keyD (.tuple [])=3 from rfl] at e1;omega
    | cons x xs =>
     obtain ⟨v,rv,q1,rx⟩:=Jy (i:=0) g4 rfl
     have h0:its[0]?=some v:=by rw [← Array.getElem?_toList];exact q1
     refine ⟨v :: fs,KatTups.cons g1 g2 g3 h0 h1,by rw [List.length_cons,List.length_cons,h2],fun M f hf=>?_⟩
     rcases List.mem_cons.mp hf with rfl | hf
     ·cases x with
      | int n =>
       cases rx
       rw [show keyD (.tuple (.int n :: xs))=0 from rfl] at e1
       rw [if_pos e1.symm]
       exact Looks.of_pure rfl
      | tuple ys =>
       rw [show keyD (.tuple (.tuple ys :: xs))=1 from rfl] at e1
       cases rx with
       | tuple k1 k2 k3 k4 =>
        rw [if_neg (by omega),← k2]
        exact (Looks.ld k1).andThen .now
      | none=>rw [show keyD (.tuple (.none :: xs))=3 from rfl] at e1;omega
      | bool _=>rw [show keyD (.tuple (.bool _ :: xs))=3 from rfl] at e1;omega
      | str _=>rw [show keyD (.tuple (.str _ :: xs))=3 from rfl] at e1;omega
      | list _=>rw [show keyD (.tuple (.list _ :: xs))=3 from rfl] at e1;omega
      | dict _=>rw [show keyD (.tuple (.dict _ :: xs))=3 from rfl] at e1;omega
     ·exact h3 M f hf
  | int n=>rw [show keyD (.int n)=2 from rfl] at e1;omega
  | none=>rw [show keyD .none=3 from rfl] at e1;omega
  | bool _=>rw [show keyD (.bool _)=3 from rfl] at e1;omega
  | str _=>rw [show keyD (.str _)=3 from rfl] at e1;omega
  | list _=>rw [show keyD (.list _)=3 from rfl] at e1;omega
  | dict _=>rw [show keyD (.dict _)=3 from rfl] at e1;omega
end
section
variable {h h':Heap}
mutual
theorem qej (k:∀ b o,h.get? b=some o->h'.get? b=some o):∀ {d:PyData} {v:Value} {as:List Addr},Reads h v d as->d.canLay0=true->Reads h' v d as
 | .none,_,_,r,_=>by cases r;exact .none
 | .bool _,_,_,r,_=>by cases r;exact .bool _
 | .int _,_,_,r,_=>by cases r;exact .int _ _
 | .str _,_,_,r,_=>by cases r;exact .str _ _
 | .list xs,_,_,r,c=>by
  cases r with
  | list e q g t=>exact .list (k _ _ e) q g (Qw k t (by simpa [PyData.canLay0] using c))
 | .tuple xs,_,_,r,c=>by
  cases r with
  | tuple e q g t=>exact .tuple (k _ _ e) q g (Qw k t (by simpa [PyData.canLay0] using c))
 | .dict _,_,_,_,c=>by simp [PyData.canLay0] at c
theorem Qw (k:∀ b o,h.get? b=some o->h'.get? b=some o):∀ {ds:List PyData} {vs:List Value} {as:List Addr},ReadsAll h vs ds as->PyData.canLayAll0 ds=true->ReadsAll h' vs ds as
 | [],_,_,r,_=>by cases r;exact .nil
 | d :: ds,_,_,r,c=>by
  have c':d.canLay0=true/\PyData.canLayAll0 ds=true:=by simpa [PyData.canLayAll0] using c
  cases r with
  | cons r t=>exact .cons (qej k r c'.1) (Qw k t c'.2)
end
end
theorem qfU {x y:PyData} {r:Bool} (hx:keyD x < 2) (e:ltX x y=some r):∃ xs ys,x=.tuple xs/\y=.tuple ys/\ltXs xs ys=some r:=by
 cases x with
 | tuple xs =>
  cases y with
  | tuple ys=>rw [ltX] at e;exact ⟨xs,ys,rfl,rfl,e⟩
  | _=>simp [ltX] at e
 | int n=>simp [keyD] at hx
 | _=>simp [ltX] at e
theorem wW {k:Nat} {xs:List PyData} (e:keyD (.tuple xs)=k) (h0:k=0):∀ x,xs.head?=some x->∃ n,x=.int n:=by
 intro x hx
 cases xs with
 | nil=>cases hx
 | cons y ys =>
  cases hx
  cases x with
  | int n=>exact ⟨n,rfl⟩
  | _=>(first | (simp [keyD] at e;omega) | (simp only [keyD] at e;omega))
theorem getD_some {α:Type} {xs:List α} {i:Nat} {x d:α} (e:xs[i]?=some x):xs.getD i d=x:=by rw [List.getD_eq_getElem?_getD,e];rfl
theorem Q5 {X:Cx} {k:Nat} (hr:Room k X.A):qat X (.builtin "sorted") qZ:=by
 intro pins s σ H xs us Q I r ⟨S,ds,d,m,h1,e,q⟩
 unfold qZ at e
 split at e
 ·rename_i ds
  split at e
  ·rename_i hlt
   cases e
   obtain ⟨v,rfl,hv⟩:=h1.inv1
   obtain ⟨a,ys,rfl,hs,ht⟩:=hv.list_inv
   obtain ⟨u,rfl,ru⟩:=vals1 r
   cases (show u=Value.ref a from ru)
   obtain ⟨its,rv,pl,hz⟩:=I.list hs.sq
   have hlen:=rv.length
   have hl2:=ht.length
   refine qar pl.isList (by omega) ?_
   obtain ⟨en,ob⟩:=sortedAll_at s.heap its its.toArray
   have hfr:H (s.heap.objs.size + 1)=none:=I.hok.fresh (Nat.le_succ _)
   exact ⟨.ref (s.heap.objs.size + 1),_,I.laid (t':=s.toks) (o:=.lst ys) (fun b o e=>sortedAll_old e) (Nat.le_succ _) ⟨hz,_,en,rv,ob⟩,rfl,q _ _ (Same.lay hfr) hfr (OwnO.laid hfr ht)⟩
  split at e
  ·rename_i hok
   obtain ⟨p,e1,e2⟩:=qi e
   obtain ⟨v,rfl,hv⟩:=h1.inv1
   obtain ⟨a,ys,rfl,hs,ht⟩:=hv.list_inv
   obtain ⟨u,rfl,ru⟩:=vals1 r
   cases (show u=Value.ref a from ru)
   obtain ⟨its,rv,pl,hz⟩:=I.list hs.sq
   obtain ⟨as,ra⟩:=ht.reads I rv
   have hlen:=Jz ra
   obtain ⟨kk,hk2,hk⟩:∃ kk,kk < 2/\Zk kk ds=true:=hok.elim (fun z=>⟨0,by decide,z⟩) fun z=>⟨1,by decide,z⟩
   unfold Zk at hk
   simp only [Bool.and_eq_true,decide_eq_true_eq] at hk
   obtain ⟨hall,l2,l64,hcan,hdep⟩:=hk
   unfold qbq at e2
   split at e2
   ·rename_i hin
    cases e2
    have hin':∀ i∈p.toList,i < ds.length:=fun i hi=>by
     have:=List.all_eq_true.mp hin.1 i hi
     simpa using this
    have hu:=hr.units
    obtain ⟨T,hT⟩:∃ T,T=(if kk=0 then Value.type "int" else Value.type "tuple"):=⟨_,rfl⟩
    have hT2:(T == T)=true:=by rw [hT];split<;>rfl
    have hb:(T != Value.type "tuple")=true->kk=0:=fun z=>by
     rw [hT] at z
     by_cases h0:kk=0
     ·exact h0
     ·rw [if_neg h0] at z;exact absurd z (by decide)
    refine qaq (κ:=tuples' (T != Value.type "tuple")) (p:=p) pl.isList (by omega) (by omega) (fun s' Q' keep q'=>?_) (fun s' G keep g=>?_) ?_
    ·obtain ⟨fs,t1,t2,t3⟩:=Yy hk2 (Qw keep ra hcan) hall
     exact kat_kind t1 (by omega) (fun f hf=>by rw [hT];exact t3 _ f hf) hT2 q'
    ·have ra':=Qw keep ra hcan
     rw [hlen]
     refine qdr (fun i j b C el hC=>?_) _ p e1 g
     unfold qba at el
     split at el
     ·rename_i x y ex ey
      obtain ⟨vx,bx,gx,rx⟩:=Jy ra' ex
      obtain ⟨vy,byy,gy,ry⟩:=Jy ra' ey
      obtain ⟨cx,dx⟩:=jP hcan ex
      obtain ⟨cy,dy⟩:=jP hcan ey
      have kx:keyD x=kk:=by
       have:=List.all_eq_true.mp hall x (List.mem_of_getElem? ex)
       simpa using this
      have ky:keyD y=kk:=by
       have:=List.all_eq_true.mp hall y (List.mem_of_getElem? ey)
       simpa using this
      obtain ⟨xs,ys',rfl,rfl,elx⟩:=qfU (by omega) el
      show kas_ask X.prog X.w X.A.in1.in1 _ its i j C s'
      unfold kas_ask
      rw [getD_some gx,getD_some gy]
      cases rx with
      | @tuple ax ox ax1 nx _ _ x1 x2 x3 x4 =>
       cases ry with
       | @tuple ay oy ay1 ny _ _ y1 y2 y3 y4 =>
        have dxs:PyData.depthAll xs <= 50:=by rw [PyData.depth] at dx;omega
        refine kat_lt x1 x3 y1 y3 (qac (m:=50) (by show X.A.units + 1 + 1 + 50 + 1 < cLine;omega) hC xs ys' _ _ _ _ 0 dxs x4 y4 (by simpa [PyData.canLay0] using cx) (by simpa [PyData.canLay0] using cy) elx (fun hbb _ x y hx hy=>?_) ?_)
        ·have h0:=hb hbb
         obtain ⟨n1,rfl⟩:=wW kx h0 x hx
         obtain ⟨n2,rfl⟩:=wW ky h0 y hy
         exact ⟨n1,n2,rfl,rfl⟩
        ·have z1:=Jz x4
         have z2:=Jz y4
         rw [Array.length_toList] at z1 z2
         rw [z1,z2]
     ·cases el
    ·obtain ⟨en,ob⟩:=sortedAll_at s.heap its (p.toList.map fun i=>its.getD i Value.none).toArray
     have hfr:H (s.heap.objs.size + 1)=none:=I.hok.fresh (Nat.le_succ _)
     have dl:DenL X.K H S (p.toList.map fun i=>ys.getD i .non) (p.toList.map fun i=>ds.getD i .none):=by
      generalize p.toList=pl at hin'
      induction pl with
      | nil=>exact .nil
      | cons i pl ih =>
       have hi:=hin' i (.head _)
       obtain ⟨vy,gy,dy⟩:=ht.get (List.getElem?_eq_getElem hi)
       rw [List.map_cons,List.map_cons,getD_some gy,getD_some (List.getElem?_eq_getElem hi)]
       exact .cons dy (ih fun j hj=>hin' j (.tail _ hj))
     have vl:Vals (p.toList.map fun i=>ys.getD i .non) (p.toList.map fun i=>its.getD i Value.none):=by
      generalize p.toList=pl at hin'
      induction pl with
      | nil=>exact .nil
      | cons i pl ih =>
       have hi:i < ys.length:=by rw [ht.length];exact hin' i (.head _)
       obtain ⟨w,gw,rw'⟩:=rv.get (List.getElem?_eq_getElem hi)
       rw [List.map_cons,List.map_cons,getD_some (List.getElem?_eq_getElem hi),getD_some gw]
       exact .cons rw' (ih fun j hj=>hin' j (.tail _ hj))
     have zz:(p.toList.map fun i=>ys.getD i V.non).length <= sizeLine:=by rw [List.length_map];exact Nat.le_of_lt (qX hin.2)
     refine ⟨.ref (s.heap.objs.size + 1),_,I.laid (t':=s.toks) (o:=.lst (p.toList.map fun i=>ys.getD i .non)) (fun b o e=>sortedAll_old e) (Nat.le_succ _) ⟨zz,_,en,vl,ob⟩,rfl,q _ _ (Same.lay hfr) hfr (OwnO.laid hfr dl)⟩
   ·cases e2
  ·cases e
 ·cases e
end L2
namespace L2
open PySem PySem.Spec PyProof.Rows
noncomputable def JF (K:PySem.W.Frag) (mg:Str->Option Value) (x:Str) (d:PyData):Prop:=∃ v u,mg x=some u/\RelV v u/\∀ H S,Den K H S v d
theorem YC {X:Cx} {M:List Nat} {x:Str} {d:PyData} {pos:Pos} (C:JF X.K X.mg x d) (hg:Gl X x) (hdb:(x == ("__debug__" : Str))=false:=by decide +kernel):PD X M (.Name x pos) (kd d):=by
 obtain ⟨v,u,m,r,hd⟩:=C
 exact qhR hg m r hd hdb
end L2
namespace L2
open PySem
theorem zE:bootBuiltins "sorted" = some (.builtin "sorted"):=by decide +kernel
end L2
namespace L2
open PySem PySem.Spec PyProof.Rows
theorem ob_s {α β:Type} (x:α) (f:α->Option β):ob (some x) f=f x:=rfl
theorem vr_z (o:Option PyData) (ρ:Rho):vr 0 (o :: ρ)=o:=rfl
theorem vr_s (n:Nat) (o:Option PyData) (ρ:Rho):vr (n + 1) (o :: ρ)=vr n ρ:=rfl
theorem atI0 {α:Type} (x:α) (xs:List α):atI (x :: xs) 0=some x:=by simp [atI,ixN]
theorem je {α:Type} (x:α) (xs:List α) (k:Nat):atI (x :: xs) ((k:Int) + 1)=atI xs (k:Int):=by
 unfold atI ixN
 have h1:(0:Int) <= (k:Int) + 1:=by omega
 have h2:(0:Int) <= (k:Int):=by omega
 rw [if_pos h1,if_pos h2]
 by_cases h:(k:Int) < xs.length
 ·have h':(k:Int) + 1 < ((x :: xs).length:Int):=by rw [List.length_cons];omega
  rw [if_pos h,if_pos h']
  have e1:((k:Int) + 1).toNat=k + 1:=by omega
  have e2:(k:Int).toNat=k:=by omega
  rw [e1,e2]
  rfl
 ·have h':¬ (k:Int) + 1 < ((x :: xs).length:Int):=by rw [List.length_cons];omega
  rw [if_neg h,if_neg h']
  rfl
theorem atI1 {α:Type} (x y:α) (xs:List α):atI (x :: y :: xs) 1=some y:=(je x (y :: xs) 0).trans (atI0 y xs)
theorem atI2 {α:Type} (x y z:α) (xs:List α):atI (x :: y :: z :: xs) 2=some z:=(je x (y :: z :: xs) 1).trans (atI1 y z xs)
theorem atI3 {α:Type} (x y z a:α) (xs:List α):atI (x :: y :: z :: a :: xs) 3=some a:=(je x (y :: z :: a :: xs) 2).trans (atI2 y z a xs)
theorem atI4 {α:Type} (x y z a b:α) (xs:List α):atI (x :: y :: z :: a :: b :: xs) 4=some b:=(je x (y :: z :: a :: b :: xs) 3).trans (atI3 y z a b xs)
theorem atI5 {α:Type} (x y z a b c:α) (xs:List α):atI (x :: y :: z :: a :: b :: c :: xs) 5=some c:=(je x (y :: z :: a :: b :: c :: xs) 4).trans (atI4 y z a b c xs)
theorem ZS {i j:Int} (h:IntMulOk i j):mulD (.int i) (.int j)=some (.int (i * j)):=by
 show (if IntMulOk i j then some (PyData.int (i * j)) else none)=_
 rw [if_pos h]
noncomputable def Bd (n:Nat) (i:Int):Prop:=Builtin.Int.intBits i <= n
theorem Bd.ok {n m:Nat} {i j:Int} (h:Bd n i) (g:Bd m j) (e:n + m <= 134217728:=by decide):IntMulOk i j:=IntMulOk.of_le h g e
theorem Bd.of {n:Nat} {i:Int} (h:i.natAbs < 2 ^ n):Bd n i:=intBits_le_iff.mpr h
theorem natLit (n:Nat):((no_index (OfNat.ofNat n):Nat):Int)=(OfNat.ofNat n:Int):=rfl
theorem qhj (i j:Int):eqD (.int i) (.int j)=some (.bool (i == j)):=rfl
theorem qhF (i j:Int):neD (.int i) (.int j)=some (.bool (!(i == j))):=rfl
theorem pow_a:powD (.int 7919) (.int 8)=some (.int (7919 ^ 8)):=rfl
theorem pow_b:powD (.int 10) (.int 30)=some (.int (10 ^ 30)):=rfl
theorem qdc (i:Int) {j:Int} (h:0 < j):modD (.int i) (.int j)=some (.int (i % j)):=by
 show (if 0 < j then some (PyData.int (i % j)) else none)=_
 rw [if_pos h]
theorem qfs (i:Int) {j:Int} (h:0 < j) (h2:j < 1073741824):Qe (.int i) (.int j)=some (.int (i / j)):=by
 show (if CDiv i j then some (PyData.int (i / j)) else none)=_
 rw [if_pos ⟨h,h2⟩]
noncomputable def Yb (o:Option Out) (w:Rho->Option Out):Option Out:=match o with | some (.nx ρ')=>w ρ' | o=>o
theorem qkr (u w:Rho->Option Out) (ρ:Rho):seqO u w ρ=Yb (u ρ) w:=by
 unfold seqO ob Yb
 cases u ρ with
 | none=>rfl
 | some o=>cases o<;>rfl
theorem qe6 (ρ:Rho) (w:Rho->Option Out):Yb (some (.nx ρ)) w=w ρ:=rfl
theorem qe7 (d:PyData) (w:Rho->Option Out):Yb (some (.rt d)) w=some (.rt d):=rfl
theorem qe4 (ρ:Rho) (w:Rho->Option Out):Yb (some (.bk ρ)) w=some (.bk ρ):=rfl
theorem qe5 (ρ:Rho) (w:Rho->Option Out):Yb (some (.ct ρ)) w=some (.ct ρ):=rfl
noncomputable def ifO {α:Type} (b:Option Bool) (u w:Rho->Option α) (ρ:Rho):Option α:=match b with | some true=>u ρ | some false=>w ρ | none=>none
theorem ifO_t {α:Type} (u w:Rho->Option α) (ρ:Rho):ifO (some true) u w ρ=u ρ:=rfl
theorem ifO_f {α:Type} (u w:Rho->Option α) (ρ:Rho):ifO (some false) u w ρ=w ρ:=rfl
theorem sIf_b (p:Rho->Option Bool) (u w:Rho->Option Out) (ρ:Rho):sIf p u w ρ=ifO (p ρ) u w ρ:=by
 unfold sIf ob ifO
 cases p ρ with
 | none=>rfl
 | some b=>cases b<;>rfl
theorem vIf_b (p:Rho->Option Bool) (u w:Rho->Option PyData) (ρ:Rho):vIf p u w ρ=ifO (p ρ) u w ρ:=by
 unfold vIf ob ifO
 cases p ρ with
 | none=>rfl
 | some b=>cases b<;>rfl
theorem tA_b (p q:Rho->Option Bool) (ρ:Rho):tA p q ρ=ifO (p ρ) q (fun _=>some false) ρ:=by
 unfold tA ob ifO
 cases p ρ with
 | none=>rfl
 | some b=>cases b<;>rfl
theorem tO_b (p q:Rho->Option Bool) (ρ:Rho):tO p q ρ=ifO (p ρ) (fun _=>some true) q ρ:=by
 unfold tO ob ifO
 cases p ρ with
 | none=>rfl
 | some b=>cases b<;>rfl
theorem vA_b (f g:Rho->Option PyData) (ρ:Rho):vA f g ρ=ifO (ob (f ρ) Yd) g (fun _=>some (.bool false)) ρ:=by
 unfold vA ob ifO
 cases f ρ with
 | none=>rfl
 | some x =>
  dsimp only
  cases Yd x with
  | none=>rfl
  | some b=>cases b<;>rfl
noncomputable def setO (o:Option PyData) (i:Nat) (ρ:Rho):Option Out:=match o with | some d=>some (.nx (ρ.set i (some d))) | none=>none
theorem qko (i:Nat) (f:Rho->Option PyData) (ρ:Rho):sSet i f ρ=setO (f ρ) i ρ:=by
 unfold sSet ob setO
 cases f ρ<;>rfl
theorem qkt (d:PyData) (i:Nat) (ρ:Rho):setO (some d) i ρ=some (.nx (ρ.set i (some d))):=rfl
noncomputable def binO (a b:Option PyData) (g:PyData->PyData->Option PyData):Option PyData:=match a,b with | some x,some y=>g x y | _,_=>none
theorem ev2_b (fa fb:Rho->Option PyData) (g:PyData->PyData->Option PyData) (ρ:Rho):ev2 fa fb g ρ=binO (fa ρ) (fb ρ) g:=by
 unfold ev2 ob binO
 cases fa ρ<;>cases fb ρ<;>rfl
theorem qjf (x y:PyData) (g:PyData->PyData->Option PyData):binO (some x) (some y) g=g x y:=rfl
noncomputable def jM (a:Option PyData) (b:Option (List PyData)):Option (List PyData):=match a,b with | some x,some xs=>some (x :: xs) | _,_=>none
theorem aC_b (fa:Rho->Option PyData) (fs:Rho->Option (List PyData)) (ρ:Rho):aC fa fs ρ=jM (fa ρ) (fs ρ):=by
 unfold aC ob jM
 cases fa ρ<;>cases fs ρ<;>rfl
theorem qg8 (x:PyData) (xs:List PyData):jM (some x) (some xs)=some (x :: xs):=rfl
noncomputable def qfa (n:Nat) (a:Option (List PyData)) (h:List PyData->Option PyData):Option PyData:=match a with | some ds=>if ds.length=n then h ds else none | none=>none
theorem evC_b (n:Nat) (fs:Rho->Option (List PyData)) (h:List PyData->Option PyData) (ρ:Rho):evC n fs h ρ=qfa n (fs ρ) h:=by
 unfold evC ob qfa
 cases fs ρ<;>rfl
theorem qgX (n:Nat) (ds:List PyData) (h:List PyData->Option PyData):qfa n (some ds) h=if ds.length=n then h ds else none:=rfl
noncomputable def qcP (b:Option Bool) (tt:Rho->Option Bool) (te:Rho->Option PyData) (ρ:Rho) (d:PyData) (ds:List PyData):Option (List PyData):=match b with | some true=>jM (te (ρ ++ [some d])) (zO tt te ρ ds) | some false=>zO tt te ρ ds | none=>none
theorem qcO (tt:Rho->Option Bool) (te:Rho->Option PyData) (ρ:Rho) (d:PyData) (ds:List PyData):zO tt te ρ (d :: ds)=qcP (tt (ρ ++ [some d])) tt te ρ d ds:=by
 rw [zO]
 unfold ob qcP jM
 cases tt (ρ ++ [some d]) with
 | none=>rfl
 | some b =>
  cases b with
  | false=>rfl
  | true =>
   dsimp only [if_true]
   rw [if_pos rfl]
   cases te (ρ ++ [some d])<;>cases zO tt te ρ ds<;>rfl
theorem qg4 (tt:Rho->Option Bool) (te:Rho->Option PyData) (ρ:Rho):zO tt te ρ []=some []:=rfl
theorem qcR (tt:Rho->Option Bool) (te:Rho->Option PyData) (ρ:Rho) (d:PyData) (ds:List PyData):qcP (some true) tt te ρ d ds=jM (te (ρ ++ [some d])) (zO tt te ρ ds):=rfl
theorem qcQ (tt:Rho->Option Bool) (te:Rho->Option PyData) (ρ:Rho) (d:PyData) (ds:List PyData):qcP (some false) tt te ρ d ds=zO tt te ρ ds:=rfl
noncomputable def Yz (a:Option (List PyData)):Option PyData:=match a with | some ys=>some (.list ys) | none=>none
noncomputable def qfh (a:Option (List PyData)) (n:Nat) (tt:Rho->Option Bool) (te:Rho->Option PyData) (ρ:Rho):Option PyData:=match a with | some ds=>if ρ.length=n/\ds.length <= 1000 then Yz (zO tt te ρ ds) else none | none=>none
theorem qg6 (n:Nat) (fi:Rho->Option (List PyData)) (tt:Rho->Option Bool) (te:Rho->Option PyData) (ρ:Rho):qY n fi tt te ρ=qfh (fi ρ) n tt te ρ:=by
 unfold qY ob qfh Yz
 cases fi ρ with
 | none=>rfl
 | some ds =>
  dsimp only
  split
  ·cases zO tt te ρ ds<;>rfl
  ·rfl
theorem qg2 (ds:List PyData) (n:Nat) (tt:Rho->Option Bool) (te:Rho->Option PyData) (ρ:Rho):qfh (some ds) n tt te ρ=if ρ.length=n/\ds.length <= 1000 then Yz (zO tt te ρ ds) else none:=rfl
theorem qhC (ds:List PyData):Yz (some ds)=some (.list ds):=rfl
noncomputable def forI (a:Option (List PyData)) (g:PyData->Rho->Option Rho) (u:Rho->Option Out) (ρ:Rho):Option Out:=match a with | some ds=>forD g u ds ρ | none=>none
theorem qgv (fi:Rho->Option (List PyData)) (g:PyData->Rho->Option Rho) (u:Rho->Option Out) (ρ:Rho):sFor fi g u ρ=forI (fi ρ) g u ρ:=by
 unfold sFor ob forI
 cases fi ρ<;>rfl
theorem qfv (ds:List PyData) (g:PyData->Rho->Option Rho) (u:Rho->Option Out) (ρ:Rho):forI (some ds) g u ρ=forD g u ds ρ:=rfl
noncomputable def forO (o:Option Out) (g:PyData->Rho->Option Rho) (u:Rho->Option Out) (ds:List PyData):Option Out:=match o with
 | some (.nx ρ')=>forD g u ds ρ'
 | some (.ct ρ')=>forD g u ds ρ'
 | some (.bk ρ')=>some (.nx ρ')
 | some (.rt r)=>some (.rt r)
 | none=>none
theorem qb4 (g:PyData->Rho->Option Rho) (u:Rho->Option Out) (d:PyData) (ds:List PyData) (ρ:Rho):forD g u (d :: ds) ρ=forO (ob (g d ρ) u) g u ds:=by
 rw [forD]
 unfold ob forO
 cases g d ρ with
 | none=>rfl
 | some ρ1 =>
  dsimp only
  cases u ρ1 with
  | none=>rfl
  | some o=>cases o<;>rfl
theorem qjn (g:PyData->Rho->Option Rho) (u:Rho->Option Out) (ρ:Rho):forD g u [] ρ=some (.nx ρ):=rfl
theorem W0 (ρ:Rho) (g:PyData->Rho->Option Rho) (u:Rho->Option Out) (ds:List PyData):forO (some (.nx ρ)) g u ds=forD g u ds ρ:=rfl
theorem qhp (ρ:Rho) (g:PyData->Rho->Option Rho) (u:Rho->Option Out) (ds:List PyData):forO (some (.ct ρ)) g u ds=forD g u ds ρ:=rfl
theorem qho (ρ:Rho) (g:PyData->Rho->Option Rho) (u:Rho->Option Out) (ds:List PyData):forO (some (.bk ρ)) g u ds=some (.nx ρ):=rfl
theorem qcZ (d:PyData) (g:PyData->Rho->Option Rho) (u:Rho->Option Out) (ds:List PyData):forO (some (.rt d)) g u ds=some (.rt d):=rfl
noncomputable def retO (o:Option PyData):Option Out:=match o with | some d=>some (.rt d) | none=>none
theorem qkn (f:Rho->Option PyData) (ρ:Rho):sRet f ρ=retO (f ρ):=by
 unfold sRet ob retO
 cases f ρ<;>rfl
theorem qki (d:PyData):retO (some d)=some (.rt d):=rfl
theorem gsN_n (ρ:Rho):gsN [] ρ=some ρ:=rfl
theorem gsC_c (g1:PyData->Rho->Option Rho) (g2:List PyData->Rho->Option Rho) (d:PyData) (r:List PyData) (ρ:Rho):gsC g1 g2 (d :: r) ρ=ob (g1 d ρ) (g2 r):=rfl
theorem qkG (n:Nat) (g:List PyData->Rho->Option Rho) (ds:List PyData) (ρ:Rho):unpD n g (.tuple ds) ρ=if ds.length=n then g ds ρ else none:=rfl
theorem qkp (ds:List PyData):seqD (.list ds)=some ds:=rfl
theorem qkq (ds:List PyData):seqD (.tuple ds)=some ds:=rfl
theorem ixD_l (ds:List PyData) (i:Int):ixD (.list ds) (.int i)=atI ds i:=rfl
theorem ixD_t (ds:List PyData) (i:Int):ixD (.tuple ds) (.int i)=atI ds i:=rfl
theorem qjC (ds:List PyData):lenD [.list ds]=some (.int ds.length):=rfl
theorem qjD (ds:List PyData):lenD [.tuple ds]=some (.int ds.length):=rfl
theorem qgF (ds:List PyData):qL [.list ds]=some (.tuple ds):=rfl
theorem qgG (ds:List PyData):qL [.tuple ds]=some (.tuple ds):=rfl
theorem qhA (ds:List PyData):zP [.list ds]=some (.list ds):=rfl
theorem qhB (ds:List PyData):zP [.tuple ds]=some (.list ds):=rfl
theorem qgW (b:Bool):Yd (.bool b)=some b:=rfl
theorem qjU (d:PyData):outD (.rt d)=some d:=rfl
theorem qjT (ρ:Rho):outD (.nx ρ)=some .none:=rfl
theorem qi7 (i j:Int):qcB (.int i) (.int j)=some (.int (i + j)):=rfl
noncomputable def takO (b:Bool) (o:Option PyData) (i:Nat) (ρ:Rho):Option Out:=match b,o with | true,some d=>some (.nx (ρ.set i (some d))) | _,_=>none
theorem qii (i:Nat) (f:Rho->Option PyData) (ρ:Rho):qM i f ρ=takO (decide (i < ρ.length)) (f ρ) i ρ:=by
 unfold qM ob takO
 by_cases h:i < ρ.length
 ·rw [if_pos h,decide_eq_true h]
  cases f ρ<;>rfl
 ·rw [if_neg h,decide_eq_false h]
theorem qkC (d:PyData) (i:Nat) (ρ:Rho):takO true (some d) i ρ=some (.nx (ρ.set i (some d))):=rfl
noncomputable def flaO (o:Option PyData):Option PyData:=match o with | some d=>if flat d=true then some d else none | none=>none
theorem qhl (f:Rho->Option PyData) (ρ:Rho):qF f ρ=flaO (f ρ):=by
 unfold qF ob flaO
 cases f ρ<;>rfl
theorem qjk (d:PyData):flaO (some d)=if flat d=true then some d else none:=rfl
noncomputable def flgO (o:Option PyData):Option PyData:=match o with | some d=>if wR d=true then some d else none | none=>none
theorem qhm (f:Rho->Option PyData) (ρ:Rho):Yq f ρ=flgO (f ρ):=by
 unfold Yq ob flgO
 cases f ρ<;>rfl
theorem qjl (d:PyData):flgO (some d)=if wR d=true then some d else none:=rfl
noncomputable def appO (l d:Option PyData) (i:Nat) (ρ:Rho):Option Out:=match l,d with | some x,some y=>setO (appD x y) i ρ | _,_=>none
theorem qkk (i:Nat) (f:Rho->Option PyData) (ρ:Rho):sApp i f ρ=appO (vr i ρ) (f ρ) i ρ:=by
 unfold sApp ob appO setO
 cases vr i ρ with
 | none=>rfl
 | some x =>
  cases f ρ with
  | none=>rfl
  | some y=>dsimp only;cases appD x y<;>rfl
theorem qja (x y:PyData) (i:Nat) (ρ:Rho):appO (some x) (some y) i ρ=setO (appD x y) i ρ:=rfl
theorem qi9 (ds:List PyData) (d:PyData):appD (.list ds) d=if ds.length < 1000 then some (.list (ds ++ [d])) else none:=rfl
theorem qjV (d:PyData):outF (.rt d)=some d:=rfl
theorem qjw (x:PyData):isnD x .none=some (.bool (!isNone x)):=by cases x<;>rfl
theorem qjv (b c:Bool):isnD (.bool b) (.bool c)=some (.bool (!(b == c))):=rfl
noncomputable def sliO (a:Option PyData) (l h:Option (Option Int)):Option PyData:=match a,l,h with | some x,some l,some h=>sliD x l h | _,_,_=>none
theorem evS_b (fa:Rho->Option PyData) (fl fh:Rho->Option (Option Int)) (ρ:Rho):evS fa fl fh ρ=sliO (fa ρ) (fl ρ) (fh ρ):=by
 unfold evS ob sliO
 cases fa ρ<;>cases fl ρ<;>cases fh ρ<;>rfl
theorem qkx (x:PyData) (l h:Option Int):sliO (some x) (some l) (some h)=sliD x l h:=rfl
noncomputable def prtO (a:Option PyData):Option (Option Int):=match a with | some (.int i)=>some (some i) | _=>none
theorem oS_b (f:Rho->Option PyData) (ρ:Rho):oS f ρ=prtO (f ρ):=by
 unfold oS ob prtO
 cases f ρ with
 | none=>rfl
 | some d=>cases d<;>rfl
theorem qkb (i:Int):prtO (some (.int i))=some (some i):=rfl
theorem qkz (i j:Int):subD (.int i) (.int j)=some (.int (i - j)):=rfl
theorem qjI (i:Int):negD (.int i)=some (.int (-i)):=rfl
theorem qjF (i j:Int):ltD2 (.int i) (.int j)=some (.bool (decide (i < j))):=by
 show (if _ then ob (ltX (.int i) (.int j)) _ else none)=_
 rw [if_pos ⟨rfl,rfl,Nat.zero_le 60⟩,ltX]
 rfl
theorem gtD_i (i j:Int):gtD (.int i) (.int j)=some (.bool (decide (j < i))):=rfl
theorem qju (T:String) (ds:List PyData):isiT T (.tuple ds)=(T == "tuple" || T == "object"):=rfl
theorem qjr (T:String) (ds:List PyData):isiT T (.list ds)=(T == "list" || T == "object"):=rfl
theorem qjq (T:String) (i:Int):isiT T (.int i)=(T == "int" || T == "object"):=rfl
theorem qjp (T:String) (b:Bool):isiT T (.bool b)=(T == "bool" || T == "int" || T == "object"):=rfl
theorem qjt (T:String) (x:Str):isiT T (.str x)=(T == "str" || T == "object"):=rfl
theorem qjs (T:String):isiT T .none=(T == "NoneType" || T == "object"):=rfl
theorem qid (j:Int):QR [.int j]=if -1000 <= j/\j <= 1000 then some (rngL 0 j.toNat) else none:=rfl
section
variable {X:Cx} {G:Gm} {M M' Mb L:List Nat} {fr:Fr} {a b c:Expr} {es:List Expr} {f fk g:Rho->Option PyData} {pos:Pos} {u:Rho->Option Out}
theorem DenL.set {K:PySem.W.Frag} {H:Hp} {S:Av}:∀ {vs:List V} {ds:List PyData} {v:V} {d:PyData} (j:Nat),DenL K H S vs ds->Den K H S v d->DenL K H S (vs.set j v) (ds.set j d)
 | _,_,_,_,_,.nil,_=>.nil
 | _,_,_,_,0,.cons _ t,q=>.cons q t
 | _,_,_,_,j + 1,.cons h t,q=>.cons h (t.set j q)
theorem DenL.dropLast {K:PySem.W.Frag} {H:Hp} {S:Av}:∀ {vs:List V} {ds:List PyData},DenL K H S vs ds->DenL K H S vs.dropLast ds.dropLast
 | _,_,.nil=>.nil
 | _,_,.cons h .nil=>.nil
 | _,_,.cons h (.cons h2 t)=>.cons h (DenL.dropLast (.cons h2 t))
noncomputable def setD:PyData->PyData->PyData->Option PyData
 | .list ds,.int k,d=>ob (ixN ds.length k) fun j=>some (.list (ds.set j d))
 | _,_,_=>none
noncomputable def sPut (i:Nat) (fk f:Rho->Option PyData):Rho->Option Out:=fun ρ=>ob (f ρ) fun d=>ob (vr i ρ) fun l=>ob (fk ρ) fun k=>ob (setD l k d) fun l'=>some (.nx (ρ.set i (some l')))
theorem qel {l k d l':PyData} (e:setD l k d=some l'):∃ ds n j,l=.list ds/\k=.int n/\ixN ds.length n=some j/\l'=.list (ds.set j d):=by
 unfold setD at e
 split at e
 ·obtain ⟨j,e1,e⟩:=qi e
  cases e
  exact ⟨_,_,j,rfl,rfl,e1,rfl⟩
 ·cases e
theorem Q9 (i:Nat) {x:Str} {px sp:Pos} (hv:Vis X.env.scope x) (hM:Flt M i) (hL:i∉L) (hk:PD X [] b fk) (he:PD X [] a f) (hN:X.N[i]?=some x:=by rfl) (hd:(x == ("__debug__" : Str))=false:=by decide +kernel) (hcd:(x == ("__classdict__" : Str))=false:=by decide +kernel)
  (ha:∀ v,assign (.Subscript (.Name x px) b sp) X.env v=(do
   let ov ← holding [v] (eval (.Name x px) X.env)
   let iv ← holding [v,ov] (eval b X.env)
   standAt sp
   holding [v,ov,iv] (setItem ov iv v)
   release [v,ov,iv] []):=by intro _;rfl)
  (hs:swapsWithSole [.Subscript (.Name x px) b sp] a pos.line X.env=pure false:=by rfl) (hw:swappedStores [.Subscript (.Name x px) b sp] a X.env=pure none:=by rfl)
  (h1:(assignEach [.Subscript (.Name x px) b sp] X.env).map (·.2)=[assign (.Subscript (.Name x px) b sp) X.env]:=by rfl) :
  PDS X G M L M Mb fr (.Assign [.Subscript (.Name x px) b sp] a pos) (sPut i fk (qF f)) :=
 (qcl he (qcj (jY i hv hN hd hcd) hk set_list ha) hs hw h1).weak fun D σ H ⟨S,ρ,o,os,e,q⟩=>by
  obtain ⟨d,e1,e⟩:=qi e
  obtain ⟨l,e2,e⟩:=qi e
  obtain ⟨k,e3,e⟩:=qi e
  obtain ⟨l',e4,e⟩:=qi e
  cases e
  obtain ⟨ds,n,j,rfl,rfl,ej,rfl⟩:=qel e4
  obtain ⟨d',e5,e6⟩:=qi e1
  have hf:flat d'=true/\d'=d:=by
   split at e6
   ·rename_i hf;cases e6;exact ⟨hf,rfl⟩
   ·cases e6
  obtain ⟨hf,rfl⟩:=hf
  refine ⟨G.S0,ρ,d',os.den,e5,fun v H1 g1 d1'=>?_⟩
  have d1:Den X.K H1 S v d':=d1'.flat hf
  have os1:=os.same g1
  obtain ⟨pp,a1,b1,c1,n1,w1,_⟩:=os1.own i hM _ (zQ e2)
  cases b1 with
  | @lst xs _ h t =>
   refine ⟨_,a1,G.S0,ρ,_,os1.den,e3,fun kv H2 g2 dk=>?_⟩
   have os2:=os1.same g2
   refine ⟨pp,xs,n,j,rfl,dk.int_inv,g2 _ _ h,by rw [t.length];exact ej,?_⟩
   exact q _ _ _ (os2.write hM hL (zQ e2) a1 rfl (.lst qK (((t.same g2).set j (d1.same g2)).off os2.ds.1 (Off.upd c1))))
noncomputable def popD:PyData->Option (PyData×PyData)
 | .list ds=>ob (ds[ds.length - 1]?) fun d=>some (d,.list ds.dropLast)
 | _=>none
theorem qeh {l:PyData} {r:PyData×PyData} (e:popD l=some r):∃ ds d,l=.list ds/\ds[ds.length - 1]?=some d/\r=(d,.list ds.dropLast):=by
 unfold popD at e
 split at e
 ·obtain ⟨d,e1,e⟩:=qi e
  cases e
  exact ⟨_,d,rfl,e1,rfl⟩
 ·cases e
end
end L2
namespace L2
open PySem
noncomputable def putO (d l k:Option PyData) (i:Nat) (ρ:Rho):Option Out:=match d,l,k with | some d,some l,some k=>setO (setD l k d) i ρ | _,_,_=>none
theorem qkm (i:Nat) (fk f:Rho->Option PyData) (ρ:Rho):sPut i fk f ρ=putO (f ρ) (vr i ρ) (fk ρ) i ρ:=by
 unfold sPut ob putO setO
 cases f ρ with
 | none=>rfl
 | some d =>
  cases vr i ρ with
  | none=>rfl
  | some l =>
   cases fk ρ with
   | none=>rfl
   | some k=>dsimp only;cases setD l k d<;>rfl
theorem qke (d l k:PyData) (i:Nat) (ρ:Rho):putO (some d) (some l) (some k) i ρ=setO (setD l k d) i ρ:=rfl
theorem qks (ds:List PyData) (k:Int) (d:PyData):setD (.list ds) (.int k) d=ob (ixN ds.length k) fun j=>some (.list (ds.set j d)):=rfl
end L2
namespace L2
open PySem PySem.Spec PyProof.Rows
section
variable {X:Cx}
theorem qdH:bootBuiltins "min" = some (.builtin "min"):=by decide +kernel
end
noncomputable def QM (l x:PyData):Option PyData:=match l with
 | .list ds=>if inOk ds x=true/\ds.length <= 1000 then ob (ds.findIdx? fun y=>PyData.eqv y x) fun j=>some (.int (j:Nat)) else none
 | _=>none
section
variable {X:Cx} {G:Gm} {M M' Mb L:List Nat} {fr:Fr} {a b c:Expr} {es:List Expr} {f fk g:Rho->Option PyData} {pos:Pos} {u:Rho->Option Out}
noncomputable def qic (K:PySem.W.Frag):V->List V->Hp->VK->Prop:=fun x vs H Q=>∃ S dx y dy d,vs=[y]/\Den K H S x dx/\Den K H S y dy/\QM dx dy=some d/\Dm S H/\∀ v H',Same H H'->Den K H' S v d->Q v H'
theorem qfW {k:Nat} (hr:Room k X.A):MtR X "list.index" (qic X.K):=by
 intro pins s σ H x vs v us Q I rx rv h
 obtain ⟨S,dx,y,dy,d,rfl,h1,h2,e,m,q⟩:=h
 obtain ⟨u,rfl,ru⟩:=rv.one
 obtain ⟨bs,q2⟩:=h2.reads I ru
 unfold QM at e
 split at e
 ·rename_i ds
  split at e
  ·rename_i hc
   obtain ⟨⟨c1,c2,c3⟩,hz⟩:=And.intro (Q3 hc.1) hc.2
   obtain ⟨j,ej,e⟩:=qi e
   cases e
   obtain ⟨as,q1⟩:=h1.reads I rx
   obtain ⟨a,xs,rfl,hsq,ht⟩:=h1.list_inv
   cases (show v=Value.ref a from rx)
   cases q1 with
   | @list _ o items n _ _ g1 g2 g3 g4 =>
    obtain ⟨cls,dd,data,sl⟩:=o
    simp only at g2 g3
    subst g2 g3
    have hm:=SeqAt.readsAll_map _ _ _ c1 g4
    obtain ⟨hj,hp,hno⟩:=List.findIdx?_eq_some_iff_getElem.mp ej
    have hlen:items.size=ds.length:=by
     have:=congrArg List.length hm
     simpa using this
    have hat:∀ i (h:i < items.size),SeqAt.readOf s.heap items[i]=ds[i]'(by omega):=fun i h=>by
     have:=congrArg (fun l=>l[i]?) hm
     simp only [List.getElem?_map] at this
     rw [List.getElem?_eq_getElem (by simpa using h),List.getElem?_eq_getElem (by omega)] at this
     simpa using this
    refine call_meets PySem.F.slot_list_index ⟨_,g1,rfl⟩ PySem.F.entry_list_index (PySem.F.args_list_index_2 _ _) (SeqAt.list_indexAt a items n dd sl u (fun y=>PyData.eqv (SeqAt.readOf s.heap y) dy) j (by omega) (by omega) ?_ ?_) ⟨g1,SeqAt.items_eqAt g4 q2 c1 c2 (Jq c3 hr.units),?_⟩
    ·rw [hat j (by omega)];exact hp
    ·intro i hi hij
     rw [hat i hi]
     simpa using hno i hij
    ·exact ⟨.int j,H,I.tok _,⟨_,rfl⟩,q _ H (Same.refl H) (.int _)⟩
  ·cases e
 ·cases e
theorem qbk {k:Nat} {o:Expr} {apos cpos:Pos} (hr:Room k X.A) (ho:PD X M o f) (he:PD X M a g)
  (hbase:attributeBase o "index" X.env (eval o X.env)=eval o X.env:=by rfl)
  (hfew:((backTo cpos (starEach [a] X.env)).all (fun x=>!x.1) && (backToKw cpos (keywordEach [] X.env)).all (fun x=>x.1.isSome)
   && decide ([a].length + ([]:List Keyword).length + (if ([]:List Keyword).isEmpty then 0 else 1) < 30))=true:=by rfl)
  (hline:(apos.endLine == cpos.line)=true:=by rfl) (hs:starEach [a] X.env=(false,eval a X.env) :: starEach [] X.env:=by rfl) (hplain:(backTo cpos (starEach [] X.env)).any (·.1)=false:=by rfl) :
  PD X M (.Call (.Attribute o "index" apos) [a] [] cpos) (ev2 f g QM) :=
 (qdi PySem.F.plainAttrs_list PySem.F.slot_list_index PySem.F.type_list_index (qfW hr) ho (qd he qj hs) hbase hfew hline hs hplain).weak fun σ H Q ⟨S,ρ,d,hs,e,q⟩=>by
  obtain ⟨dx,e1,e⟩:=qi e
  obtain ⟨dy,e2,e⟩:=qi e
  refine ⟨S,ρ,dx,hs,e1,fun v H1 g1 d1=>?_⟩
  have:∃ ds,dx=.list ds:=by
   unfold QM at e
   split at e
   ·exact ⟨_,rfl⟩
   ·cases e
  obtain ⟨ds,rfl⟩:=this
  obtain ⟨p,xs,rfl,hsq,ht⟩:=d1.list_inv
  refine ⟨.inl ⟨rfl,_,hsq.sq⟩,S,ρ,[dy],hs.same g1,by show ob (g ρ) _=_;rw [e2];rfl,fun vs H2 g2 dl=>?_⟩
  obtain ⟨w,rfl,dw⟩:=dl.inv1
  exact ⟨S,_,w,dy,d,rfl,d1.same g2,dw,e,hs.1.same (g1.trans g2),fun v3 H3 g3 d3=>q v3 H3 (g1.trans (g2.trans g3)) d3⟩
noncomputable def qC (x y:PyData):Option PyData:=match x,y with
 | .int i,.int j=>some (.int (i + j))
 | .list ds,.list es=>if ds.length + es.length <= 1000 then some (.list (ds ++ es)) else none
 | x,y=>qcB x y
noncomputable def rCatL (K:PySem.W.Frag):R2:=fun x y H Q=>∃ l b xs zs,x=.ref l/\y=.ref b/\SqL K H l xs/\SqL K H b zs/\xs.length + zs.length <= sizeLine/\∀ p,H p=none->Q (.ref p) (upd H p (.lst (xs ++ zs)))
theorem qhL:OpR X (binaryOp .Add) (rCatL X.K):=by
 intro pins s σ H x y v u Q I rx ry h
 obtain ⟨l,b,xs,zs,rfl,rfl,hH,hB,hz,q⟩:=h
 cases rx
 cases ry
 obtain ⟨its,r,⟨⟨cls,dd,data,sl⟩,n,g1,g2,_,g3⟩,_⟩:=I.list hH
 obtain ⟨its2,r2,⟨⟨cls2,dd2,data2,sl2⟩,n2,k1,k2,_,k3⟩,_⟩:=I.list hB
 simp only at g2 g3 k2 k3
 subst g2 g3 k2 k3
 have ea:its.toArray ++ its2.toArray=(its ++ its2).toArray:=by simp
 have l1:=r.length
 have l2:=r2.length
 refine concat_meets ⟨_,g1,rfl⟩ ⟨_,k1,rfl⟩ noFill_list_add seq_list_add PySem.F.slot_list_add PySem.F.entry_list_add (PySem.F.args_list_add_2 _ _) (list_addW l b its.toArray its2.toArray n n2 dd dd2 sl sl2 (by rw [List.size_toArray,List.size_toArray];omega)) ⟨g1,k1,?_⟩
 rw [ea]
 exact ⟨.ref _,_,I.lnew (t':=s.toks) (r.append r2) (by rw [List.length_append];omega),rfl,q _ I.fresh⟩
theorem qjh:OpD X (binaryOp .Add) (fun x y=>match x,y with | .list ds,.list es=>if ds.length + es.length <= 1000 then some (.list (ds ++ es)) else none | _,_=>none):=by
 refine jV qhL fun x y dx dy d H S Q m h1 h2 e q=>?_
 split at e
 ·split at e
  ·rename_i ds es hc
   cases e
   cases h1 with
   | list a1 t1 =>
    cases h2 with
    | list a2 t2 =>
     exact ⟨_,_,_,_,rfl,rfl,a1.sq,a2.sq,by rw [t1.length,t2.length];exact Nat.le_of_lt (qX hc),fun p hp=>q _ _ (Same.lay hp) (.list (SqLS.new qK (m.free hp)) ((t1.append t2).same (Same.lay hp)))⟩
  ·cases e
 ·cases e
theorem zu:OpD X (binaryOp .Add) qC:=by
 intro pins s σ H x y v u Q I rx ry h
 obtain ⟨S,dx,dy,d,m,h1,h2,e,q⟩:=h
 unfold qC at e
 split at e
 ·exact qfj pins s σ H x y v u Q I rx ry ⟨S,_,_,d,m,h1,h2,e,q⟩
 ·exact qjh pins s σ H x y v u Q I rx ry ⟨S,_,_,d,m,h1,h2,e,q⟩
 ·exact qfj pins s σ H x y v u Q I rx ry ⟨S,_,_,d,m,h1,h2,e,q⟩
theorem qgR (i j:Int):qC (.int i) (.int j)=some (.int (i + j)):=rfl
noncomputable def qds (i:Nat):Rho->Option Out:=fun ρ=>ob (vr i ρ) fun l=>ob (popD l) fun r=>some (.nx (ρ.set i (some r.2)))
theorem qf9 (i:Nat) {x:Str} {px apos cpos:Pos} (hv:Vis X.env.scope x) (hM:Flt M i) (hL:i∉L) (hN:X.N[i]?=some x:=by rfl) (hd:(x == ("__debug__" : Str))=false:=by decide +kernel) (hcd:(x == ("__classdict__" : Str))=false:=by decide +kernel)
  (hbase:attributeBase (.Name x px) "pop" X.env (eval (.Name x px) X.env)=eval (.Name x px) X.env:=by rfl)
  (hline:(apos.endLine == cpos.line)=true:=by rfl) (hsw:swapsWith (.Call (.Attribute (.Name x px) "pop" apos) [] [] cpos) none pos.line X.env=pure false:=by rfl) :
  PDS X G M L M Mb fr (.Expr (.Call (.Attribute (.Name x px) "pop" apos) [] [] cpos) pos) (qds i) :=
 (yJ (qj2 PySem.F.plainAttrs_list PySem.F.slot_list_pop PySem.F.type_list_pop qjH (jY i hv hN hd hcd) hbase hline) hsw).weak fun D σ H ⟨S,ρ,o,os,e,q⟩=>by
  obtain ⟨l,e1,e⟩:=qi e
  obtain ⟨r,e2,e⟩:=qi e
  cases e
  obtain ⟨ds,d,rfl,ed,rfl⟩:=qeh e2
  obtain ⟨pp,a1,b1,c1,n1,w1,_⟩:=os.own i hM _ (zQ e1)
  cases b1 with
  | @lst xs _ h t =>
   obtain ⟨v,hv1,dv⟩:=t.get ed
   refine ⟨_,a1,.inl ⟨rfl,_,SqL.of h⟩,pp,xs,v,rfl,rfl,h,by rw [t.length];exact hv1,?_⟩
   exact q _ _ _ (os.write hM hL (zQ e1) a1 (d:=.list ds.dropLast) (o:=.lst xs.dropLast) rfl (.lst qK ((DenL.dropLast t).off os.ds.1 (Off.upd c1))))
end
noncomputable def popS (r:Option (PyData×PyData)) (i:Nat) (ρ:Rho):Option Out:=match r with | some r=>some (.nx (ρ.set i (some r.2))) | none=>none
theorem qih (i:Nat) (ρ:Rho):qds i ρ=popS (ob (vr i ρ) popD) i ρ:=by
 unfold qds ob popS
 cases vr i ρ with
 | none=>rfl
 | some l=>dsimp only;cases popD l<;>rfl
theorem qka (r:PyData×PyData) (i:Nat) (ρ:Rho):popS (some r) i ρ=some (.nx (ρ.set i (some r.2))):=rfl
section
variable {prog:Program} {w:World} {A:Around} {E:Value->Shared->Prop} {s:Shared}
theorem qbf {it t:Addr} {i:Nat} {items:Array Value} {x:Value} {Q:Value->Shared->Prop} (hit:s.heap.IsTupleIter it t i) (ht:s.heap.IsTuple t items) (hx:items[i]?=some x)
  (hQ:∀ h',h'.IsTupleIter it t (i + 1)->Heap.SameBut it s.heap h'->Q x { s with heap:=h' }):wpAny (model prog w) A (Builtin.SmallTypes.nextOf (.ref it)) Q E s:=by
 obtain ⟨o,ho,hc,hd⟩:=id hit
 obtain ⟨ol,hol,_,nl,hdl⟩:=ht
 unfold Builtin.SmallTypes.nextOf
 refine wpAny_bind (wpAny_callSpecial?_slot (name:=Str.ofString "__next__") hit.typeIs F.slot_tuple_iterator_next (wpAny_call_entry F.slot_tuple_iterator_next hit.typeIs F.entry_tuple_iterator_next ?_ (F.args_tuple_iterator_next_1 _)))
 refine (wpAny_bind (wpAny_field ho hd (x:=.ref t) rfl ?_):wpAny _ _ (field (.ref it) 0 >>= _) _ _ s)
 refine (id ?_:wpAny _ _ (if (Value.ref t == Value.none)=true then _ else _) _ _ s)
 rw [if_neg (fun z=>Bool.false_ne_true z:¬ ((Value.ref t == Value.none)=true))]
 refine (wpAny_bind (wpAny_field ho hd (x:=.int i 0) rfl ?_):wpAny _ _ (field (.ref it) 1 >>= _) _ _ s)
 refine (wpAny_bind (wpAny_seqItems hol hdl ?_):wpAny _ _ (seqItems? (.ref t) >>= _) _ _ s)
 simp only [hx,Int.toNat_natCast]
 refine wpAny_bind (wpAny_setField ho hd (by simp) (wpAny_pure ⟨x,rfl,wpAny_pure (hQ _ ⟨_,Heap.get?_update_self _ ho (Obj.isFreed_of_fields (Obj.data_mapFields hd _)),(Obj.cls_mapFields ..).trans hc,by rw [Obj.data_mapFields hd];simp [rawInt]⟩ (Heap.SameBut.update ..))⟩))
theorem qcg {it t:Addr} {i:Nat} {items:Array Value} {Q:Value->Shared->Prop} (hh:A.handled=none) (hit:s.heap.IsTupleIter it t i) (ht:s.heap.IsTuple t items) (hx:items[i]?=none)
  (hE:∀ h' e,Heap.ExtBut it s.heap h'->(∃ o,h'.get? e=some o/\o.cls=.type "StopIteration")->E (.ref e) { s with heap:=h' }):wpAny (model prog w) A (Builtin.SmallTypes.nextOf (.ref it)) Q E s:=by
 obtain ⟨o,ho,hc,hd⟩:=id hit
 obtain ⟨ol,hol,_,nl,hdl⟩:=ht
 unfold Builtin.SmallTypes.nextOf
 refine wpAny_bind (wpAny_callSpecial?_slot (name:=Str.ofString "__next__") hit.typeIs F.slot_tuple_iterator_next (wpAny_call_entry F.slot_tuple_iterator_next hit.typeIs F.entry_tuple_iterator_next ?_ (F.args_tuple_iterator_next_1 _)))
 refine (wpAny_bind (wpAny_field ho hd (x:=.ref t) rfl ?_):wpAny _ _ (field (.ref it) 0 >>= _) _ _ s)
 refine (id ?_:wpAny _ _ (if (Value.ref t == Value.none)=true then _ else _) _ _ s)
 rw [if_neg (fun z=>Bool.false_ne_true z:¬ ((Value.ref t == Value.none)=true))]
 refine (wpAny_bind (wpAny_field ho hd (x:=.int i 0) rfl ?_):wpAny _ _ (field (.ref it) 1 >>= _) _ _ s)
 refine (wpAny_bind (wpAny_seqItems hol hdl ?_):wpAny _ _ (seqItems? (.ref t) >>= _) _ _ s)
 simp only [hx,Int.toNat_natCast]
 refine wpAny_bind (wpAny_rule (wpAny_bind (wpAny_setField ho hd (by simp) (wpAny_bind (?_:wpAny _ _ (newExc (.type "StopIteration") []) _ _ _)))))
 simp only [newExc,newTuple]
 refine wpAny_bind (wpAny_newObj_type (wpAny_bind (m:=firstArgMember _ _) (wpAny_of_eq (a:=Value.none) (by first | rfl | (simp only [firstArgMember];rfl)) (wpAny_newObj_type ?_ (by size_fits)))) (by size_fits))
 simp only [raiseNew]
 refine wpAny_bind (wpAny_handled ?_)
 first | rw [show A.in1.handled=none from hh] | rw [hh]
 exact wpAny_bind (wpAny_pure (wpAny_throw (hE _ _ (((Heap.SameBut.update ..).extBut.push _).push _) ⟨_,Heap.get?_push_size _ rfl,rfl⟩)))
end
theorem qaM {prog:Program} {w:World} {A:Around} (hh:A.handled=none) (it l:Addr) (hne:l≠it) (items:Array Value) :
  Draws prog w A it [it,l] items.size (fun i v=>items[i]?=some v) (fun i h=>h.IsTupleIter it l i/\h.IsTuple l items) where
 live:=fun _ _ ⟨⟨o,ho,_⟩,_⟩=>⟨o,ho⟩
 frame:=fun _ _ _ ⟨a,b⟩ hk=>⟨a.at fun o e=>hk it (by simp) o e,let ⟨o,ho,r⟩:=b;⟨o,hk l (by simp) o ho,r⟩⟩
 item:=fun i s Q E hi ⟨a,b⟩ hQ=>qbf a b (x:=items[i]) (by simp [hi]) fun h' a' hs'=>hQ _ h' s.toks (by simp [hi]) ⟨a',b.extBut hs'.extBut hne⟩ hs'
 done:=fun s Q E ⟨a,b⟩ hE=>qcg hh a b (by simp) hE
open AutoSeq1 (wpAny_loadPart') in
theorem qdP (l:Addr) (items:Array Value) (n:Nat) (dct:Option Addr) (sl:Array (Option Value)) :
  Meets (Builtin.«enumerate.__new__» ⟨[.type "enumerate", .ref l],[]⟩) (fun _ R s=>s.heap.get? l=some { cls:=.type "tuple", dict:=dct,data:=.seq items n,slots:=sl }/\
   R (.ok (.ret (.ref (s.heap.push { cls:=.type "tuple_iterator", data:=.fields #[.ref l,.int 0 0] }).objs.size))) { s with heap:=(s.heap.push { cls:=.type "tuple_iterator", data:=.fields #[.ref l,.int 0 0] }).push { cls:=.type "enumerate", data:=.fields #[.none,.bool false,.ref s.heap.objs.size,rawInt 0,.none,.none] } }) :=
 .of_wp fun prog w A R s h=>by
  obtain ⟨hp,g,d,tk,os⟩:=s
  obtain ⟨hl,h⟩:=h
  have hsub:=sub_enumerate
  have hT:Heap.IsTuple (Shared.heap ⟨hp,g,d,tk,os⟩) l items:=⟨_,hl,rfl,n,rfl⟩
  wp_walk using wpAny_loadPart' hl
  refine wpAny_stack_any fun st=>wpAny_pure ?_
  split
  ·rename_i c _ _ _ _ _
   cases (c == Value.type "enumerate")<;>(wp_walk using wpAny_loadPart' hl,wpAny_pyIter_tuple hT;exact ⟨_,rfl,h⟩)
  ·wp_walk using wpAny_loadPart' hl,wpAny_pyIter_tuple hT
   exact ⟨_,rfl,h⟩
section
variable {X:Cx} {pins:List (Addr×Obj)} {σ:St} {H:Hp} {s:Shared}
theorem Inv.turned2 {h':Heap} {t':Nat} {e it:Addr} (I:Inv X pins σ H s) (k:∀ b o,b≠e->b≠it->s.heap.get? b=some o->h'.get? b=some o) (fe:FpOk X pins H e) (fi:FpOk X pins H it):Inv X pins σ H { s with heap:=h',toks:=t' }:=by
 have nit:∀ b u,H b=some u->b≠e/\b≠it:=fun b u q=>⟨fun z=>by (rw [z,fe.1] at q;cases q),fun z=>by (rw [z,fi.1] at q;cases q)⟩
 have out:∀ {b},b∉[e,it]->b≠e/\b≠it:=fun hc=>⟨fun z=>hc (by simp [z]),fun z=>hc (by simp [z])⟩
 refine I.step (g':=s.gens) (d':=s.drawn) (ch:=[e,it]) (fun b hb=>?_) (fun b o _ _ hc e _=>k b o (out hc).1 (out hc).2 e) (fun b o _ _ hc e _=>⟨o.slots,k b o (out hc).1 (out hc).2 e⟩) (fun _ _ _ _ n=>n)
  (fun b o hc e=>⟨o,k b o (out hc).1 (out hc).2 e⟩) (fun _ _ e=>e) (fun _ _ _ e=>e) (fun b ps e=>⟨#[],by rw [e];simp⟩) (fun m hm=>?_) (fun b u q=>?_) I.bare
 ·rcases List.mem_cons.mp hb with rfl | hb
  ·exact ⟨fe.2.2.2.1,fe.2.1,fe.2.2.2.2.1,fe.2.2.2.2.2⟩
  ·have:=List.mem_singleton.mp hb
   subst this
   exact ⟨fi.2.2.2.1,fi.2.1,fi.2.2.2.2.1,fi.2.2.2.2.2⟩
 ·obtain ⟨o,es,ep,ho,r⟩:=hm
  exact ⟨o,es,ep,k _ o (Ne.symm fe.2.1) (Ne.symm fi.2.1) ho,r⟩
 ·refine (I.hok b u q).stay (fun c v hc q'=>?_) (fun _ q=>q) fun _ _ q=>q
  have n:c≠e/\c≠it:=by
   rcases hc with z | z
   ·rw [z];exact nit b u q
   ·exact nit c _ z
  exact k c v n.1 n.2 q'
end
noncomputable def SqB (K:PySem.W.Frag) (H:Hp) (b:Bool) (a:Addr) (xs:List V):Prop:=if b=true then SqT K H a xs else SqL K H a xs
noncomputable def ItB (h:Heap) (b:Bool) (it a:Addr) (i:Nat):Prop:=if b=true then h.IsTupleIter it a i else h.IsListIter it a i
noncomputable def Iten (K:PySem.W.Frag) (b:Bool) (a:Addr):It :=
 ⟨fun i H=>∃ xs x,SqB K H b a xs/\xs[i]?=some x,
  fun i H x H'=>∃ p y,H p=none/\x=.ref p/\H'=upd H p (.tup [.int i,y])/\∀ xs,SqB K H b a xs->xs[i]?=some y,
  fun i H=>∃ xs,SqB K H b a xs/\xs.length=i⟩
noncomputable def tnE (b:Bool) (e it a:Addr) (i:Nat) (h:Heap):Prop:=(∃ old,IsEnum h e it i old)/\ItB h b it a i
section
variable {X:Cx} {pins:List (Addr×Obj)} {σ:St} {H:Hp} {s:Shared}
theorem SqB.draws {b:Bool} {a e it:Addr} {i:Nat} {xs:List V} {old:Value} (I:Inv X pins σ H s) (hh:X.A.handled=none) (hq:SqB X.K H b a xs) (he:IsEnum s.heap e it i old) (hi:ItB s.heap b it a i) :
  ∃ (its:List Value) (St':Nat->Heap->Prop),Vals xs its/\e≠it/\e∉[it,a]/\St' i s.heap/\Draws X.prog X.w X.A.in1 it [it,a] its.length (fun i v=>its[i]?=some v) St'/\(∀ j h,St' j h->ItB h b it a j):=by
 have hh1:X.A.in1.handled=none:=hh
 cases b with
 | true =>
  have hq:SqT X.K H a xs:=hq
  have hi:s.heap.IsTupleIter it a i:=hi
  obtain ⟨its,rv,p,hz⟩:=I.tuple hq
  have p:s.heap.IsTuple a its.toArray:=p
  obtain ⟨o1,e1,c1,d1⟩:=id hi
  obtain ⟨o2,e2,c2,n2,d2⟩:=id p
  have n1:e≠it:=fun z=>by rw [z] at he;rw [he] at e1;cases e1;exact absurd (show Value.type "enumerate" = Value.type "tuple_iterator" from c1) (by decide)
  have n2:a≠it:=fun z=>by rw [z] at e2;rw [e2] at e1;cases e1;rw [c1] at c2;exact absurd c2 (by decide)
  have n3:e≠a:=fun z=>by rw [z] at he;rw [he] at e2;cases e2;exact absurd (show Value.type "enumerate" = Value.type "tuple" from c2) (by decide)
  refine ⟨its,fun j h=>h.IsTupleIter it a j/\h.IsTuple a its.toArray,rv,n1,by simp [n1,n3],⟨hi,p⟩,?_,fun j h q=>q.1⟩
  have:=qaM (prog:=X.prog) (w:=X.w) hh1 it a n2 its.toArray
  simpa using this
 | false =>
  have hq:SqL X.K H a xs:=hq
  have hi:s.heap.IsListIter it a i:=hi
  obtain ⟨its,rv,p0,hz⟩:=I.list hq
  have p:=p0.isList
  obtain ⟨o1,e1,c1,d1⟩:=id hi
  obtain ⟨o2,e2,c2,n2,d2⟩:=id p
  have n1:e≠it:=fun z=>by rw [z] at he;rw [he] at e1;cases e1;exact absurd (show Value.type "enumerate" = Value.type "list_iterator" from c1) (by decide)
  have n2:a≠it:=fun z=>by rw [z] at e2;rw [e2] at e1;cases e1;rw [c1] at c2;exact absurd c2 (by decide)
  have n3:e≠a:=fun z=>by rw [z] at he;rw [he] at e2;cases e2;exact absurd (show Value.type "enumerate" = Value.type "list" from c2) (by decide)
  refine ⟨its,fun j h=>h.IsListIter it a j/\h.IsList a its.toArray,rv,n1,by simp [n1,n3],⟨hi,p⟩,?_,fun j h q=>q.1⟩
  have:=Draws.list (prog:=X.prog) (w:=X.w) hh1 it a n2 its.toArray
  simpa using this
theorem SqB.inj {b:Bool} {a:Addr} {xs ys:List V} (I:Inv X pins σ H s) (h1:SqB X.K H b a xs) (h2:SqB X.K H b a ys):xs=ys:=by
 cases b with
 | true=>exact I.tuple_inj h1 h2
 | false=>exact I.list_inj h1 h2
theorem ItB.but {h h':Heap} {b:Bool} {it a e:Addr} {i:Nat} (q:ItB h b it a i) (n:it≠e) (hs:∀ c o,c≠e->h.get? c=some o->h'.get? c=some o):ItB h' b it a i:=by
 cases b with
 | true=>obtain ⟨o,ho,r⟩:=(show h.IsTupleIter it a i from q);exact (show h'.IsTupleIter it a i from ⟨o,hs _ o n ho,r⟩)
 | false=>obtain ⟨o,ho,r⟩:=(show h.IsListIter it a i from q);exact (show h'.IsListIter it a i from ⟨o,hs _ o n ho,r⟩)
theorem ItB.obj {h:Heap} {b:Bool} {it a:Addr} {i:Nat} (q:ItB h b it a i):∃ o,h.get? it=some o/\∀ v,o.data≠.cell v:=by
 cases b with
 | true=>obtain ⟨o,ho,c,d⟩:=(show h.IsTupleIter it a i from q);exact ⟨o,ho,fun v z=>by rw [d] at z;cases z⟩
 | false=>obtain ⟨o,ho,c,d⟩:=(show h.IsListIter it a i from q);exact ⟨o,ho,fun v z=>by rw [d] at z;cases z⟩
end
theorem qep {P:Program} {w:World} {K:PySem.W.Frag} {ts:List Expr} {kk:Nat} {tp:Pos} (b:Bool) (a e it:Addr):Turn P w K (.Tuple ts kk tp) (Iten K b a) [e,it] e (tnE b e it a) where
 mem:=by simp
 obj:=fun i h ⟨⟨old,he⟩,hi⟩ c hc=>by
  rcases List.mem_cons.mp hc with rfl | hc
  ·exact ⟨_,he,fun v z=>by cases z⟩
  ·have:=List.mem_singleton.mp hc
   subst this
   exact hi.obj
 keep:=fun i h h' ⟨⟨old,he⟩,hi⟩ k=>by
  refine ⟨⟨old,k e (by simp) _ he⟩,?_⟩
  cases b with
  | true=>obtain ⟨o,ho,r⟩:=(show h.IsTupleIter it a i from hi);exact (show h'.IsTupleIter it a i from ⟨o,k it (by simp) o ho,r⟩)
  | false=>obtain ⟨o,ho,r⟩:=(show h.IsListIter it a i from hi);exact (show h'.IsListIter it a i from ⟨o,k it (by simp) o ho,r⟩)
 item:=by
  intro X hP hw hK hc i pins s σ H E I hf st hg
  subst hP hw hK
  obtain ⟨xs,x,hq,hx⟩:=hg
  obtain ⟨⟨old,he⟩,hi⟩:=st
  obtain ⟨its,St',rv,n1,n2,st,D,back⟩:=SqB.draws I (I.ok.hd hc) hq he hi
  obtain ⟨u,hu,ru⟩:=rv.get hx
  have hlt:i < its.length:=by
   rcases Nat.lt_or_ge i its.length with z | z
   ·exact z
   ·rw [List.getElem?_eq_none z] at hu;cases hu
  refine wpAny_pyNext_enum_itemD D he st hlt n1 n2 fun x' h' tk hP heo st' ht hsz hk=>?_
  have ex:x'=u:=by rw [hu] at hP;cases hP;rfl
  subst ex
  refine ⟨_,rfl,wpAny_letOwnedTupleGo_enum heo fun h2 he2 hs2=>?_⟩
  have hs2:Heap.SameBut e h' h2:=hs2
  have k2:∀ c o,c≠e->h'.get? c=some o->h2.get? c=some o:=fun c o hc q=>(hs2.2 c hc).trans q
  have I1:Inv X pins σ H { s with heap:=h2,toks:=tk + 1 }:=I.turned2 (fun c o hc1 hc2 q=>k2 c o hc1 (hk c o hc1 hc2 q)) (hf e (by simp)) (hf it (by simp))
  have hn:H s.heap.objs.size=none:=I.hok.fresh (Nat.le_refl _)
  have fT:FpOk X pins H s.heap.objs.size:=I.fpOk (Nat.le_refl _) hn
  have neT:s.heap.objs.size≠e:=Nat.ne_of_gt (Heap.lt_size he)
  have hit:it≠s.heap.objs.size:=by
   obtain ⟨o,ho,_⟩:=hi.obj
   exact Nat.ne_of_lt (Heap.lt_size ho)
  have ok:Qp X.prog X.w (upd H s.heap.objs.size (.tup [.int i,x])) h2 s.heap.objs.size (.tup [.int i,x]) :=
   ⟨Nat.le_of_lt (qX (show 2 <= 1000 by decide)),[.int i tk,x'],.cons ⟨tk,rfl⟩ (.cons ru .nil),⟨_,k2 _ _ neT ht,rfl,_,rfl⟩⟩
  refine ⟨.ref s.heap.objs.size,upd H s.heap.objs.size (.tup [.int i,x]),I1.track hn fT.2.1 fT.2.2.2.1 fT.2.2.2.2.1 fT.2.2.2.2.2 ok,rfl,⟨_,x,hn,rfl,rfl,fun ys hy=>by rw [SqB.inj I hy hq];exact hx⟩,⟨⟨x',he2⟩,(back _ _ st').but (Ne.symm n1) k2⟩,fun c hc=>?_⟩
  rcases List.mem_cons.mp hc with rfl | hc
  ·rw [qD (Ne.symm neT)];exact (hf _ (by simp)).1
  ·have:=List.mem_singleton.mp hc
   subst this
   rw [qD hit];exact (hf _ (by simp)).1
 done:=by
  intro X hP hw hK hc i pins s σ H E I hf st hg
  subst hP hw hK
  obtain ⟨xs,hq,hx⟩:=hg
  obtain ⟨⟨old,he⟩,hi⟩:=st
  obtain ⟨its,St',rv,n1,n2,st,D,back⟩:=SqB.draws I (I.ok.hd hc) hq he hi
  have hl:=rv.length
  have hi':i=its.length:=by omega
  subst hi'
  obtain ⟨f0,f1,f2,f3,f4,f5⟩:=hf it (by simp)
  exact wpAny_pyNext_enum_endD D he st fun h' eb=>⟨rfl,I.turned (t':=s.toks) (fun c o hc e=>eb c o hc e) f0 f1 f3 f4 f5⟩
 self:=fun _ _ _ _ _ ⟨⟨old,he⟩,_⟩ h=>wpAny_pyIter_enum he h
theorem yr:bootBuiltins "enumerate" = some (.type "enumerate"):=by decide +kernel
section
variable {X:Cx} {pins:List (Addr×Obj)} {σ:St} {H:Hp} {s:Shared}
theorem qdN {b:Bool} {a:Addr} {xs:List V} {E:Value->Shared->Prop} {Q:Value->Shared->Prop} (I:Inv X pins σ H s) (hq:SqB X.K H b a xs)
  (h:∀ (h':Heap) (t':Nat),tnE b (s.heap.objs.size + 1) s.heap.objs.size a 0 h'->(∀ c o,s.heap.get? c=some o->h'.get? c=some o)->Q (.ref (s.heap.objs.size + 1)) { s with heap:=h',toks:=t' }) :
  wpAny (model X.prog X.w) X.A (call (.type "enumerate") [.ref a]) Q E s:=by
 cases b with
 | true =>
  have hq:SqT X.K H a xs:=hq
  obtain ⟨its,rv,⟨⟨cls,dd,data,sl⟩,g1,g2,n,g3⟩,hz⟩:=I.tuple hq
  simp only at g2 g3
  subst g2 g3
  have hz:(s.heap.push { cls:=.type "tuple_iterator", data:=.fields #[.ref a,.int 0 0] }).objs.size=s.heap.objs.size + 1:=by rw [Heap.size_push]
  refine callType_new F.called_enumerate (by decide) (F.typeCall_enumerate_1 _) (F.newCall_enumerate_1 _) (fun obj=>F.args_object_init_2 obj _) F.entry_enumerate_new (qdP a its.toArray n dd sl) ⟨g1,?_⟩
  refine (id ?_:_/\_)
  rw [hz]
  have he:IsEnum ((s.heap.push { cls:=.type "tuple_iterator", data:=.fields #[.ref a,.int 0 0] }).push { cls:=.type "enumerate", data:=.fields #[.none,.bool false,.ref s.heap.objs.size,rawInt 0,.none,.none] }) (s.heap.objs.size + 1) s.heap.objs.size 0 .none:=by
   have z:=Heap.get?_push_size (s.heap.push { cls:=.type "tuple_iterator", data:=.fields #[.ref a,.int 0 0] }) (o:={ cls:=.type "enumerate", data:=.fields #[.none,.bool false,.ref s.heap.objs.size,rawInt 0,.none,.none] }) rfl
   rw [hz] at z
   exact z
  exact ⟨⟨_,he,rfl⟩,h _ s.toks ⟨⟨_,he⟩,(show Heap.IsTupleIter _ _ _ _ from ⟨_,Heap.get?_push_of_some _ (Heap.get?_push_size _ rfl),rfl,rfl⟩)⟩ fun c o x=>Heap.get?_push_of_some _ (Heap.get?_push_of_some _ x)⟩
 | false =>
  have hq:SqL X.K H a xs:=hq
  obtain ⟨its,rv,⟨⟨cls,dd,data,sl⟩,n,g1,g2,_,g3⟩,hz⟩:=I.list hq
  simp only at g2 g3
  subst g2 g3
  have hz:(s.heap.push { cls:=.type "list_iterator", data:=.fields #[.ref a,.int 0 0] }).objs.size=s.heap.objs.size + 1:=by rw [Heap.size_push]
  refine callType_new F.called_enumerate (by decide) (F.typeCall_enumerate_1 _) (F.newCall_enumerate_1 _) (fun obj=>F.args_object_init_2 obj _) F.entry_enumerate_new (meets_enumerate_newL a its.toArray n dd sl) ⟨g1,?_⟩
  refine (id ?_:_/\_)
  rw [hz]
  have he:IsEnum ((s.heap.push { cls:=.type "list_iterator", data:=.fields #[.ref a,.int 0 0] }).push { cls:=.type "enumerate", data:=.fields #[.none,.bool false,.ref s.heap.objs.size,rawInt 0,.none,.none] }) (s.heap.objs.size + 1) s.heap.objs.size 0 .none:=by
   have z:=Heap.get?_push_size (s.heap.push { cls:=.type "list_iterator", data:=.fields #[.ref a,.int 0 0] }) (o:={ cls:=.type "enumerate", data:=.fields #[.none,.bool false,.ref s.heap.objs.size,rawInt 0,.none,.none] }) rfl
   rw [hz] at z
   exact z
  exact ⟨⟨_,he,rfl⟩,h _ s.toks ⟨⟨_,he⟩,(show Heap.IsListIter _ _ _ _ from ⟨_,Heap.get?_push_of_some _ (Heap.get?_push_size _ rfl),rfl,rfl⟩)⟩ fun c o x=>Heap.get?_push_of_some _ (Heap.get?_push_of_some _ x)⟩
end
noncomputable def iEnum (K:PySem.W.Frag) (ta:TA):TI:=fun σ H R=>ta σ H fun vs H1=>∃ a b xs,vs=[.ref a]/\SqB K H1 b a xs/\R (Iten K b a) H1
section
variable {X:Cx} {M:List Nat} {a:Expr} {es:List Expr} {f:Rho->Option PyData} {pos:Pos}
theorem qh0 {ts:List Expr} {kk:Nat} {tp:Pos} {ta:TA} {p:Pos} (hg:Gl X "enumerate") (hm:X.mg "enumerate" = none) (ha:PA X [a] ta) (hs:starEach [a] X.env=[(false,eval a X.env)]:=by rfl):PI X (.Tuple ts kk tp) (.Call (.Name "enumerate" p) [a] [] pos) (iEnum X.K ta):=by
 intro pins s σ H R I h
 refine Call_ (jT I hg hm yr (PyProof.Rows.callWith_type1 (thn (ha pos pins s σ H _ I h) fun us s1 ⟨vs,H1,I1,r1,q1⟩=>?_) hs rfl) (by decide +kernel) (by decide +kernel))
 obtain ⟨p',b,xs,e,hq,q⟩:=q1
 subst e
 obtain ⟨u,rfl,ru⟩:=r1.one
 cases ru
 refine qdN I1 hq fun h' t' tn k=>wpAny_pyIter_enum tn.1.choose_spec ?_
 have I2:Inv X pins σ H1 { s1 with heap:=h',toks:=t' }:=I1.kept (t':=t') k
 refine ⟨_,[s1.heap.objs.size + 1,s1.heap.objs.size],tnE b (s1.heap.objs.size + 1) s1.heap.objs.size p',Iten X.K b p',H1,rfl,I2,qep b p' _ _,tn,fun c hc=>?_,q⟩
 rcases List.mem_cons.mp hc with rfl | hc
 ·exact I1.fpOk (Nat.le_succ _) (I1.hok.fresh (Nat.le_succ _))
 ·have:=List.mem_singleton.mp hc
  subst this
  exact I1.fpOk (Nat.le_refl _) (I1.hok.fresh (Nat.le_refl _))
noncomputable def enL:Nat->List PyData->List PyData
 | _,[]=>[]
 | n,d :: ds=>.tuple [.int (n:Nat),d] :: enL (n + 1) ds
theorem jQ:∀ (n:Nat) (ds:List PyData),(enL n ds).length=ds.length
 | _,[]=>rfl
 | n,_ :: ds=>by rw [enL,List.length_cons,List.length_cons,jQ]
theorem qcV:∀ (n i:Nat) (ds:List PyData) (d:PyData),(enL n ds)[i]?=some d->∃ e,ds[i]?=some e/\d=.tuple [.int ((n + i:Nat)),e]
 | _,_,[],_,h=>by simp [enL] at h
 | n,0,e :: ds,d,h=>by simp [enL] at h;subst h;exact ⟨e,rfl,rfl⟩
 | n,i + 1,e :: ds,d,h=>by
  obtain ⟨e',h1,h2⟩:=qcV (n + 1) i ds d (by simpa [enL] using h)
  refine ⟨e',by simpa using h1,?_⟩
  rw [h2]
  congr 3
  congr 1
  omega
theorem SqB.same {K:PySem.W.Frag} {H H':Hp} {b:Bool} {l:Addr} {xs:List V} (e:Same H H') (h:SqB K H b l xs):SqB K H' b l xs:=by
 cases b with
 | true=>exact e.sqT h
 | false=>exact e.seq h
theorem IsIt.enum {K:PySem.W.Frag} {H:Hp} {S:Av} {b:Bool} {l:Addr} {xs:List V} {ds:List PyData} (h:SqB K H b l xs) (t:DenL K H S xs ds):IsIt K S (Iten K b l) H (enL 0 ds) where
 go:=fun i H' e hi=>by
  rw [jQ] at hi
  have hi':i < xs.length:=by rw [t.length];exact hi
  exact ⟨xs,xs[i],h.same e,List.getElem?_eq_getElem hi'⟩
 yld:=fun i H' x H2 e ⟨p,y,hp,ex,e2,q⟩=>by
  subst ex e2
  refine ⟨Same.lay hp,fun d hd S' w=>?_⟩
  obtain ⟨de,h1,rfl⟩:=qcV 0 i ds d hd
  obtain ⟨v,h2,h3⟩:=t.get h1
  have:=q xs (h.same e)
  rw [h2] at this
  cases this
  rw [Nat.zero_add]
  exact .tuple (SqT.of qK) (.cons (.int _) (.cons (w _ _ h3) .nil))
 stop:=fun H' e=>⟨xs,h.same e,by rw [jQ,t.length]⟩
noncomputable def wQ:PyData->Option (List PyData)
 | .list ds=>some (enL 0 ds)
 | .tuple ds=>some (enL 0 ds)
 | _=>none
theorem qbm {ts:List Expr} {kk:Nat} {tp p:Pos} (hg:Gl X "enumerate") (hm:X.mg "enumerate" = none) (ha:PD X M a f) (hs:starEach [a] X.env=[(false,eval a X.env)]:=by rfl):PDI X M (.Tuple ts kk tp) (.Call (.Name "enumerate" p) [a] [] pos) (evI f wQ) :=
 (qh0 hg hm (qd ha qj hs) hs).weak fun σ H R ⟨S,ρ,ds,hs,e,w⟩=>by
  obtain ⟨x,e1,e⟩:=qi e
  refine ⟨S,ρ,[x],hs,by show ob (f ρ) _=_;rw [e1];rfl,fun vs H1 g1 dl=>?_⟩
  obtain ⟨v,rfl,dv⟩:=dl.inv1
  cases dv with
  | list h t=>cases e;exact ⟨_,false,_,rfl,h.sq,w _ _ g1 fun H2 o=>IsIt.enum (b:=false) (h.off o).sq (t.off (hs.1.same g1) o)⟩
  | tuple h t=>cases e;exact ⟨_,true,_,rfl,h,w _ _ g1 fun H2 o=>IsIt.enum (b:=true) (h.off (hs.1.same g1) o) (t.off (hs.1.same g1) o)⟩
  | _=>cases e
theorem qhh (ds:List PyData):wQ (.list ds)=some (enL 0 ds):=rfl
theorem qhi (ds:List PyData):wQ (.tuple ds)=some (enL 0 ds):=rfl
theorem enL_n (n:Nat):enL n []=[]:=rfl
theorem enL_c (n:Nat) (d:PyData) (ds:List PyData):enL n (d :: ds)=.tuple [.int (n:Nat),d] :: enL (n + 1) ds:=rfl
noncomputable def qcM (o:Option Rho) (k:Nat) (g:PyData->Rho->Option Rho) (tt:Rho->Option Bool) (te:Rho->Option PyData) (ρ:Rho) (ds:List PyData):Option (List PyData):=match o with
 | some ρ1=>(match tt ρ1 with | some true=>jM (te ρ1) (Qh k g tt te ρ ds) | some false=>Qh k g tt te ρ ds | none=>none)
 | none=>none
theorem qcT (k:Nat) (g:PyData->Rho->Option Rho) (tt:Rho->Option Bool) (te:Rho->Option PyData) (ρ:Rho) (d:PyData) (ds:List PyData):Qh k g tt te ρ (d :: ds)=qcM (g d (ρ ++ List.replicate k none)) k g tt te ρ ds:=by
 rw [Qh]
 unfold ob qcM jM
 cases g d (ρ ++ List.replicate k none) with
 | none=>rfl
 | some ρ1 =>
  dsimp only
  cases tt ρ1 with
  | none=>rfl
  | some b =>
   cases b with
   | false=>rfl
   | true=>cases te ρ1<;>cases Qh k g tt te ρ ds<;>rfl
theorem qg7 (k:Nat) (g:PyData->Rho->Option Rho) (tt:Rho->Option Bool) (te:Rho->Option PyData) (ρ:Rho):Qh k g tt te ρ []=some []:=rfl
noncomputable def qaH (b:Option Bool) (y:Option PyData) (r:Option (List PyData)):Option (List PyData):=match b with | some true=>jM y r | some false=>r | none=>none
theorem qcN (ρ1:Rho) (k:Nat) (g:PyData->Rho->Option Rho) (tt:Rho->Option Bool) (te:Rho->Option PyData) (ρ:Rho) (ds:List PyData):qcM (some ρ1) k g tt te ρ ds=qaH (tt ρ1) (te ρ1) (Qh k g tt te ρ ds):=by
 unfold qcM qaH
 rfl
theorem qcL (y:Option PyData) (r:Option (List PyData)):qaH (some true) y r=jM y r:=rfl
theorem qg3 (y:Option PyData) (r:Option (List PyData)):qaH (some false) y r=r:=rfl
noncomputable def qfg (a:Option (List PyData)) (n k:Nat) (g:PyData->Rho->Option Rho) (tt:Rho->Option Bool) (te:Rho->Option PyData) (ρ:Rho):Option PyData:=match a with | some ds=>if ρ.length=n/\ds.length <= 1000 then Yz (Qh k g tt te ρ ds) else none | none=>none
theorem qg5 (n k:Nat) (fi:Rho->Option (List PyData)) (g:PyData->Rho->Option Rho) (tt:Rho->Option Bool) (te:Rho->Option PyData) (ρ:Rho):jh n k fi g tt te ρ=qfg (fi ρ) n k g tt te ρ:=by
 unfold jh ob qfg Yz
 cases fi ρ with
 | none=>rfl
 | some ds =>
  dsimp only
  split
  ·cases Qh k g tt te ρ ds<;>rfl
  ·rfl
theorem qg1 (ds:List PyData) (n k:Nat) (g:PyData->Rho->Option Rho) (tt:Rho->Option Bool) (te:Rho->Option PyData) (ρ:Rho):qfg (some ds) n k g tt te ρ=if ρ.length=n/\ds.length <= 1000 then Yz (Qh k g tt te ρ ds) else none:=rfl
end
noncomputable def k1Of:PyData->Option (Int ⊕ List Int)
 | .int i=>some (.inl i)
 | .tuple ds=>ob (intsOf ds) fun js=>some (.inr js)
 | _=>none
noncomputable def qfI:List PyData->Option K2
 | []=>some []
 | d :: ds=>ob (k1Of d) fun k=>ob (qfI ds) fun ks=>some (k :: ks)
noncomputable def k2Of:PyData->Option K2
 | .tuple ds=>qfI ds
 | _=>none
theorem qdV {d:PyData} {k:Int ⊕ List Int} (e:k1Of d=some k):d=k2D k:=by
 unfold k1Of at e
 split at e
 ·cases e;rfl
 ·obtain ⟨js,e1,e⟩:=qi e
  cases e
  rw [yg e1];rfl
 ·cases e
theorem Yv:∀ {ds:List PyData} {ks:K2},qfI ds=some ks->ds=ks.map k2D
 | [],_,e=>by cases e;rfl
 | d :: ds,_,e=>by
  obtain ⟨k,e1,e⟩:=qi e
  obtain ⟨ks,e2,e⟩:=qi e
  cases e
  rw [qdV e1,Yv e2];rfl
theorem qdW {d:PyData} {ks:K2} (e:k2Of d=some ks):d=k2T ks:=by
 unfold k2Of at e
 split at e
 ·rw [Yv e];rfl
 ·cases e
noncomputable def kxOf:PyData->Option KX
 | .int i=>some (.inl i)
 | d=>ob (k2Of d) fun ks=>some (.inr ks)
theorem Qm {d:PyData} {k:KX} (e:kxOf d=some k):d=kxD k:=by
 unfold kxOf at e
 split at e
 ·cases e;rfl
 ·obtain ⟨ks,e1,e⟩:=qi e
  cases e
  exact qdW e1
noncomputable def kOk (kvs:List (PyData×PyData)) (k:KX):Bool:=kvs.all fun p=>qfC p.1 == kxI k
noncomputable def qP (kvs:List (PyData×PyData)) (ks:KX):Option PyData:=(kvs.find? fun p=>PyData.eqv p.1 (kxD ks)).map (·.2)
noncomputable def putD (kvs:List (PyData×PyData)) (ks:KX) (v:PyData):List (PyData×PyData) :=
 if (qP kvs ks).isSome=true then kvs.map (fun p=>if PyData.eqv p.1 (kxD ks)=true then (p.1,v) else p) else kvs ++ [(kxD ks,v)]
noncomputable def putV (kvs:List (KX×Addr×V)) (ks:KX) (b:Addr) (v:V):List (KX×Addr×V) :=
 if (kvs.any fun p=>decide (p.1=ks))=true then kvs.map (fun p=>if p.1=ks then (p.1,p.2.1,v) else p) else kvs ++ [(ks,b,v)]
section
variable {K:PySem.W.Frag} {H:Hp} {S:Av}
theorem zR (p:KX×Addr×V) (kvs:List (KX×Addr×V)) (d:PyData) (ds:List PyData):dkv (p :: kvs) (d :: ds)=(kxD p.1,d) :: dkv kvs ds:=rfl
theorem jA {k:KX} {d:PyData} {kvs:List (PyData×PyData)} {ks:KX} (e:k=ks):qP ((kxD k,d) :: kvs) ks=some d:=by
 unfold qP
 rw [List.find?_cons,Jl,decide_eq_true e];rfl
theorem jz {k:KX} {d:PyData} {kvs:List (PyData×PyData)} {ks:KX} (e:k≠ks):qP ((kxD k,d) :: kvs) ks=qP kvs ks:=by
 unfold qP
 rw [List.find?_cons,Jl,decide_eq_false e]
theorem j0 {α β:Type} {R:α->β->Prop} {a:α} {b:β}:∀ {as:List α} {bs:List β},Paired R as bs->R a b->Paired R (as ++ [a]) (bs ++ [b])
 | _,_,.nil,h=>.cons h .nil
 | _,_,.cons h t,q=>.cons h (j0 t q)
theorem qdn {ks:KX} {v:V} {d:PyData} (dv:Den K H S v d):∀ {kvs:List (KX×Addr×V)} {ds:List PyData},DenL K H S (kvs.map (·.2.2)) ds->∃ ds',DenL K H S ((kvs.map fun p=>if p.1=ks then (p.1,p.2.1,v) else p).map (·.2.2)) ds'/\dkv (kvs.map fun p=>if p.1=ks then (p.1,p.2.1,v) else p) ds'=(dkv kvs ds).map (fun p=>if PyData.eqv p.1 (kxD ks)=true then (p.1,d) else p)
 | [],_,t=>by cases t;exact ⟨[],.nil,rfl⟩
 | p :: kvs,_,t=>by
  cases t with
  | @cons _ d0 _ ds dv0 t' =>
   obtain ⟨ds',h1,h2⟩:=qdn dv t'
   rw [List.map_cons,List.map_cons,zR,List.map_cons,Jl]
   by_cases e:p.1=ks
   ·refine ⟨d :: ds',?_,?_⟩
    ·rw [if_pos e];exact .cons dv h1
    ·rw [if_pos e,zR,h2,if_pos (decide_eq_true e)]
   ·refine ⟨d0 :: ds',?_,?_⟩
    ·rw [if_neg e];exact .cons dv0 h1
    ·rw [if_neg e,zR,h2,if_neg (fun z=>e (of_decide_eq_true z))]
theorem qaK {kvs:List (KX×Addr×V)} {ds:List PyData} (hl:kvs.length=ds.length) (p:KX×Addr×V) (d:PyData):dkv (kvs ++ [p]) (ds ++ [d])=dkv kvs ds ++ [(kxD p.1,d)]:=by
 unfold dkv
 rw [List.map_append,List.zip_append (by rw [List.length_map,hl])]
 rfl
theorem qbx {ks:KX} {b:Addr} {v:V} {d:PyData} {kvs:List (KX×Addr×V)} {ds:List PyData} (t:DenL K H S (kvs.map (·.2.2)) ds) (dv:Den K H S v d) (he:(kvs.any fun p=>decide (p.1=ks))=(qP (dkv kvs ds) ks).isSome) :
  ∃ ds',DenL K H S ((putV kvs ks b v).map (·.2.2)) ds'/\dkv (putV kvs ks b v) ds'=putD (dkv kvs ds) ks d:=by
 have hl:kvs.length=ds.length:=by
  have:=t.length
  rwa [List.length_map] at this
 unfold putV putD
 rw [he]
 split
 ·exact qdn dv t
 ·refine ⟨ds ++ [d],?_,qaK hl _ _⟩
  rw [List.map_append]
  exact t.append (.cons dv .nil)
theorem qbu {ks:KX} {b:Addr} {v:V} {kvs:List (KX×Addr×V)} (k:DenL K H S (kvs.map fun p=>kxV p.1 p.2.1) (kvs.map fun p=>kxD p.1)) (dk:Den K H S (kxV ks b) (kxD ks)):DenL K H S ((putV kvs ks b v).map fun p=>kxV p.1 p.2.1) ((putV kvs ks b v).map fun p=>kxD p.1):=by
 unfold putV
 split
 ·have e1:(kvs.map fun p=>if p.1=ks then (p.1,p.2.1,v) else p).map (fun p=>kxV p.1 p.2.1)=kvs.map fun p=>kxV p.1 p.2.1:=by
   rw [List.map_map]
   refine List.map_congr_left fun p _=>?_
   show kxV (if p.1=ks then (p.1,p.2.1,v) else p).1 (if p.1=ks then (p.1,p.2.1,v) else p).2.1=_
   split<;>rfl
  have e2:(kvs.map fun p=>if p.1=ks then (p.1,p.2.1,v) else p).map (fun p=>kxD p.1)=kvs.map fun p=>kxD p.1:=by
   rw [List.map_map]
   refine List.map_congr_left fun p _=>?_
   show kxD (if p.1=ks then (p.1,p.2.1,v) else p).1=_
   split<;>rfl
  rw [e1,e2];exact k
 ·rw [List.map_append,List.map_append]
  exact k.append (.cons dk .nil)
end
section
variable {K:PySem.W.Frag} {H:Hp} {S:Av}
theorem ZK {kvs:List (KX×Addr×V)} {ds:List PyData} {k:KX} (hl:kvs.length=ds.length) (h:kOk (dkv kvs ds) k=true):∀ p∈kvs,kxI p.1=kxI k:=by
 intro p hp
 have hm:kxD p.1∈(dkv kvs ds).map (·.1):=by rw [Yn hl];exact List.mem_map.mpr ⟨p,hp,rfl⟩
 obtain ⟨q,hq,e⟩:=List.mem_map.mp hm
 have:=List.all_eq_true.mp h q hq
 rw [e,qb6] at this
 simpa using this
theorem QX (ks:K2):∀ {kvs:List (KX×Addr×V)} {xs:List (K2×Addr×Value)} {ds:List PyData},Paired PkT kvs xs->DenL K H S (kvs.map (·.2.2)) ds->
  (qP (dkv kvs ds) (.inr ks)=none/\atKey xs ks=none/\(kvs.any fun p=>decide (p.1=.inr ks))=false)\/∃ d b y u,qP (dkv kvs ds) (.inr ks)=some d/\atKey xs ks=some (b,u)/\RelV y u/\Den K H S y d/\(kvs.any fun p=>decide (p.1=.inr ks))=true
 | [],_,_,r,t=>by
  cases r
  cases t
  exact .inl ⟨rfl,rfl,rfl⟩
 | p :: kvs,_,_,r,t=>by
  cases r with
  | @cons _ q _ qs h r' =>
   cases t with
   | @cons _ d _ ds dv t' =>
    rw [zR]
    by_cases e:p.1=.inr ks
    ·refine .inr ⟨d,q.2.1,p.2.2,q.2.2,jA e,?_,h.2.2,dv,by rw [List.any_cons,decide_eq_true e,Bool.true_or]⟩
     unfold atKey
     have eq:q.1=ks:=Sum.inr.inj (h.1.symm.trans e)
     rw [List.find?_cons,decide_eq_true eq];rfl
    ·have e':¬ q.1=ks:=fun z=>e (by rw [h.1,z])
     have ea:atKey (q :: qs) ks=atKey qs ks:=by
      unfold atKey
      rw [List.find?_cons,decide_eq_false e']
     rw [jz e,ea,List.any_cons,decide_eq_false e,Bool.false_or]
     exact QX ks r' t'
theorem Zq (i:Int):∀ {kvs:List (KX×Addr×V)} {vs:List (Int×Value)} {ds:List PyData},Paired PkI kvs vs->DenL K H S (kvs.map (·.2.2)) ds->
  (qP (dkv kvs ds) (.inl i)=none/\valueAt vs i=none/\(kvs.any fun p=>decide (p.1=.inl i))=false)\/∃ d y u,qP (dkv kvs ds) (.inl i)=some d/\valueAt vs i=some u/\RelV y u/\Den K H S y d/\(kvs.any fun p=>decide (p.1=.inl i))=true
 | [],_,_,r,t=>by
  cases r
  cases t
  exact .inl ⟨rfl,rfl,rfl⟩
 | p :: kvs,_,_,r,t=>by
  cases r with
  | @cons _ q _ qs h r' =>
   cases t with
   | @cons _ d _ ds dv t' =>
    rw [zR]
    by_cases e:p.1=.inl i
    ·refine .inr ⟨d,p.2.2,q.2,jA e,?_,h.2,dv,by rw [List.any_cons,decide_eq_true e,Bool.true_or]⟩
     unfold valueAt
     have eq:q.1=i:=Sum.inl.inj (h.1.symm.trans e)
     rw [List.find?_cons,decide_eq_true eq];rfl
    ·have e':¬ q.1=i:=fun z=>e (by rw [h.1,z])
     have ea:valueAt (q :: qs) i=valueAt qs i:=by
      unfold valueAt
      rw [List.find?_cons,decide_eq_false e']
     rw [jz e,ea,List.any_cons,decide_eq_false e,Bool.false_or]
     exact Zq i r' t'
theorem YT {ks:K2} {v:V} {u:Value} (rv:RelV v u):∀ {kvs:List (KX×Addr×V)} {xs:List (K2×Addr×Value)},Paired PkT kvs xs->Paired PkT (kvs.map fun p=>if p.1=.inr ks then (p.1,p.2.1,v) else p) (xs.map (putAt ks u))
 | [],_,r=>by cases r;exact .nil
 | p :: kvs,_,r=>by
  cases r with
  | @cons _ q _ qs h r' =>
   rw [List.map_cons,List.map_cons]
   refine .cons ?_ (YT rv r')
   unfold putAt
   by_cases e:p.1=.inr ks
   ·have eq:q.1=ks:=Sum.inr.inj (h.1.symm.trans e)
    rw [if_pos e,if_pos eq];exact ⟨h.1,h.2.1,rv⟩
   ·rw [if_neg e,if_neg (fun z=>e (by rw [h.1,z]))];exact h
theorem qbw {ks:K2} {b:Addr} {v:V} {u:Value} {kvs:List (KX×Addr×V)} {xs:List (K2×Addr×Value)} (r:Paired PkT kvs xs) (rv:RelV v u) (he:(kvs.any fun p=>decide (p.1=.inr ks))=(atKey xs ks).isSome):Paired PkT (putV kvs (.inr ks) b v) (storedH xs ks b u):=by
 unfold putV storedH
 rw [he]
 split
 ·exact YT rv r
 ·exact j0 r ⟨rfl,rfl,rv⟩
theorem YS {i:Int} {v:V} {u:Value} (rv:RelV v u):∀ {kvs:List (KX×Addr×V)} {xs:List (Int×Value)},Paired PkI kvs xs->Paired PkI (kvs.map fun p=>if p.1=.inl i then (p.1,p.2.1,v) else p) (xs.map fun q=>if q.1=i then (q.1,u) else q)
 | [],_,r=>by cases r;exact .nil
 | p :: kvs,_,r=>by
  cases r with
  | @cons _ q _ qs h r' =>
   rw [List.map_cons,List.map_cons]
   refine .cons ?_ (YS rv r')
   by_cases e:p.1=.inl i
   ·have eq:q.1=i:=Sum.inl.inj (h.1.symm.trans e)
    rw [if_pos e,if_pos eq];exact ⟨h.1,rv⟩
   ·rw [if_neg e,if_neg (fun z=>e (by rw [h.1,z]))];exact h
theorem qcC (i:Int):∀ {kvs:List (KX×Addr×V)} {xs:List (Int×Value)},Paired PkI kvs xs->(kvs.any fun p=>decide (p.1=.inl i))=xs.any fun q=>decide (q.1=i)
 | _,_,.nil=>rfl
 | _,_,@Paired.cons _ _ _ p q _ _ h t=>by
  rw [List.any_cons,List.any_cons,qcC i t]
  by_cases e:p.1=.inl i
  ·rw [decide_eq_true e,decide_eq_true (Sum.inl.inj (h.1.symm.trans e):q.1=i)]
  ·rw [decide_eq_false e,decide_eq_false (fun z=>e (by rw [h.1,z]):¬ q.1=i)]
theorem qbv {i:Int} {b:Addr} {v:V} {u:Value} {kvs:List (KX×Addr×V)} {xs:List (Int×Value)} (r:Paired PkI kvs xs) (rv:RelV v u):Paired PkI (putV kvs (.inl i) b v) (stored xs i u):=by
 unfold putV stored
 rw [qcC i r]
 split
 ·exact YS rv r
 ·exact j0 r ⟨rfl,rv⟩
end
section
variable {X:Cx} {pins:List (Addr×Obj)} {σ:St} {H:Hp} {s:Shared} {S:Av}
theorem qc7 (I:Inv X pins σ H s):∀ {kvs:List (KX×Addr×V)} {xs:List (K2×Addr×Value)},Paired PkT kvs xs->DenL X.K H S (kvs.map fun p=>kxV p.1 p.2.1) (kvs.map fun p=>kxD p.1)->∀ x∈xs,Is2 s.heap x.1 x.2.1
 | _,_,.nil,_,x,hx=>by cases hx
 | _,_,@Paired.cons _ _ _ p q kvs qs h t,k,x,hx=>by
  cases k with
  | cons dk k' =>
   have dk:Den X.K H S (kxV p.1 p.2.1) (kxD p.1):=dk
   rcases List.mem_cons.mp hx with rfl | hx
   ·rw [h.1] at dk
    obtain ⟨as,r⟩:=dk.reads I (u:=Value.ref x.2.1) (by rw [h.2.1];rfl)
    exact ⟨as,r⟩
   ·exact qc7 I t k' x hx
theorem jy (I:Inv X pins σ H s) {a:Addr} {kvs:List (KX×Addr×V)} {ep:Nat} (h:H a=some (DctO a kvs ep)) (k:DenL X.K H S (kvs.map fun p=>kxV p.1 p.2.1) (kvs.map fun p=>kxD p.1)) (hk:∀ p∈kvs,kxI p.1=false) :
  kvs.length <= sizeLine/\(a == sysModules)=false/\∃ xs:List (K2×Addr×Value),Paired PkT kvs xs/\s.heap.DictOfH (yh X.prog X.w) a xs:=by
 have d:=qU.of (I.hok a _ h)
 obtain ⟨xs,pk,o,es,h1,h2,h3,h4,h5⟩:=d.tup hk
 exact ⟨d.1,d.2.1,xs,pk,o,es,ep,h1,h2,h3,h4,qc7 I pk k,h5⟩
theorem YB {P:Program} {w:World}:∀ {es:List DictEntry} {vs:List (Int×Value)},Paired EnI es vs->Pairs (intKind P w) es vs
 | _,_,.nil=>.nil
 | _,_,.cons h t=>by
  obtain ⟨_,⟨tk,h2⟩,h3⟩:=h
  exact .cons (by rw [h2];exact intKind_is P w _ tk) h3 (YB t)
theorem wX {P:Program} {w:World} {es:Array DictEntry} {vs:List (Int×Value)} (h:Paired EnI es.toList vs):PySem.KeysOf (intKind P w) es:=by
 intro e he
 have he:e∈es.toList:=Array.mem_toList_iff.mpr he
 generalize es.toList=l at h he
 induction h with
 | nil=>cases he
 | @cons a b as bs h t ih =>
  rcases List.mem_cons.mp he with rfl | he
  ·obtain ⟨h1,⟨tk,h2⟩,_⟩:=h
   exact ⟨b.1,by rw [h2];exact intKind_is P w _ tk,h1⟩
  ·exact ih he
theorem jW {P:Program} {w:World}:∀ {es:List DictEntry} {vs:List (Int×Value)},Pairs (intKind P w) es vs->(∀ e∈es,∃ k,(intKind P w).is k e.key=true/\e.hash=(intKind P w).hash k)->Paired EnI es vs
 | _,_,.nil,_=>.nil
 | _,_,.cons h1 h2 t,hk=>by
  refine .cons ?_ (jW t fun e he=>hk e (.tail _ he))
  obtain ⟨k,g1,g2⟩:=hk _ (.head _)
  obtain ⟨tk,e⟩:=Value.isInt_shape h1
  have hkk:=(intKind P w).inj _ _ _ g1 h1
  exact ⟨by rw [g2,hkk];rfl,⟨tk,e⟩,h2⟩
theorem jx (I:Inv X pins σ H s) {a:Addr} {kvs:List (KX×Addr×V)} {ep:Nat} (h:H a=some (DctO a kvs ep)) (hk:∀ p∈kvs,kxI p.1=true) :
  kvs.length <= sizeLine/\(a == sysModules)=false/\∃ vs:List (Int×Value),Paired PkI kvs vs/\s.heap.DictOf (intKind X.prog X.w) a vs:=by
 have d:=qU.of (I.hok a _ h)
 obtain ⟨vs,pk,o,es,h1,h2,h3,h4,h5⟩:=d.int hk
 exact ⟨d.1,d.2.1,vs,pk,o,es,ep,h1,h2,h3,wX h4,YB h4,h5⟩
theorem key_is (I:Inv X pins σ H s) {y:V} {u:Value} {ks:K2} (d:Den X.K H S y (k2T ks)) (r:RelV y u):∃ b,y=.ref b/\u=.ref b/\Is2 s.heap ks b:=by
 obtain ⟨a,xs,e,_,_⟩:=d.tuple_inv
 subst e
 cases (show u=Value.ref a from r)
 obtain ⟨as,q⟩:=d.reads I (u:=.ref a) rfl
 exact ⟨a,rfl,rfl,as,q⟩
theorem ZL {y:V} {u:Value} {i:Int} (d:Den X.K H S y (.int i)) (r:RelV y u):y=.int i/\∃ t,u=.int i t:=by
 cases d
 exact ⟨rfl,r⟩
end
noncomputable def dgetD (d k:PyData):Option PyData:=match d with
 | .dict kvs=>ob (kxOf k) fun ks=>if kOk kvs ks=true then qP kvs ks else none
 | _=>none
noncomputable def ix2D (d k:PyData):Option PyData:=match d with
 | .dict kvs=>dgetD (.dict kvs) k
 | d=>ixD d k
noncomputable def in2D (k d:PyData):Option PyData:=match d with
 | .dict kvs=>ob (kxOf k) fun ks=>if kOk kvs ks=true then some (.bool (qP kvs ks).isSome) else none
 | d=>inD k d
noncomputable def We (k d:PyData):Option PyData:=match d with
 | .dict kvs=>ob (kxOf k) fun ks=>if kOk kvs ks=true then some (.bool (!(qP kvs ks).isSome)) else none
 | d=>ninD k d
noncomputable def ji (d k x:PyData):Option PyData:=match d with
 | .dict kvs=>ob (kxOf k) fun ks=>if kOk kvs ks=true then some ((qP kvs ks).getD x) else none
 | _=>none
noncomputable def Yo (d k v:PyData):Option PyData:=match d with
 | .dict kvs=>ob (kxOf k) fun ks=>if kOk kvs ks=true/\kvs.length < 1000 then some (.dict (putD kvs ks v)) else none
 | _=>none
section
variable {X:Cx} {pins:List (Addr×Obj)} {σ:St} {H:Hp} {s:Shared} {S:Av} {A:Around} {E:Value->Shared->Prop} {a:Addr} {kvs:List (KX×Addr×V)} {ep:Nat} {ds:List PyData} {ks:KX} {y x v:V} {u r:Value} {d dx:PyData}
theorem Wq {A:Around} (hu:A.units + 64 < cLine):A.in1.units + 3 < cLine:=by show A.units + 1 + 3 < cLine;omega
theorem Ji (I:Inv X pins σ H s) (h:H a=some (DctO a kvs ep)):s.TypeIs (.ref a) "dict"/\∃ o,s.heap.get? a=some o/\o.dict=none:=by
 obtain ⟨o,es,h1,h2,_⟩:=(qU.of (I.hok a _ h)).vals
 exact ⟨⟨o,h1,h2.1⟩,o,h1,h2.2.1⟩
theorem qhc {Q:Value->Shared->Prop} (hu:A.units + 64 < cLine) (I:Inv X pins σ H s) (h:H a=some (DctO a kvs ep)) (k:DenL X.K H S (kvs.map fun p=>kxV p.1 p.2.1) (kvs.map fun p=>kxD p.1)) (t:DenL X.K H S (kvs.map (·.2.2)) ds) (hk:∀ p∈kvs,kxI p.1=kxI ks)
  (dy:Den X.K H S y (kxD ks)) (ry:RelV y u) (e:qP (dkv kvs ds) ks=some d) (q:∀ v w' s',Inv X pins σ H s'->RelV v w'->Den X.K H S v d->Q w' s'):wpAny (model X.prog X.w) A (getItem (.ref a) u) Q E s:=by
 cases ks with
 | inr ks =>
  obtain ⟨z,hs,xs,pk,dd⟩:=jy I h k hk
  obtain ⟨b,rfl,rfl,hk⟩:=key_is I dy ry
  rcases QX ks pk t with ⟨e1,_,_⟩ | ⟨d',b',v,w',e1,e2,rv,dv,_⟩
  ·rw [e] at e1;cases e1
  ·rw [e] at e1
   cases e1
   exact wpAny_getItem_heap (knd:=yh X.prog X.w) (Wq hu) hk dd e2 (q v w' _ (I.tok _) rv dv)
 | inl i =>
  obtain ⟨z,hs,vs,pk,dd⟩:=jx I h hk
  obtain ⟨rfl,t',rfl⟩:=ZL dy ry
  rcases Zq i pk t with ⟨e1,_,_⟩ | ⟨d',v,w',e1,e2,rv,dv,_⟩
  ·rw [e] at e1;cases e1
  ·rw [e] at e1
   cases e1
   exact wpAny_getItem_of (intKind_is _ _ i t') dd.mapOf e2 (q v w' _ (I.tok _) rv dv)
theorem dg_in {Q:Value->Shared->Prop} (hu:A.units + 64 < cLine) (I:Inv X pins σ H s) (h:H a=some (DctO a kvs ep)) (k:DenL X.K H S (kvs.map fun p=>kxV p.1 p.2.1) (kvs.map fun p=>kxD p.1)) (t:DenL X.K H S (kvs.map (·.2.2)) ds) (hk:∀ p∈kvs,kxI p.1=kxI ks)
  (dy:Den X.K H S y (kxD ks)) (ry:RelV y u) (q:∀ s',Inv X pins σ H s'->Q (.bool (qP (dkv kvs ds) ks).isSome) s'):wpAny (model X.prog X.w) A (compareOp .In u (.ref a)) Q E s:=by
 cases ks with
 | inr ks =>
  obtain ⟨z,hs,xs,pk,dd⟩:=jy I h k hk
  obtain ⟨b,rfl,rfl,hk⟩:=key_is I dy ry
  refine wpAny_in_heap (knd:=yh X.prog X.w) (Wq hu) hk hs dd ?_
  rcases QX ks pk t with ⟨e1,e2,_⟩ | ⟨d',b',v,w',e1,e2,rv,dv,_⟩
  ·rw [e1] at q;rw [e2];exact q _ (I.tok _)
  ·rw [e1] at q;rw [e2];exact q _ (I.tok _)
 | inl i =>
  obtain ⟨z,hs,vs,pk,dd⟩:=jx I h hk
  obtain ⟨rfl,t',rfl⟩:=ZL dy ry
  refine wpAny_in_of (intKind_is _ _ i t') hs dd.mapOf ?_
  rcases Zq i pk t with ⟨e1,e2,_⟩ | ⟨d',v,w',e1,e2,rv,dv,_⟩
  ·rw [e1] at q;rw [e2];exact q _ (I.tok _)
  ·rw [e1] at q;rw [e2];exact q _ (I.tok _)
theorem qfm {Q:Value->Shared->Prop} (hu:A.units + 64 < cLine) (I:Inv X pins σ H s) (h:H a=some (DctO a kvs ep)) (k:DenL X.K H S (kvs.map fun p=>kxV p.1 p.2.1) (kvs.map fun p=>kxD p.1)) (t:DenL X.K H S (kvs.map (·.2.2)) ds) (hk:∀ p∈kvs,kxI p.1=kxI ks)
  (dy:Den X.K H S y (kxD ks)) (ry:RelV y u) (q:∀ s',Inv X pins σ H s'->Q (.bool (!(qP (dkv kvs ds) ks).isSome)) s'):wpAny (model X.prog X.w) A (compareOp .NotIn u (.ref a)) Q E s:=by
 cases ks with
 | inr ks =>
  obtain ⟨z,hs,xs,pk,dd⟩:=jy I h k hk
  obtain ⟨b,rfl,rfl,hk⟩:=key_is I dy ry
  refine wpAny_notIn_heap (knd:=yh X.prog X.w) (Wq hu) hk hs dd ?_
  rcases QX ks pk t with ⟨e1,e2,_⟩ | ⟨d',b',v,w',e1,e2,rv,dv,_⟩
  ·rw [e1] at q;rw [e2];exact q _ (I.tok _)
  ·rw [e1] at q;rw [e2];exact q _ (I.tok _)
 | inl i =>
  obtain ⟨z,hs,vs,pk,dd⟩:=jx I h hk
  obtain ⟨rfl,t',rfl⟩:=ZL dy ry
  refine wpAny_notIn_of (intKind_is _ _ i t') hs dd.mapOf ?_
  rcases Zq i pk t with ⟨e1,e2,_⟩ | ⟨d',v,w',e1,e2,rv,dv,_⟩
  ·rw [e1] at q;rw [e2];exact q _ (I.tok _)
  ·rw [e1] at q;rw [e2];exact q _ (I.tok _)
theorem qhb {Q:Value->Shared->Prop} (hu:A.units + 64 < cLine) (I:Inv X pins σ H s) (h:H a=some (DctO a kvs ep)) (k:DenL X.K H S (kvs.map fun p=>kxV p.1 p.2.1) (kvs.map fun p=>kxD p.1)) (t:DenL X.K H S (kvs.map (·.2.2)) ds) (hk:∀ p∈kvs,kxI p.1=kxI ks)
  (dy:Den X.K H S y (kxD ks)) (ry:RelV y u) (dxv:Den X.K H S x dx) (rx:RelV x r) (q:∀ v w' s',Inv X pins σ H s'->RelV v w'->Den X.K H S v ((qP (dkv kvs ds) ks).getD dx)->Q w' s'):wpAny (model X.prog X.w) A (call (.builtin "dict.get") [.ref a,u,r]) Q E s:=by
 cases ks with
 | inr ks =>
  obtain ⟨z,hs,xs,pk,dd⟩:=jy I h k hk
  obtain ⟨b,rfl,rfl,hk⟩:=key_is I dy ry
  refine call_meetsIn PySem.F.slot_dict_get dd.typeIs PySem.F.entry_dict_get (PySem.F.args_dict_get_3 _ _ _) (meetsH_dict_get_default (yh X.prog X.w) a b hs r) ⟨Wq hu,ks,xs,hk,dd,?_⟩
  rcases QX ks pk t with ⟨e1,e2,_⟩ | ⟨d',b',v,w',e1,e2,rv,dv,_⟩
  ·rw [e1] at q;rw [e2];exact q _ _ _ (I.tok _) rx dxv
  ·rw [e1] at q;rw [e2];exact q _ _ _ (I.tok _) rv dv
 | inl i =>
  obtain ⟨z,hs,vs,pk,dd⟩:=jx I h hk
  obtain ⟨rfl,t',rfl⟩:=ZL dy ry
  refine call_meetsIn PySem.F.slot_dict_get dd.typeIs PySem.F.entry_dict_get (PySem.F.args_dict_get_3 _ _ _) (meets_dict_get_default (intKind X.prog X.w) a (intKind_is _ _ i t') hs r) ⟨_,dd.mapOf,?_⟩
  rcases Zq i pk t with ⟨e1,e2,_⟩ | ⟨d',v,w',e1,e2,rv,dv,_⟩
  ·rw [e1] at q;rw [e2];exact q _ _ _ (I.tok _) rx dxv
  ·rw [e1] at q;rw [e2];exact q _ _ _ (I.tok _) rv dv
noncomputable def qkh (K:PySem.W.Frag):TSet:=fun o i v H Q=>∃ S p kvs ep ks ds d,o=.ref p/\H p=some (DctO p kvs ep)/\DenL K H S (kvs.map fun p=>kxV p.1 p.2.1) (kvs.map fun p=>kxD p.1)/\DenL K H S (kvs.map (·.2.2)) ds/\(∀ p∈kvs,kxI p.1=kxI ks)/\Den K H S i (kxD ks)/\Den K H S v d/\kvs.length < 1000/\∀ b ep',i=kxV ks b->Q (upd H p (DctO p (putV kvs ks b v) ep'))
theorem jl (kvs:List (KX×Addr×V)) (ks:KX) (b:Addr) (v:V):(putV kvs ks b v).length <= kvs.length + 1:=by
 unfold putV
 split
 ·rw [List.length_map];omega
 ·rw [List.length_append,List.length_singleton];omega
theorem set_dict (hu:X.A.units + 64 < cLine):PSet X (qkh X.K):=by
 intro pins s σ H o i v ov iv u Q I ro ri rv h
 obtain ⟨S,p,kvs,ep,ks,ds,d,rfl,hp,k,t,hk,di,dv,hz,q⟩:=h
 cases ro
 have z1000:1000 < sizeLine:=qX (Nat.le_refl _)
 cases ks with
 | inr ks =>
  obtain ⟨z,hs,xs,pk,dd⟩:=jy I hp k hk
  obtain ⟨b,rfl,rfl,hk⟩:=key_is I di ri
  have hxl:xs.length <= sizeLine:=by rw [← Paired.length pk];exact z
  have he:(kvs.any fun p=>decide (p.1=.inr ks))=(atKey xs ks).isSome:=by
   rcases QX ks pk t with ⟨_,e2,e3⟩ | ⟨_,_,_,_,_,e2,_,_,e3⟩
   ·rw [e2,e3];rfl
   ·rw [e2,e3];rfl
  refine wpAny_setItem_heap (knd:=yh X.prog X.w) (hsz:=hxl) (Wq hu) hk dd fun h' dd' hs'=>?_
  obtain ⟨o,es,ep',g1,g2,g3,g4,_,g5⟩:=dd'
  have dct:qU p (putV kvs (.inr ks) b v) ep' h':=⟨by have:=jl kvs (.inr ks) b v;omega,hs,.inl ⟨_,qbw pk rv he,o,es,g1,g2,g3,g4,g5⟩⟩
  exact ⟨_,I.write (x:=p) (e:=p) (by rw [hp];exact True.intro) (.inl rfl) (fun c o' hc e=>(hs'.2 c hc).trans e) ⟨o,g1⟩ dct.ok,q b ep' rfl⟩
 | inl i =>
  obtain ⟨z,hs,vs,pk,dd⟩:=jx I hp hk
  obtain ⟨rfl,t',rfl⟩:=ZL di ri
  have hxl:vs.length <= sizeLine:=by rw [← Paired.length pk];exact z
  refine wpAny_setItem_pairs (hsz:=hxl) (intKind_is _ _ i t') dd fun h' dd' hs'=>?_
  obtain ⟨o,es,ep',g1,g2,g3,g4,g4',g5⟩:=dd'
  have dct:qU p (putV kvs (.inl i) 0 v) ep' h':=⟨by have:=jl kvs (.inl i) 0 v;omega,hs,.inr ⟨_,qbv pk rv,o,es,g1,g2,g3,jW g4' fun e he=>g4 e (Array.mem_toList_iff.mp he),g5⟩⟩
  exact ⟨_,I.write (x:=p) (e:=p) (by rw [hp];exact True.intro) (.inl rfl) (fun c o' hc e=>(hs'.2 c hc).trans e) ⟨o,g1⟩ dct.ok,q 0 ep' rfl⟩
end
section
variable {prog:Program} {w:World} {A:Around} {E:Value->Shared->Prop} {s:Shared}
theorem qhr {d:Addr} {od:Obj} {es:Array DictEntry} {ep:Nat} {Q:Value->Shared->Prop} (hd:(d == sysModules)=false) (ho:s.heap.get? d=some od) (hx:od.ExactDict) (hdat:od.data=.dict es ep)
  (hQ:Q (.ref s.heap.objs.size) { s with heap:=s.heap.push { cls:=.type "dict_keyiterator", data:=.fields #[.ref d,.int 0 0,.int es.size 0,.int ep 0] } }):wpAny (model prog w) A (pyIter (.ref d)) Q E s:=by
 have hT:s.TypeIs (.ref d) "dict" := ⟨od,ho,hx.1⟩
 refine wpAny_pyIter_slot hT F.slot_dict_iter (wpAny_call_entry F.slot_dict_iter hT F.entry_dict_iter (id ?_) (F.args_dict_iter_1 _))
 unfold Builtin.«dict.__iter__»
 refine wpAny_bind (id ?_)
 unfold Builtin.Dict.dictSlotNone
 refine wpAny_bind (wpAny_notOrdered_dict hT (id ?_:wpAny _ _ (pure (Value.ref d)) _ _ s))
 refine wpAny_pure (id ?_:wpAny _ _ (Builtin.Dict.showsAll d >>= _) _ _ s)
 unfold Builtin.Dict.showsAll
 rw [if_neg (fun z=>by rw [hd] at z;cases z)]
 refine wpAny_bind (wpAny_pure (wpAny_bind (wpAny_dictEntries ho hdat (wpAny_bind (wpAny_dictEpoch ho hdat ?_)))))
 refine wpAny_bind (wpAny_newObj_type (wpAny_pure ⟨_,rfl, "dict_keyiterator", _,⟨_,Heap.get?_push_size _ rfl,rfl⟩,F.slot_dict_keyiterator_next.lookup,by simpa [rawInt] using hQ⟩))
theorem qah {it d:Addr} {od:Obj} {es:Array DictEntry} {i ep:Nat} {e:DictEntry} {Q:Option Value->Shared->Prop} (hit:s.heap.IsKeyIter it d i es.size ep) (hod:s.heap.get? d=some od) (hdd:od.data=.dict es ep) (hx:es[i]?=some e)
  (hQ:∀ h',h'.IsKeyIter it d (i + 1) es.size ep->Heap.SameBut it s.heap h'->Q (some e.key) { s with heap:=h' }):wpAny (model prog w) A (pyNext (.ref it)) Q E s:=by
 obtain ⟨o,ho,hc,hd⟩:=id hit
 unfold pyNext
 refine wpAny_bind (wpAny_attempt (wpAny_callSpecial?_slot (name:=Str.ofString "__next__") hit.typeIs F.slot_dict_keyiterator_next (wpAny_call_entry F.slot_dict_keyiterator_next hit.typeIs F.entry_dict_keyiterator_next (wpAny_bind (wpAny_pure (wpAny_bind (wpAny_bind ?_)))) (F.args_dict_keyiterator_next_1 _))))
 first | refine wpAny_bind (wpAny_typeNameOfWhole_keyiter hit.typeIs (wpAny_pure (wpAny_bind (wpAny_fieldsOf ho hd ?_)))) | refine wpAny_bind (wpAny_typeNameOf_keyiter hit.typeIs (wpAny_pure (wpAny_bind (wpAny_fieldsOf ho hd ?_))))
 have hown:Builtin.Dict_items.ownsTuple "dict_keyiterator" = false:=rfl
 simp only [Bool.false_eq_true,hown,if_false]
 refine (id ?_:wpAny _ _ (if (Value.ref d == Value.none)=true then _ else _) _ _ s)
 rw [if_neg (fun z=>Bool.false_ne_true z:¬ ((Value.ref d == Value.none)=true))]
 refine wpAny_bind (wpAny_pure (wpAny_bind (wpAny_dictEntries hod hdd ?_)))
 rw [if_neg (by simp)]
 refine wpAny_bind (wpAny_pure (wpAny_bind (wpAny_dictEpoch hod hdd ?_)))
 rw [if_neg (by simp)]
 refine wpAny_pure (id ?_)
 have hlt:i < es.size:=(Array.getElem?_eq_some_iff.mp hx).1
 have hee:es[i]=e:=(Array.getElem?_eq_some_iff.mp hx).2
 simp only [show ¬ ((i:Int) < 0) from by omega,Int.toNat_natCast,if_false,Array.getElem?_eq_getElem hlt,hee]
 refine wpAny_bind (id ?_)
 first | refine wpAny_bind (wpAny_typeNameOfWhole_keyiter hit.typeIs (wpAny_pure (wpAny_bind (wpAny_isOneOf_keyiter hit.typeIs ?_)))) | refine wpAny_bind (wpAny_typeNameOf_keyiter hit.typeIs (wpAny_pure (wpAny_bind (wpAny_isOneOf_keyiter hit.typeIs ?_))))
 refine (wpAny_bind (wpAny_setField ho hd (by simp) ?_):wpAny _ _ (setField (.ref it) 1 (rawInt ((i:Int) + 1)) >>= _) _ _ s)
 have hit':(s.heap.update it (Obj.mapFields (·.setIfInBounds 1 (rawInt ((i:Int) + 1))))).IsKeyIter it d (i + 1) es.size ep:=⟨_,Heap.get?_update_self _ ho (Obj.isFreed_of_fields (Obj.data_mapFields hd _)),(Obj.cls_mapFields ..).trans hc,by rw [Obj.data_mapFields hd];simp [rawInt]⟩
 refine wpAny_bind (wpAny_holding (wpAny_bind (wpAny_isOneOf_keyiter (s:={ s with heap:=s.heap.update it (Obj.mapFields (·.setIfInBounds 1 (rawInt ((i:Int) + 1)))) }) hit'.typeIs (id ?_:wpAny _ _ (pure e.key) _ _ _))))
 exact wpAny_pure (wpAny_pure ⟨_,rfl,wpAny_pure (hQ _ hit' (Heap.SameBut.update ..))⟩)
theorem qbe {it d:Addr} {od:Obj} {es:Array DictEntry} {i ep:Nat} {Q:Option Value->Shared->Prop} (hh:A.handled=none) (hit:s.heap.IsKeyIter it d i es.size ep) (hod:s.heap.get? d=some od) (hdd:od.data=.dict es ep) (hge:es.size <= i)
  (hQ:∀ h',Heap.ExtBut it s.heap h'->Q none { s with heap:=h' }):wpAny (model prog w) A (pyNext (.ref it)) Q E s:=by
 obtain ⟨o,ho,hc,hd⟩:=id hit
 unfold pyNext
 refine wpAny_bind (wpAny_attempt (wpAny_callSpecial?_slot (name:=Str.ofString "__next__") hit.typeIs F.slot_dict_keyiterator_next (wpAny_call_entry F.slot_dict_keyiterator_next hit.typeIs F.entry_dict_keyiterator_next (wpAny_bind (wpAny_pure (wpAny_bind (wpAny_bind ?_)))) (F.args_dict_keyiterator_next_1 _))))
 first | refine wpAny_bind (wpAny_typeNameOfWhole_keyiter hit.typeIs (wpAny_pure (wpAny_bind (wpAny_fieldsOf ho hd ?_)))) | refine wpAny_bind (wpAny_typeNameOf_keyiter hit.typeIs (wpAny_pure (wpAny_bind (wpAny_fieldsOf ho hd ?_))))
 have hown:Builtin.Dict_items.ownsTuple "dict_keyiterator" = false:=rfl
 simp only [Bool.false_eq_true,hown,if_false]
 refine (id ?_:wpAny _ _ (if (Value.ref d == Value.none)=true then _ else _) _ _ s)
 rw [if_neg (fun z=>Bool.false_ne_true z:¬ ((Value.ref d == Value.none)=true))]
 refine wpAny_bind (wpAny_pure (wpAny_bind (wpAny_dictEntries hod hdd ?_)))
 rw [if_neg (by simp)]
 refine wpAny_bind (wpAny_pure (wpAny_bind (wpAny_dictEpoch hod hdd ?_)))
 rw [if_neg (by simp)]
 refine wpAny_pure (id ?_)
 simp only [show ¬ ((i:Int) < 0) from by omega,Int.toNat_natCast,if_false,Array.getElem?_eq_none hge]
 refine wpAny_bind (id ?_)
 first | refine wpAny_bind (wpAny_typeNameOfWhole_keyiter hit.typeIs (wpAny_pure (id ?_))) | refine wpAny_bind (wpAny_typeNameOf_keyiter hit.typeIs (wpAny_pure (id ?_)))
 refine (wpAny_bind (wpAny_setField ho hd (by simp) ?_):wpAny _ _ (setField (.ref it) 0 .none >>= _) _ _ s)
 refine (wpAny_bind ?_:wpAny _ _ (newExc (.type "StopIteration") [] >>= _) _ _ _)
 simp only [newExc,newTuple]
 refine wpAny_bind (wpAny_newObj_type (wpAny_bind (m:=firstArgMember _ _) (wpAny_of_eq (a:=Value.none) (by first | rfl | (simp only [firstArgMember];rfl)) (wpAny_newObj_type ?_ (by size_fits)))) (by size_fits))
 simp only [raiseNew]
 refine wpAny_bind (wpAny_handled (id ?_))
 rw [show A.in1.handled=none from hh]
 refine wpAny_bind (wpAny_pure (wpAny_throw (id ?_)))
 exact wpAny_bind (wpAny_isInstance (T := "StopIteration") (b:=true) ⟨_,Heap.get?_push_size _ rfl,rfl⟩ isSubtype_stop (wpAny_pure (hQ _ (((Heap.SameBut.update ..).extBut.push _).push _))))
end
noncomputable def Itd (a:Addr) (kvs:List (KX×Addr×V)) (ep:Nat):It :=
 ⟨fun i H=>H a=some (DctO a kvs ep)/\i < kvs.length,fun i H x H'=>H'=H/\∃ p,kvs[i]?=some p/\x=kxV p.1 p.2.1,fun i H=>H a=some (DctO a kvs ep)/\kvs.length <= i⟩
theorem Qi {h:Heap} {a:Addr} {kvs:List (KX×Addr×V)} {ep:Nat} (d:qU a kvs ep h):∃ o es,h.get? a=some o/\o.ExactDict/\o.data=.dict es ep/\es.size=kvs.length/\∀ (i:Nat) p,kvs[i]?=some p->∃ e,es[i]?=some e/\RelV (kxV p.1 p.2.1) e.key/\RelV p.2.2 e.val:=by
 obtain ⟨o,es,h1,h2,h3,vk,vv⟩:=d.vals
 have hsz:es.size=kvs.length:=by
  have:=vk.length
  rw [List.length_map,List.length_map,Array.length_toList] at this
  exact this.symm
 refine ⟨o,es,h1,h2,h3,hsz,fun i p hp=>?_⟩
 have hi:i < es.size:=by rw [hsz];exact (List.getElem?_eq_some_iff.mp hp).1
 refine ⟨es[i],Array.getElem?_eq_getElem hi,?_,?_⟩
 ·obtain ⟨u,hu,ru⟩:=vk.get (i:=i) (x:=kxV p.1 p.2.1) (by rw [List.getElem?_map,hp];rfl)
  rw [List.getElem?_map,Array.getElem?_toList,Array.getElem?_eq_getElem hi] at hu
  cases hu
  exact ru
 ·obtain ⟨u,hu,ru⟩:=vv.get (i:=i) (x:=p.2.2) (by rw [List.getElem?_map,hp];rfl)
  rw [List.getElem?_map,Array.getElem?_toList,Array.getElem?_eq_getElem hi] at hu
  cases hu
  exact ru
theorem qeo {P:Program} {w:World} {K:PySem.W.Frag} {tg:Expr} (a it:Addr) (kvs:List (KX×Addr×V)) (ep:Nat):Turn P w K tg (Itd a kvs ep) [it] it (fun i h=>h.IsKeyIter it a i kvs.length ep) where
 mem:=by simp
 obj:=fun i h st b hb=>by
  have e:b=it:=by simpa using hb
  subst e
  obtain ⟨o,e,c,d⟩:=st
  exact ⟨o,e,fun v z=>by rw [d] at z;cases z⟩
 keep:=fun i h h' st k=>st.at fun o e=>k it (by simp) o e
 item:=by
  intro X hP hw hK hc i pins s σ H E I hf st hg
  subst hP hw hK
  obtain ⟨hq,hlt⟩:=hg
  obtain ⟨o,es,h1,h2,h3,hsz,hkey⟩:=Qi (qU.of (I.hok a _ hq))
  obtain ⟨e,he,hk,_⟩:=hkey i kvs[i] (List.getElem?_eq_getElem hlt)
  obtain ⟨f0,f1,f2,f3,f4,f5⟩:=hf it (by simp)
  have st':s.heap.IsKeyIter it a i es.size ep:=by rw [hsz];exact st
  refine qah st' h1 h3 he fun h' st2 sb=>?_
  have I1:Inv X pins σ H { s with heap:=h' }:=I.turned (t':=s.toks) (fun b o hb e=>(sb.2 b hb).trans e) f0 f1 f3 f4 f5
  obtain ⟨o2,e2,c2,d2⟩:=id st2
  refine ⟨e.key,rfl,qaX (s:={ s with heap:=h' }) e2 c2 d2 (by decide) ⟨kxV kvs[i].1 kvs[i].2.1,H,I1,hk,⟨rfl,_,List.getElem?_eq_getElem hlt,rfl⟩,by rw [hsz] at st2;exact st2,fun b hb=>(hf b hb).1⟩⟩
 done:=by
  intro X hP hw hK hc i pins s σ H E I hf st hg
  subst hP hw hK
  obtain ⟨hq,hge⟩:=hg
  obtain ⟨o,es,h1,h2,h3,hsz,hkey⟩:=Qi (qU.of (I.hok a _ hq))
  obtain ⟨f0,f1,f2,f3,f4,f5⟩:=hf it (by simp)
  have st':s.heap.IsKeyIter it a i es.size ep:=by rw [hsz];exact st
  exact qbe (I.ok.hd hc) st' h1 h3 (by omega) fun h' eb=>⟨rfl,I.turned (t':=s.toks) (fun b o hb e=>eb b o hb e) f0 f1 f3 f4 f5⟩
 self:=fun _ _ _ _ _ st h=>wpAny_pyIter_keyiter st h
noncomputable def iDct (tl:TE):TI:=fun σ H R=>tl σ H fun x H1=>∃ a kvs ep,x=.ref a/\H1 a=some (DctO a kvs ep)/\R (Itd a kvs ep) H1
section
variable {X:Cx} {M:List Nat} {a:Expr} {f:Rho->Option PyData}
theorem qhZ {tg l:Expr} {tl:TE} (hl:PE X l tl):PI X tg l (iDct tl):=by
 intro pins s σ H R I h
 refine thn (hl pins s σ H _ I h) fun v s1 ⟨x,H1,I1,r1,p,kvs,ep,ex,hq,q⟩=>?_
 subst ex
 cases r1
 have d:=qU.of (I1.hok p _ hq)
 obtain ⟨o,es,h1,h2,h3,hsz,_⟩:=Qi d
 refine qhr d.2.1 h1 h2 h3 ?_
 rw [hsz]
 refine ⟨s1.heap.objs.size,[s1.heap.objs.size],_,_,H1,rfl,I1.kept (t':=s1.toks) fun b o e=>Heap.get?_push_of_some _ e,qeo p _ kvs ep,⟨_,Heap.get?_push_size _ rfl,rfl,rfl⟩,fun b hb=>?_,q⟩
 have e:b=s1.heap.objs.size:=by simpa using hb
 subst e
 exact I1.fpOk (Nat.le_refl _) (I1.hok.fresh (Nat.le_refl _))
theorem IsIt.dct {K:PySem.W.Frag} {H:Hp} {S:Av} {l:Addr} {kvs:List (KX×Addr×V)} {ep:Nat} (h:H l=some (DctO l kvs ep)) (k:DenL K H S (kvs.map fun p=>kxV p.1 p.2.1) (kvs.map fun p=>kxD p.1)):IsIt K S (Itd l kvs ep) H (kvs.map fun p=>kxD p.1) where
 go:=fun i H' e hi=>⟨e _ _ h,by rwa [List.length_map] at hi⟩
 yld:=fun i H' x H2 e ⟨e2,p,hp,ex⟩=>⟨by rw [e2];exact Same.refl _,fun d hd S' w=>by
  obtain ⟨v,h1,h2⟩:=k.get hd
  rw [List.getElem?_map,hp] at h1
  cases h1
  rw [ex]
  exact w _ _ h2⟩
 stop:=fun H' e=>⟨e _ _ h,by rw [List.length_map];exact Nat.le_refl _⟩
noncomputable def Js:PyData->Option (List PyData)
 | .dict kvs=>some (kvs.map (·.1))
 | _=>none
theorem Jw {tg:Expr} (h:PD X M a f):PDI X M tg a (evI f Js) :=
 (qhZ h).weak fun σ H R ⟨S,ρ,ds,hs,e,w⟩=>by
  obtain ⟨x,e1,e⟩:=qi e
  refine ⟨S,ρ,x,hs,e1,fun v H1 g1 d1=>?_⟩
  cases d1 with
  | @dict p kvs ep ds' h k t =>
   have hl:kvs.length=ds'.length:=by
    have:=t.length
    rwa [List.length_map] at this
   have e:some ((dkv kvs ds').map (·.1))=some ds:=e
   rw [Yn hl] at e
   cases e
   exact ⟨p,kvs,ep,rfl,h.1,w _ _ g1 fun H2 o=>IsIt.dct (o _ _ h.2 h.1) (k.off (hs.1.same g1) o)⟩
  | _=>cases e
end
noncomputable def qiZ (K:PySem.W.Frag):R2:=fun x y H Q=>∃ S a kvs ep ks ds d,x=.ref a/\H a=some (DctO a kvs ep)/\DenL K H S (kvs.map fun p=>kxV p.1 p.2.1) (kvs.map fun p=>kxD p.1)/\DenL K H S (kvs.map (·.2.2)) ds/\(∀ p∈kvs,kxI p.1=kxI ks)/\Den K H S y (kxD ks)/\qP (dkv kvs ds) ks=some d/\∀ v,Den K H S v d->Q v H
section
variable {X:Cx} {G:Gm} {M M' Mb L:List Nat} {fr:Fr} {a b c:Expr} {es:List Expr} {f fk fx g fa fb:Rho->Option PyData} {pos:Pos} {u:Rho->Option Out}
theorem qhs (hu:X.A.units + 64 < cLine):IxR X (qiZ X.K):=by
 intro value slice pins s σ H x y v u Q I rx ry h hs
 obtain ⟨S,p,kvs,ep,ks,ds,d,rfl,hp,k,t,hk,dy,e,q⟩:=h
 cases rx
 exact tail_any (Ji I hp).1 PySem.F.slot_dict_getitem.lookup (qhc hu I hp k t hk dy ry e fun v' w' s' I' r' d'=>⟨v',H,I',r',q v' d'⟩) hs
theorem YF {k:Nat} (hr:Room k X.A) (ha:PD X M a fa) (hb:PD X M b fb) (hs:yw b:=by intro _ _;rfl):PD X M (.Subscript a b pos) (ev2 fa fb ix2D) :=
 (qge (r:=fun x y H Q=>(rIxL X.K x y H Q\/rIxT X.K x y H Q)\/qiZ X.K x y H Q) ((qc6.or qfG).or (qhs hr.units)) ha hb hs).weak fun σ H Q ⟨S,ρ,d,hs,e,q⟩=>by
  obtain ⟨x,e1,e⟩:=qi e
  obtain ⟨y,e2,e⟩:=qi e
  refine ⟨S,ρ,x,hs,e1,fun v H1 g1 d1=>⟨S,ρ,y,hs.same g1,e2,fun w H2 g2 d2=>?_⟩⟩
  have d1':=d1.same g2
  cases d1' with
  | list h t =>
   cases d2 with
   | int i =>
    obtain ⟨z,h1,h2⟩:=t.atI e
    exact .inl (.inl ⟨_,_,i,z,rfl,rfl,h.sq,h1,q z H2 (g1.trans g2) h2⟩)
   | _=>cases e
  | tuple h t =>
   cases d2 with
   | int i =>
    obtain ⟨z,h1,h2⟩:=t.atI e
    exact .inl (.inr ⟨_,_,i,z,rfl,rfl,h,h1,q z H2 (g1.trans g2) h2⟩)
   | _=>cases e
  | @dict p kvs ep ds h k t =>
   have e:ob (kxOf y) (fun ks=>if kOk (dkv kvs ds) ks=true then qP (dkv kvs ds) ks else none)=some d:=e
   obtain ⟨ks,e3,e⟩:=qi e
   have hl:kvs.length=ds.length:=by
    have:=t.length
    rwa [List.length_map] at this
   split at e
   case isFalse=>cases e
   rename_i hok
   rw [Qm e3] at d2
   exact .inr ⟨S,p,kvs,ep,ks,ds,d,rfl,h.1,k,t,ZK hl hok,d2,e,fun v' d'=>q v' H2 (g1.trans g2) d'⟩
  | _=>cases e
theorem d_in2 {k:Nat} (hr:Room k X.A):OpD X (compareOp .In) in2D:=by
 intro pins s σ H x y v u Q I rx ry h
 obtain ⟨S,dx,dy,d,m,h1,h2,e,q⟩:=h
 cases h2 with
 | @dict p kvs ep ds hp kk t =>
  have e:ob (kxOf dx) (fun ks=>if kOk (dkv kvs ds) ks=true then some (PyData.bool (qP (dkv kvs ds) ks).isSome) else none)=some d:=e
  obtain ⟨ks,e3,e⟩:=qi e
  have hl:kvs.length=ds.length:=by
   have:=t.length
   rwa [List.length_map] at this
  split at e
  case isFalse=>cases e
  rename_i hok
  cases e
  rw [Qm e3] at h1
  cases (show u=Value.ref p from ry)
  exact dg_in hr.units I hp.1 kk t (ZK hl hok) h1 rx fun s' I'=>⟨.bl _,H,I',rfl,q _ H (Same.refl H) (.bool _)⟩
 | list a b=>exact d_in hr pins s σ H x _ v u Q I rx ry ⟨S,dx,_,d,m,h1,.list a b,e,q⟩
 | tuple a b=>exact d_in hr pins s σ H x _ v u Q I rx ry ⟨S,dx,_,d,m,h1,.tuple a b,e,q⟩
 | _=>cases e
theorem qfk {k:Nat} (hr:Room k X.A):OpD X (compareOp .NotIn) We:=by
 intro pins s σ H x y v u Q I rx ry h
 obtain ⟨S,dx,dy,d,m,h1,h2,e,q⟩:=h
 cases h2 with
 | @dict p kvs ep ds hp kk t =>
  have e:ob (kxOf dx) (fun ks=>if kOk (dkv kvs ds) ks=true then some (PyData.bool (!(qP (dkv kvs ds) ks).isSome)) else none)=some d:=e
  obtain ⟨ks,e3,e⟩:=qi e
  have hl:kvs.length=ds.length:=by
   have:=t.length
   rwa [List.length_map] at this
  split at e
  case isFalse=>cases e
  rename_i hok
  cases e
  rw [Qm e3] at h1
  cases (show u=Value.ref p from ry)
  exact qfm hr.units I hp.1 kk t (ZK hl hok) h1 rx fun s' I'=>⟨.bl _,H,I',rfl,q _ H (Same.refl H) (.bool _)⟩
 | list a b=>exact yF hr pins s σ H x _ v u Q I rx ry ⟨S,dx,_,d,m,h1,.list a b,e,q⟩
 | tuple a b=>exact yF hr pins s σ H x _ v u Q I rx ry ⟨S,dx,_,d,m,h1,.tuple a b,e,q⟩
 | _=>cases e
theorem YL:PF X M (.Dict [] [] pos) (kd (.dict [])):=fun pins s σ H Q I ⟨S,ρ,d,hs,e,q⟩=>by
 cases e
 have hb:sysModules < s.heap.objs.size:=Nat.lt_trans (by decide) (show mainGlobals < s.heap.objs.size from (I.mod.glob.keeps I.bk).lt)
 have hn:=I.hok.fresh (Nat.le_refl s.heap.objs.size)
 have dct:qU s.heap.objs.size [] 0 (s.heap.push { cls:=.type "dict", data:=.dict #[] }):=⟨Nat.zero_le _,beq_eq_false_iff_ne.mpr (Ne.symm (Nat.ne_of_lt hb)),.inl ⟨[],.nil,_,#[],Heap.get?_push_size _ rfl,⟨rfl,rfl,rfl⟩,rfl,rfl,List.nodup_nil⟩⟩
 exact wpAny_Dict_empty ⟨.ref s.heap.objs.size,_,I.laid (a:=s.heap.objs.size) (o:=DctO s.heap.objs.size [] 0) (t':=s.toks) (fun _ _ q=>Heap.get?_push_of_some _ q) (Nat.le_refl _) dct.ok,rfl,q _ _ (Same.lay hn) hn (.dct (kvs:=[]) (ds:=[]) qK .nil .nil)⟩
noncomputable def ev3 (f g h:Rho->Option PyData) (r:PyData->PyData->PyData->Option PyData):Rho->Option PyData:=fun ρ=>ob (f ρ) fun x=>ob (g ρ) fun y=>ob (h ρ) fun z=>r x y z
theorem qdg {k:Nat} {o:Expr} {apos cpos:Pos} (hr:Room k X.A) (ho:PD X M o f) (he:PD X M a fk) (hx:PD X M b fx)
  (hbase:attributeBase o "get" X.env (eval o X.env)=eval o X.env:=by rfl)
  (hfew:((backTo cpos (starEach [a,b] X.env)).all (fun x=>!x.1) && (backToKw cpos (keywordEach [] X.env)).all (fun x=>x.1.isSome)
   && decide ([a,b].length + ([]:List Keyword).length + (if ([]:List Keyword).isEmpty then 0 else 1) < 30))=true:=by rfl)
  (hline:(apos.endLine == cpos.line)=true:=by rfl) (htr:backTo cpos (starEach [a,b] X.env)=[(false,eval a X.env),(false,eval b X.env)]:=by rfl) :
  PD X M (.Call (.Attribute o "get" apos) [a,b] [] cpos) (ev3 f fk fx ji):=by
 intro pins s σ H Q I ⟨S,ρ,d,hs,e,q⟩
 obtain ⟨x,e1,e⟩:=qi e
 obtain ⟨y,e2,e⟩:=qi e
 obtain ⟨z,e3,e⟩:=qi e
 refine wpAny_Call_method hbase hfew hline PySem.F.plainAttrs_dict PySem.F.slot_dict_get PySem.F.type_dict_get (thn (ho pins s σ H (fun v H1=>Same H H1/\Den X.K H1 S v x) I ⟨S,ρ,x,hs,e1,fun v H1 g1 d1=>⟨g1,d1⟩⟩) fun v s1 ⟨xv,H1,I1,rx,g1,d1⟩=>?_)
 cases d1 with
 | @dict p kvs ep ds h kk t =>
  have e:ob (kxOf y) (fun ks=>if kOk (dkv kvs ds) ks=true then some ((qP (dkv kvs ds) ks).getD z) else none)=some d:=e
  obtain ⟨ks,e4,e⟩:=qi e
  have hl:kvs.length=ds.length:=by
   have:=t.length
   rwa [List.length_map] at this
  split at e
  case isFalse=>cases e
  rename_i hok
  cases e
  obtain rfl:v=Value.ref p:=rx
  refine ⟨(Ji I1 h.1).1,fun a' q'=>?_,?_⟩
  ·cases q'
   exact (Ji I1 h.1).2
  rw [htr]
  refine Calls.callWith_builtin rfl (Calls.evalArgs_plain (Calls.spliced_cons (thn (he pins s1 σ H1 (fun v H2=>Same H1 H2/\Den X.K H2 S v y) I1 ⟨S,ρ,y,hs.same g1,e2,fun v H2 g2 d2=>⟨g2,d2⟩⟩) fun kv s2 ⟨yv,H2,I2,ry,g2,d2⟩ =>
   Calls.spliced_cons (thn (hx pins s2 σ H2 (fun v H3=>Same H2 H3/\Den X.K H3 S v z) I2 ⟨S,ρ,z,hs.same (g1.trans g2),e3,fun v H3 g3 d3=>⟨g3,d3⟩⟩) fun zv s3 ⟨zz,H3,I3,rz,g3,d3⟩=>Calls.spliced_nil ?_))))
  have g23:=g2.trans g3
  rw [Qm e4] at d2
  exact qhb hr.units I3 (g23 _ _ h.1) (kk.same g23) (t.same g23) (ZK hl hok) (d2.same g3) ry d3 rz fun v' w' s' I' r' dv=>⟨v',H3,I',r',q v' H3 (g1.trans g23) dv⟩
 | _=>cases e
noncomputable def JC (i:Nat) (fk f:Rho->Option PyData):Rho->Option Out:=fun ρ=>ob (f ρ) fun d=>ob (vr i ρ) fun l=>ob (fk ρ) fun k=>ob (Yo l k d) fun l'=>some (.nx (ρ.set i (some l')))
theorem qhn (js:List Int):Jo (js.map .int)=true:=by
 induction js with
 | nil=>rfl
 | cons j js ih=>exact ih
theorem WY:∀ ks:K2,Jo (ks.map k2D)=true
 | []=>rfl
 | .inl _ :: ks=>WY ks
 | .inr js :: ks=>by
  show (Jo (js.map .int) && Jo (ks.map k2D))=true
  rw [qhn,WY];rfl
theorem qfu (k:KX):flat (kxD k)=true:=by
 cases k with
 | inl i=>rfl
 | inr ks=>exact WY ks
theorem qb2 {l k d l':PyData} (e:Yo l k d=some l'):∃ kvs ks,l=.dict kvs/\k=kxD ks/\kOk kvs ks=true/\kvs.length < 1000/\l'=.dict (putD kvs ks d):=by
 unfold Yo at e
 split at e
 ·obtain ⟨ks,e1,e⟩:=qi e
  split at e
  ·rename_i hc;cases e;exact ⟨_,ks,rfl,Qm e1,hc.1,hc.2,rfl⟩
  ·cases e
 ·cases e
theorem qf3 {kvs:List (KX×Addr×V)} {ep:Nat} {ds:List PyData} {S:Av} {σ:St} {ρ:Rho} {H:Hp} {i:Nat} {pp b:Addr} {ks:KX} {v:V} {d:PyData} {ep':Nat} (os:OwnS X.K G M L H S σ ρ) (hM:Flt M i) (hL:i∉L) (e0:ρ[i]?=some (some (.dict (dkv kvs ds)))) (a1:σ[i]?=some (some (.ref pp))) (c1:S pp) (h:H pp=some (DctO pp kvs ep)) (k:DenL X.K H S (kvs.map fun p=>kxV p.1 p.2.1) (kvs.map fun p=>kxD p.1)) (t:DenL X.K H S (kvs.map (·.2.2)) ds) (dk:Den X.K H S (kxV ks b) (kxD ks)) (dv:Den X.K H S v d)
  (he:(kvs.any fun p=>decide (p.1=ks))=(qP (dkv kvs ds) ks).isSome):OwnS X.K G M L (upd H pp (DctO pp (putV kvs ks b v) ep')) S σ (ρ.set i (some (.dict (putD (dkv kvs ds) ks d)))):=by
 obtain ⟨ds',t',ed⟩:=qbx (b:=b) t dv he
 refine os.write hM hL e0 a1 rfl ?_
 rw [← ed]
 exact .dct qK ((qbu k dk).off os.ds.1 (Off.upd c1)) (t'.off os.ds.1 (Off.upd c1))
theorem Jd {K:PySem.W.Frag} {H:Hp} {S:Av} (ks:KX):∀ {kvs:List (KX×Addr×V)} {ds:List PyData},DenL K H S (kvs.map (·.2.2)) ds->(kvs.any fun p=>decide (p.1=ks))=(qP (dkv kvs ds) ks).isSome
 | [],_,t=>by cases t;rfl
 | p :: kvs,_,t=>by
  cases t with
  | @cons _ d _ ds dv t' =>
   rw [zR,List.any_cons]
   by_cases e:p.1=ks
   ·rw [jA e,decide_eq_true e];rfl
   ·rw [jz e,decide_eq_false e,Bool.false_or];exact Jd ks t'
theorem WT {kvs:List (KX×Addr×V)} {ds:List PyData} (h:kvs.length=ds.length):(dkv kvs ds).length=kvs.length:=by
 unfold dkv
 rw [List.length_zip,List.length_map,h,Nat.min_self]
theorem Wk {k:Nat} (hr:Room k X.A) (i:Nat) {x:Str} {px sp:Pos} (hv:Vis X.env.scope x) (hM:Flt M i) (hL:i∉L) (hk:PD X [] b fk) (he:PD X [] a f) (hN:X.N[i]?=some x:=by rfl) (hd:(x == ("__debug__" : Str))=false:=by decide +kernel) (hcd:(x == ("__classdict__" : Str))=false:=by decide +kernel)
  (ha:∀ v,assign (.Subscript (.Name x px) b sp) X.env v=(do
   let ov ← holding [v] (eval (.Name x px) X.env)
   let iv ← holding [v,ov] (eval b X.env)
   standAt sp
   holding [v,ov,iv] (setItem ov iv v)
   release [v,ov,iv] []):=by intro _;rfl)
  (hs:swapsWithSole [.Subscript (.Name x px) b sp] a pos.line X.env=pure false:=by rfl) (hw:swappedStores [.Subscript (.Name x px) b sp] a X.env=pure none:=by rfl)
  (h1:(assignEach [.Subscript (.Name x px) b sp] X.env).map (·.2)=[assign (.Subscript (.Name x px) b sp) X.env]:=by rfl) :
  PDS X G M L M Mb fr (.Assign [.Subscript (.Name x px) b sp] a pos) (JC i fk (qF f)) :=
 (qcl he (qcj (jY i hv hN hd hcd) hk (set_dict hr.units) ha) hs hw h1).weak fun D σ H ⟨S,ρ,o,os,e,q⟩=>by
  obtain ⟨d,e1,e⟩:=qi e
  obtain ⟨l,e2,e⟩:=qi e
  obtain ⟨kd,e3,e⟩:=qi e
  obtain ⟨l',e4,e⟩:=qi e
  cases e
  obtain ⟨kvs0,ks,rfl,rfl,hok,hz,rfl⟩:=qb2 e4
  obtain ⟨d',e5,e6⟩:=qi e1
  have hf:flat d'=true/\d'=d:=by
   split at e6
   ·rename_i hf;cases e6;exact ⟨hf,rfl⟩
   ·cases e6
  obtain ⟨hf,rfl⟩:=hf
  refine ⟨G.S0,ρ,d',os.den,e5,fun v H1 g1 d1'=>?_⟩
  have d1:Den X.K H1 S v d':=d1'.flat hf
  have os1:=os.same g1
  obtain ⟨pp,a1,b1,c1,n1,w1,_⟩:=os1.own i hM _ (zQ e2)
  cases b1 with
  | @dct kvs ep ds h kk t =>
   refine ⟨_,a1,G.S0,ρ,_,os1.den,e3,fun kv H2 g2 dk=>?_⟩
   have os2:=os1.same g2
   have dk:Den X.K H2 S kv (kxD ks):=dk.flat (qfu ks)
   have hl:kvs.length=ds.length:=by
    have:=t.length
    rwa [List.length_map] at this
   rw [WT hl] at hz
   refine ⟨S,pp,kvs,ep,ks,ds,d',rfl,g2 _ _ h,kk.same g2,t.same g2,ZK hl hok,dk,d1.same g2,hz,fun b' ep' eb=>?_⟩
   subst eb
   exact q _ _ _ (qf3 os2 hM hL (zQ e2) a1 c1 (g2 _ _ h) (kk.same g2) (t.same g2) dk (d1.same g2) (Jd ks t))
end
section
variable {X:Cx} {G:Gm} {M M' Mb L:List Nat} {fr:Fr} {a b c:Expr} {es:List Expr} {f fk g:Rho->Option PyData} {pos:Pos} {u:Rho->Option Out}
noncomputable def sNo:Rho->Option Out:=fun _=>none
theorem qed {e1 e2:Option Expr}:PDS X G M L M' Mb fr (.Raise e1 e2 pos) sNo:=fun pins s σ H D I ⟨S,ρ,o,os,e,q⟩=>by cases e
end
noncomputable def tVd (K:PySem.W.Frag) (M:List Nat) (f:Rho->Option PyData):TE:=fun σ H Q=>∃ S ρ d,DenS K H S M σ ρ/\f ρ=some d/\∀ p fp H',Same H H'->(∀ q∈fp,H q=none)->DeepO K H' (insL S fp) fp p d->Q (.ref p) H'
noncomputable def PV (X:Cx) (M:List Nat) (e:Expr) (f:Rho->Option PyData):Prop:=PE X e (tVd X.K M f)
theorem Kids.length {K:PySem.W.Frag} {H:Hp} {S:Av}:∀ {qs:List Addr} {ds:List PyData},Kids K H S qs ds->qs.length=ds.length
 | _,_,.nil=>rfl
 | _,_,.cons _ _ _ r=>by rw [List.length_cons,List.length_cons,r.length]
theorem Kids.put {K:PySem.W.Frag} {H:Hp} {S:Av} {q:Addr} {xs:List V} {es:List PyData} (m:Dm S H) (hq:S q) (t:DenL K (L2.upd H q (.lst xs)) S xs es):∀ {qs:List Addr} {ds:List PyData} {i:Nat},Kids K H S qs ds->qs[i]?=some q->Kids K (L2.upd H q (.lst xs)) S qs (ds.set i (.list es))
 | _,_,_,.nil,e=>by simp at e
 | _,_,0,.cons h t' n r,e=>by
  simp at e;subst e
  exact .cons qK t n (r.upd m hq n)
 | _,_,i + 1,.cons h t' n r,e=>by
  have e':=(List.getElem?_cons_succ ..).symm.trans e
  have hm:q∈_:=List.mem_of_getElem? e'
  refine .cons ?_ (t'.off m fun b u z e=>by rw [qD (fun y=>z (by rw [y];exact hq))];exact e) n (Kids.put m hq t r e')
  rw [qD (fun z=>n (by rw [z];exact hm))];exact h
section
variable {X:Cx} {G:Gm} {M M' Mb L:List Nat} {fr:Fr} {a b c:Expr} {es:List Expr} {f fk g:Rho->Option PyData} {pos:Pos} {u:Rho->Option Out} {fs:Rho->Option (List PyData)}
noncomputable def YX (i:Nat) (f:Rho->Option PyData):Rho->Option Out:=fun ρ=>if i < ρ.length/\ρ.length <= 1000 then ob (f ρ) fun d=>some (.nx (ρ.set i (some d))) else none
theorem qgb (i:Nat) {x:Str} {p':Pos} (hN:X.N.Nodup) (hx:Loc X.env.scope x) (hi:X.N[i]?=some x) (hs:swapsWith a (some (.Name x p')) pos.line X.env=pure false) (hf:X.fn x=true\/X.env.scope.names.lookup x=some .local) (hM:Out0 M i) (hL:i∉L) (he:PV X M a f) :
  PDS X G M L (i :: (i + 1000) :: M) Mb fr (.Assign [.Name x p'] a pos) (YX i f) :=
 (qam hN hi hx he hs hf).weak fun D σ H ⟨S,ρ,o,hs,e,q⟩=>by
  unfold YX at e
  split at e
  ·rename_i hz
   obtain ⟨d,e1,e⟩:=qi e
   cases e
   exact ⟨S,ρ,d,hs.ds,e1,fun p fp H1 g1 n o=>q _ H1 _ (hs.takeD n g1 o hM hL hz.1 hz.2)⟩
  ·cases e
theorem DeepF.same {K:PySem.W.Frag} {H H':Hp} {S:Av} {σ:St} {ρ:Rho} {F:Nat->List Addr} (e:Same H H') (f:DeepF K G M H S σ ρ F):DeepF K G M H' S σ ρ F :=
 ⟨fun i hi d q=>let ⟨p,a,b,c⟩:=f.own i hi d q;⟨p,a,b.same e,c⟩,f.disj,f.flat⟩
end
section
open PySem.SeqAt
open PySem.AutoSeq1 (wpAny_loadPart')
open PySem.MeetsSeq PySem.MeetsSeq2 PySem.MeetsSeq3
end
noncomputable def bestOf (bt:Nat->Nat->Bool):Nat->Nat
 | 0=>0
 | k + 1=>if bt (k + 1) (bestOf bt k) then k + 1 else bestOf bt k
theorem wJ (bt:Nat->Nat->Bool):∀ k,bestOf bt k <= k
 | 0=>Nat.le_refl _
 | k + 1=>by
  have:=wJ bt k
  rw [bestOf]
  split<;>omega
noncomputable def wB (prog:Program) (w:World) (A:Around) (h0:Heap) (P:Nat->Value->Prop) (bt:Nat->Nat->Bool):Prop :=
 ∀ (i j:Nat) (x y:Value) (s:Shared) (Q E:Value->Shared->Prop),j < i->(∀ b o,h0.get? b=some o->s.heap.get? b=some o)->P i x->P j y->Q (.bool (bt i j)) s->wpAny (model prog w) A (richCompare .Lt x y) Q E s
section
variable {prog:Program} {w:World} {A:Around} {R:Result->Shared->Prop} {it:Addr} {fp wr:List Addr} {n:Nat} {P:Nat->Value->Prop} {St:Nat->Heap->Prop} {h0:Heap}
theorem qfQ (W:Walks prog w A.in1 it fp wr n P St) (bt:Nat->Nat->Bool) (hc:wB prog w A.in1 h0 P bt) (Z:Addr) (hZ:Z∉fp) (hw:∀ b o,h0.get? b=some o->b∉wr/\b≠Z) (kw:List (Str×Value)) :
  ∀ (m j:Nat) (s:Shared) (x:Value) (c:Nat),n - (j + 1)=m->j + 1 <= n->St (j + 1) s.heap->P (bestOf bt j) x->(∀ b o,h0.get? b=some o->s.heap.get? b=some o)->
  s.heap.get? Z=some { cls:=.type "list", dict:=none,data:=.seq #[x,x] c,slots:=#[] }->
  (∀ v g tk,P (bestOf bt (n - 1)) v->(∀ b o,b∉wr->b≠Z->s.heap.get? b=some o->g.get? b=some o)->R (.ok (.ret v)) { s with heap:=g,toks:=tk })->
  codeAny (model prog w) A (.builtin "min.loop" ⟨[.ref it,.none,.ref Z],kw⟩) R s:=by
 have zw:Z∉wr:=fun h=>hZ (W.sub _ h)
 have nm:(toString "min" ++ toString ".loop" : String) = "min.loop" := by decide
 intro m
 induction m with
 | zero =>
  intro j s x c hm hj st hP hb hz hR
  have last:j + 1=n:=by omega
  refine codeAny_builtin F.entry_min_loop ?_;rw [Around.under_plainId F.plain_min_loop _]
  show wpAny _ A.in1 (seqItems? (.ref Z) >>= _) _ _ s
  refine wpAny_bind (wpAny_seqItems hz rfl ?_)
  show wpAny _ A.in1 (tryCatch (pyNext (.ref it)) _ >>= _) _ _ s
  refine wpAny_bind (wpAny_tryCatch (W.done s _ _ (last ▸ st) fun g tk k=>?_))
  have hz':=k Z _ zw hz
  show wpAny _ A.in1 (updateSeq Z (fun _=>#[]) >>= _) _ _ _
  refine wpAny_bind (wpAny_updateSeq hz' rfl (wpAny_bind (wpAny_letGo (wpAny_pure ?_))))
  exact hR x _ tk (by rw [← last];exact hP) fun b o h1 h2 e=>(Heap.get?_update_other _ _ (fun z=>h2 z.symm)).trans (k b o h1 e)
 | succ m ih =>
  intro j s x c hm hj st hP hb hz hR
  have more:j + 1 < n:=by omega
  refine codeAny_builtin F.entry_min_loop ?_;rw [Around.under_plainId F.plain_min_loop _]
  show wpAny _ A.in1 (seqItems? (.ref Z) >>= _) _ _ s
  refine wpAny_bind (wpAny_seqItems hz rfl ?_)
  show wpAny _ A.in1 (tryCatch (pyNext (.ref it)) _ >>= _) _ _ s
  refine wpAny_bind (wpAny_tryCatch (W.item (j + 1) s _ _ more st fun y g tk hy st' k=>?_))
  have hz':=k Z _ zw hz
  have hb':∀ b o,h0.get? b=some o->g.get? b=some o:=fun b o e=>k b o (hw b o e).1 (hb b o e)
  show wpAny _ A.in1 (tryCatch (holding [y,y] (richCompare .Lt y x >>= _)) _ >>= _) _ _ _
  refine wpAny_bind (wpAny_tryCatch (wpAny_holding (wpAny_bind (hc (j + 1) (bestOf bt j) y x _ _ _ (Nat.lt_succ_of_le (wJ bt j)) hb' hy hP ?_))))
  refine wpAny_bind (wpAny_holding (wpAny_truthy_bool (wpAny_bind (wpAny_letGo (wpAny_pure ?_)))))
  cases hh:bt (j + 1) (bestOf bt j) with
  | true =>
   simp only [if_true]
   refine wpAny_bind (wpAny_updateSeq hz' rfl (wpAny_bind (wpAny_letGo ?_)))
   rw [nm]
   refine wpAny_pure ⟨plainId_quiet F.plain_min_loop _,ih (j + 1) _ y _ (by omega) more (W.frame _ _ _ st' fun b h1 o e=>(Heap.get?_update_other _ _ (fun h:Z=b=>hZ (by rw [h];exact h1))).trans e) (by simp only [bestOf,hh,if_true];exact hy)
    (fun b o e=>(Heap.get?_update_other _ _ (fun h:Z=b=>(hw b o e).2 h.symm)).trans (hb' b o e)) (Heap.get?_update_self _ hz' rfl) fun v g2 tk2 h1 h2=>?_⟩
   exact hR v g2 tk2 h1 fun b o n1 n2 e=>h2 b o n1 n2 ((Heap.get?_update_other _ _ (fun z=>n2 z.symm)).trans (k b o n1 e))
  | false =>
   simp only [Bool.false_eq_true,if_false];refine wpAny_bind (wpAny_letGo ?_)
   rw [nm]
   refine wpAny_pure ⟨plainId_quiet F.plain_min_loop _,ih (j + 1) _ x c (by omega) more st' (by simp only [bestOf,hh,Bool.false_eq_true,if_false];exact hP) hb' hz' fun v g2 tk2 h1 h2=>?_⟩
   exact hR v g2 tk2 h1 fun b o n1 n2 e=>h2 b o n1 n2 (k b o n1 e)
theorem qd3 (W:Walks prog w A.in1 it fp wr n P St) (bt:Nat->Nat->Bool) (hc:wB prog w A.in1 h0 P bt) (Z:Addr) (hZ:Z∉fp) (hw:∀ b o,h0.get? b=some o->b∉wr/\b≠Z) (kw:List (Str×Value)) (hn:0 < n) {s:Shared} {c:Nat} (st:St 0 s.heap) (hb:∀ b o,h0.get? b=some o->s.heap.get? b=some o)
  (hz:s.heap.get? Z=some { cls:=.type "list", dict:=none,data:=.seq #[] c,slots:=#[] })
  (hR:∀ v g tk,P (bestOf bt (n - 1)) v->(∀ b o,b∉wr->b≠Z->s.heap.get? b=some o->g.get? b=some o)->R (.ok (.ret v)) { s with heap:=g,toks:=tk }) :
  codeAny (model prog w) A (.builtin "min.loop" ⟨[.ref it,.none,.ref Z],kw⟩) R s:=by
 have zw:Z∉wr:=fun h=>hZ (W.sub _ h)
 have nm:(toString "min" ++ toString ".loop" : String) = "min.loop" := by decide
 refine codeAny_builtin F.entry_min_loop ?_;rw [Around.under_plainId F.plain_min_loop _]
 show wpAny _ A.in1 (seqItems? (.ref Z) >>= _) _ _ s
 refine wpAny_bind (wpAny_seqItems hz rfl ?_)
 show wpAny _ A.in1 (tryCatch (pyNext (.ref it)) _ >>= _) _ _ s
 refine wpAny_bind (wpAny_tryCatch (W.item 0 s _ _ hn st fun y g tk hy st' k=>?_))
 have hz':=k Z _ zw hz
 show wpAny _ A.in1 (updateSeq Z (fun _=>#[y,y]) >>= _) _ _ _
 refine wpAny_bind (wpAny_updateSeq hz' rfl ?_)
 rw [nm]
 refine wpAny_pure ⟨plainId_quiet F.plain_min_loop _,qfQ W bt hc Z hZ hw kw _ 0 _ y _ rfl hn (W.frame _ _ _ st' fun b h1 o e=>(Heap.get?_update_other _ _ (fun h:Z=b=>hZ (by rw [h];exact h1))).trans e) hy
  (fun b o e=>(Heap.get?_update_other _ _ (fun h:Z=b=>(hw b o e).2 h.symm)).trans (k b o (hw b o e).1 (hb b o e))) (Heap.get?_update_self _ hz' rfl) fun v g2 tk2 h1 h2=>?_⟩
 exact hR v g2 tk2 h1 fun b o n1 n2 e=>h2 b o n1 n2 ((Heap.get?_update_other _ _ (fun z=>n2 z.symm)).trans (k b o n1 e))
end
theorem Vals.back:∀ {vs:List V} {us:List Value} {i:Nat} {u:Value},Vals vs us->us[i]?=some u->∃ v,vs[i]?=some v/\RelV v u
 | _,_,_,_,.nil,h=>by simp at h
 | _,_,0,_,.cons r _,h=>by cases h;exact ⟨_,rfl,r⟩
 | _,_,i + 1,_,.cons _ t,h=>by
  obtain ⟨v,hv,r⟩:=Vals.back t (i:=i) (by simpa using h)
  exact ⟨v,by simpa using hv,r⟩
theorem DenL.back {K:PySem.W.Frag} {H:Hp} {S:Av}:∀ {vs:List V} {ds:List PyData} {i:Nat} {v:V},DenL K H S vs ds->vs[i]?=some v->∃ d,ds[i]?=some d/\Den K H S v d
 | _,_,_,_,.nil,h=>by simp at h
 | _,_,0,_,.cons r _,h=>by cases h;exact ⟨_,rfl,r⟩
 | _,_,i + 1,_,.cons _ t,h=>by
  obtain ⟨v,hv,r⟩:=DenL.back t (i:=i) (by simpa using h)
  exact ⟨v,by simpa using hv,r⟩
section
variable {X:Cx}
noncomputable def qdJ (ds:List PyData):Bool:=ds.all fun d=>SeqAt.shaped d && decide (d.depth <= 50) && ds.all fun e=>(ltX d e).isSome
noncomputable def yz (ds:List PyData) (i j:Nat):Bool:=match ds[i]?,ds[j]? with
 | some d,some e=>(ltX d e).getD false
 | _,_=>false
noncomputable def qiV:List PyData->Option PyData
 | [.list ds]=>if qdJ ds=true/\ds.length <= 1000 then ds[bestOf (yz ds) (ds.length - 1)]? else none
 | _=>none
end
noncomputable def Its (lo st:Int) (n:Nat):It:=⟨fun i _=>i < n,fun i H x H'=>H'=H/\x=.int (lo + (i:Nat) * st),fun i _=>n <= i⟩
theorem qbI {P:Program} {w:World} {K:PySem.W.Frag} {tg:Expr} (it:Addr) (lo st:Int) (n:Nat):Turn P w K tg (Its lo st n) [it] it (fun i h=>IsRangeIter h it (lo + (i:Nat) * st) ((n:Int) - (i:Nat)) st) where
 mem:=by simp
 obj:=fun i h st b hb=>by
  have e:b=it:=by simpa using hb
  subst e
  exact ⟨_,st,fun v z=>by
   have z':Data.fields _=Data.cell v:=z
   cases z'⟩
 keep:=fun i h h' st k=>k it (by simp) _ st
 item:=by
  intro X hP hw hK hc i pins s σ H E I hf sti hg
  subst hP hw hK
  obtain ⟨f0,f1,f2,f3,f4,f5⟩:=hf it (by simp)
  have W:=Walks.range (prog:=X.prog) (w:=X.w) (I.ok.hd hc) it lo st n
  refine W.item i s _ _ hg sti fun v h' tk hv st' kk=>?_
  obtain ⟨t,rfl⟩:=hv
  have I1:Inv X pins σ H { s with heap:=h',toks:=tk }:=I.turned (fun b o hb e=>kk b o (by simpa using hb) e) f0 f1 f3 f4 f5
  exact ⟨_,rfl,qaX (s:={ s with heap:=h',toks:=tk }) (n := "range_iterator") st' rfl rfl (by decide) ⟨.int (lo + (i:Nat) * st),H,I1,⟨t,rfl⟩,⟨rfl,rfl⟩,st',fun b hb=>(hf b hb).1⟩⟩
 done:=by
  intro X hP hw hK hc i pins s σ H E I hf st hg
  subst hP hw hK
  obtain ⟨f0,f1,f2,f3,f4,f5⟩:=hf it (by simp)
  exact wpAny_pyNext_range_end (I.ok.hd hc) st (by have:n <= i:=hg;omega) fun h' eb=>⟨rfl,I.turned (t':=s.toks) (fun b o hb e=>eb b o hb e) f0 f1 f3 f4 f5⟩
 self:=fun _ _ _ _ _ st h=>wpAny_pyIter_rangeiter st h
section
variable {X:Cx} {tg a b c:Expr} {pos:Pos}
noncomputable def okR3 (i j c:Int):Bool:=Builtin.Range.small i j c && (!(Builtin.divisionGoesByPylong (j - i) c) && (decide (c≠0) && decide (0 <= Builtin.Range.rangeSize i j c/\Builtin.Range.rangeSize i j c <= 1000)))
noncomputable def iRng3 (ta:TA):TI:=fun σ H R=>ta σ H fun vs H1=>∃ i j c:Int,vs=[.int i,.int j,.int c]/\okR3 i j c=true/\R (Its i c (Builtin.Range.rangeSize i j c).toNat) H1
theorem qef {ta:TA} {p:Pos} (hg:Gl X "range") (hm:X.mg "range" = none) (ha:PA X [a,b,c] ta) (hs:starEach [a,b,c] X.env=[(false,eval a X.env),(false,eval b X.env),(false,eval c X.env)]:=by rfl) (hs2:starEach [b,c] X.env=[(false,eval b X.env),(false,eval c X.env)]:=by rfl) :
  PI X tg (.Call (.Name "range" p) [a,b,c] [] pos) (iRng3 ta):=by
 intro pins s σ H R I h
 refine Call_ (jT I hg hm boot_range (PyProof.Rows.callWith_type1 (thn (ha pos pins s σ H _ I h) fun us s1 ⟨vs,H1,I1,r1,q1⟩=>?_) (by rw [hs,hs2]) (by rw [hs2];rfl)))
 obtain ⟨i,j,k,e,ok,q⟩:=q1
 subst e
 unfold okR3 at ok
 rw [Bool.and_eq_true,Bool.and_eq_true,Bool.and_eq_true] at ok
 obtain ⟨k1,k2,k3,k4⟩:=ok
 have k4:=of_decide_eq_true k4
 cases r1 with
 | cons r rr =>
  cases rr with
  | cons r' rr =>
   cases rr with
   | cons r'' rr =>
    cases rr
    obtain ⟨t,rfl⟩:=r
    obtain ⟨t',rfl⟩:=r'
    obtain ⟨t'',rfl⟩:=r''
    refine call_range_3 (of_decide_eq_true k3) ?_ (.inl (by simpa using k2))
    refine wpAny_pyIter_range (IsRange.new ..) k1 ?_
    have I2:Inv X pins σ H1 { s1 with heap:=s1.heap.push { cls:=.type "range", data:=.fields #[.int i t,.int j t',.int k t''] },toks:=s1.toks }:=I1.kept fun b o e=>Heap.get?_push_of_some _ e
    refine ⟨(s1.heap.push { cls:=.type "range", data:=.fields #[.int i t,.int j t',.int k t''] }).objs.size,[(s1.heap.push { cls:=.type "range", data:=.fields #[.int i t,.int j t',.int k t''] }).objs.size],_,_,H1,rfl,
     I2.kept (t':=s1.toks) fun b o e=>Heap.get?_push_of_some _ e,qbI _ i k (Builtin.Range.rangeSize i j k).toNat,?_,fun b hb=>?_,q⟩
    ·have e1:i + ((0:Nat):Int) * k=i:=by simp
     have e2:(((Builtin.Range.rangeSize i j k).toNat:Nat):Int) - ((0:Nat):Int)=Builtin.Range.rangeSize i j k:=by omega
     show IsRangeIter _ _ (i + ((0:Nat):Int) * k) ((((Builtin.Range.rangeSize i j k).toNat:Nat):Int) - ((0:Nat):Int)) k
     rw [e1,e2]
     exact Heap.get?_push_size _ rfl
    ·have e:b=(s1.heap.push { cls:=.type "range", data:=.fields #[.int i t,.int j t',.int k t''] }).objs.size:=by simpa using hb
     subst e
     exact I2.fpOk (Nat.le_refl _) (I2.hok.fresh (Nat.le_refl _))
noncomputable def rngS:Int->Int->Nat->List PyData
 | _,_,0=>[]
 | lo,st,n + 1=>.int lo :: rngS (lo + st) st n
theorem jo:∀ (lo st:Int) (n:Nat),(rngS lo st n).length=n
 | _,_,0=>rfl
 | lo,st,n + 1=>by rw [rngS,List.length_cons,jo]
theorem qbA:∀ (lo st:Int) (n i:Nat) (d:PyData),(rngS lo st n)[i]?=some d->d=.int (lo + (i:Nat) * st)
 | _,_,0,_,_,h=>by simp [rngS] at h
 | lo,st,n + 1,0,d,h=>by simp [rngS] at h;subst h;simp
 | lo,st,n + 1,i + 1,d,h=>by
  have:=qbA (lo + st) st n i d (by simpa [rngS] using h)
  rw [this]
  congr 1
  rw [Int.natCast_add,Int.add_mul]
  simp
  omega
theorem IsIt.rngS {K:PySem.W.Frag} {H:Hp} {S:Av} (lo st:Int) (n:Nat):IsIt K S (Its lo st n) H (rngS lo st n) where
 go:=fun i H' e hi=>by rw [jo] at hi;exact hi
 yld:=fun i H' x H2 e ⟨e2,q⟩=>⟨by rw [e2];exact Same.refl _,fun d hd _ _=>by
  have q':x=.int (lo + (i:Nat) * st):=q
  rw [qbA lo st n i d hd,q']
  exact .int _⟩
 stop:=fun H' e=>by rw [jo];exact Nat.le_refl n
noncomputable def qdq:List PyData->Option (List PyData)
 | [.int i,.int j,.int c]=>if okR3 i j c=true then some (rngS i c (Builtin.Range.rangeSize i j c).toNat) else none
 | _=>none
theorem DenL.inv3 {K:PySem.W.Frag} {H:Hp} {S:Av} {vs:List V} {d e f:PyData} (h:DenL K H S vs [d,e,f]):∃ v w x,vs=[v,w,x]/\Den K H S v d/\Den K H S w e/\Den K H S x f:=by
 cases h with
 | cons a t=>cases t with
  | cons b t=>cases t with
   | cons c t=>cases t;exact ⟨_,_,_,rfl,a,b,c⟩
theorem qch {fs:Rho->Option (List PyData)} {p:Pos} (hg:Gl X "range") (hm:X.mg "range" = none) (ha:PDA X [] [a,b,c] fs) (hs:starEach [a,b,c] X.env=[(false,eval a X.env),(false,eval b X.env),(false,eval c X.env)]:=by rfl) (hs2:starEach [b,c] X.env=[(false,eval b X.env),(false,eval c X.env)]:=by rfl):PDR X tg (.Call (.Name "range" p) [a,b,c] [] pos) (evR fs qdq) :=
 (qef hg hm ha hs hs2).weak fun σ H R ⟨S,ρ,ds,hs,e,w⟩=>by
  obtain ⟨xs,e1,e⟩:=qi e
  refine ⟨S,ρ,xs,hs,e1,fun vs H1 g1 d1=>?_⟩
  unfold qdq at e
  split at e
  ·split at e
   ·rename_i hj
    cases e
    obtain ⟨_,_,_,rfl,q,q',q''⟩:=d1.inv3
    cases q;cases q';cases q''
    exact ⟨_,_,_,rfl,hj,w _ _ g1 fun _ _=>IsIt.rngS _ _ _⟩
   ·cases e
  ·cases e
end
section
variable {prog:Program} {w:World} {A:Around} {E:Value->Shared->Prop} {s:Shared}
theorem qbZ {d:Addr} {od:Obj} {es:Array DictEntry} {ep:Nat} {Q:Value->Shared->Prop} (hd:(d == sysModules)=false) (ho:s.heap.get? d=some od) (hx:od.ExactDict) (hdat:od.data=.dict es ep)
  (h:Q (.ref s.heap.objs.size) { s with heap:=s.heap.push { cls:=.type "dict_items", data:=.fields #[.ref d] } }):wpAny (model prog w) A (call (.builtin "dict.items") [.ref d]) Q E s:=by
 have hT:s.TypeIs (.ref d) "dict" := ⟨od,ho,hx.1⟩
 refine wpAny_call_entry F.slot_dict_items hT F.entry_dict_items (id ?_) (F.args_dict_items_1 _)
 unfold Builtin.«dict.items»
 refine wpAny_bind (id ?_)
 unfold Builtin.Dict.noArgs
 refine wpAny_bind (wpAny_notOrdered_dict hT (id ?_:wpAny _ _ (pure d) _ _ s))
 refine wpAny_pure (id ?_:wpAny _ _ (Builtin.Dict.showsAll d >>= _) _ _ s)
 unfold Builtin.Dict.showsAll
 rw [if_neg (fun z=>by rw [hd] at z;cases z)]
 refine wpAny_bind (wpAny_pure (id ?_))
 exact wpAny_bind (wpAny_newObj_type (wpAny_pure ⟨_,rfl,h⟩))
theorem qfD {v d:Addr} {od:Obj} {es:Array DictEntry} {ep:Nat} {Q:Value->Shared->Prop} (hv:s.heap.IsItemsView v d) (ho:s.heap.get? d=some od) (hdat:od.data=.dict es ep)
  (hQ:Q (.ref s.heap.objs.size) { s with heap:=s.heap.push { cls:=.type "dict_itemiterator", data:=.fields #[.none,.bool false,.ref d,.int 0 0,.int es.size 0,.int ep 0,.none,.none] } }):wpAny (model prog w) A (pyIter (.ref v)) Q E s:=by
 obtain ⟨ov,hov,hcv,hdv⟩:=id hv
 refine wpAny_pyIter_slot hv.typeIs F.slot_dict_items_iter (wpAny_call_entry F.slot_dict_items_iter hv.typeIs F.entry_dict_items_iter (id ?_) (F.args_dict_items_iter_1 _))
 unfold Builtin.«dict_items.__iter__»
 refine wpAny_bind (wpAny_pure (wpAny_bind (id ?_)))
 unfold Builtin.Dict_items.dictOf
 refine wpAny_bind (wpAny_field hov hdv (x:=.ref d) rfl (wpAny_pure (wpAny_bind (id ?_))))
 unfold Builtin.Dict_items.newIterator
 refine wpAny_bind (wpAny_dictEntries ho hdat (wpAny_bind (wpAny_dictEpoch ho hdat (id ?_))))
 have hown:Builtin.Dict_items.ownsTuple "dict_itemiterator" = true:=by decide
 simp only [hown,if_true];refine wpAny_newObj_type (wpAny_pure ⟨_,rfl, "dict_itemiterator", _,⟨_,Heap.get?_push_size _ rfl,rfl⟩,F.slot_dict_itemiterator_next.lookup,?_⟩) (by simp only [sizeOk,Builtin.Dict_items.ownedTupleFields,List.size_toArray,List.length_append,List.length_cons,List.length_nil,sizeLine_eq];omega)
 simpa [rawInt,Builtin.Dict_items.ownedTupleFields] using hQ
theorem wz {it d:Addr} {od:Obj} {es:Array DictEntry} {i ep:Nat} {en:DictEntry} {ok ov:Value} {Q:Option Value->Shared->Prop} (hit:IsItemIter s.heap it d i es.size ep ok ov) (hod:s.heap.get? d=some od) (hdd:od.data=.dict es ep) (hx:es[i]?=some en)
  (hQ:∀ h',IsItemIterOut h' it d (i + 1) es.size ep en.key en.val s.heap.objs.size->h'.get? s.heap.objs.size=some { cls:=.type "tuple", data:=.seq #[en.key,en.val] }->
   (∀ b o,b≠it->s.heap.get? b=some o->h'.get? b=some o)->Q (some (.ref s.heap.objs.size)) { s with heap:=h' }):wpAny (model prog w) A (pyNext (.ref it)) Q E s:=by
 obtain ⟨hp,g,dr,tk,os⟩:=s
 have hT:Shared.TypeIs ⟨hp,g,dr,tk,os⟩ (.ref it) "dict_itemiterator" := ⟨_,hit,rfl⟩
 unfold pyNext
 refine wpAny_bind (wpAny_attempt (wpAny_callSpecial?_slot (name:=Str.ofString "__next__") hT F.slot_dict_itemiterator_next (wpAny_call_entry F.slot_dict_itemiterator_next hT F.entry_dict_itemiterator_next (wpAny_bind (wpAny_pure (wpAny_bind (wpAny_bind ?_)))) (F.args_dict_itemiterator_next_1 _))))
 first | refine wpAny_bind (wpAny_typeNameOfWhole_itemiter hT (wpAny_pure (wpAny_bind (wpAny_fieldsOf hit rfl ?_)))) | refine wpAny_bind (wpAny_typeNameOf_itemiter hT (wpAny_pure (wpAny_bind (wpAny_fieldsOf hit rfl ?_))))
 have hown:Builtin.Dict_items.ownsTuple "dict_itemiterator" = true:=by decide
 simp only [hown,if_true];refine (id ?_:wpAny _ _ (if (Value.ref d == Value.none)=true then _ else _) _ _ _)
 rw [if_neg (fun z=>Bool.false_ne_true z:¬ ((Value.ref d == Value.none)=true))]
 refine wpAny_bind (wpAny_pure (wpAny_bind (wpAny_dictEntries hod hdd ?_)))
 rw [if_neg (by simp)];refine wpAny_bind (wpAny_pure (wpAny_bind (wpAny_dictEpoch hod hdd ?_)))
 rw [if_neg (by simp)];refine wpAny_pure (id ?_)
 have hlt':i < es.size:=(Array.getElem?_eq_some_iff.mp hx).1
 have hee:es[i]=en:=(Array.getElem?_eq_some_iff.mp hx).2
 simp only [show ¬ ((i:Int) < 0) from by omega,if_false,Int.toNat_natCast,Array.getElem?_eq_getElem hlt',hee];refine wpAny_bind (id ?_)
 first | refine wpAny_bind (wpAny_typeNameOfWhole_itemiter hT (wpAny_pure (wpAny_bind (wpAny_isOneOf_itemiter hT ?_)))) | refine wpAny_bind (wpAny_typeNameOf_itemiter hT (wpAny_pure (wpAny_bind (wpAny_isOneOf_itemiter hT ?_))))
 refine (wpAny_bind (wpAny_setField_rec hit (by simp) fun h₁ he₁ hs₁=>?_):wpAny _ _ (setField (.ref it) 3 (rawInt ((i:Int) + 1)) >>= _) _ _ ⟨hp,g,dr,tk,os⟩)
 have hs₁:Heap.SameBut it hp h₁:=hs₁
 have he₁:IsItemIter h₁ it d (i + 1) es.size ep ok ov:=by
  have e:((i + 1:Nat):Int)=(i:Int) + 1:=by omega
  unfold IsItemIter;rw [e];simpa [rawInt] using he₁
 have hT₁:Shared.TypeIs ⟨h₁,g,dr,tk,os⟩ (.ref it) "dict_itemiterator" := ⟨_,he₁,rfl⟩
 refine wpAny_bind (wpAny_holding (wpAny_bind (wpAny_isOneOf_itemiter hT₁ (wpAny_bind (wpAny_isOneOf_itemiter hT₁ ?_)))))
 refine (id ?_:wpAny _ _ (Builtin.Dict_items.pairFromOwner (.ref it) 6 en.key en.val) _ _ ⟨h₁,g,dr,tk,os⟩)
 unfold Builtin.Dict_items.pairFromOwner
 refine wpAny_bind (wpAny_newTuple (id ?_))
 have he₂:IsItemIter (h₁.push { cls:=.type "tuple", data:=.seq #[en.key,en.val] }) it d (i + 1) es.size ep ok ov:=Heap.get?_push_of_some _ he₁
 generalize hh₂:h₁.push { cls:=.type "tuple", data:=.seq #[en.key,en.val] }=h₂ at he₂
 have hz₁:h₁.objs.size=hp.objs.size:=hs₁.1
 have hil:it < hp.objs.size:=Heap.lt_size hit
 have ht₂:h₂.get? hp.objs.size=some { cls:=.type "tuple", data:=.seq #[en.key,en.val] }:=by rw [← hh₂,← hz₁];exact Heap.get?_push_size _ rfl
 have hk₂:∀ b o,b≠it->hp.get? b=some o->h₂.get? b=some o:=fun b o hb e=>by rw [← hh₂];exact Heap.get?_push_of_some _ (hs₁.extBut b o hb e)
 refine (id ?_:wpAny _ _ (Builtin.Dict_items.ownedTupleIsFree (.ref it) >>= _) _ _ ⟨h₂,g,dr,tk,os⟩)
 rw [hz₁]
 refine wpAny_bind (id ?_);unfold Builtin.Dict_items.ownedTupleIsFree
 refine wpAny_bind (wpAny_field he₂ rfl (x:=.none) rfl (wpAny_pure (id ?_)));simp only [if_true]
 refine wpAny_bind (wpAny_field he₂ rfl (x:=ok) rfl (wpAny_bind (wpAny_field he₂ rfl (x:=ov) rfl (wpAny_bind (wpAny_setField_rec he₂ (by simp) fun h₃ he₃ hs₃=>?_)))))
 have hs₃:Heap.SameBut it h₂ h₃:=hs₃
 have he₃:IsItemIter h₃ it d (i + 1) es.size ep en.key ov:=he₃
 refine wpAny_bind (wpAny_setField_rec he₃ (by simp) fun h₄ he₄ hs₄=>(id ?_))
 have hs₄:Heap.SameBut it h₃ h₄:=hs₄
 have he₄:IsItemIter h₄ it d (i + 1) es.size ep en.key en.val:=he₄
 refine wpAny_bind (wpAny_setField_rec he₄ (by simp) fun h₅ he₅ hs₅=>(id ?_))
 have hs₅:Heap.SameBut it h₄ h₅:=hs₅
 have he₅:IsItemIterOut h₅ it d (i + 1) es.size ep en.key en.val hp.objs.size:=he₅
 refine wpAny_bind (wpAny_setField_rec he₅ (by simp) fun h₆ he₆ hs₆=>(id ?_))
 have hs₆:Heap.SameBut it h₅ h₆:=hs₆
 have he₆:IsItemIterOut h₆ it d (i + 1) es.size ep en.key en.val hp.objs.size:=he₆
 have kk:∀ b o,b≠it->h₂.get? b=some o->h₆.get? b=some o:=fun b o hb e=>hs₆.extBut b o hb (hs₅.extBut b o hb (hs₄.extBut b o hb (hs₃.extBut b o hb e)))
 exact wpAny_bind (wpAny_letGo (wpAny_pure (wpAny_pure ⟨_,rfl,wpAny_pure (hQ h₆ he₆ (kk _ _ (Nat.ne_of_gt hil) ht₂) fun b o hb e=>kk b o hb (hk₂ b o hb e))⟩)))
theorem qai {it d:Addr} {od:Obj} {es:Array DictEntry} {i ep:Nat} {ok ov:Value} {Q:Option Value->Shared->Prop} (hh:A.handled=none) (hit:IsItemIter s.heap it d i es.size ep ok ov) (hod:s.heap.get? d=some od) (hdd:od.data=.dict es ep) (hge:es.size <= i)
  (hQ:∀ h',Heap.ExtBut it s.heap h'->Q none { s with heap:=h' }):wpAny (model prog w) A (pyNext (.ref it)) Q E s:=by
 have hT:s.TypeIs (.ref it) "dict_itemiterator" := ⟨_,hit,rfl⟩
 unfold pyNext
 refine wpAny_bind (wpAny_attempt (wpAny_callSpecial?_slot (name:=Str.ofString "__next__") hT F.slot_dict_itemiterator_next (wpAny_call_entry F.slot_dict_itemiterator_next hT F.entry_dict_itemiterator_next (wpAny_bind (wpAny_pure (wpAny_bind (wpAny_bind ?_)))) (F.args_dict_itemiterator_next_1 _))))
 first | refine wpAny_bind (wpAny_typeNameOfWhole_itemiter hT (wpAny_pure (wpAny_bind (wpAny_fieldsOf hit rfl ?_)))) | refine wpAny_bind (wpAny_typeNameOf_itemiter hT (wpAny_pure (wpAny_bind (wpAny_fieldsOf hit rfl ?_))))
 have hown:Builtin.Dict_items.ownsTuple "dict_itemiterator" = true:=by decide
 simp only [hown,if_true];refine (id ?_:wpAny _ _ (if (Value.ref d == Value.none)=true then _ else _) _ _ s)
 rw [if_neg (fun z=>Bool.false_ne_true z:¬ ((Value.ref d == Value.none)=true))]
 refine wpAny_bind (wpAny_pure (wpAny_bind (wpAny_dictEntries hod hdd ?_)))
 rw [if_neg (by simp)];refine wpAny_bind (wpAny_pure (wpAny_bind (wpAny_dictEpoch hod hdd ?_)))
 rw [if_neg (by simp)];refine wpAny_pure (id ?_)
 simp only [show ¬ ((i:Int) < 0) from by omega,if_false,Int.toNat_natCast,Array.getElem?_eq_none hge];refine wpAny_bind (id ?_)
 first | refine wpAny_bind (wpAny_typeNameOfWhole_itemiter hT (wpAny_pure (id ?_))) | refine wpAny_bind (wpAny_typeNameOf_itemiter hT (wpAny_pure (id ?_)))
 refine (wpAny_bind (wpAny_setField hit rfl (by simp) ?_):wpAny _ _ (setField (.ref it) 2 .none >>= _) _ _ s)
 refine (wpAny_bind ?_:wpAny _ _ (newExc (.type "StopIteration") [] >>= _) _ _ _)
 simp only [newExc,newTuple]
 refine wpAny_bind (wpAny_newObj_type (wpAny_bind (m:=firstArgMember _ _) (wpAny_of_eq (a:=Value.none) (by first | rfl | (simp only [firstArgMember];rfl)) (wpAny_newObj_type ?_ (by size_fits)))) (by size_fits))
 simp only [raiseNew];refine wpAny_bind (wpAny_handled (id ?_))
 rw [show A.in1.handled=none from hh];refine wpAny_bind (wpAny_pure (wpAny_throw (id ?_)))
 exact wpAny_bind (wpAny_isInstance (T := "StopIteration") (b:=true) ⟨_,Heap.get?_push_size _ rfl,rfl⟩ isSubtype_stop (wpAny_pure (hQ _ (((Heap.SameBut.update ..).extBut.push _).push _))))
theorem yt:entryFor table "dict_itemiterator.__iter__" = some Builtin.«dict_keyiterator.__iter__»:=entryFor_alias (id' := "dict_keyiterator.__iter__") (by kernel_rfl) rfl (by decide +kernel) (by kernel_rfl)
theorem qcm {it d:Addr} {i n ep:Nat} {ok ov:Value} {Q:Value->Shared->Prop} (hit:IsItemIter s.heap it d i n ep ok ov) (h:Q (.ref it) s):wpAny (model prog w) A (pyIter (.ref it)) Q E s:=by
 have hT:s.TypeIs (.ref it) "dict_itemiterator" := ⟨_,hit,rfl⟩
 refine wpAny_pyIter_slot hT F.slot_dict_itemiterator_iter (wpAny_call_entry F.slot_dict_itemiterator_iter hT yt (id ?_:wpAny _ _ (ret (.ref it)) _ _ s) (F.args_dict_itemiterator_iter_1 _))
 exact wpAny_pure ⟨_,rfl, "dict_itemiterator", _,hT,F.slot_dict_itemiterator_next.lookup,h⟩
end
noncomputable def Itm (a:Addr) (kvs:List (KX×Addr×V)) (ep:Nat):It :=
 ⟨fun i H=>H a=some (DctO a kvs ep)/\i < kvs.length,fun i H x H'=>∃ p q,H p=none/\x=.ref p/\kvs[i]?=some q/\H'=upd H p (.tup [kxV q.1 q.2.1,q.2.2]),fun i H=>H a=some (DctO a kvs ep)/\kvs.length <= i⟩
theorem qcr {P:Program} {w:World} {K:PySem.W.Frag} {ts:List Expr} {kk:Nat} {tp:Pos} (a it:Addr) (kvs:List (KX×Addr×V)) (ep:Nat):Turn P w K (.Tuple ts kk tp) (Itm a kvs ep) [it] it (fun i h=>∃ ok ov,IsItemIter h it a i kvs.length ep ok ov) where
 mem:=by simp
 obj:=fun i h ⟨ok,ov,st⟩ b hb=>by
  have e:b=it:=by simpa using hb
  subst e
  exact ⟨_,st,fun v z=>by cases z⟩
 keep:=fun i h h' ⟨ok,ov,st⟩ k=>⟨ok,ov,k it (by simp) _ st⟩
 item:=by
  intro X hP hw hK hc i pins s σ H E I hf st hg
  subst hP hw hK
  obtain ⟨hq,hlt⟩:=hg
  obtain ⟨ok,ov,st⟩:=st
  obtain ⟨o,es,h1,h2,h3,hsz,hkey⟩:=Qi (qU.of (I.hok a _ hq))
  obtain ⟨en,he,hk,hv⟩:=hkey i kvs[i] (List.getElem?_eq_getElem hlt)
  obtain ⟨f0,f1,f2,f3,f4,f5⟩:=hf it (by simp)
  have st':IsItemIter s.heap it a i es.size ep ok ov:=by rw [hsz];exact st
  refine wz st' h1 h3 he fun h' sto ht kb=>⟨_,rfl,wpAny_letOwnedTupleGo_items sto fun h2 he2 hs2=>?_⟩
  have hs2:Heap.SameBut it h' h2:=hs2
  have k2:∀ c o,c≠it->h'.get? c=some o->h2.get? c=some o:=fun c o hc q=>(hs2.2 c hc).trans q
  have I1:Inv X pins σ H { s with heap:=h2,toks:=s.toks }:=I.turned (t':=s.toks) (fun b o hb e=>k2 b o hb (kb b o hb e)) f0 f1 f3 f4 f5
  have hn:H s.heap.objs.size=none:=I.hok.fresh (Nat.le_refl _)
  have fT:FpOk X pins H s.heap.objs.size:=I.fpOk (Nat.le_refl _) hn
  have neT:s.heap.objs.size≠it:=Nat.ne_of_gt (Heap.lt_size st)
  have ok2:Qp X.prog X.w (upd H s.heap.objs.size (.tup [kxV kvs[i].1 kvs[i].2.1,kvs[i].2.2])) h2 s.heap.objs.size (.tup [kxV kvs[i].1 kvs[i].2.1,kvs[i].2.2]) :=
   ⟨Nat.le_of_lt (qX (show 2 <= 1000 by decide)),[en.key,en.val],.cons hk (.cons hv .nil),⟨_,k2 _ _ neT ht,rfl,_,rfl⟩⟩
  refine ⟨.ref s.heap.objs.size,_,I1.track hn fT.2.1 fT.2.2.2.1 fT.2.2.2.2.1 fT.2.2.2.2.2 ok2,rfl,⟨_,kvs[i],hn,rfl,List.getElem?_eq_getElem hlt,rfl⟩,⟨_,_,by rw [hsz] at he2;exact he2⟩,fun c hc=>?_⟩
  have:=List.mem_singleton.mp hc
  subst this
  rw [qD (Ne.symm neT)];exact f0
 done:=by
  intro X hP hw hK hc i pins s σ H E I hf st hg
  subst hP hw hK
  obtain ⟨hq,hge⟩:=hg
  obtain ⟨ok,ov,st⟩:=st
  obtain ⟨o,es,h1,h2,h3,hsz,hkey⟩:=Qi (qU.of (I.hok a _ hq))
  obtain ⟨f0,f1,f2,f3,f4,f5⟩:=hf it (by simp)
  have st':IsItemIter s.heap it a i es.size ep ok ov:=by rw [hsz];exact st
  exact qai (I.ok.hd hc) st' h1 h3 (by omega) fun h' eb=>⟨rfl,I.turned (t':=s.toks) (fun b o hb e=>eb b o hb e) f0 f1 f3 f4 f5⟩
 self:=fun _ _ _ _ _ st h=>qcm st.choose_spec.choose_spec h
noncomputable def iItm (tl:TE):TI:=fun σ H R=>tl σ H fun x H1=>∃ a kvs ep,x=.ref a/\H1 a=some (DctO a kvs ep)/\R (Itm a kvs ep) H1
section
variable {X:Cx} {M:List Nat} {a:Expr} {f:Rho->Option PyData} {ts:List Expr} {kk:Nat} {tp apos cpos:Pos}
theorem qgk {tl:TE} (hl:PE X a tl) (hbase:attributeBase a "items" X.env (eval a X.env)=eval a X.env:=by rfl)
  (hfew:((backTo cpos (starEach [] X.env)).all (fun x=>!x.1) && (backToKw cpos (keywordEach [] X.env)).all (fun x=>x.1.isSome)
   && decide (([]:List Expr).length + ([]:List Keyword).length + (if ([]:List Keyword).isEmpty then 0 else 1) < 30))=true:=by rfl)
  (hline:(apos.endLine == cpos.line)=true:=by rfl) (htr:backTo cpos (starEach [] X.env)=[]:=by rfl) :
  PI X (.Tuple ts kk tp) (.Call (.Attribute a "items" apos) [] [] cpos) (iItm tl):=by
 intro pins s σ H R I h
 refine wpAny_Call_method hbase hfew hline PySem.F.plainAttrs_dict PySem.F.slot_dict_items PySem.F.type_dict_items (thn (hl pins s σ H _ I h) fun v s1 ⟨xv,H1,I1,rx,p,kvs,ep,ex,hq,q⟩=>?_)
 subst ex
 obtain rfl:v=Value.ref p:=rx
 have d:=qU.of (I1.hok p _ hq)
 obtain ⟨o,es,h1,h2,h3,hsz,_⟩:=Qi d
 refine ⟨⟨o,h1,h2.1⟩,fun a' q'=>?_,?_⟩
 ·cases q'
  exact ⟨o,h1,h2.2.1⟩
 rw [htr]
 refine Calls.callWith_builtin rfl (PySem.evalArgs_none ?_)
 refine qbZ d.2.1 h1 h2 h3 ?_
 have hp1:(s1.heap.push { cls:=.type "dict_items", data:=.fields #[.ref p] }).get? p=some o:=Heap.get?_push_of_some _ h1
 refine qfD (d:=p) ⟨_,Heap.get?_push_size _ rfl,rfl,rfl⟩ hp1 h3 ?_
 have I2:Inv X pins σ H1 { s1 with heap:=(s1.heap.push { cls:=.type "dict_items", data:=.fields #[.ref p] }) }:=I1.kept (t':=s1.toks) fun b o e=>Heap.get?_push_of_some _ e
 rw [hsz]
 refine ⟨(s1.heap.push { cls:=.type "dict_items", data:=.fields #[.ref p] }).objs.size,[(s1.heap.push { cls:=.type "dict_items", data:=.fields #[.ref p] }).objs.size],_,_,H1,rfl,I2.kept (t':=s1.toks) fun b o e=>Heap.get?_push_of_some _ e,qcr p _ kvs ep,⟨_,_,Heap.get?_push_size _ rfl⟩,fun b hb=>?_,q⟩
 have e:b=(s1.heap.push { cls:=.type "dict_items", data:=.fields #[.ref p] }).objs.size:=by simpa using hb
 subst e
 exact I2.fpOk (Nat.le_refl _) (I2.hok.fresh (Nat.le_refl _))
noncomputable def qb8:PyData->Option (List PyData)
 | .dict kvs=>some (kvs.map fun p=>.tuple [p.1,p.2])
 | _=>none
theorem qhd {kvs:List (KX×Addr×V)} {ds:List PyData} {i:Nat} {d:PyData} (h:((dkv kvs ds).map fun p=>PyData.tuple [p.1,p.2])[i]?=some d):∃ q e,kvs[i]?=some q/\ds[i]?=some e/\d=.tuple [kxD q.1,e]:=by
 unfold dkv at h
 rw [List.getElem?_map] at h
 obtain ⟨z,hz,rfl⟩:=Option.map_eq_some_iff.mp h
 rw [List.getElem?_zip_eq_some,List.getElem?_map] at hz
 obtain ⟨h1,h2⟩:=hz
 obtain ⟨q,hq,e⟩:=Option.map_eq_some_iff.mp h1
 exact ⟨q,z.2,hq,h2,by rw [e]⟩
theorem IsIt.itm {K:PySem.W.Frag} {H:Hp} {S:Av} {l:Addr} {kvs:List (KX×Addr×V)} {ep:Nat} {ds:List PyData} (h:H l=some (DctO l kvs ep)) (k:DenL K H S (kvs.map fun p=>kxV p.1 p.2.1) (kvs.map fun p=>kxD p.1)) (t:DenL K H S (kvs.map (·.2.2)) ds) (hl:kvs.length=ds.length):IsIt K S (Itm l kvs ep) H ((dkv kvs ds).map fun p=>.tuple [p.1,p.2]) where
 go:=fun i H' e hi=>⟨e _ _ h,by rw [List.length_map] at hi;unfold dkv at hi;rw [List.length_zip,List.length_map] at hi;omega⟩
 yld:=fun i H' x H2 e ⟨p,q,hp,ex,hq,e2⟩=>by
  subst ex e2
  refine ⟨Same.lay hp,fun d hd S' w=>?_⟩
  obtain ⟨q',de,g1,g2,rfl⟩:=qhd hd
  rw [hq] at g1
  cases g1
  obtain ⟨v,k1,k2⟩:=k.get (i:=i) (d:=kxD q.1) (by rw [List.getElem?_map,hq];rfl)
  rw [List.getElem?_map,hq] at k1
  cases k1
  obtain ⟨v,t1,t2⟩:=t.get g2
  rw [List.getElem?_map,hq] at t1
  cases t1
  exact .tuple (SqT.of qK) (.cons (w _ _ k2) (.cons (w _ _ t2) .nil))
 stop:=fun H' e=>⟨e _ _ h,by rw [List.length_map];unfold dkv;rw [List.length_zip,List.length_map];omega⟩
theorem qd9 (ha:PD X M a f) (hbase:attributeBase a "items" X.env (eval a X.env)=eval a X.env:=by rfl)
  (hfew:((backTo cpos (starEach [] X.env)).all (fun x=>!x.1) && (backToKw cpos (keywordEach [] X.env)).all (fun x=>x.1.isSome)
   && decide (([]:List Expr).length + ([]:List Keyword).length + (if ([]:List Keyword).isEmpty then 0 else 1) < 30))=true:=by rfl)
  (hline:(apos.endLine == cpos.line)=true:=by rfl) (htr:backTo cpos (starEach [] X.env)=[]:=by rfl):PDI X M (.Tuple ts kk tp) (.Call (.Attribute a "items" apos) [] [] cpos) (evI f qb8) :=
 (qgk ha hbase hfew hline htr).weak fun σ H R ⟨S,ρ,ds,hs,e,w⟩=>by
  obtain ⟨x,e1,e⟩:=qi e
  refine ⟨S,ρ,x,hs,e1,fun v H1 g1 d1=>?_⟩
  cases d1 with
  | @dict p kvs ep ds' h k t =>
   have hl:kvs.length=ds'.length:=by
    have:=t.length
    rwa [List.length_map] at this
   cases e
   exact ⟨p,kvs,ep,rfl,h.1,w _ _ g1 fun H2 o=>IsIt.itm (o _ _ h.2 h.1) (k.off (hs.1.same g1) o) (t.off (hs.1.same g1) o) hl⟩
  | _=>cases e
end
theorem qaf:typeLookup (.type "list") "keys" = pure none:=by rw [typeLookup_type,builtinLookup_eq_fast];kernel_rfl
theorem qhH {prog:Program} {w:World} {A:Around} {E:Value->Shared->Prop} {s:Shared} {a:Addr} {its:Array Value} {n:Nat} {sl:Array (Option Value)} {Q:Option Value->Shared->Prop} (hx:s.heap.get? a=some { cls:=.type "list", dict:=none,data:=.seq its n,slots:=sl }) (hA:A.handled=none)
  (h:∀ h' tk,(∀ b o,s.heap.get? b=some o->h'.get? b=some o)->Q none { s with heap:=h',toks:=tk }):wpAny (model prog w) A (getAttr? (.ref a) "keys") Q E s:=by
 obtain ⟨hp,g,d,tk,os⟩:=s
 have hTT:∀ tk',(⟨hp,g,d,tk',os⟩:Shared).TypeIs (.ref a) "list" := fun _=>⟨_,hx,rfl⟩
 have q1:=sub_AttributeError
 have q3:=F.slot_list_getattribute.lookup
 have q4:=F.slot_list_getattribute.bind (.ref a)
 have q5:=am_list_getattr_none
 unfold getAttr? getAttrBy? getAttrBy
 repeat (any_goals (first | assumption | exact hTT _ | ((with_reducible show wpAny _ _ (call (Value.builtin "list.__getattribute__") _ _) _ _ _);refine call_meets F.slot_list_getattribute (hTT _) am_entry_list_getattribute (F.args_list_getattribute_2 _ _) (meets_getattribute_miss_list a its n sl "keys" _ qaf (by decide +kernel) (by size_fits)) ⟨hx,hA,fun h' tk' e hx'=>?_⟩) | wp_step))
 obtain ⟨t',u',he⟩:=hx'.there
 unfold getattributeRaised
 repeat (any_goals (first | assumption | wp_step))
 exact h _ _ hx'.keeps
noncomputable def qir (h0:Heap) (ks:KX) (b:Addr) (key:Value):Prop:=match ks with
 | .inl i=>∃ t,key=.int i t
 | .inr t=>key=.ref b/\Is2 h0 t b
noncomputable def qbS (h0:Heap) (kvs:List (KX×Addr×V)):Prop:=∀ p∈kvs,∀ ks,p.1=.inr ks->Is2 h0 ks p.2.1
theorem qcD (ks:K2):∀ {kvs:List (KX×Addr×V)} {xs:List (K2×Addr×Value)},Paired PkT kvs xs->(kvs.any fun p=>decide (p.1=.inr ks))=(atKey xs ks).isSome
 | _,_,.nil=>rfl
 | _,_,@Paired.cons _ _ _ p q _ qs h t=>by
  rw [List.any_cons,qcD ks t]
  by_cases e:p.1=.inr ks
  ·have eq:q.1=ks:=Sum.inr.inj (h.1.symm.trans e)
   unfold atKey
   rw [decide_eq_true e,List.find?_cons,decide_eq_true eq];rfl
  ·have e':¬ q.1=ks:=fun z=>e (by rw [h.1,z])
   unfold atKey
   rw [decide_eq_false e,List.find?_cons,decide_eq_false e',Bool.false_or]
theorem Is2.grow {h h':Heap} {ks:K2} {a:Addr} (x:Is2 h ks a) (k:∀ b o,h.get? b=some o->h'.get? b=some o):Is2 h' ks a:=let ⟨as,r⟩:=x;⟨as,Reads.keeps k r⟩
theorem qiS {h0 h:Heap} (k:∀ b o,h0.get? b=some o->h.get? b=some o):∀ {kvs:List (KX×Addr×V)} {xs:List (K2×Addr×Value)},Paired PkT kvs xs->qbS h0 kvs->∀ x∈xs,Is2 h x.1 x.2.1
 | _,_,.nil,_,x,hx=>by cases hx
 | _,_,@Paired.cons _ _ _ p q kvs qs h t,hk,x,hx=>by
  rcases List.mem_cons.mp hx with rfl | hx
  ·have:=hk p (.head _) x.1 h.1
   rw [h.2.1] at this
   exact this.grow k
  ·exact qiS k t (fun p hp=>hk p (.tail _ hp)) x hx
theorem qbt {kvs:List (KX×Addr×V)} {ks:KX} {b:Addr} {v:V} {p:KX×Addr×V} (hp:p∈putV kvs ks b v):(∃ q∈kvs,q.1=p.1/\q.2.1=p.2.1)\/p=(ks,b,v):=by
 unfold putV at hp
 split at hp
 ·obtain ⟨q,hq,rfl⟩:=List.mem_map.mp hp
  refine .inl ⟨q,hq,?_⟩
  split<;>exact ⟨rfl,rfl⟩
 ·rcases List.mem_append.mp hp with z | z
  ·exact .inl ⟨p,z,rfl,rfl⟩
  ·exact .inr (List.mem_singleton.mp z)
section
variable {prog:Program} {w:World} {A:Around} {E:Value->Shared->Prop} {s:Shared} {D:Addr} {kvs:List (KX×Addr×V)} {ep:Nat} {ks:KX} {b:Addr} {v:V} {key r:Value} {h0:Heap}
theorem qhe {Q:Unit->Shared->Prop} (hu:A.units + 3 < cLine) (hk0:qbS h0 kvs) (hkey:qir h0 ks b key) (hom:∀ p∈kvs,kxI p.1=kxI ks) (kp:∀ b o,h0.get? b=some o->s.heap.get? b=some o) (d:qU D kvs ep s.heap) (rv:RelV v r) (hz:kvs.length < 1000)
  (q:∀ h' tk ep',qU D (putV kvs ks b v) ep' h'->Heap.SameBut D s.heap h'->Q () { s with heap:=h',toks:=tk }):wpAny (model prog w) A (dictSet D key r) Q E s:=by
 have z1000:1000 < sizeLine:=qX (Nat.le_refl _)
 cases ks with
 | inr ks =>
  obtain ⟨xs,pk,o,es,g1,g2,g3,g4,g5⟩:=d.tup hom
  obtain ⟨rfl,hk⟩:=(show key=.ref b/\Is2 h0 ks b from hkey)
  have hxl:xs.length <= sizeLine:=by rw [← Paired.length pk];exact d.1
  refine wpAny_dictSet_heap (knd:=yh prog w) (hsz:=hxl) hu (hk.grow kp) (xs:=xs) ⟨o,es,ep,g1,g2,g3,g4,qiS kp pk hk0,g5⟩ fun h' dd' hs'=>?_
  obtain ⟨o',es',ep',k1,k2,k3,k4,_,k5⟩:=dd'
  exact q _ _ ep' ⟨by have:=jl kvs (.inr ks) b v;omega,d.2.1,.inl ⟨_,qbw pk rv (qcD ks pk),o',es',k1,k2,k3,k4,k5⟩⟩ hs'
 | inl i =>
  obtain ⟨vs,pk,o,es,g1,g2,g3,g4,g5⟩:=d.int hom
  obtain ⟨t',rfl⟩:=(show ∃ t,key=.int i t from hkey)
  have hxl:vs.length <= sizeLine:=by rw [← Paired.length pk];exact d.1
  refine wpAny_dictSet_pairs (knd:=intKind prog w) (hsz:=hxl) (intKind_is _ _ i t') (kvs:=vs) ⟨o,es,ep,g1,g2,g3,wX g4,YB g4,g5⟩ fun h' dd' hs'=>?_
  obtain ⟨o',es',ep',k1,k2,k3,k4,k4',k5⟩:=dd'
  exact q _ _ ep' ⟨by have:=jl kvs (.inl i) b v;omega,d.2.1,.inr ⟨_,qbv pk rv,o',es',k1,k2,k3,jW k4' fun e he=>k4 e (Array.mem_toList_iff.mp he),k5⟩⟩ hs'
end
theorem qU.but {h h':Heap} {D:Addr} {kvs:List (KX×Addr×V)} {ep:Nat} (d:qU D kvs ep h) (k:∀ o,h.get? D=some o->h'.get? D=some o):qU D kvs ep h' :=
 ⟨d.1,d.2.1,d.2.2.imp (fun ⟨xs,r,o,es,g1,g2⟩=>⟨xs,r,o,es,k o g1,g2⟩) fun ⟨xs,r,o,es,g1,g2⟩=>⟨xs,r,o,es,k o g1,g2⟩⟩
theorem jj:entryFor table "dict.update.loop" = some Builtin.«dict.update.loop»:=entryFor_of_tree (by kernel_rfl)
theorem Qv:plainId "dict.update.loop" = true:=by decide +kernel
noncomputable def putAll:List (KX×Addr×V)->List (KX×Addr×V)->List (KX×Addr×V)
 | kvs,[]=>kvs
 | kvs,p :: ps=>putAll (putV kvs p.1 p.2.1 p.2.2) ps
section
variable {prog:Program} {w:World} {A:Around} {R:Result->Shared->Prop} {it D:Addr} {fp wr:List Addr} {Pv:Nat->Value->Prop} {St:Nat->Heap->Prop} {h0:Heap}
noncomputable def qbT (h0:Heap) (p:KX×Addr×V) (u:Value):Prop:=∃ t o key r m,u=.ref t/\h0.get? t=some o/\o.cls=.type "tuple"/\o.data=.seq #[key,r] m/\qir h0 p.1 p.2.1 key/\RelV p.2.2 r
theorem qfR (hu:A.in1.units + 3 < cLine) (ps:List (KX×Addr×V)) (W:Walks prog w A.in1 it fp wr ps.length Pv St) (hP:∀ j u,Pv j u->∃ p,ps[j]?=some p/\qbT h0 p u) (hDf:D∉fp) (hw:∀ b o,h0.get? b=some o->b∉wr/\b≠D) (kd:Bool) (hom:∀ p∈ps,kxI p.1=kd) (hl:ps.length <= 900) :
  ∀ (m j:Nat) (s:Shared) (kvs:List (KX×Addr×V)) (ep:Nat) (i:Int) (tk:Tok),ps.length - j=m->j <= ps.length->St j s.heap->qU D kvs ep s.heap->qbS h0 kvs->(∀ p∈kvs,kxI p.1=kd)->kvs.length <= j->(∀ b o,h0.get? b=some o->s.heap.get? b=some o)->
  (∀ h' tk ep',qU D (putAll kvs (ps.drop j)) ep' h'->(∀ b o,h0.get? b=some o->h'.get? b=some o)->R (.ok (.ret .none)) { s with heap:=h',toks:=tk })->
  codeAny (model prog w) A (.builtin "dict.update.loop" ⟨[.ref D,.ref it,.int i tk,.none],[]⟩) R s:=by
 have dw:D∉wr:=fun h=>hDf (W.sub _ h)
 intro m
 induction m with
 | zero =>
  intro j s kvs ep i tk hm hj st d hk hkd hlen kp hR
  have last:j=ps.length:=by omega
  refine codeAny_builtin jj ?_;rw [Around.under_plainId Qv _]
  refine (wpAny_bind (W.done s _ _ (last ▸ st) fun h' tk' k=>?_):wpAny _ A.in1 (pyNext (.ref it) >>= _) _ _ s)
  show wpAny _ A.in1 (Builtin.Dict.addKeywords D [] >>= fun _=>ret Value.none) _ _ _
  refine wpAny_bind (wpAny_pure (wpAny_pure ?_))
  rw [last,List.drop_length] at hR
  exact hR h' tk' ep (d.but fun o e=>k D o dw e) fun b o e=>k b o (hw b o e).1 (kp b o e)
 | succ m ih =>
  intro j s kvs ep i tk hm hj st d hk hkd hlen kp hR
  have more:j < ps.length:=by omega
  refine codeAny_builtin jj ?_;rw [Around.under_plainId Qv _]
  refine (wpAny_bind (W.item j s _ _ more st fun u h' tk' hu' st' k=>?_):wpAny _ A.in1 (pyNext (.ref it) >>= _) _ _ s)
  obtain ⟨p,hp,t,o,key,r,mm,rfl,ht,hc,hd,hkey,rv⟩:=hP j u hu'
  have kp':∀ b o,h0.get? b=some o->h'.get? b=some o:=fun b o e=>k b o (hw b o e).1 (kp b o e)
  have d':=d.but fun o e=>k D o dw e
  have hpm:p∈ps:=List.mem_of_getElem? hp
  have hT:(⟨h',s.gens,s.drawn,tk',s.os⟩:Shared).TypeIs (.ref t) "tuple" := ⟨o,kp' _ _ ht,hc⟩
  show wpAny _ A.in1 (holding [Value.ref t] _ >>= _) _ _ _
  refine wpAny_bind (wpAny_holding (wpAny_bind (wpAny_tryCatch ?_)))
  unfold Builtin.Dict.pairItems
  refine wpAny_bind (wpAny_typeOf hT ?_)
  rw [if_pos (by decide)]
  refine wpAny_bind (wpAny_seqItems (kp' _ _ ht) hd (wpAny_pure ?_))
  show wpAny _ A.in1 (holding [key,r] (dictSet D key r)) _ _ _
  refine wpAny_holding (qhe hu hk hkey (fun q hq=>(hkd q hq).trans (hom p hpm).symm) kp' d' rv (by omega) fun h2 tk2 ep2 d2 hs2=>?_)
  have hs2:Heap.SameBut D h' h2:=hs2
  have kp2:∀ b o,h0.get? b=some o->h2.get? b=some o:=fun b o e=>(hs2.2 b (hw b o e).2).trans (kp' b o e)
  have hdrop:ps.drop j=p :: ps.drop (j + 1):=by
   obtain ⟨hlt,he⟩:=List.getElem?_eq_some_iff.mp hp
   rw [List.drop_eq_getElem_cons hlt,he]
  refine wpAny_pure ⟨plainId_quiet Qv _,ih (j + 1) _ (putV kvs p.1 p.2.1 p.2.2) ep2 (i + 1) 0 (by omega) more (W.frame _ _ _ st' fun b hb o e=>(hs2.2 b (fun z=>hDf (z ▸ hb))).trans e) d2 ?_ ?_ ?_ kp2 fun h3 tk3 ep3 d3 k3=>?_⟩
  ·intro q hq ks eq
   rcases qbt hq with ⟨q',hq',e1,e2⟩ | rfl
   ·rw [← e2];exact hk q' hq' ks (e1.trans eq)
   ·dsimp only at eq ⊢
    rw [eq] at hkey
    exact hkey.2
  ·intro q hq
   rcases qbt hq with ⟨q',hq',e1,_⟩ | rfl
   ·rw [← e1];exact hkd q' hq'
   ·exact hom p hpm
  ·have:=jl kvs p.1 p.2.1 p.2.2
   omega
  ·refine hR h3 tk3 ep3 ?_ k3
   rw [hdrop]
   exact d3
end
section
variable {prog:Program} {w:World} {A:Around} {E:Value->Shared->Prop} {s:Shared}
theorem qbY {l:Addr} {its:Array Value} {n:Nat} {sl:Array (Option Value)} (tr:List (KX×Addr×V)) {Q:Value->Shared->Prop} (hA:A.handled=none) (hu:A.units + 8 < cLine) (hb:sysModules < s.heap.objs.size)
  (hx:s.heap.get? l=some { cls:=.type "list", dict:=none,data:=.seq its n,slots:=sl }) (hl:s.heap.IsList l its) (hsz:its.size=tr.length) (hP:∀ (j:Nat) (u:Value),its[j]?=some u->∃ p,tr[j]?=some p/\qbT s.heap p u) (kd:Bool) (hom:∀ p∈tr,kxI p.1=kd) (h900:tr.length <= 900)
  (h:∀ h' tk ep',qU s.heap.objs.size (putAll [] tr) ep' h'->(∀ b o,s.heap.get? b=some o->h'.get? b=some o)->Q (.ref s.heap.objs.size) { s with heap:=h',toks:=tk }) :
  wpAny (model prog w) A (call (.type "dict") [.ref l]) Q E s:=by
 have lt:∀ {b:Addr} {o:Obj},s.heap.get? b=some o->b < s.heap.objs.size:=fun e=>Heap.lt_size e
 refine callType_codes (Q₁:=fun obj s₁=>obj=Value.ref s.heap.objs.size/\s₁={ s with heap:=s.heap.push { cls:=.type "dict", data:=.dict #[] } }) F.kt_called_dict (F.kt_typeCall_dict_1 _) F.entry_dict_init (kt_code_dict_new _ ⟨rfl,rfl⟩) fun obj s₁ hobj=>?_
 obtain ⟨rfl,rfl⟩:=hobj
 have dct:qU s.heap.objs.size [] 0 (s.heap.push { cls:=.type "dict", data:=.dict #[] }):=⟨Nat.zero_le _,beq_eq_false_iff_ne.mpr (Ne.symm (Nat.ne_of_lt hb)),.inl ⟨[],.nil,_,#[],Heap.get?_push_size _ rfl,⟨rfl,rfl,rfl⟩,rfl,rfl,List.nodup_nil⟩⟩
 have hT:(⟨s.heap.push { cls:=.type "dict", data:=.dict #[] },s.gens,s.drawn,s.toks,s.os⟩:Shared).TypeIs (.ref s.heap.objs.size) "dict" := ⟨_,Heap.get?_push_size _ rfl,rfl⟩
 have hx1:=Heap.get?_push_of_some { cls:=.type "dict", data:=.dict #[] } hx
 refine ⟨hT,F.args_dict_init_2 _ _,?_⟩
 unfold Builtin.«dict.__init__» Builtin.Dict.selfAndRest
 refine wpAny_bind (wpAny_bind (wpAny_notOrdered_dict hT ?_))
 refine (wpAny_pure ?_:wpAny _ _ (pure (s.heap.objs.size,[Value.ref l])) _ _ _)
 show wpAny _ _ (Builtin.Dict.updateFrom "dict.__init__" s.heap.objs.size (.ref l) [] .none) _ _ _
 unfold Builtin.Dict.updateFrom
 refine wpAny_bind (wpAny_typeOf (T := "list") ⟨_,hx1,rfl⟩ ?_)
 rw [if_pos (by decide)]
 have hin:(A.in1.in1).handled=none:=hA
 refine wpAny_bind (qhH hx1 hin fun h' tk kp=>?_)
 have k1:∀ b o,s.heap.get? b=some o->h'.get? b=some o:=fun b o e=>kp b o (Heap.get?_push_of_some _ e)
 have hll:=lt hx
 have hD':s.heap.objs.size < h'.objs.size:=Heap.lt_size (kp _ _ (Heap.get?_push_size _ rfl))
 have hl':h'.IsList l its:=hl.at fun o e=>k1 l o e
 rw [if_pos (show (none:Option Value).isNone=true from rfl)]
 refine wpAny_bind (wpAny_rule (wpAny_bind (wpAny_pyIter_list (s:={ s with heap:=h',toks:=tk }) hl' (wpAny_pure ⟨plainId_quiet Qv _,?_⟩))))
 have W:=Walks.list (prog:=prog) (w:=w) (A:=A.in1.in1) hin h'.objs.size l (Nat.ne_of_lt (Nat.lt_trans hll hD')) its
 rw [hsz] at W
 refine qfR (h0:=s.heap) (by show A.units + 1 + 1 + 3 < cLine;omega) tr W hP ?_ (fun b o e=>?_) kd hom h900 _ 0 _ [] 0 0 0 rfl (Nat.zero_le _) ⟨⟨_,Heap.get?_push_size _ rfl,rfl,rfl⟩,hl'.push _⟩ ?_ (fun p hp=>nomatch hp) (fun p hp=>nomatch hp) (Nat.zero_le _) (fun b o e=>Heap.get?_push_of_some _ (k1 b o e)) fun h2 tk2 ep2 d2 k2=>⟨rfl,h h2 tk2 ep2 (by rw [List.drop_zero] at d2;exact d2) k2⟩
 ·intro hm
  simp only [List.mem_cons,List.not_mem_nil,or_false] at hm
  rcases hm with hm | hm
  ·exact Nat.ne_of_lt hD' hm
  ·exact Nat.ne_of_gt hll hm
 ·have:=lt e
  refine ⟨fun hm=>?_,Nat.ne_of_lt this⟩
  have e2:b=h'.objs.size:=List.mem_singleton.mp hm
  exact absurd (Nat.lt_trans this hD') (by rw [e2];exact Nat.lt_irrefl _)
 ·exact (dct.but fun o e=>kp _ o e).but fun o e=>Heap.get?_push_of_some _ e
end
section
variable {K:PySem.W.Frag} {H:Hp} {S:Av}
noncomputable def prOf:PyData->Option (KX×PyData)
 | .tuple [k,v]=>ob (kxOf k) fun ks=>some (ks,v)
 | _=>none
noncomputable def Wn:List PyData->Option (List (KX×PyData))
 | []=>some []
 | d :: ds=>ob (prOf d) fun p=>ob (Wn ds) fun ps=>some (p :: ps)
noncomputable def yo (kvs:List (PyData×PyData)):List (KX×PyData)->List (PyData×PyData)
 | []=>kvs
 | p :: ps=>yo (putD kvs p.1 p.2) ps
noncomputable def WR:List PyData->Option PyData
 | [.list ds]=>ob (Wn ds) fun ps=>if ((ps.all fun p=>kxI p.1)=true\/(ps.all fun p=>!kxI p.1)=true)/\ps.length <= 900 then some (.dict (yo [] ps)) else none
 | _=>none
theorem YQ:∀ (ps:List (KX×PyData)) (tr kvs:List (KX×Addr×V)) (ds:List PyData),tr.map (·.1)=ps.map (·.1)->DenL K H S (tr.map fun p=>kxV p.1 p.2.1) (tr.map fun p=>kxD p.1)->DenL K H S (tr.map (·.2.2)) (ps.map (·.2))->
  DenL K H S (kvs.map fun p=>kxV p.1 p.2.1) (kvs.map fun p=>kxD p.1)->DenL K H S (kvs.map (·.2.2)) ds->
  DenL K H S ((putAll kvs tr).map fun p=>kxV p.1 p.2.1) ((putAll kvs tr).map fun p=>kxD p.1)/\∃ ds',DenL K H S ((putAll kvs tr).map (·.2.2)) ds'/\dkv (putAll kvs tr) ds'=yo (dkv kvs ds) ps
 | [],[],kvs,ds,_,_,_,k,t=>⟨k,ds,t,rfl⟩
 | [],_ :: _,_,_,e,_,_,_,_=>nomatch e
 | _ :: _,[],_,_,e,_,_,_,_=>nomatch e
 | p :: ps,q :: tr,kvs,ds,e,hk,hv,k,t=>by
  cases hk with
  | cons dk hk' =>
   cases hv with
   | cons dv hv' =>
    have e1:q.1=p.1:=(List.cons.inj e).1
    obtain ⟨ds',h1,h2⟩:=qbx (b:=q.2.1) t dv (Jd q.1 t)
    have:=YQ ps tr (putV kvs q.1 q.2.1 q.2.2) ds' (List.cons.inj e).2 hk' hv' (qbu k dk) h1
    rw [h2] at this
    rw [show yo (dkv kvs ds) (p :: ps)=yo (putD (dkv kvs ds) q.1 p.2) ps from by rw [e1];rfl]
    exact this
end
section
variable {X:Cx} {pins:List (Addr×Obj)} {σ:St} {H:Hp} {s:Shared} {S:Av}
theorem qgn (I:Inv X pins σ H s):∀ {vs:List V} {ds:List PyData} {ps:List (KX×PyData)} {us:List Value},DenL X.K H S vs ds->Wn ds=some ps->Vals vs us->
  ∃ tr:List (KX×Addr×V),tr.map (·.1)=ps.map (·.1)/\DenL X.K H S (tr.map fun p=>kxV p.1 p.2.1) (tr.map fun p=>kxD p.1)/\DenL X.K H S (tr.map (·.2.2)) (ps.map (·.2))/\Paired (qbT s.heap) tr us
 | _,_,_,_,.nil,e,r=>by
  cases e
  cases r
  exact ⟨[],rfl,.nil,.nil,.nil⟩
 | _,_,_,_,.cons d t,e,r=>by
  obtain ⟨p,e1,e⟩:=qi e
  obtain ⟨ps',e2,e⟩:=qi e
  cases e
  cases r with
  | @cons _ u _ us' r0 r' =>
   obtain ⟨tr,a1,a2,a3,a4⟩:=qgn I t e2 r'
   unfold prOf at e1
   split at e1
   ·rename_i k v
    obtain ⟨ks,e3,e1⟩:=qi e1
    cases e1
    obtain ⟨a,xs,rfl,ht,dt⟩:=d.tuple_inv
    cases (show u=Value.ref a from r0)
    obtain ⟨y,z,rfl,dy,dz⟩:=dt.inv2
    obtain ⟨its,rv,it,_⟩:=I.tuple ht
    cases rv with
    | @cons _ ky _ rest ry rv' =>
     obtain ⟨vz,rfl,rz⟩:∃ vz,rest=[vz]/\RelV z vz:=by
      cases rv' with
      | cons rz rn=>cases rn;exact ⟨_,rfl,rz⟩
     cases Qm e3
     obtain ⟨o,g1,g2,n,g3⟩:=it
     cases ks with
     | inl i =>
      obtain ⟨rfl,tk,rfl⟩:=ZL dy ry
      exact ⟨(.inl i,0,z) :: tr,by rw [List.map_cons,a1];rfl,.cons dy a2,.cons dz a3,.cons ⟨a,o,_,_,n,rfl,g1,g2,g3,⟨tk,rfl⟩,rz⟩ a4⟩
     | inr kk =>
      obtain ⟨b,rfl,rfl,is⟩:=key_is I (show Den X.K H S y (k2T kk) from dy) ry
      exact ⟨(.inr kk,b,z) :: tr,by rw [List.map_cons,a1];rfl,.cons dy a2,.cons dz a3,.cons ⟨a,o,_,_,n,rfl,g1,g2,g3,⟨rfl,is⟩,rz⟩ a4⟩
   ·cases e1
theorem Wg {α β:Type} {R:α->β->Prop}:∀ {as:List α} {bs:List β} {j:Nat} {b:β},Paired R as bs->bs[j]?=some b->∃ a,as[j]?=some a/\R a b
 | _,_,_,_,.nil,h=>by simp at h
 | _,_,0,_,.cons r _,h=>by cases h;exact ⟨_,rfl,r⟩
 | _,_,j + 1,_,.cons _ t,h=>by
  obtain ⟨a,ha,r⟩:=Wg t (j:=j) (by simpa using h)
  exact ⟨a,by simpa using ha,r⟩
theorem qgS {k:Nat} (hr:Room k X.A):qat X (.type "dict") WR:=fun pins s σ H xs us Q I r ⟨S,ds,d,m,h1,e,q⟩=>by
 unfold WR at e
 split at e
 ·rename_i ls
  obtain ⟨ps,e1,e⟩:=qi e
  split at e
  ·rename_i hc
   cases e
   obtain ⟨v1,rfl,d1⟩:=h1.inv1
   obtain ⟨u1,rfl,r1⟩:=r.one
   cases d1 with
   | @list a ys _ hs t =>
    cases (show u1=Value.ref a from r1)
    obtain ⟨its,rv,p,hz⟩:=I.list hs.sq
    obtain ⟨tr,a1,a2,a3,a4⟩:=qgn I t e1 rv
    have hb:sysModules < s.heap.objs.size:=Nat.lt_trans (by decide) (show mainGlobals < s.heap.objs.size from (I.mod.glob.keeps I.bk).lt)
    have hn:=I.hok.fresh (Nat.le_refl s.heap.objs.size)
    have hu:=hr.units
    have hlp:tr.length=ps.length:=by
     have:=congrArg List.length a1
     rwa [List.length_map,List.length_map] at this
    have hkd:∃ kd,∀ p∈tr,kxI p.1=kd:=by
     have step:∀ p∈tr,∃ p'∈ps,p'.1=p.1:=fun p hp=>by
      have:p.1∈ps.map (·.1):=by rw [← a1];exact List.mem_map.mpr ⟨p,hp,rfl⟩
      obtain ⟨p',h1,h2⟩:=List.mem_map.mp this
      exact ⟨p',h1,h2⟩
     rcases hc.1 with hc | hc
     ·exact ⟨true,fun p hp=>let ⟨p',h1,h2⟩:=step p hp;h2 ▸ List.all_eq_true.mp hc p' h1⟩
     ·refine ⟨false,fun p hp=>?_⟩
      obtain ⟨p',h1,h2⟩:=step p hp
      have:=List.all_eq_true.mp hc p' h1
      rw [h2] at this
      simpa using this
    obtain ⟨kd,hom⟩:=hkd
    have il:=p.isList
    obtain ⟨o,n,ho,hc1,hc2,hc3⟩:=p
    obtain ⟨c0,c1,c2,c3⟩:=o
    dsimp only at hc1 hc2 hc3
    subst hc1 hc2 hc3
    refine qbY (its:=its.toArray) tr hr.hd (by omega) hb ho ?_ (by rw [List.size_toArray,← a4.length]) (fun j u hj=>?_) kd hom (by omega) fun h' tk ep' dd kp=>?_
    ·exact il
    ·rw [List.getElem?_toArray] at hj
     exact Wg a4 hj
    ·have I1:=I.laid (a:=s.heap.objs.size) (o:=DctO s.heap.objs.size (putAll [] tr) ep') (t':=tk) kp (Nat.le_refl _) dd.ok
     have g0:Same H (upd H s.heap.objs.size (DctO s.heap.objs.size (putAll [] tr) ep')):=Same.lay hn
     obtain ⟨b1,ds',b2,b3⟩:=YQ ps tr [] [] a1 a2 a3 .nil .nil
     have b3:dkv (putAll [] tr) ds'=yo [] ps:=b3
     have sub:∀ {vs es},DenL X.K H S vs es->DenL X.K (upd H s.heap.objs.size (DctO s.heap.objs.size (putAll [] tr) ep')) (insA S s.heap.objs.size) vs es:=fun t=>(t.sub fun a ha z=>z.elim id fun y=>absurd (by rw [y];exact hn) ha).same g0
     refine ⟨.ref s.heap.objs.size,_,I1,rfl,q _ _ g0 hn ?_⟩
     rw [← b3]
     exact .dct qK (sub b1) (sub b2)
  ·cases e
 ·cases e
end
noncomputable def qiq (X:Cx) (f:Value) (k:Str) (g:PyData->PyData->Option PyData):Prop :=
 ∀ (pins:List (Addr×Obj)) (s:Shared) (σ:St) (H:Hp) (x z:V) (u w:Value) (Q:VK),Inv X pins σ H s->RelV x u->RelV z w->(∃ S dl dd d,Dm S H/\Den X.K H S x dl/\Den X.K H S z dd/\g dl dd=some d/\∀ v H',Same H H'->Den X.K H' S v d->Q v H')->
  wpAny (model X.prog X.w) X.A (call f [u] [(k,w)]) (EP X pins σ Q) X.xe s
section
variable {X:Cx} {M:List Nat} {a b:Expr} {fa fb:Rho->Option PyData} {pos:Pos}
theorem qdf {y:V} {us:List Value} (r:Vals [y] us):∃ u,us=[u]/\RelV y u:=by
 cases r with
 | cons a t=>cases t;exact ⟨_,rfl,a⟩
theorem qd7 {id:String} {x k:Str} {p kp:Pos} {h:PyData->PyData->Option PyData} (hc:qiq X (.builtin id) k h) (hg:Gl X x) (hm:X.mg x=none) (hv:bootBuiltins x=some (.builtin id)) (ha:PD X M a fa) (hb:PD X M b fb) (hn:x ≠ "__name__" := by decide +kernel) (hdb:(x == ("__debug__" : Str))=false:=by decide +kernel)
  (he:starEach [a] X.env=(false,eval a X.env) :: starEach [] X.env:=by rfl) (he2:backTo pos (starEach [a] X.env)=(false,eval a X.env) :: backTo pos (starEach [] X.env):=by rfl) (hpl:(backTo pos (starEach [a] X.env)).any (·.1)=false:=by rfl)
  (hall:(backToKw pos (keywordEach [⟨some k,b,kp⟩] X.env)).all (·.1.isSome)=true:=by rfl) (hks:(backToKw pos (keywordEach [⟨some k,b,kp⟩] X.env)).filterMap (·.1)=[k]:=by rfl)
  (hkw:(backToKw pos (keywordEach [⟨some k,b,kp⟩] X.env)).any (·.1.isNone)=false:=by rfl):PD X M (.Call (.Name x p) [a] [⟨some k,b,kp⟩] pos) (ev2 fa fb h):=fun pins s σ H Q I ⟨S,ρ,d,hs,e,q⟩=>by
 obtain ⟨dx,e1,e⟩:=qi e
 obtain ⟨dy,e2,e⟩:=qi e
 refine wpAny_Call_Name_kw (jT I hg hm hv ?_ hn hdb)
 refine callWith_kw (thn (qd ha qj he pos pins s σ H (fun vs H1=>Same H H1/\DenL X.K H1 S vs [dx]) I ⟨S,ρ,[dx],hs,by show ob (fa ρ) _=_;rw [e1];rfl,fun vs H1 g d=>⟨g,d⟩⟩) fun us s1 ⟨vs,H1,I1,r,g1,d1⟩=>?_) he2 hpl hall hkw
 refine thn (qh1 hb qj9 pos pins s1 σ H1 (fun zs H2=>∃ z,zs=[z]/\Same H1 H2/\Den X.K H2 S z dy) I1 ⟨S,ρ,dy,hs.same g1,e2,fun z H2 g d=>⟨z,rfl,g,d⟩⟩) fun ws s2 ⟨zs,H2,I2,rz,z,hz,g2,d2⟩=>?_
 subst hz
 obtain ⟨v,rfl,dv⟩:=d1.inv1
 obtain ⟨u,rfl,ru⟩:=qdf r
 obtain ⟨w,rfl,rw'⟩:=qdf rz
 rw [hks]
 exact hc pins s2 σ H2 v z u w Q I2 ru rw' ⟨S,dx,dy,d,(hs.1.same g1).same g2,dv.same g2,d2,e,fun v' H' g3 d3=>q v' H' ((g1.trans g2).trans g3) d3⟩
end
section
variable {s:Shared} {prog:Program} {w:World} {A:Around} {E:Value->Shared->Prop}
theorem qa7 (a d:Value):checkBuiltinCall "min" ⟨[a],[(("default" : Str),d)]⟩=pure ():=by kernel_rfl
theorem qfZ {l:Addr} {d:Value} {Q:Value->Shared->Prop} (hh:A.handled=none) (hl:s.heap.IsList l #[])
  (h:∀ g tk,(∀ b o,s.heap.get? b=some o->g.get? b=some o)->Q d { s with heap:=g,toks:=tk }):wpAny (model prog w) A (call (.builtin "min") [.ref l] [(("default" : Str),d)]) Q E s:=by
 have nm:(toString "min" ++ toString ".loop" : String) = "min.loop" := by decide
 have lt:∀ {b:Addr} {o:Obj},s.heap.get? b=some o->b < s.heap.objs.size:=fun e=>Heap.lt_size e
 have hll:l < s.heap.objs.size:=by obtain ⟨o,e,_⟩:=id hl;exact lt e
 refine wpAny_call (codeAny_call_builtin F.plain_min F.entry_min (wpAny_of_eq (qa7 _ _) ?_))
 have par:Builtin.Builtins.bindParams "min" ["key", "default"] 0 ⟨[],[(("default" : Str),d)]⟩=pure [none,some d]:=rfl
 refine (wpAny_bind (wpAny_of_eq par ?_):wpAny _ A.in1 (Builtin.Builtins.bindParams "min" _ 0 _ >>= _) _ _ s)
 refine wpAny_bind (wpAny_pure (wpAny_bind (wpAny_pyIter_list hl (wpAny_bind (wpAny_newObj_type ?_)))))
 rw [nm]
 refine wpAny_pure ⟨plainId_quiet F.plain_min_loop _,?_⟩
 have W:=Walks.list (prog:=prog) (w:=w) (A:=A.in1) hh s.heap.objs.size l (Nat.ne_of_lt hll) #[]
 refine codeAny_builtin F.entry_min_loop ?_;rw [Around.under_plainId F.plain_min_loop _]
 show wpAny _ A.in1 (seqItems? (.ref _) >>= _) _ _ _
 refine wpAny_bind (wpAny_seqItems (Heap.get?_push_size _ rfl) rfl ?_)
 show wpAny _ A.in1 (tryCatch (pyNext (.ref s.heap.objs.size)) _ >>= _) _ _ _
 refine wpAny_bind (wpAny_tryCatch (W.done _ _ _ ⟨⟨_,Heap.get?_push_of_some _ (Heap.get?_push_size _ rfl),rfl,rfl⟩,(hl.push _).push _⟩ fun g tk k=>?_))
 refine wpAny_bind (wpAny_rule (wpAny_pure (h g tk fun b o e=>k b o (fun hm=>absurd (List.mem_singleton.mp hm) (Nat.ne_of_lt (lt e))) (Heap.get?_push_of_some _ (Heap.get?_push_of_some _ e)))))
theorem qgz {l:Addr} {d:Value} {items:Array Value} {bt:Nat->Nat->Bool} {Q:Value->Shared->Prop} (hh:A.handled=none) (hl:s.heap.IsList l items) (hn:0 < items.size)
  (hc:∀ (i j:Nat) (x y:Value) (s':Shared) (Q' E':Value->Shared->Prop),j < i->(∀ b o,s.heap.get? b=some o->s'.heap.get? b=some o)->items[i]?=some x->items[j]?=some y->Q' (.bool (bt i j)) s'->wpAny (model prog w) A.in1 (richCompare .Lt x y) Q' E' s')
  (h:∀ v g tk,items[bestOf bt (items.size - 1)]?=some v->(∀ b o,s.heap.get? b=some o->g.get? b=some o)->Q v { s with heap:=g,toks:=tk }):wpAny (model prog w) A (call (.builtin "min") [.ref l] [(("default" : Str),d)]) Q E s:=by
 have nm:(toString "min" ++ toString ".loop" : String) = "min.loop" := by decide
 have lt:∀ {b:Addr} {o:Obj},s.heap.get? b=some o->b < s.heap.objs.size:=fun e=>Heap.lt_size e
 have hll:l < s.heap.objs.size:=by obtain ⟨o,e,_⟩:=id hl;exact lt e
 refine wpAny_call (codeAny_call_builtin F.plain_min F.entry_min (wpAny_of_eq (qa7 _ _) ?_))
 have par:Builtin.Builtins.bindParams "min" ["key", "default"] 0 ⟨[],[(("default" : Str),d)]⟩=pure [none,some d]:=rfl
 refine (wpAny_bind (wpAny_of_eq par ?_):wpAny _ A.in1 (Builtin.Builtins.bindParams "min" _ 0 _ >>= _) _ _ s)
 refine wpAny_bind (wpAny_pure (wpAny_bind (wpAny_pyIter_list hl (wpAny_bind (wpAny_newObj_type ?_)))))
 rw [nm]
 refine wpAny_pure ⟨plainId_quiet F.plain_min_loop _,qd3 (h0:=s.heap) (Walks.list (A:=A.in1) hh _ l (Nat.ne_of_lt hll) items) bt (fun i j u v s' Q' E' hij k hu hv q=>hc i j u v s' Q' E' hij k hu hv q) _ ?_ (fun b o e=>?_) [(("default" : Str),d)] hn
  ⟨⟨_,Heap.get?_push_of_some _ (Heap.get?_push_size _ rfl),rfl,rfl⟩,(hl.push _).push _⟩ (fun b o e=>Heap.get?_push_of_some _ (Heap.get?_push_of_some _ e)) (Heap.get?_push_size _ rfl) fun v g tk hv k=>?_⟩
 ·simp only [Heap.size_push]
  intro hm;simp only [List.mem_cons,List.not_mem_nil,or_false] at hm
  rcases hm with hm | hm
  ·exact Nat.succ_ne_self _ hm
  ·exact absurd hm (Nat.ne_of_gt (Nat.lt_succ_of_lt hll))
 ·have:=lt e
  simp only [Heap.size_push]
  exact ⟨fun hm=>absurd (List.mem_singleton.mp hm) (Nat.ne_of_lt this),Nat.ne_of_lt (Nat.lt_succ_of_lt this)⟩
 ·refine h v g tk hv fun b o e=>k b o ?_ ?_ (Heap.get?_push_of_some _ (Heap.get?_push_of_some _ e))
  ·exact fun hm=>absurd (List.mem_singleton.mp hm) (Nat.ne_of_lt (lt e))
  ·have:=lt e
   simp only [Heap.size_push]
   exact Nat.ne_of_lt (Nat.lt_succ_of_lt this)
end
section
variable {X:Cx}
noncomputable def qda:PyData->PyData->Option PyData
 | .list [],d=>some d
 | .list (x :: ds),_=>qiV [.list (x :: ds)]
 | _,_=>none
theorem qjd {k:Nat} (hr:Room k X.A):qiq X (.builtin "min") "default" qda:=fun pins s σ H x z u wv Q I r rz ⟨S,dl,dd,d,m,h1,h2,e,q⟩=>by
 unfold qda at e
 split at e
 ·cases e
  cases h1 with
  | @list a ys _ hs t =>
   cases (show u=Value.ref a from r)
   obtain ⟨its,rv,p,hz⟩:=I.list hs.sq
   cases t
   cases rv
   exact qfZ hr.hd p.isList fun g tk kp=>⟨z,H,I.kept kp,rz,q _ H (Same.refl H) h2⟩
 ·rename_i d0 ls
  unfold qiV at e
  dsimp only at e
  split at e
  ·rename_i hc
   cases h1 with
   | @list a ys _ hs t =>
    cases (show u=Value.ref a from r)
    obtain ⟨its,rv,p,hz⟩:=I.list hs.sq
    have hl:=rv.length
    have ht:=t.length
    have hu:=hr.units
    have get:∀ {i:Nat} {x:Value},its.toArray[i]?=some x->∃ y d,ys[i]?=some y/\RelV y x/\(d0 :: ls)[i]?=some d/\Den X.K H S y d:=fun {i x} hx=>by
     rw [List.getElem?_toArray] at hx
     obtain ⟨y,hy,ry⟩:=Vals.back rv hx
     obtain ⟨d,hd,dd⟩:=t.back hy
     exact ⟨y,d,hy,ry,hd,dd⟩
    have ok:=List.all_eq_true.mp hc.1
    have hsz:its.toArray.size=(d0 :: ls).length:=by simp;simp at ht;omega
    refine qgz (bt:=yz (d0 :: ls)) hr.hd p.isList (by rw [hsz];exact Nat.zero_lt_succ _) (fun i j x y s' Q' E' hij kp hx hy q'=>?_) fun v g tk hv kp=>?_
    ·obtain ⟨vx,dx,_,rx,ex,gx⟩:=get hx
     obtain ⟨vy,dy,_,ry,ey,gy⟩:=get hy
     obtain ⟨as,rx2⟩:=gx.reads I rx
     obtain ⟨bs,ry2⟩:=gy.reads I ry
     have ox:=ok dx (List.mem_of_getElem? ex)
     have oy:=ok dy (List.mem_of_getElem? ey)
     rw [Bool.and_eq_true,Bool.and_eq_true] at ox oy
     have lt:=List.all_eq_true.mp ox.2 dy (List.mem_of_getElem? ey)
     obtain ⟨b,eb⟩:=Option.isSome_iff_exists.mp lt
     have ebt:yz (d0 :: ls) i j=b:=by unfold yz;rw [ex,ey];show (ltX dx dy).getD false=b;rw [eb];rfl
     rw [ebt] at q'
     exact jU 50 _ _ X.A.in1 s' x y as bs b (of_decide_eq_true ox.1.2) (Reads.keeps kp rx2) (Reads.keeps kp ry2) (SeqAt.canLay_of_shaped ox.1.1) (SeqAt.canLay_of_shaped oy.1.1) (by show X.A.units + 1 + 50 + 1 < cLine;omega) eb X.prog X.w E' Q' q'
    ·obtain ⟨vx,dx,_,rx,ex,gx⟩:=get hv
     rw [hsz,e] at ex
     cases ex
     exact ⟨vx,H,I.kept kp,rx,q _ H (Same.refl H) gx⟩
  ·cases e
 ·cases e
end
end L2
namespace L2
open PySem
theorem qgw (i:Nat) (f:Rho->Option PyData) (ρ:Rho):YX i f ρ=takO (decide (i < ρ.length/\ρ.length <= 1000)) (f ρ) i ρ:=by
 unfold YX ob takO
 by_cases h:i < ρ.length/\ρ.length <= 1000
 ·rw [if_pos h,decide_eq_true h]
  cases f ρ<;>rfl
 ·rw [if_neg h,decide_eq_false h]
noncomputable def nxdO (o:Option PyData) (i:Nat) (ρ:Rho):Option Out:=match o with | some l=>some (.nx (ρ.set i (some l))) | none=>none
theorem qjL (l:PyData) (i:Nat) (ρ:Rho):nxdO (some l) i ρ=some (.nx (ρ.set i (some l))):=rfl
noncomputable def dpO (d l k:Option PyData) (i:Nat) (ρ:Rho):Option Out:=match d,l,k with | some d,some l,some k=>nxdO (Yo l k d) i ρ | _,_,_=>none
theorem dpO_s (d l k:PyData) (i:Nat) (ρ:Rho):dpO (some d) (some l) (some k) i ρ=nxdO (Yo l k d) i ρ:=rfl
theorem qig (i:Nat) (fk f:Rho->Option PyData) (ρ:Rho):JC i fk f ρ=dpO (f ρ) (vr i ρ) (fk ρ) i ρ:=by
 unfold JC dpO ob
 cases f ρ with
 | none=>rfl
 | some d =>
  cases vr i ρ with
  | none=>rfl
  | some l =>
   cases fk ρ with
   | none=>rfl
   | some k =>
    dsimp only
    unfold nxdO
    cases Yo l k d<;>rfl
noncomputable def triO (a b c:Option PyData) (r:PyData->PyData->PyData->Option PyData):Option PyData:=match a,b,c with | some x,some y,some z=>r x y z | _,_,_=>none
theorem qkD (x y z:PyData) (r:PyData->PyData->PyData->Option PyData):triO (some x) (some y) (some z) r=r x y z:=rfl
theorem ev3_b (f g h:Rho->Option PyData) (r:PyData->PyData->PyData->Option PyData) (ρ:Rho):ev3 f g h r ρ=triO (f ρ) (g ρ) (h ρ) r:=by
 unfold ev3 triO ob
 cases f ρ<;>cases g ρ<;>cases h ρ<;>rfl
end L2
namespace L2
open PySem PySem.Spec PyProof.Rows
section
variable {K:PySem.W.Frag} {G:Gm} {M L:List Nat} {H H':Hp} {S:Av} {σ:St} {ρ:Rho} {d:PyData}
theorem OwnS.more (h:OwnS K G M L H S σ ρ) {q:Addr} (hn:H q=none) (e:Same H H') (hq:∃ o,H' q=some o/\Z8 o=true):OwnS K G M L H' (insA S q) σ ρ:=by
 have sub:∀ a,H a≠none->insA S q a->S a:=fun a ha z=>by
  rcases z with z | rfl
  ·exact z
  ·exact absurd hn ha
 obtain ⟨F,f⟩:=h.deep
 refine ⟨⟨(h.ds.1.same e).ins hq,h.ds.2.1,fun j d' hj w=>let ⟨v,a,b⟩:=h.ds.2.2 j d' hj w;⟨v,a,(b.sub sub).same e⟩⟩,fun a z=>.inl (h.s0 a z),h.h0.trans e,fun j hj d' w=>?_,h.apart,fun a z=>?_,h.lkd,F,fun j hj d' w=>?_,f.disj,f.flat⟩
 ·obtain ⟨p,a,b,c,n⟩:=h.own j hj d' w
  exact ⟨p,a,(b.sub sub).same e,.inl c,n⟩
 ·rcases z with z | rfl
  ·exact h.bnd a z
  ·exact .inr (.inl (h.h0.free hn))
 ·obtain ⟨p,a,b,c⟩:=f.own j hj d' w
  exact ⟨p,a,(b.sub sub).same e,fun r hr=>⟨.inl (c r hr).1,(c r hr).2⟩⟩
theorem OwnS.growD (h:OwnS K G M L H S σ ρ) {F:Nat->List Addr} (f:DeepF K G M H S σ ρ F) {p q2 q:Addr} {fp:List Addr} {i:Nat} {o:HO} {d₀:PyData} (hi:Dp M i) (e0:ρ[i]?=some (some d₀)) (e1:σ[i]?=some (some (.ref p))) (hq:q2∈F i) (hm:Z8 o=true) (ow:DeepO K (upd H q2 o) S fp p d)
  (hfp:∀ r∈fp,r∈F i\/r=q) (sq:S q) (nq:¬ G.S0 q) (zq:G.H0 q=none) (dq:∀ j,Dp M j->Has ρ j->q∉F j) (fq:∀ j,Flt M j->Has ρ j->σ[j]?≠some (some (.ref q))) :
  OwnS K G M L (upd H q2 o) S σ (ρ.set i (some d)):=by
 obtain ⟨p',a,b,cc⟩:=f.own i hi d₀ e0
 rw [e1] at a;cases a
 obtain ⟨c,n,w⟩:=cc q2 hq
 have off:Off S H (upd H q2 o):=fun b u z e=>by
  rw [qD (fun y=>z (by rw [y];exact c))];exact e
 have hz:i < ρ.length:=(List.getElem?_eq_some_iff.mp e0).1
 have get:∀ m d',(ρ.set i (some d))[m]?=some (some d')->∃ d'',ρ[m]?=some (some d''):=fun m d' q=>by
  by_cases him:i=m
  ·subst him;exact ⟨_,e0⟩
  ·rw [qp him] at q;exact ⟨_,q⟩
 have get2:∀ m,Has (ρ.set i (some d)) m->Has ρ m:=fun m ⟨d',q⟩=>get m d' q
 have dne:∀ j,Flt M j->i≠j:=fun j hj z=>hj.2 (by rw [← z];exact hi.2)
 have fne:∀ j,j≠i->(if j=i then fp else F j)=F j:=fun j hj=>if_neg hj
 refine ⟨⟨h.ds.1.upd hm,by rw [List.length_set];exact h.ds.2.1,fun j d' hj q=>?_⟩,h.s0,fun a u q=>?_,fun j hj d' q=>?_,fun j hj k hk d1 d2 q h1 h2 h3 h4=>?_,h.bnd,fun j hj=>⟨(h.lkd j hj).1,by rw [qp (dne j (h.lkd j hj).1)];exact (h.lkd j hj).2⟩,
  fun j=>if j=i then fp else F j,fun j hj d' y=>?_,fun j hj k hk h1 h2 r m1 m2=>?_,fun j hj k hk h1 h2 r h3=>?_⟩
 ·have hij:i≠j:=fun z=>hj (by rw [← z];exact hi.1)
  rw [qp hij] at q
  obtain ⟨v,a,b⟩:=h.ds.2.2 j d' hj q
  exact ⟨v,a,b.off h.ds.1 off⟩
 ·have e2:=h.h0 a u q
  by_cases ne:a=q2
  ·rw [ne,w] at q;cases q
  ·rw [qD ne];exact e2
 ·rw [qp (dne j hj)] at q
  obtain ⟨q',a,b',c',n',w'⟩:=h.own j hj d' q
  exact ⟨q',a,b'.upd h.ds.1 c hm (fun z=>by subst z;exact f.flat j hj i hi ⟨_,q⟩ ⟨_,e0⟩ _ a hq),c',n',w'⟩
 ·rw [qp (dne j hj)] at h1
  rw [qp (dne k hk)] at h2
  exact h.apart j hj k hk d1 d2 q h1 h2 h3 h4
 ·by_cases hij:j=i
  ·subst hij
   rw [List.getElem?_set_self hz] at y;cases y
   refine ⟨p,e1,by rw [if_pos rfl];exact ow,fun r hr=>?_⟩
   rw [if_pos rfl] at hr
   rcases hfp r hr with z | rfl
   ·exact cc r z
   ·exact ⟨sq,nq,zq⟩
  ·rw [qp (Ne.symm hij)] at y
   obtain ⟨q',a,b',c'⟩:=f.own j hj d' y
   rw [fne j hij]
   exact ⟨q',a,b'.upd h.ds.1 c (fun z=>hij (f.disj j hj i hi ⟨_,y⟩ ⟨_,e0⟩ _ z hq)),c'⟩
 ·by_cases ej:j=i<;>by_cases ek:k=i
  ·rw [ej,ek]
  ·rw [if_pos ej] at m1
   rw [fne k ek] at m2
   rcases hfp r m1 with z | rfl
   ·exact ej.trans (f.disj i hi k hk ⟨_,e0⟩ (get2 k h2) r z m2)
   ·exact absurd m2 (dq k hk (get2 k h2))
  ·rw [if_pos ek] at m2
   rw [fne j ej] at m1
   rcases hfp r m2 with z | rfl
   ·exact (f.disj j hj i hi (get2 j h1) ⟨_,e0⟩ r m1 z).trans ek.symm
   ·exact absurd m1 (dq j hj (get2 j h1))
  ·rw [fne j ej] at m1
   rw [fne k ek] at m2
   exact f.disj j hj k hk (get2 j h1) (get2 k h2) r m1 m2
 ·by_cases ek:k=i
  ·rw [if_pos ek]
   intro hr
   rcases hfp r hr with z | rfl
   ·exact f.flat j hj i hi (get2 j h1) ⟨_,e0⟩ r h3 z
   ·exact fq j hj (get2 j h1) h3
  ·rw [fne k ek]
   exact f.flat j hj k hk (get2 j h1) (get2 k h2) r h3
end
theorem qaQ (ks:K2):∀ {kvs:List (KX×Addr×V)} {xs:List (K2×Addr×Value)} {p0:KX×Addr×V},Paired PkT kvs xs->kvs.find? (fun p=>decide (p.1=.inr ks))=some p0->∃ b u,atKey xs ks=some (b,u)/\RelV p0.2.2 u
 | [],_,_,r,e=>by cases e
 | p :: kvs,_,p0,r,e=>by
  cases r with
  | @cons _ q _ qs h r' =>
   rw [List.find?_cons] at e
   by_cases z:p.1=.inr ks
   ·rw [decide_eq_true z] at e
    cases e
    have eq:q.1=ks:=Sum.inr.inj (h.1.symm.trans z)
    refine ⟨q.2.1,q.2.2,?_,h.2.2⟩
    unfold atKey
    rw [List.find?_cons,decide_eq_true eq];rfl
   ·rw [decide_eq_false z] at e
    obtain ⟨b,u,h1,h2⟩:=qaQ ks r' e
    refine ⟨b,u,?_,h2⟩
    have e':¬ q.1=ks:=fun y=>z (by rw [h.1,y])
    unfold atKey at h1 ⊢
    rw [List.find?_cons,decide_eq_false e']
    exact h1
theorem qaP (i:Int):∀ {kvs:List (KX×Addr×V)} {xs:List (Int×Value)} {p0:KX×Addr×V},Paired PkI kvs xs->kvs.find? (fun p=>decide (p.1=.inl i))=some p0->∃ u,valueAt xs i=some u/\RelV p0.2.2 u
 | [],_,_,r,e=>by cases e
 | p :: kvs,_,p0,r,e=>by
  cases r with
  | @cons _ q _ qs h r' =>
   rw [List.find?_cons] at e
   by_cases z:p.1=.inl i
   ·rw [decide_eq_true z] at e
    cases e
    have eq:q.1=i:=Sum.inl.inj (h.1.symm.trans z)
    refine ⟨q.2,?_,h.2⟩
    unfold valueAt
    rw [List.find?_cons,decide_eq_true eq];rfl
   ·rw [decide_eq_false z] at e
    obtain ⟨u,h1,h2⟩:=qaP i r' e
    refine ⟨u,?_,h2⟩
    have e':¬ q.1=i:=fun y=>z (by rw [h.1,y])
    unfold valueAt at h1 ⊢
    rw [List.find?_cons,decide_eq_false e']
    exact h1
noncomputable def qi0 (K:PySem.W.Frag):R2:=fun x y H Q=>∃ S a kvs ep ks p0,x=.ref a/\H a=some (DctO a kvs ep)/\DenL K H S (kvs.map fun p=>kxV p.1 p.2.1) (kvs.map fun p=>kxD p.1)/\(∀ p∈kvs,kxI p.1=kxI ks)/\Den K H S y (kxD ks)/\kvs.find? (fun p=>decide (p.1=ks))=some p0/\Q p0.2.2 H
theorem qfE {X:Cx} (hu:X.A.units + 64 < cLine):IxR X (qi0 X.K):=by
 intro value slice pins s σ H x y v u Q I rx ry h hs
 obtain ⟨S,p,kvs,ep,ks,p0,rfl,hp,k,hk,dy,e,q⟩:=h
 cases rx
 refine tail_any (Ji I hp).1 PySem.F.slot_dict_getitem.lookup ?_ hs
 cases ks with
 | inr ks =>
  obtain ⟨z,hs,xs,pk,dd⟩:=jy I hp k hk
  obtain ⟨b,rfl,rfl,hk⟩:=key_is I dy ry
  obtain ⟨b',w',e2,rv⟩:=qaQ ks pk e
  exact wpAny_getItem_heap (knd:=yh X.prog X.w) (Wq hu) hk dd e2 ⟨_,H,I.tok _,rv,q⟩
 | inl i =>
  obtain ⟨z,hs,vs,pk,dd⟩:=jx I hp hk
  obtain ⟨rfl,t',rfl⟩:=ZL dy ry
  obtain ⟨w',e2,rv⟩:=qaP i pk e
  exact wpAny_getItem_of (intKind_is _ _ i t') dd.mapOf e2 ⟨_,H,I.tok _,rv,q⟩
theorem Kids.add1 {K:PySem.W.Frag} {H:Hp} {S:Av} {q:Addr} (h:H q=some (.lst [])):∀ {qs:List Addr} {ds:List PyData},Kids K H S qs ds->q∉qs->Kids K H S (qs ++ [q]) (ds ++ [.list []])
 | _,_,.nil,_=>.cons h .nil (fun z=>nomatch z) .nil
 | _,_,.cons h' t n r,hn=>.cons h' t (fun z=>by
   rcases List.mem_append.mp z with z | z
   ·exact n z
   ·exact hn (by rw [← List.mem_singleton.mp z];exact .head _)) (Kids.add1 h r fun z=>hn (.tail _ z))
theorem DeepO.dict_inv {K:PySem.W.Frag} {H:Hp} {S:Av} {fp:List Addr} {p:Addr} {m:List (PyData×PyData)} (o:DeepO K H S fp p (.dict m)):∃ kvs ep qs ds,fp=p :: qs/\m=dkv kvs ds/\H p=some (DctO p kvs ep)/\DenL K H S (kvs.map fun p=>kxV p.1 p.2.1) (kvs.map fun p=>kxD p.1)/\kvs.map (·.2.2)=qs.map V.ref/\p∉qs/\Kids K H S qs ds:=by
 generalize hx:PyData.dict m=x at o
 cases o with
 | tpl h t=>cases hx
 | lst h n t=>cases hx
 | @dct _ kvs ep qs ds h k v n t=>cases hx;exact ⟨kvs,ep,qs,ds,rfl,rfl,h,k,v,n,t⟩
noncomputable def Jk (c k:PyData):Option PyData:=match c with
 | .dict kvs=>ob (kxOf k) fun ks=>if kOk kvs ks=true/\kvs.length < 900/\(qP kvs ks).isSome=false then some (.dict (kvs ++ [(kxD ks,.list [])])) else none
 | _=>none
theorem qb1 {c k c':PyData} (e:Jk c k=some c'):∃ kvs ks,c=.dict kvs/\k=kxD ks/\kOk kvs ks=true/\kvs.length < 900/\(qP kvs ks).isSome=false/\c'=.dict (kvs ++ [(kxD ks,.list [])]):=by
 unfold Jk at e
 split at e
 ·obtain ⟨ks,e1,e⟩:=qi e
  split at e
  ·rename_i hc;cases e;exact ⟨_,ks,rfl,Qm e1,hc.1,hc.2.1,hc.2.2,rfl⟩
  ·cases e
 ·cases e
noncomputable def YW (i:Nat) (fk:Rho->Option PyData):Rho->Option Out:=fun ρ=>ob (vr i ρ) fun c=>ob (fk ρ) fun k=>ob (Jk c k) fun c'=>some (.nx (ρ.set i (some c')))
section
variable {X:Cx} {G:Gm} {M M' Mb L:List Nat} {fr:Fr} {a b:Expr} {f fk:Rho->Option PyData} {pos lp:Pos}
theorem qgs:PV X M (.Dict [] [] pos) (kd (.dict [])):=YL.weak fun σ H Q ⟨S,ρ,d,hs,e,q⟩=>by
 cases e
 refine ⟨S,ρ,_,hs,rfl,fun p H' g n o=>q p [p] H' g (fun r hr=>by rw [List.mem_singleton.mp hr];exact n) ?_⟩
 have e1:insL S [p]=insA S p:=by
  funext a
  unfold insL insA
  simp
 rw [e1]
 generalize hx:PyData.dict []=x at o
 cases o with
 | lst h t=>cases hx
 | @dct kvs ep ds h k t =>
  have hl:kvs.length=ds.length:=by
   have:=t.length
   rwa [List.length_map] at this
  have hz:=WT hl
  rw [← PyData.dict.inj hx] at hz
  have:kvs=[]:=List.length_eq_zero_iff.mp hz.symm
  subst this
  cases t
  exact .dct h k rfl (fun z=>nomatch z) .nil
theorem qf8 {k:Nat} (hr:Room k X.A) (i:Nat) {x:Str} {px sp:Pos} (hv:Vis X.env.scope x) (hM:Dp M i) (hk:PD X M b fk) (hN:X.N[i]?=some x:=by rfl) (hd:(x == ("__debug__" : Str))=false:=by decide +kernel) (hcd:(x == ("__classdict__" : Str))=false:=by decide +kernel)
  (ha:∀ v,assign (.Subscript (.Name x px) b sp) X.env v=(do
   let ov ← holding [v] (eval (.Name x px) X.env)
   let iv ← holding [v,ov] (eval b X.env)
   standAt sp
   holding [v,ov,iv] (setItem ov iv v)
   release [v,ov,iv] []):=by intro _;rfl)
  (hs:swapsWithSole [.Subscript (.Name x px) b sp] (.List [] lp) pos.line X.env=pure false:=by rfl) (hw:swappedStores [.Subscript (.Name x px) b sp] (.List [] lp) X.env=pure none:=by rfl)
  (h1:(assignEach [.Subscript (.Name x px) b sp] X.env).map (·.2)=[assign (.Subscript (.Name x px) b sp) X.env]:=by rfl) :
  PDS X G M L M Mb fr (.Assign [.Subscript (.Name x px) b sp] (.List [] lp) pos) (YW i fk) :=
 (qcl (ZZ (M:=M) qj) (qcj (jY i hv hN hd hcd) hk (set_dict hr.units) ha) hs hw h1).weak fun D σ H ⟨S,ρ,o,os,e,q⟩=>by
  obtain ⟨c0,e1,e⟩:=qi e
  obtain ⟨k0,e2,e⟩:=qi e
  obtain ⟨c',e3,e⟩:=qi e
  cases e
  obtain ⟨m,ks,rfl,rfl,hok,hz,hf,rfl⟩:=qb1 e3
  refine ⟨S,ρ,.list [],os.ds,rfl,fun q1 H1 g1 n1 o1=>?_⟩
  have hq1:H1 q1=some (.lst []):=by
   cases o1 with
   | lst h t=>cases t;exact h
  have os1:=os.more n1 g1 ⟨_,hq1,rfl⟩
  obtain ⟨F0,f0⟩:=os.deep
  obtain ⟨pp,a1,b1,c1⟩:=f0.own i hM _ (zQ e1)
  refine ⟨_,a1,insA S q1,ρ,_,os1.ds,e2,fun kv H2 g2 dk=>?_⟩
  have os2:=os1.same g2
  have g:=g1.trans g2
  have sub:∀ a,H a≠none->insA S q1 a->S a:=fun a ha z=>by
   rcases z with z | rfl
   ·exact z
   ·exact absurd n1 ha
  have b2:=(b1.sub sub).same g
  have f2:DeepF X.K G M H2 (insA S q1) σ ρ F0:=⟨fun j hj d' w=>let ⟨p,a,b,c⟩:=f0.own j hj d' w;⟨p,a,(b.sub sub).same g,fun r hr=>⟨.inl (c r hr).1,(c r hr).2⟩⟩,f0.disj,f0.flat⟩
  obtain ⟨kvs,ep,qs,ds,efp,rfl,hp,kk,hvs,np,kids⟩:=b2.dict_inv
  have hin:∀ r∈F0 i,H r≠none:=fun r hr z=>by
   obtain ⟨o,ho,_⟩:=os.ds.1 r (c1 r hr).1
   rw [z] at ho;cases ho
  have hl:kvs.length=ds.length:=by
   have h1:=kids.length
   have h2:=congrArg List.length hvs
   rw [List.length_map,List.length_map] at h2
   omega
  rw [WT hl] at hz
  have nqs:q1∉qs:=fun z=>hin q1 (by rw [efp];exact .tail _ z) n1
  have npq:pp≠q1:=fun z=>hin pp (by rw [efp];exact .head _) (by rw [z];exact n1)
  have ns0:¬ G.S0 q1:=fun z=>by
   obtain ⟨o,ho,_⟩:=os.ds.1 q1 (os.s0 q1 z)
   rw [n1] at ho;cases ho
  have toS0:∀ a,H2 a≠none->G.S0 a->insA S q1 a:=fun a _ z=>.inl (os.s0 a z)
  have vals:DenL X.K H2 G.S0 (kvs.map (·.2.2)) ds:=by
   rw [hvs]
   exact kids.den toS0 fun r hr=>(c1 r (by rw [efp];exact .tail _ hr)).2.1
  have hq2:H2 q1=some (.lst []):=g2 _ _ hq1
  have dq:Den X.K H2 G.S0 (.ref q1) (.list []):=(OwnO.lst (S:=insA S q1) hq2 .nil).den ns0 toS0
  refine ⟨G.S0,pp,kvs,ep,ks,ds,.list [],rfl,hp,kk.sub toS0,vals,ZK hl hok,dk.sub toS0,dq,by omega,fun b' ep' eb=>?_⟩
  subst eb
  have hany:(kvs.any fun p=>decide (p.1=ks))=false:=by rw [Jd ks vals];exact hf
  have hput:putV kvs ks b' (.ref q1)=kvs ++ [(ks,b',.ref q1)]:=by
   unfold putV
   rw [hany];rfl
  rw [hput]
  have cpp:insA S q1 pp:=.inl (c1 pp (by rw [efp];exact .head _)).1
  refine q _ _ _ (os2.growD f2 (q:=q1) (fp:=pp :: (qs ++ [q1])) hM (zQ e1) a1 (by rw [efp];exact .head _) rfl ?_ (fun r hr=>?_) (.inr rfl) ns0 (os.h0.free n1) (fun j hj hh z=>?_) (fun j hj hh z=>?_))
  ·have hd2:dkv kvs ds ++ [(kxD ks,PyData.list [])]=dkv (kvs ++ [(ks,b',.ref q1)]) (ds ++ [.list []]):=(qaK hl (ks,b',V.ref q1) (PyData.list [])).symm
   rw [hd2]
   refine .dct qK ?_ ?_ ?_ ?_
   ·rw [List.map_append,List.map_append]
    exact (kk.append (.cons dk .nil)).off os2.ds.1 (Off.upd cpp)
   ·rw [List.map_append,List.map_append,hvs];rfl
   ·intro z
    rcases List.mem_append.mp z with z | z
    ·exact np z
    ·exact npq (List.mem_singleton.mp z)
   ·exact (Kids.add1 hq2 kids nqs).upd os2.ds.1 cpp fun z=>by
     rcases List.mem_append.mp z with z | z
     ·exact np z
     ·exact npq (List.mem_singleton.mp z)
  ·rcases List.mem_cons.mp hr with rfl | hr
   ·exact .inl (by rw [efp];exact .head _)
   ·rcases List.mem_append.mp hr with z | z
    ·exact .inl (by rw [efp];exact .tail _ z)
    ·exact .inr (List.mem_singleton.mp z)
  ·obtain ⟨d',hd'⟩:=hh
   obtain ⟨p',_,_,c'⟩:=f0.own j hj d' hd'
   obtain ⟨o,ho,_⟩:=os.ds.1 q1 (c' q1 z).1
   rw [n1] at ho;cases ho
  ·obtain ⟨d',hd'⟩:=hh
   obtain ⟨p',a',b',c',_⟩:=os.own j hj d' hd'
   rw [z] at a'
   cases a'
   obtain ⟨o,ho,_⟩:=os.ds.1 q1 c'
   rw [n1] at ho;cases ho
noncomputable def put1 (ks:KX) (l:PyData):List (PyData×PyData)->List (PyData×PyData)
 | []=>[]
 | p :: r=>if PyData.eqv p.1 (kxD ks)=true then (p.1,l) :: r else p :: put1 ks l r
theorem Kids.find {K:PySem.W.Frag} {H:Hp} {S:Av} {ks:KX} {l:PyData}:∀ {kvs:List (KX×Addr×V)} {qs:List Addr} {ds:List PyData},kvs.map (·.2.2)=qs.map V.ref->Kids K H S qs ds->qP (dkv kvs ds) ks=some l->
  ∃ j p0 q xs es,kvs.find? (fun p=>decide (p.1=ks))=some p0/\p0.2.2=.ref q/\qs[j]?=some q/\l=.list es/\H q=some (.lst xs)/\DenL K H S xs es/\∀ l',put1 ks l' (dkv kvs ds)=dkv kvs (ds.set j l')
 | [],_,_,_,_,e=>by cases e
 | p :: kvs,[],_,hv,_,_=>by cases hv
 | p :: kvs,q :: qs,_,hv,k,e=>by
  cases k with
  | @cons _ xs es _ ds h t n r =>
   obtain ⟨v1,v2⟩:=List.cons.inj hv
   rw [zR] at e
   by_cases z:p.1=ks
   ·rw [jA z] at e
    cases e
    refine ⟨0,p,q,xs,es,by rw [List.find?_cons,decide_eq_true z],v1,rfl,rfl,h,t,fun l'=>?_⟩
    rw [zR,List.set_cons_zero,zR,put1,Jl,decide_eq_true z,if_pos rfl]
   ·rw [jz z] at e
    obtain ⟨j,p0,q',xs',es',g1,g2,g3,g4,g5,g6,g7⟩:=Kids.find v2 r e
    refine ⟨j + 1,p0,q',xs',es',by rw [List.find?_cons,decide_eq_false z];exact g1,g2,g3,g4,g5,g6,fun l'=>?_⟩
    rw [zR,List.set_cons_succ,zR,put1,Jl,decide_eq_false z,if_neg (by decide),g7]
noncomputable def Jh (c k d:PyData):Option PyData:=match c with
 | .dict kvs=>ob (kxOf k) fun ks=>if kOk kvs ks=true then ob (qP kvs ks) fun l=>ob (appD l d) fun l'=>some (.dict (put1 ks l' kvs)) else none
 | _=>none
theorem qb0 {c k d c':PyData} (e:Jh c k d=some c'):∃ kvs ks l l',c=.dict kvs/\k=kxD ks/\kOk kvs ks=true/\qP kvs ks=some l/\appD l d=some l'/\c'=.dict (put1 ks l' kvs):=by
 unfold Jh at e
 split at e
 ·obtain ⟨ks,e1,e⟩:=qi e
  split at e
  ·rename_i hc
   obtain ⟨l,e2,e⟩:=qi e
   obtain ⟨l',e3,e⟩:=qi e
   cases e
   exact ⟨_,ks,l,l',rfl,Qm e1,hc,e2,e3,rfl⟩
  ·cases e
 ·cases e
noncomputable def jZ (i:Nat) (fk f:Rho->Option PyData):Rho->Option Out:=fun ρ=>ob (vr i ρ) fun c=>ob (fk ρ) fun k=>ob (f ρ) fun d=>ob (Jh c k d) fun c'=>some (.nx (ρ.set i (some c')))
theorem qec {k:Nat} (hr:Room k X.A) (i:Nat) {x:Str} {px sp apos cpos:Pos} (hv:Vis X.env.scope x) (hM:Dp M i) (hb:PD X M b fk) (he:PD X M a f) (hpx:yw b:=by intro _ _;rfl) (hN:X.N[i]?=some x:=by rfl) (hd:(x == ("__debug__" : Str))=false:=by decide +kernel) (hcd:(x == ("__classdict__" : Str))=false:=by decide +kernel)
  (hbase:attributeBase (.Subscript (.Name x px) b sp) "append" X.env (eval (.Subscript (.Name x px) b sp) X.env)=eval (.Subscript (.Name x px) b sp) X.env:=by rfl)
  (hfew:((backTo cpos (starEach [a] X.env)).all (fun x=>!x.1) && (backToKw cpos (keywordEach [] X.env)).all (fun x=>x.1.isSome)
   && decide ([a].length + ([]:List Keyword).length + (if ([]:List Keyword).isEmpty then 0 else 1) < 30))=true:=by rfl)
  (hline:(apos.endLine == cpos.line)=true:=by rfl) (hs:starEach [a] X.env=(false,eval a X.env) :: starEach [] X.env:=by rfl) (hplain:(backTo cpos (starEach [] X.env)).any (·.1)=false:=by rfl)
  (hsw:swapsWith (.Call (.Attribute (.Subscript (.Name x px) b sp) "append" apos) [a] [] cpos) none pos.line X.env=pure false:=by rfl) :
  PDS X G M L M Mb fr (.Expr (.Call (.Attribute (.Subscript (.Name x px) b sp) "append" apos) [a] [] cpos) pos) (jZ i fk f) :=
 (yJ (qdi PySem.F.plainAttrs_list PySem.F.slot_list_append PySem.F.type_list_append JS (qge (r:=qi0 X.K) (qfE hr.units) (jY i hv hN hd hcd) hb hpx) (qd he qj hs) hbase hfew hline hs hplain) hsw).weak fun D σ H ⟨S,ρ,o,os,e,q⟩=>by
  obtain ⟨c0,e1,e⟩:=qi e
  obtain ⟨k0,e2,e⟩:=qi e
  obtain ⟨d,e5,e⟩:=qi e
  obtain ⟨c',e6,e⟩:=qi e
  cases e
  obtain ⟨m,ks,l,l',rfl,rfl,hok,ef,ea,rfl⟩:=qb0 e6
  obtain ⟨F,f0⟩:=os.deep
  obtain ⟨pp,a1,b1,c1⟩:=f0.own i hM _ (zQ e1)
  refine ⟨_,a1,S,ρ,_,os.ds,e2,fun w H1 g1 d1=>?_⟩
  obtain ⟨kvs,ep,qs,ds,efp,rfl,hp,kk,hvs,np,kids⟩:=(b1.same g1).dict_inv
  obtain ⟨j,p0,q0,xs,es,h1,h2,h3,rfl,h0,t0,hset⟩:=Kids.find hvs kids ef
  have hl:kvs.length=ds.length:=by
   have h1:=kids.length
   have h2:=congrArg List.length hvs
   rw [List.length_map,List.length_map] at h2
   omega
  refine ⟨S,pp,kvs,ep,ks,p0,rfl,hp,kk,ZK hl hok,d1,h1,?_⟩
  rw [h2]
  refine ⟨.inl ⟨rfl,_,SqL.of h0⟩,S,ρ,[d],os.ds.same g1,by show ob (f ρ) _=_;rw [e5];rfl,fun vs H2 g2 dl=>?_⟩
  obtain ⟨v,rfl,dv⟩:=dl.inv1
  have os2:=os.same (g1.trans g2)
  obtain ⟨ds7,e7,hz,rfl⟩:=JP ea
  cases e7
  have m0:q0∈F i:=by rw [efp];exact .tail _ (List.mem_of_getElem? h3)
  have nqp:pp≠q0:=fun z=>np (by rw [z];exact List.mem_of_getElem? h3)
  refine ⟨q0,xs,v,rfl,rfl,g2 _ _ h0,Nat.lt_of_lt_of_le (by rw [t0.length];exact hz) (Nat.le_of_lt (qX (Nat.le_refl _))),?_⟩
  refine q _ _ _ (os2.writeD (f0.same (g1.trans g2)) hM (zQ e1) a1 m0 rfl ?_)
  rw [hset,efp]
  refine .dct (by rw [qD nqp];exact g2 _ _ hp) ((kk.same g2).off os2.ds.1 (Off.upd (c1 q0 m0).1)) hvs np ?_
  exact Kids.put os2.ds.1 (c1 q0 m0).1 (((t0.same g2).snoc dv).off os2.ds.1 (Off.upd (c1 q0 m0).1)) (kids.same g2) h3
end
end L2
namespace L2
open PySem PySem.W PyProof.Rows
theorem QZ {α β:Type} {lt:Nat->Nat->Option Bool} {f:α->KasT β}:∀ (t:KasT α),runC lt (t.bind f)=ob (runC lt t) fun a=>runC lt (f a)
 | .ret _=>rfl
 | .ask i j k=>by
  show ob (lt i j) (fun b=>runC lt ((k b).bind f))=ob (ob (lt i j) fun b=>runC lt (k b)) _
  cases lt i j with
  | none=>rfl
  | some b=>exact QZ (k b)
structure IOrd (n:Nat) (lt:Nat->Nat->Option Bool) (blt:Nat->Nat->Bool):Prop where
 ask:∀ i j,i < n->j < n->lt i j=some (blt i j)
 irr:∀ i,blt i i=false
 tr:∀ i j k,blt i j=true->blt j k=true->blt i k=true
 neg:∀ i j k,blt i k=true->blt i j=true\/blt j k=true
noncomputable def gp (p:Array Nat) (i:Nat):Nat:=p.getD i 0
noncomputable def zN (n:Nat) (p:Array Nat):Prop:=p.toList.Perm (List.range n)
noncomputable def UpTo (blt:Nat->Nat->Bool) (p:Array Nat) (m:Nat):Prop:=∀ i j,i <= j->j < m->blt (gp p j) (gp p i)=false
section
variable {n:Nat} {lt:Nat->Nat->Option Bool} {blt:Nat->Nat->Bool} {p:Array Nat}
theorem zN.size (h:zN n p):p.size=n:=by
 have:=h.length_eq
 rw [Array.length_toList,List.length_range] at this
 exact this
theorem zN.inb (h:zN n p) {i:Nat} (hi:i < n):gp p i < n:=by
 have hs:=h.size
 have e:gp p i=p[i]'(by omega):=by simp [gp,Array.getD,hs,hi]
 have hm:p[i]'(by omega)∈p.toList:=by simp
 have:=h.mem_iff.mp hm
 rw [e]
 exact List.mem_range.mp this
theorem qaY {q:Array Nat} {i j:Nat} (h:q[i]?=p[j]?):gp q i=gp p j:=by
 unfold gp
 simp only [Array.getD_eq_getD_getElem?,h]
theorem IOrd.le_tr (O:IOrd n lt blt) {a b c:Nat} (h1:blt b a=false) (h2:blt c b=false):blt c a=false:=by
 cases h:blt c a with
 | false=>rfl
 | true =>
  rcases O.neg c b a h with z | z
  ·rw [h2] at z;cases z
  ·rw [h1] at z;cases z
theorem IOrd.asym (O:IOrd n lt blt) {a b:Nat} (h:blt a b=true):blt b a=false:=by
 cases z:blt b a with
 | false=>rfl
 | true =>
  have:=O.tr a b a h z
  rw [O.irr] at this
  cases this
theorem qeg (O:IOrd n lt blt) (hp:zN n p) {k:Nat} (hk:k < n) (hs:UpTo blt p k):∀ (f l r:Nat),r - l <= f->l <= r->r <= k->(∀ i,i < l->blt (gp p k) (gp p i)=false)->(∀ i,r <= i->i < k->blt (gp p k) (gp p i)=true)->
  ∃ m,runC lt (kas_place p k f l r)=some m/\m <= k/\(∀ i,i < m->blt (gp p k) (gp p i)=false)/\(∀ i,m <= i->i < k->blt (gp p k) (gp p i)=true):=by
 intro f
 induction f with
 | zero =>
  intro l r h1 h2 h3 h4 h5
  exact ⟨l,rfl,by omega,h4,fun i hi hi2=>h5 i (by omega) hi2⟩
 | succ f ih =>
  intro l r h1 h2 h3 h4 h5
  unfold kas_place
  by_cases hlr:l >= r
  ·rw [if_pos hlr]
   exact ⟨l,rfl,by omega,h4,fun i hi hi2=>h5 i (by omega) hi2⟩
  ·rw [if_neg hlr]
   have hm:(l + r) / 2 < k:=by omega
   have ea:=O.ask (gp p k) (gp p ((l + r) / 2)) (hp.inb hk) (hp.inb (by omega))
   show ∃ m,ob (lt (gp p k) (gp p ((l + r) / 2))) (fun c=>runC lt (if c=true then kas_place p k f l ((l + r) / 2) else kas_place p k f ((l + r) / 2 + 1) r))=some m/\_
   rw [ea]
   cases hb:blt (gp p k) (gp p ((l + r) / 2)) with
   | true =>
    refine ih l ((l + r) / 2) (by omega) (by omega) (by omega) h4 fun i hi hi2=>?_
    cases z:blt (gp p k) (gp p i) with
    | true=>rfl
    | false =>
     have:=hs ((l + r) / 2) i hi hi2
     have q:=O.le_tr this z
     rw [hb] at q
     cases q
   | false =>
    refine ih ((l + r) / 2 + 1) r (by omega) (by omega) h3 (fun i hi=>?_) h5
    exact O.le_tr (hs i ((l + r) / 2) (by omega) hm) hb
theorem qbo {q:Array Nat} (h:zN n p) (hq:q.Perm p):zN n q:=(Array.perm_iff_toList_perm.mp hq).trans h
theorem wU {k m:Nat} (hk:k < p.size) (hm:m <= k) (i:Nat):gp (bubble p k (k - m)) i=if i=m then gp p k else if m < i/\i <= k then gp p (i - 1) else gp p i:=by
 have e:=getElem?_bubble hk (k - m) (by omega) i
 have hkm:k - (k - m)=m:=by omega
 rw [hkm] at e
 by_cases h1:i=m
 ·rw [if_pos h1] at e ⊢;exact qaY e
 ·rw [if_neg h1] at e ⊢
  by_cases h2:m < i/\i <= k
  ·rw [if_pos h2] at e ⊢;exact qaY e
  ·rw [if_neg h2] at e ⊢;exact qaY e
theorem Zi {i j:Nat} (hj:j <= p.size) (k:Nat):gp (kas_rev p i j) k=if i <= k/\k < j then gp p (i + j - 1 - k) else gp p k:=by
 have e:=getElem?_mirror_all (i:=i) hj k
 unfold kas_rev
 by_cases h1:i <= k/\k < j
 ·rw [if_pos h1] at e ⊢;exact qaY e
 ·rw [if_neg h1] at e ⊢;exact qaY e
theorem Zw (h:zN n p) (i j:Nat):zN n (kas_rev p i j):=qbo h (mirror_perm _ _ _ _)
theorem qgV (O:IOrd n lt blt):∀ (f:Nat) (p:Array Nat) (k:Nat),zN n p->UpTo blt p k->k + f=n->∃ p',runC lt (kas_bin f p k)=some p'/\zN n p'/\UpTo blt p' n:=by
 intro f
 induction f with
 | zero=>exact fun p k hp hs e=>⟨p,rfl,hp,by rw [← e];exact hs⟩
 | succ f ih =>
  intro p k hp hs e
  have hk:k < n:=by omega
  obtain ⟨m,e1,h1,h2,h3⟩:=qeg O hp hk hs k 0 k (by omega) (by omega) (by omega) (fun i hi=>by omega) (fun i hi hi2=>by omega)
  have hz:=hp.size
  obtain ⟨p',e2,h4,h5⟩:=ih (bubble p k (k - m)) (k + 1) (qbo hp (bubble_perm _ _ _)) (fun i j hij hj=>by
   rw [wU (by omega) h1,wU (by omega) h1]
   by_cases a1:j=m
   ·rw [if_pos a1]
    by_cases a2:i=m
    ·rw [if_pos a2];exact O.irr _
    ·rw [if_neg a2,if_neg (by omega)]
     exact h2 i (by omega)
   ·rw [if_neg a1]
    by_cases a3:m < j/\j <= k
    ·rw [if_pos a3]
     by_cases a2:i=m
     ·rw [if_pos a2]
      exact O.asym (h3 (j - 1) (by omega) (by omega))
     ·rw [if_neg a2]
      by_cases a4:m < i/\i <= k
      ·rw [if_pos a4]
       exact hs (i - 1) (j - 1) (by omega) (by omega)
      ·rw [if_neg a4]
       exact hs i (j - 1) (by omega) (by omega)
    ·rw [if_neg a3,if_neg (by omega),if_neg (by omega)]
     exact hs i j hij (by omega)) (by omega)
  refine ⟨p',?_,h4,h5⟩
  unfold kas_bin
  rw [QZ,e1]
  exact e2
theorem qcE (O:IOrd n lt blt) (hp:zN n p):∀ (f m:Nat),1 <= m->m + f <= n->UpTo blt p m->∃ m',runC lt (kas_asc p f m)=some m'/\m <= m'/\m' <= m + f/\UpTo blt p m'/\(m' < m + f->blt (gp p m') (gp p (m' - 1))=true):=by
 intro f
 induction f with
 | zero=>exact fun m h1 h2 hs=>⟨m,rfl,by omega,by omega,hs,fun z=>by omega⟩
 | succ f ih =>
  intro m h1 h2 hs
  have ea:=O.ask (gp p m) (gp p (m - 1)) (hp.inb (by omega)) (hp.inb (by omega))
  unfold kas_asc
  show ∃ m',ob (lt (gp p m) (gp p (m - 1))) (fun c=>runC lt (if c=true then .ret m else kas_asc p f (m + 1)))=some m'/\_
  rw [ea]
  cases hb:blt (gp p m) (gp p (m - 1)) with
  | true=>exact ⟨m,rfl,by omega,by omega,hs,fun _=>hb⟩
  | false =>
   obtain ⟨m',e1,h3,h4,h5,h6⟩:=ih (m + 1) (by omega) (by omega) (fun i j hij hj=>by
    by_cases hjm:j=m
    ·subst hjm
     by_cases hi:i=j
     ·subst hi;exact O.irr _
     ·exact O.le_tr (hs i (j - 1) (by omega) (by omega)) hb
    ·exact hs i j hij (by omega))
   exact ⟨m',e1,by omega,by omega,h5,fun z=>h6 (by omega)⟩
noncomputable def JG (blt:Nat->Nat->Bool) (p:Array Nat) (m:Nat):Prop:=∀ i j,i <= j->j < m->blt (gp p i) (gp p j)=false
noncomputable def qes (blt:Nat->Nat->Bool) (p:Array Nat) (a b:Nat):Prop:=∀ i j,a <= i->i < b->a <= j->j < b->blt (gp p i) (gp p j)=false
theorem qaL (hp:zN n p) {m a:Nat} (hm:m <= n) (ha:a <= m) (hd:JG blt p m) (hs:qes blt p a m):JG blt (kas_rev p a m) m/\∀ i,i < m->∃ i',i' < m/\gp (kas_rev p a m) i=gp p i':=by
 have hz:=hp.size
 refine ⟨fun i j hij hj=>?_,fun i hi=>?_⟩
 ·rw [Zi (by omega),Zi (by omega)]
  by_cases h1:a <= i/\i < m
  ·rw [if_pos h1,if_pos (by omega)]
   exact hs _ _ (by omega) (by omega) (by omega) (by omega)
  ·rw [if_neg h1]
   by_cases h2:a <= j/\j < m
   ·rw [if_pos h2];exact hd _ _ (by omega) (by omega)
   ·rw [if_neg h2];exact hd _ _ hij hj
 ·rw [Zi (by omega)]
  by_cases h1:a <= i/\i < m
  ·rw [if_pos h1];exact ⟨_,by omega,rfl⟩
  ·rw [if_neg h1];exact ⟨i,hi,rfl⟩
theorem qfl (O:IOrd n lt blt):∀ (f:Nat) (p:Array Nat) (m q:Nat),zN n p->m + f <= n->q + 1 <= m->JG blt p m->qes blt p (m - (q + 1)) m->
  ∃ p' m' q',runC lt (kas_desc f p m q)=some (p',m',q')/\zN n p'/\m <= m'/\m' <= m + f/\q' + 1 <= m'/\JG blt p' m'/\qes blt p' (m' - (q' + 1)) m':=by
 intro f
 induction f with
 | zero=>exact fun p m q hp _ hq hd hs=>⟨p,m,q,rfl,hp,by omega,by omega,hq,hd,hs⟩
 | succ f ih =>
  intro p m q hp hm hq hd hs
  have hz:=hp.size
  have e1:=O.ask (gp p m) (gp p (m - 1)) (hp.inb (by omega)) (hp.inb (by omega))
  have e2:=O.ask (gp p (m - 1)) (gp p m) (hp.inb (by omega)) (hp.inb (by omega))
  unfold kas_desc
  show ∃ p' m' q',ob (lt (gp p m) (gp p (m - 1))) (fun c=>runC lt (if c=true then (if q > 0 then kas_desc f (kas_rev p (m - (q + 1)) m) (m + 1) 0 else kas_desc f p (m + 1) 0)
   else .ask (p.getD (m - 1) 0) (p.getD m 0) fun d=>if d=true then .ret (p,m,q) else kas_desc f p (m + 1) (q + 1)))=some (p',m',q')/\_
  rw [e1]
  cases hb:blt (gp p m) (gp p (m - 1)) with
  | true =>
   have below:∀ i,i < m->blt (gp p i) (gp p m)=false:=fun i hi=>O.le_tr (O.asym hb) (hd i (m - 1) (by omega) (by omega))
   show ∃ p' m' q',runC lt (if q > 0 then kas_desc f (kas_rev p (m - (q + 1)) m) (m + 1) 0 else kas_desc f p (m + 1) 0)=some (p',m',q')/\_
   by_cases hq0:q > 0
   ·rw [if_pos hq0]
    obtain ⟨d1,d2⟩:=qaL (blt:=blt) hp (m:=m) (a:=m - (q + 1)) (by omega) (by omega) hd hs
    have gm:gp (kas_rev p (m - (q + 1)) m) m=gp p m:=by rw [Zi (by omega),if_neg (by omega)]
    obtain ⟨p',m',q',r1,r2,r3,r4,r5,r6,r7⟩:=ih (kas_rev p (m - (q + 1)) m) (m + 1) 0 (Zw hp _ _) (by omega) (by omega) (fun i j hij hj=>by
     by_cases hjm:j=m
     ·subst hjm
      by_cases hi:i=j
      ·subst hi;exact O.irr _
      ·obtain ⟨i',hi',ei⟩:=d2 i (by omega)
       rw [ei,gm]
       exact below i' hi'
     ·exact d1 i j hij (by omega)) (fun i j h1 h2 h3 h4=>by
      have:i=m:=by omega
      have:j=m:=by omega
      subst i;subst j;exact O.irr _)
    exact ⟨p',m',q',r1,r2,by omega,by omega,r5,r6,r7⟩
   ·rw [if_neg hq0]
    obtain ⟨p',m',q',r1,r2,r3,r4,r5,r6,r7⟩:=ih p (m + 1) 0 hp (by omega) (by omega) (fun i j hij hj=>by
     by_cases hjm:j=m
     ·subst hjm
      by_cases hi:i=j
      ·subst hi;exact O.irr _
      ·exact below i (by omega)
     ·exact hd i j hij (by omega)) (fun i j h1 h2 h3 h4=>by
      have:i=m:=by omega
      have:j=m:=by omega
      subst i;subst j;exact O.irr _)
    exact ⟨p',m',q',r1,r2,by omega,by omega,r5,r6,r7⟩
  | false =>
   show ∃ p' m' q',ob (lt (gp p (m - 1)) (gp p m)) (fun d=>runC lt (if d=true then .ret (p,m,q) else kas_desc f p (m + 1) (q + 1)))=some (p',m',q')/\_
   rw [e2]
   cases hd2:blt (gp p (m - 1)) (gp p m) with
   | true=>exact ⟨p,m,q,rfl,hp,by omega,by omega,hq,hd,hs⟩
   | false =>
    obtain ⟨p',m',q',r1,r2,r3,r4,r5,r6,r7⟩:=ih p (m + 1) (q + 1) hp (by omega) (by omega) (fun i j hij hj=>by
     by_cases hjm:j=m
     ·subst hjm
      by_cases hi:i=j
      ·subst hi;exact O.irr _
      ·exact O.le_tr hd2 (hd i (j - 1) (by omega) (by omega))
     ·exact hd i j hij (by omega)) (fun i j h1 h2 h3 h4=>by
      have s1:∀ i,m - (q + 1) <= i->i < m->blt (gp p i) (gp p m)=false/\blt (gp p m) (gp p i)=false:=fun i a b =>
       ⟨O.le_tr hd2 (hs i (m - 1) a b (by omega) (by omega)),O.le_tr (hs (m - 1) i (by omega) (by omega) a b) hb⟩
      by_cases hi:i=m
      ·subst hi
       by_cases hj:j=i
       ·subst hj;exact O.irr _
       ·exact (s1 j (by omega) (by omega)).2
      ·by_cases hj:j=m
       ·subst hj;exact (s1 i (by omega) (by omega)).1
       ·exact hs i j (by omega) (by omega) (by omega) (by omega))
    exact ⟨p',m',q',r1,r2,by omega,by omega,r5,r6,r7⟩
theorem Wt (O:IOrd n lt blt) (hp:zN n p) {m:Nat} (h1:1 <= m) (h2:m <= n) (hd:JG blt p m):∃ m' p',runC lt (kas_tail3 m n p)=some (m',p')/\zN n p'/\1 <= m'/\m' <= n/\UpTo blt p' m':=by
 have hz:=hp.size
 obtain ⟨m',e1,h3,h4,h5,_⟩:=qcE O (Zw hp 0 m) (n - m) m h1 (by omega) (fun i j hij hj=>by
  rw [Zi (by omega),Zi (by omega),if_pos (by omega),if_pos (by omega)]
  exact hd _ _ (by omega) (by omega))
 refine ⟨m',kas_rev p 0 m,?_,Zw hp 0 m,by omega,by omega,h5⟩
 unfold kas_tail3
 rw [QZ,e1]
 rfl
theorem Jj (O:IOrd n lt blt) (hp:zN n p) {k:Nat} (h2:k + 1 <= n) (hd:JG blt p (k + 1)):∃ m' p',runC lt (kas_descPart k n p)=some (m',p')/\zN n p'/\1 <= m'/\m' <= n/\UpTo blt p' m':=by
 obtain ⟨p1,m1,q1,e1,r2,r3,r4,r5,r6,r7⟩:=qfl O (n - (k + 1)) p (k + 1) 0 hp (by omega) (by omega) hd (fun i j a1 a2 a3 a4=>by
  have:i=k:=by omega
  have:j=k:=by omega
  subst i;subst j;exact O.irr _)
 unfold kas_descPart
 rw [QZ,e1]
 show ∃ m' p',runC lt (if q1 > 0 then kas_tail3 m1 n (kas_rev p1 (m1 - (q1 + 1)) m1) else kas_tail3 m1 n p1)=some (m',p')/\_
 by_cases hq:q1 > 0
 ·rw [if_pos hq]
  exact Wt O (Zw r2 _ _) (by omega) (by omega) (qaL r2 (by omega) (by omega) r6 r7).1
 ·rw [if_neg hq]
  exact Wt O r2 (by omega) (by omega) r6
theorem qdL (O:IOrd n lt blt) (hp:zN n p) (hn:1 <= n):∃ m' p',runC lt (kas_count n p)=some (m',p')/\zN n p'/\1 <= m'/\m' <= n/\UpTo blt p' m':=by
 have hz:=hp.size
 obtain ⟨m,e1,h3,h4,h5,h6⟩:=qcE O hp (n - 1) 1 (by omega) (by omega) (fun i j hij hj=>by
  have:i=0:=by omega
  have:j=0:=by omega
  subst i;subst j;exact O.irr _)
 unfold kas_count
 rw [QZ,e1]
 show ∃ m' p',runC lt (if (m == n)=true then .ret (m,p) else if m > 1 then .ask (p.getD 0 0) (p.getD (m - 1) 0) fun c=>if c=true then .ret (m,p) else kas_descPart m n (kas_rev p 0 m) else kas_descPart m n p)=some (m',p')/\_
 by_cases hmn:m=n
 ·rw [if_pos (by simpa using hmn)]
  exact ⟨m,p,rfl,hp,by omega,by omega,h5⟩
 ·rw [if_neg (by simpa using hmn)]
  have hb:=h6 (by omega)
  by_cases hm1:m > 1
  ·rw [if_pos hm1]
   have ea:=O.ask (gp p 0) (gp p (m - 1)) (hp.inb (by omega)) (hp.inb (by omega))
   show ∃ m' p',ob (lt (gp p 0) (gp p (m - 1))) (fun c=>runC lt (if c=true then .ret (m,p) else kas_descPart m n (kas_rev p 0 m)))=some (m',p')/\_
   rw [ea]
   cases hc:blt (gp p 0) (gp p (m - 1)) with
   | true=>exact ⟨m,p,rfl,hp,by omega,by omega,h5⟩
   | false =>
    refine Jj O (Zw hp 0 m) (by omega) (fun i j hij hj=>?_)
    by_cases hjm:j=m
    ·by_cases hi:i=j
     ·rw [hi];exact O.irr _
     ·rw [Zi (by omega),Zi (by omega),if_pos (by omega),if_neg (by omega),hjm]
      exact O.le_tr (O.asym hb) (O.le_tr hc (h5 0 (0 + m - 1 - i) (by omega) (by omega)))
    ·rw [Zi (by omega),Zi (by omega),if_pos (by omega),if_pos (by omega)]
     exact h5 _ _ (by omega) (by omega)
  ·rw [if_neg hm1]
   have hm:m=1:=by omega
   subst hm
   refine Jj O hp (by omega) (fun i j hij hj=>?_)
   by_cases hi:i=j
   ·rw [hi];exact O.irr _
   ·have e0:i=0:=by omega
    have ej:j=1:=by omega
    rw [e0,ej]
    exact O.asym hb
theorem qgA (O:IOrd n lt blt) (hn:1 <= n):∃ p',runC lt (kas_sort n)=some p'/\zN n p'/\UpTo blt p' n:=by
 obtain ⟨m,p,e1,h1,h2,h3,h4⟩:=qdL O (p:=(List.range n).toArray) (show zN n _ from by unfold zN;exact List.Perm.refl _) hn
 unfold kas_sort
 rw [QZ,e1]
 show ∃ p',runC lt (if m < n then kas_bin (n - max m 1) p (max m 1) else .ret p)=some p'/\_
 have hmax:max m 1=m:=by omega
 by_cases hm:m < n
 ·rw [if_pos hm,hmax]
  exact qgV O (n - m) p m h1 h4 (by omega)
 ·rw [if_neg hm]
  have:m=n:=by omega
  subst this
  exact ⟨p,rfl,h1,h4⟩
end
noncomputable def tI (ns:List Int):PyData:=.tuple (ns.map .int)
theorem wY:∀ xs:List Int,HT.lexLt xs xs=false
 | []=>rfl
 | x :: xs=>by rw [HT.zG,if_pos rfl];exact wY xs
theorem qa9:∀ xs ys zs:List Int,HT.lexLt xs ys=true->HT.lexLt ys zs=true->HT.lexLt xs zs=true
 | [],[],_,h,_=>by cases h
 | [],_ :: _,[],_,h=>by cases h
 | [],_ :: _,_ :: _,_,_=>rfl
 | _ :: _,[],_,h,_=>by cases h
 | _ :: _,_ :: _,[],_,h=>by cases h
 | x :: xs,y :: ys,z :: zs,h1,h2=>by
  rw [HT.zG] at h1 h2 ⊢
  by_cases e1:x=y
  ·rw [if_pos e1] at h1
   by_cases e2:y=z
   ·rw [if_pos e2] at h2
    rw [if_pos (e1.trans e2)]
    exact qa9 xs ys zs h1 h2
   ·rw [if_neg e2] at h2
    rw [if_neg (by rw [e1];exact e2),e1]
    exact h2
  ·rw [if_neg e1] at h1
   have h1':=of_decide_eq_true h1
   by_cases e2:y=z
   ·rw [if_neg (by rw [← e2];exact e1),← e2]
    exact h1
   ·rw [if_neg e2] at h2
    have h2':=of_decide_eq_true h2
    rw [if_neg (by omega)]
    exact decide_eq_true (by omega)
theorem wZ:∀ xs ys zs:List Int,HT.lexLt xs zs=true->HT.lexLt xs ys=true\/HT.lexLt ys zs=true
 | [],[],zs,h=>.inr h
 | [],_ :: _,_,_=>.inl rfl
 | _ :: _,_,[],h=>by cases h
 | _ :: _,[],_ :: _,_=>.inr rfl
 | x :: xs,y :: ys,z :: zs,h=>by
  rw [HT.zG] at h ⊢
  rw [HT.zG]
  by_cases e1:x=z
  ·rw [if_pos e1] at h
   subst e1
   by_cases e2:x=y
   ·subst e2
    rw [if_pos rfl,if_pos rfl]
    exact wZ xs ys zs h
   ·rw [if_neg e2,if_neg (fun z=>e2 z.symm)]
    by_cases hl:x < y
    ·exact .inl (decide_eq_true hl)
    ·exact .inr (decide_eq_true (by omega))
  ·rw [if_neg e1] at h
   have h':=of_decide_eq_true h
   by_cases e2:x=y
   ·subst e2
    rw [if_neg e1]
    exact .inr h
   ·rw [if_neg e2]
    by_cases hl:x < y
    ·exact .inl (decide_eq_true hl)
    ·right
     rw [if_neg (by omega)]
     exact decide_eq_true (by omega)
theorem w5:∀ xs ys:List Int,HT.lexLt xs ys=false->HT.lexLt ys xs=false->xs=ys
 | [],[],_,_=>rfl
 | [],_ :: _,h,_=>by cases h
 | _ :: _,[],_,h=>by cases h
 | x :: xs,y :: ys,h1,h2=>by
  rw [HT.zG] at h1 h2
  by_cases e:x=y
  ·subst e
   rw [if_pos rfl] at h1 h2
   rw [w5 xs ys h1 h2]
  ·rw [if_neg e] at h1
   rw [if_neg (fun z=>e z.symm)] at h2
   have a1:=of_decide_eq_false h1
   have a2:=of_decide_eq_false h2
   omega
theorem Wa:∀ xs ys:List Int,ltXs (xs.map .int) (ys.map .int)=some (HT.lexLt xs ys)
 | [],[]=>by rw [List.map_nil,ltXs];rfl
 | [],_ :: _=>by rw [List.map_nil,List.map_cons,ltXs];rfl
 | _ :: _,[]=>by rw [List.map_nil,List.map_cons,ltXs];rfl
 | x :: xs,y :: ys=>by
  rw [List.map_cons,List.map_cons,ltXs,HT.zG]
  have e:PyData.eqv (.int x) (.int y)=(x == y):=rfl
  rw [e]
  by_cases h:x=y
  ·rw [if_pos (by simpa using h),if_pos h]
   exact Wa xs ys
  ·rw [if_neg (by simpa using h),if_neg h,ltX]
theorem qfT (xs ys:List Int):ltX (tI xs) (tI ys)=some (HT.lexLt xs ys):=by
 unfold tI
 rw [ltX]
 exact Wa xs ys
theorem YK {α:Type} (xs:List α) (d:α):(List.range xs.length).map (fun i=>xs.getD i d)=xs:=by
 apply List.ext_getElem
 ·simp
 ·intro i h1 h2
  simp [List.getD_eq_getElem?_getD,h2]
theorem qao {nss:List (List Int)} (hok:Zk 0 (nss.map tI)=true):∃ mss:List (List Int),qZ [.list (nss.map tI)]=some (.list (mss.map tI))/\mss.Perm nss/\mss.Pairwise (fun a b=>HT.lexLt b a=false):=by
 have hn:2 <= nss.length/\nss.length < 64:=by
  unfold Zk at hok
  simp only [Bool.and_eq_true,decide_eq_true_eq,List.length_map] at hok
  exact ⟨hok.2.1,hok.2.2.1⟩
 have O:IOrd nss.length (qba (nss.map tI)) (fun i j=>HT.lexLt (nss.getD i []) (nss.getD j [])):=by
  refine ⟨fun i j hi hj=>?_,fun i=>wY _,fun i j k=>qa9 _ _ _,fun i j k=>wZ _ _ _⟩
  unfold qba
  rw [List.getElem?_map,List.getElem?_map,List.getElem?_eq_getElem hi,List.getElem?_eq_getElem hj]
  show ltX (tI nss[i]) (tI nss[j])=_
  rw [qfT,getD_some (List.getElem?_eq_getElem hi),getD_some (List.getElem?_eq_getElem hj)]
 obtain ⟨p,e1,hp,hs⟩:=qgA O (by omega)
 have hin:∀ i∈p.toList,i < nss.length:=fun i hi=>List.mem_range.mp (hp.mem_iff.mp hi)
 refine ⟨p.toList.map fun i=>nss.getD i [],?_,?_,?_⟩
 ·show (if (nss.map tI).length < 2 then some (PyData.list (nss.map tI)) else if Zk 0 (nss.map tI)=true\/Zk 1 (nss.map tI)=true then ob (runC (qba (nss.map tI)) (kas_sort (nss.map tI).length)) fun p=>qbq (nss.map tI) p else none)=_
  rw [if_neg (by rw [List.length_map];omega),if_pos (.inl hok),List.length_map,e1]
  show qbq (nss.map tI) p=_
  unfold qbq
  rw [if_pos ⟨List.all_eq_true.mpr fun i hi=>by rw [List.length_map];exact decide_eq_true (hin i hi),by rw [Array.length_toList,hp.size];omega⟩]
  congr 2
  rw [List.map_map]
  refine List.map_congr_left fun i hi=>?_
  have hi':=hin i hi
  show (nss.map tI).getD i .none=tI (nss.getD i [])
  rw [getD_some (show (nss.map tI)[i]?=some (tI nss[i]) from by rw [List.getElem?_map,List.getElem?_eq_getElem hi'];rfl),getD_some (List.getElem?_eq_getElem hi')]
 ·have:=hp.map (fun i=>nss.getD i [])
  rw [YK] at this
  exact this
 ·rw [List.pairwise_map,List.pairwise_iff_getElem]
  intro i j hi hj hij
  have hsz:=hp.size
  rw [Array.length_toList] at hi hj
  have:=hs i j (by omega) (by omega)
  have g1:gp p i=p.toList[i]'(by rw [Array.length_toList];exact hi):=by simp [gp,Array.getD,hi]
  have g2:gp p j=p.toList[j]'(by rw [Array.length_toList];exact hj):=by simp [gp,Array.getD,hj]
  rw [g1,g2] at this
  exact this
theorem qaF:∀ ns:List Int,PyData.canLayAll0 (ns.map .int)=true/\PyData.depthAll (ns.map .int)=0
 | []=>⟨rfl,rfl⟩
 | n :: ns=>by
  obtain ⟨h1,h2⟩:=qaF ns
  rw [List.map_cons]
  exact ⟨by simp [PyData.canLayAll0,PyData.canLay0,h1],by simp [PyData.depthAll,PyData.depth,h2]⟩
theorem Ye:∀ nss:List (List Int),PyData.canLayAll0 (nss.map tI)=true/\PyData.depthAll (nss.map tI) <= 1
 | []=>⟨rfl,Nat.zero_le _⟩
 | ns :: nss=>by
  obtain ⟨h1,h2⟩:=Ye nss
  obtain ⟨h3,h4⟩:=qaF ns
  rw [List.map_cons]
  refine ⟨by simp [PyData.canLayAll0,tI,PyData.canLay0,h1,h3],?_⟩
  rw [PyData.depthAll,show (tI ns).depth=1 from by simp [tI,PyData.depth,h4]]
  omega
theorem qbE {nss:List (List Int)} (h2:2 <= nss.length) (h64:nss.length < 64) (hne:∀ ns∈nss,ns≠[]):Zk 0 (nss.map tI)=true:=by
 obtain ⟨h3,h4⟩:=Ye nss
 unfold Zk
 simp only [Bool.and_eq_true,decide_eq_true_eq,List.length_map]
 refine ⟨List.all_eq_true.mpr fun d hd=>?_,h2,h64,h3,by omega⟩
 obtain ⟨ns,hn,rfl⟩:=List.mem_map.mp hd
 cases ns with
 | nil=>exact absurd rfl (hne [] hn)
 | cons n ns=>rfl
theorem qap {nss:List (List Int)} (h64:nss.length < 64) (hne:∀ ns∈nss,ns≠[]):∃ mss:List (List Int),qZ [.list (nss.map tI)]=some (.list (mss.map tI))/\mss.Perm nss/\mss.Pairwise (fun a b=>HT.lexLt b a=false):=by
 by_cases h2:2 <= nss.length
 ·exact qao (qbE h2 h64 hne)
 ·refine ⟨nss,?_,List.Perm.refl _,?_⟩
  ·show (if (nss.map tI).length < 2 then some (PyData.list (nss.map tI)) else _)=_
   rw [if_pos (by rw [List.length_map];omega)]
  ·match nss,h2 with
   | [],_=>exact .nil
   | [a],_=>exact .cons (fun _ z=>nomatch z) .nil
   | _ :: _ :: _,h2=>exact absurd (by simp) h2
theorem jN:∀ {as bs:List (List Int)},as.Perm bs->as.Pairwise (fun a b=>HT.lexLt b a=false)->bs.Pairwise (fun a b=>HT.lexLt b a=false)->as=bs
 | [],bs,h,_,_=>(List.nil_perm.mp h).symm
 | a :: as,[],h,_,_=>absurd h (by simp)
 | a :: as,b :: bs,h,h1,h2=>by
  rw [List.pairwise_cons] at h1 h2
  have e:a=b:=by
   have ma:a∈b :: bs:=h.mem_iff.mp (.head _)
   have mb:b∈a :: as:=h.mem_iff.mpr (.head _)
   rcases List.mem_cons.mp ma with z | z
   ·exact z
   ·rcases List.mem_cons.mp mb with y | y
    ·exact y.symm
    ·exact w5 a b (h2.1 a z) (h1.1 b y)
  subst e
  rw [jN h.cons_inv h1.2 h2.2]
end L2
namespace SF
open PySem L2
noncomputable def top (i:Nat):Stmt:=PySem.Challenge.pw_sheetfold_k24_joins_of_a_skin.main.body.getD i (.Pass ⟨0,0,0,0⟩)
noncomputable def QF:PyData:=(.tuple [(.tuple [(.int (-1)),(.int (0)),(.int (0))]),(.tuple [(.int (0)),(.int (-1)),(.int (0))]),(.tuple [(.int (0)),(.int (0)),(.int (-1))]),(.tuple [(.int (0)),(.int (0)),(.int (1))]),(.tuple [(.int (0)),(.int (1)),(.int (0))]),(.tuple [(.int (1)),(.int (0)),(.int (0))])])
noncomputable def Jf:PyData:=(.int (4))
noncomputable abbrev T3:Stmt:=top 4
noncomputable abbrev Qo:List Str:=["things"]
theorem C3:FnScope Qo ["things"] (qb T3):=⟨rfl,rfl,rfl,by decide +kernel,rfl,by decide +kernel,by decide +kernel⟩
theorem V3_0:visB (qb T3) "things" = true:=by decide +kernel
theorem WD:glB (qb T3) "enumerate" = true:=by decide +kernel
theorem qgM:glB (qb T3) "dict" = true:=by decide +kernel
noncomputable def Z3:Rho->Option Out:=(sRet (evA (aC (jh 1 2 (evI (vr 0) wQ) (unpD 2 (gsC (gNm 1) (gsC (gNm 2) gsN))) tT (evA (aC (vr 2) (aC (vr 1) aN)) tupD)) aN) WR))
noncomputable def Qt (ds:List PyData):Option PyData:=ob (Z3 (rho0 Qo.length ds)) outD
theorem W9 {P:Program} {w:World} {K:PySem.W.Frag} {mg:Str->Option Value} {base:Heap} {f:Addr} {fd:FuncData} (F:Fun K "numbers_of" "numbers_of" T3 f fd) (m:mg "numbers_of" = some (.ref f)) (b:Binds K fd ["things"] []) (z_dict:mg "dict" = none) (z_enumerate:mg "enumerate" = none):Known P w K mg base "numbers_of" 1 1 Qt:=by
 refine ⟨f,fd,["things"],F.pure (k:=0) (u:=Z3) (M':=[]) C3 rfl (fun cdv A outer s H E hr G=>?_),m,F.kp,b⟩
 refine qt ?_
 refine qI ?_
 refine Q7 ?_
 refine Zx (qgS hr) (qu (qb T3) rfl qgM) z_dict rfl ?_
 refine qd ?_ ?_
 refine qbj (CompOk.of (k:=2) Qo ["things", "k", "thing"] (qb T3) rfl rfl rfl (by decide +kernel)) (qc2 (jC (Zt (by decide)) (jC (Zt (by decide)) qaW))) ?_ (fun _ _ _ _ _ _=>qbl rfl (ZW (jF (i:=1) (CompOk.of (k:=2) Qo ["things", "k", "thing"] (qb T3) rfl rfl rfl (by decide +kernel)) rfl (by decide +kernel) _ _ _ _ _ _) (ZW (jF (i:=2) (CompOk.of (k:=2) Qo ["things", "k", "thing"] (qb T3) rfl rfl rfl (by decide +kernel)) rfl (by decide +kernel) _ _ _ _ _ _) Wh))) (fun _ _ _ _ _ _=>?_) (fun _ _ _ _ _ _=>?_)
 refine qbm (qu (qb T3) rfl WD) z_enumerate ?_
 exact qe 0 (qg V3_0) (by decide)
 exact Za
 refine zB ?_
 refine qd ?_ ?_
 exact qe 2 (qy (by decide +kernel)) (by decide)
 refine qd ?_ ?_
 exact qe 1 (qy (by decide +kernel)) (by decide)
 exact qj
 exact qj
noncomputable abbrev T26:Stmt:=top 7
noncomputable abbrev qcv:List Str:=["one", "other"]
theorem C26:FnScope qcv ["one", "other"] (qb T26):=⟨rfl,rfl,rfl,by decide +kernel,rfl,by decide +kernel,by decide +kernel⟩
theorem qeQ:visB (qb T26) "one" = true:=by decide +kernel
theorem qeR:visB (qb T26) "other" = true:=by decide +kernel
noncomputable def jH:Rho->Option Out:=(sRet (evA (aC (ev2 (ev2 (vr 0) (kd (.int 0)) ixD) (ev2 (vr 1) (kd (.int 0)) ixD) qC) (aC (ev2 (ev2 (vr 0) (kd (.int 1)) ixD) (ev2 (vr 1) (kd (.int 1)) ixD) qC) (aC (ev2 (ev2 (vr 0) (kd (.int 2)) ixD) (ev2 (vr 1) (kd (.int 2)) ixD) qC) aN))) tupD))
noncomputable def zc (ds:List PyData):Option PyData:=ob (jH (rho0 qcv.length ds)) outD
theorem qhw {P:Program} {w:World} {K:PySem.W.Frag} {mg:Str->Option Value} {base:Heap} {f:Addr} {fd:FuncData} (F:Fun K "added" "added" T26 f fd) (m:mg "added" = some (.ref f)) (b:Binds K fd ["one", "other"] []):Known P w K mg base "added" 2 1 zc:=by
 refine ⟨f,fd,["one", "other"],F.pure (k:=0) (u:=jH) (M':=[]) C26 rfl (fun cdv A outer s H E hr G=>?_),m,F.kp,b⟩
 refine qt ?_
 refine qI ?_
 refine zB ?_
 refine qd ?_ ?_
 refine qG zu ?_ ?_
 refine qN ?_ ?_
 exact qe 0 (qg qeQ) (by decide)
 exact ql
 refine qN ?_ ?_
 exact qe 1 (qg qeR) (by decide)
 exact ql
 refine qd ?_ ?_
 refine qG zu ?_ ?_
 refine qN ?_ ?_
 exact qe 0 (qg qeQ) (by decide)
 exact ql
 refine qN ?_ ?_
 exact qe 1 (qg qeR) (by decide)
 exact ql
 refine qd ?_ ?_
 refine qG zu ?_ ?_
 refine qN ?_ ?_
 exact qe 0 (qg qeQ) (by decide)
 exact ql
 refine qN ?_ ?_
 exact qe 1 (qg qeR) (by decide)
 exact ql
 exact qj
noncomputable abbrev T20:Stmt:=top 8
noncomputable abbrev wH:List Str:=["spot"]
theorem C20:FnScope wH ["spot"] (qb T20):=⟨rfl,rfl,rfl,by decide +kernel,rfl,by decide +kernel,by decide +kernel⟩
theorem qeN:visB (qb T20) "spot" = true:=by decide +kernel
noncomputable def JZ:Rho->Option Out:=(sRet (evA (aC (ev1 (ev2 (vr 0) (kd (.int 0)) ixD) negD) (aC (ev1 (ev2 (vr 0) (kd (.int 1)) ixD) negD) (aC (ev1 (ev2 (vr 0) (kd (.int 2)) ixD) negD) aN))) tupD))
noncomputable def Ql (ds:List PyData):Option PyData:=ob (JZ (rho0 wH.length ds)) outD
theorem qd0 {P:Program} {w:World} {K:PySem.W.Frag} {mg:Str->Option Value} {base:Heap} {f:Addr} {fd:FuncData} (F:Fun K "negated" "negated" T20 f fd) (m:mg "negated" = some (.ref f)) (b:Binds K fd ["spot"] []):Known P w K mg base "negated" 1 1 Ql:=by
 refine ⟨f,fd,["spot"],F.pure (k:=0) (u:=JZ) (M':=[]) C20 rfl (fun cdv A outer s H E hr G=>?_),m,F.kp,b⟩
 refine qt ?_
 refine qI ?_
 refine zB ?_
 refine qd ?_ ?_
 refine Jv Jg ?_
 refine qN ?_ ?_
 exact qe 0 (qg qeN) (by decide)
 exact ql
 refine qd ?_ ?_
 refine Jv Jg ?_
 refine qN ?_ ?_
 exact qe 0 (qg qeN) (by decide)
 exact ql
 refine qd ?_ ?_
 refine Jv Jg ?_
 refine qN ?_ ?_
 exact qe 0 (qg qeN) (by decide)
 exact ql
 exact qj
noncomputable abbrev T21:Stmt:=top 10
noncomputable abbrev JL:List Str:=["square"]
theorem C21:FnScope JL ["square"] (qb T21):=⟨rfl,rfl,rfl,by decide +kernel,rfl,by decide +kernel,by decide +kernel⟩
theorem V21_0:visB (qb T21) "square" = true:=by decide +kernel
noncomputable def JW:Rho->Option Out:=(sRet (ev2 (qY 1 (evI (vr 0) seqD) tT (ev2 (vr 1) (kd (.int 2)) modD)) (kd (.int 0)) QM))
noncomputable def zL (ds:List PyData):Option PyData:=ob (JW (rho0 JL.length ds)) outD
theorem qdX {P:Program} {w:World} {K:PySem.W.Frag} {mg:Str->Option Value} {base:Heap} {f:Addr} {fd:FuncData} (F:Fun K "axis_of" "axis_of" T21 f fd) (m:mg "axis_of" = some (.ref f)) (b:Binds K fd ["square"] []):Known P w K mg base "axis_of" 1 1 zL:=by
 refine ⟨f,fd,["square"],F.pure (k:=0) (u:=JW) (M':=[]) C21 rfl (fun cdv A outer s H E hr G=>?_),m,F.kp,b⟩
 refine qt ?_
 refine qI ?_
 refine qbk hr ?_ ?_
 refine QV (CompOk.of (k:=1) JL ["square", "number"] (qb T21) rfl rfl rfl (by decide +kernel)) rfl (by decide +kernel) ?_ (fun _ _ _ _ _ _=>?_) (fun _ _ _ _ _ _=>?_)
 refine qR ?_
 exact qe 0 (qg V21_0) (by decide)
 exact Za
 refine qG Zg ?_ ?_
 exact qe 1 (qy (by decide +kernel)) (by decide)
 exact ql
 exact ql
noncomputable abbrev T25:Stmt:=top 11
noncomputable abbrev yU:List Str:=["spot", "axis"]
theorem C25:FnScope yU ["spot", "axis"] (qb T25):=⟨rfl,rfl,rfl,by decide +kernel,rfl,by decide +kernel,by decide +kernel⟩
theorem qdB:glB (qb T25) "UNITS" = true:=by decide +kernel
theorem qbR:glB (qb T25) "sorted" = true:=by decide +kernel
noncomputable def jt:Rho->Option Out:=(sRet (evA (aC (qY 2 (evI (kd QF) seqD) (tV (ev2 (ev2 (vr 2) (vr 1) ixD) (kd (.int 0)) eqD)) (evC 2 (aC (vr 0) (aC (vr 2) aN)) zc)) aN) qZ))
noncomputable def zV (ds:List PyData):Option PyData:=ob (jt (rho0 yU.length ds)) outD
theorem qfJ {P:Program} {w:World} {K:PySem.W.Frag} {mg:Str->Option Value} {base:Heap} {f:Addr} {fd:FuncData} (F:Fun K "around" "around" T25 f fd) (m:mg "around" = some (.ref f)) (b:Binds K fd ["spot", "axis"] []) (K_added:Known P w K mg base "added" 2 1 zc) (z_sorted:mg "sorted" = none) (C_UNITS:JF K mg "UNITS" QF):Known P w K mg base "around" 2 2 zV:=by
 refine ⟨f,fd,["spot", "axis"],F.pure (k:=1) (u:=jt) (M':=[]) C25 rfl (fun cdv A outer s H E hr G=>?_),m,F.kp,b⟩
 refine qt ?_
 refine qI ?_
 refine Q7 ?_
 refine Zc (Q5 hr) (qu (qb T25) rfl qbR) z_sorted zE ?_
 refine qd ?_ ?_
 refine QV (CompOk.of (k:=1) yU ["spot", "axis", "unit"] (qb T25) rfl rfl rfl (by decide +kernel)) rfl (by decide +kernel) ?_ (fun _ _ _ _ _ _=>?_) (fun _ _ _ _ _ _=>?_)
 refine qR ?_
 exact YC C_UNITS (qu (qb T25) rfl qdB)
 refine Zb ?_
 refine qQ (d_eq hr) ?_ ?_ (zJ _)
 refine qN ?_ ?_
 exact qe 2 (qy (by decide +kernel)) (by decide)
 exact qe 1 (qy (by decide +kernel)) (by decide)
 exact ql
 refine qw K_added hr (by decide) (yG (by decide +kernel)) ?_ rfl
 refine qd ?_ ?_
 exact qe 0 (qy (by decide +kernel)) (by decide)
 refine qd ?_ ?_
 exact qe 2 (qy (by decide +kernel)) (by decide)
 exact qj
 exact qj
noncomputable abbrev T16:Stmt:=top 12
noncomputable abbrev yV:List Str:=["square"]
theorem C16:FnScope yV ["square"] (qb T16):=⟨rfl,rfl,rfl,by decide +kernel,rfl,by decide +kernel,by decide +kernel⟩
theorem qiF:visB (qb T16) "square" = true:=by decide +kernel
theorem qax:glB (qb T16) "axis_of" = true:=by decide +kernel
theorem qbO:glB (qb T16) "around" = true:=by decide +kernel
noncomputable def j7:Rho->Option Out:=(sRet (evC 2 (aC (vr 0) (aC (evC 1 (aC (vr 0) aN) zL) aN)) zV))
noncomputable def QB (ds:List PyData):Option PyData:=ob (j7 (rho0 yV.length ds)) outD
theorem qcc {P:Program} {w:World} {K:PySem.W.Frag} {mg:Str->Option Value} {base:Heap} {f:Addr} {fd:FuncData} (F:Fun K "edges_of" "edges_of" T16 f fd) (m:mg "edges_of" = some (.ref f)) (b:Binds K fd ["square"] []) (K_around:Known P w K mg base "around" 2 2 zV) (K_axis_of:Known P w K mg base "axis_of" 1 1 zL):Known P w K mg base "edges_of" 1 3 QB:=by
 refine ⟨f,fd,["square"],F.pure (k:=2) (u:=j7) (M':=[]) C16 rfl (fun cdv A outer s H E hr G=>?_),m,F.kp,b⟩
 refine qt ?_
 refine qI ?_
 refine qw K_around hr (by decide) (qu (qb T16) rfl qbO) ?_ rfl
 refine qd ?_ ?_
 exact qe 0 (qg qiF) (by decide)
 refine qd ?_ ?_
 refine qw K_axis_of hr (by decide) (qu (qb T16) rfl qax) ?_ rfl
 refine qd ?_ ?_
 exact qe 0 (qg qiF) (by decide)
 exact qj
 exact qj
noncomputable abbrev T4:Stmt:=top 13
noncomputable abbrev ZD:List Str:=["edge"]
theorem C4:FnScope ZD ["edge"] (qb T4):=⟨rfl,rfl,rfl,by decide +kernel,rfl,by decide +kernel,by decide +kernel⟩
theorem V4_0:visB (qb T4) "edge" = true:=by decide +kernel
theorem qdC:glB (qb T4) "around" = true:=by decide +kernel
noncomputable def Z5:Rho->Option Out:=(sRet (evC 2 (aC (vr 0) (aC (ev2 (qY 1 (evI (vr 0) seqD) tT (ev2 (vr 1) (kd (.int 2)) modD)) (kd (.int 1)) QM) aN)) zV))
noncomputable def Qa (ds:List PyData):Option PyData:=ob (Z5 (rho0 ZD.length ds)) outD
theorem qab {P:Program} {w:World} {K:PySem.W.Frag} {mg:Str->Option Value} {base:Heap} {f:Addr} {fd:FuncData} (F:Fun K "squares_at" "squares_at" T4 f fd) (m:mg "squares_at" = some (.ref f)) (b:Binds K fd ["edge"] []) (K_around:Known P w K mg base "around" 2 2 zV):Known P w K mg base "squares_at" 1 3 Qa:=by
 refine ⟨f,fd,["edge"],F.pure (k:=2) (u:=Z5) (M':=[]) C4 rfl (fun cdv A outer s H E hr G=>?_),m,F.kp,b⟩
 refine qt ?_
 refine qI ?_
 refine qw K_around hr (by decide) (qu (qb T4) rfl qdC) ?_ rfl
 refine qd ?_ ?_
 exact qe 0 (qg V4_0) (by decide)
 refine qd ?_ ?_
 refine qbk hr ?_ ?_
 refine QV (CompOk.of (k:=1) ZD ["edge", "number"] (qb T4) rfl rfl rfl (by decide +kernel)) rfl (by decide +kernel) ?_ (fun _ _ _ _ _ _=>?_) (fun _ _ _ _ _ _=>?_)
 refine qR ?_
 exact qe 0 (qg V4_0) (by decide)
 exact Za
 refine qG Zg ?_ ?_
 exact qe 1 (qy (by decide +kernel)) (by decide)
 exact ql
 exact ql
 exact qj
noncomputable abbrev T11:Stmt:=top 14
noncomputable abbrev J9:List Str:=["cube"]
theorem C11:FnScope J9 ["cube"] (qb T11):=⟨rfl,rfl,rfl,by decide +kernel,rfl,by decide +kernel,by decide +kernel⟩
theorem qeF:visB (qb T11) "cube" = true:=by decide +kernel
noncomputable def jw:Rho->Option Out:=(sRet (evA (aC (ev2 (ev2 (kd (.int 2)) (ev2 (vr 0) (kd (.int 0)) ixD) mulD) (kd (.int 1)) qC) (aC (ev2 (ev2 (kd (.int 2)) (ev2 (vr 0) (kd (.int 1)) ixD) mulD) (kd (.int 1)) qC) (aC (ev2 (ev2 (kd (.int 2)) (ev2 (vr 0) (kd (.int 2)) ixD) mulD) (kd (.int 1)) qC) aN))) tupD))
noncomputable def zf (ds:List PyData):Option PyData:=ob (jw (rho0 J9.length ds)) outD
theorem qa6 {P:Program} {w:World} {K:PySem.W.Frag} {mg:Str->Option Value} {base:Heap} {f:Addr} {fd:FuncData} (F:Fun K "middle_of" "middle_of" T11 f fd) (m:mg "middle_of" = some (.ref f)) (b:Binds K fd ["cube"] []):Known P w K mg base "middle_of" 1 1 zf:=by
 refine ⟨f,fd,["cube"],F.pure (k:=0) (u:=jw) (M':=[]) C11 rfl (fun cdv A outer s H E hr G=>?_),m,F.kp,b⟩
 refine qt ?_
 refine qI ?_
 refine zB ?_
 refine qd ?_ ?_
 refine qG zu ?_ ?_
 refine qG ye ?_ ?_
 exact ql
 refine qN ?_ ?_
 exact qe 0 (qg qeF) (by decide)
 exact ql
 exact ql
 refine qd ?_ ?_
 refine qG zu ?_ ?_
 refine qG ye ?_ ?_
 exact ql
 refine qN ?_ ?_
 exact qe 0 (qg qeF) (by decide)
 exact ql
 exact ql
 refine qd ?_ ?_
 refine qG zu ?_ ?_
 refine qG ye ?_ ?_
 exact ql
 refine qN ?_ ?_
 exact qe 0 (qg qeF) (by decide)
 exact ql
 exact ql
 exact qj
noncomputable abbrev T22:Stmt:=top 15
noncomputable abbrev wG:List Str:=["spot"]
theorem C22:FnScope wG ["spot"] (qb T22):=⟨rfl,rfl,rfl,by decide +kernel,rfl,by decide +kernel,by decide +kernel⟩
theorem qeO:visB (qb T22) "spot" = true:=by decide +kernel
noncomputable def Zy:Rho->Option Out:=(sRet (evA (aC (ev2 (ev2 (vr 0) (kd (.int 0)) ixD) (kd (.int 2)) Qe) (aC (ev2 (ev2 (vr 0) (kd (.int 1)) ixD) (kd (.int 2)) Qe) (aC (ev2 (ev2 (vr 0) (kd (.int 2)) ixD) (kd (.int 2)) Qe) aN))) tupD))
noncomputable def Qz (ds:List PyData):Option PyData:=ob (Zy (rho0 wG.length ds)) outD
theorem qdZ {P:Program} {w:World} {K:PySem.W.Frag} {mg:Str->Option Value} {base:Heap} {f:Addr} {fd:FuncData} (F:Fun K "cube_of" "cube_of" T22 f fd) (m:mg "cube_of" = some (.ref f)) (b:Binds K fd ["spot"] []):Known P w K mg base "cube_of" 1 1 Qz:=by
 refine ⟨f,fd,["spot"],F.pure (k:=0) (u:=Zy) (M':=[]) C22 rfl (fun cdv A outer s H E hr G=>?_),m,F.kp,b⟩
 refine qt ?_
 refine qI ?_
 refine zB ?_
 refine qd ?_ ?_
 refine qG ZG ?_ ?_
 refine qN ?_ ?_
 exact qe 0 (qg qeO) (by decide)
 exact ql
 exact ql
 refine qd ?_ ?_
 refine qG ZG ?_ ?_
 refine qN ?_ ?_
 exact qe 0 (qg qeO) (by decide)
 exact ql
 exact ql
 refine qd ?_ ?_
 refine qG ZG ?_ ?_
 refine qN ?_ ?_
 exact qe 0 (qg qeO) (by decide)
 exact ql
 exact ql
 exact qj
noncomputable abbrev T17:Stmt:=top 16
noncomputable abbrev Q0:List Str:=["square", "axis", "lower"]
theorem C17:FnScope Q0 ["square"] (qb T17):=⟨rfl,rfl,rfl,by decide +kernel,rfl,by decide +kernel,by decide +kernel⟩
theorem qeL:visB (qb T17) "square" = true:=by decide +kernel
theorem O17_1:locB (qb T17) "axis" = true:=by decide +kernel
theorem V17_2:visB (qb T17) "lower" = true:=by decide +kernel
theorem qay:glB (qb T17) "axis_of" = true:=by decide +kernel
theorem Y5:glB (qb T17) "enumerate" = true:=by decide +kernel
theorem J5:glB (qb T17) "cube_of" = true:=by decide +kernel
noncomputable def Zf:Rho->Option Out:=(seqO (sSet 1 (evC 1 (aC (vr 0) aN) zL)) (seqO (qM 2 (jh 3 2 (evI (vr 0) wQ) (unpD 2 (gsC (gNm 3) (gsC (gNm 4) gsN))) tT (vIf (tV (ev2 (vr 3) (vr 1) eqD)) (ev2 (vr 4) (kd (.int 1)) subD) (vr 4)))) (sRet (evA (aC (evC 1 (aC (vr 2) aN) Qz) (aC (evC 1 (aC (vr 0) aN) Qz) aN)) tupD))))
noncomputable def Qg (ds:List PyData):Option PyData:=ob (Zf (rho0 Q0.length ds)) outD
theorem qcb {P:Program} {w:World} {K:PySem.W.Frag} {mg:Str->Option Value} {base:Heap} {f:Addr} {fd:FuncData} (F:Fun K "cubes_at" "cubes_at" T17 f fd) (m:mg "cubes_at" = some (.ref f)) (b:Binds K fd ["square"] []) (K_axis_of:Known P w K mg base "axis_of" 1 1 zL) (K_cube_of:Known P w K mg base "cube_of" 1 1 Qz) (z_enumerate:mg "enumerate" = none):Known P w K mg base "cubes_at" 1 2 Qg:=by
 refine ⟨f,fd,["square"],F.pure (k:=1) (u:=Zf) (M':=[]) C17 rfl (fun cdv A outer s H E hr G=>?_),m,F.kp,b⟩
 refine qm (M1:=[]) ?_ ?_
 refine zb 1 ?_ ?_ ?_ ?_ ?_ ?_ ?_
 ·exact C17.nd
 ·exact (qx O17_1)
 ·rfl
 ·rfl
 ·exact .inl rfl
 ·decide
 refine qw K_axis_of hr (by decide) (qu (qb T17) rfl qay) ?_ rfl
 refine qd ?_ ?_
 exact qe 0 (qg qeL) (by decide)
 exact qj
 refine qm (M1:=[2]) ?_ ?_
 refine Wj 2 (CompOk.of (k:=2) Q0 ["square", "axis", "lower", "k", "number"] (qb T17) rfl rfl rfl (by decide +kernel)) (qc2 (jC (Zt (by decide)) (jC (Zt (by decide)) qaW))) (qb T17) rfl (by decide +kernel) (by decide) (by decide) ?_ (fun _ _ _ _ _ _=>qbl rfl (ZW (jF (i:=3) (CompOk.of (k:=2) Q0 ["square", "axis", "lower", "k", "number"] (qb T17) rfl rfl rfl (by decide +kernel)) rfl (by decide +kernel) _ _ _ _ _ _) (ZW (jF (i:=4) (CompOk.of (k:=2) Q0 ["square", "axis", "lower", "k", "number"] (qb T17) rfl rfl rfl (by decide +kernel)) rfl (by decide +kernel) _ _ _ _ _ _) Wh))) (fun _ _ _ _ _ _=>?_) (fun _ _ _ _ _ _=>?_)
 refine qbm (qu (qb T17) rfl Y5) z_enumerate ?_
 exact qe 0 (qg qeL) (by decide)
 exact Za
 refine YD ?_ ?_ ?_
 refine qQ (d_eq hr) ?_ ?_ (zJ _)
 exact qe 3 (qy (by decide +kernel)) (by decide)
 exact qe 1 (qy (by decide +kernel)) (by decide)
 refine qG Ym ?_ ?_
 exact qe 4 (qy (by decide +kernel)) (by decide)
 exact ql
 exact qe 4 (qy (by decide +kernel)) (by decide)
 refine qt ?_
 refine qI ?_
 refine zB ?_
 refine qd ?_ ?_
 refine qw K_cube_of hr (by decide) (qu (qb T17) rfl J5) ?_ rfl
 refine qd ?_ ?_
 exact qe 2 (qg V17_2) (by decide)
 exact qj
 refine qd ?_ ?_
 refine qw K_cube_of hr (by decide) (qu (qb T17) rfl J5) ?_ rfl
 refine qd ?_ ?_
 exact qe 0 (qg qeL) (by decide)
 exact qj
 exact qj
noncomputable abbrev T23:Stmt:=top 17
noncomputable abbrev JN:List Str:=["cubes", "counts", "cube", "unit", "square"]
theorem C23:FnScope JN ["cubes"] (qb T23):=⟨rfl,rfl,rfl,by decide +kernel,rfl,by decide +kernel,by decide +kernel⟩
theorem V23_0:visB (qb T23) "cubes" = true:=by decide +kernel
theorem qeP:visB (qb T23) "counts" = true:=by decide +kernel
theorem O23_1:locB (qb T23) "counts" = true:=by decide +kernel
theorem V23_2:visB (qb T23) "cube" = true:=by decide +kernel
theorem O23_2:locB (qb T23) "cube" = true:=by decide +kernel
theorem V23_3:visB (qb T23) "unit" = true:=by decide +kernel
theorem O23_3:locB (qb T23) "unit" = true:=by decide +kernel
theorem qiL:visB (qb T23) "square" = true:=by decide +kernel
theorem O23_4:locB (qb T23) "square" = true:=by decide +kernel
theorem Y8:glB (qb T23) "middle_of" = true:=by decide +kernel
theorem qdA:glB (qb T23) "added" = true:=by decide +kernel
theorem qdz:glB (qb T23) "UNITS" = true:=by decide +kernel
theorem qbQ:glB (qb T23) "sorted" = true:=by decide +kernel
noncomputable def J0:Rho->Option Out:=(seqO (qM 1 (kd (.dict []))) (seqO (sFor (evI (vr 0) seqD) (gNm 2) (sFor (evI (kd QF) seqD) (gNm 3) (seqO (sSet 4 (evC 2 (aC (evC 1 (aC (vr 2) aN) zf) (aC (vr 3) aN)) zc)) (JC 1 (vr 4) (qF (ev2 (ev3 (vr 1) (vr 4) (kd (.int 0)) ji) (kd (.int 1)) qC)))))) (sRet (evA (aC (qY 5 (evI (vr 1) Js) (tV (ev2 (ev2 (vr 1) (vr 5) ix2D) (kd (.int 1)) eqD)) (vr 5)) aN) qZ))))
noncomputable def zy (ds:List PyData):Option PyData:=ob (J0 (rho0 JN.length ds)) outD
theorem qd1 {P:Program} {w:World} {K:PySem.W.Frag} {mg:Str->Option Value} {base:Heap} {f:Addr} {fd:FuncData} (F:Fun K "skin_of" "skin_of" T23 f fd) (m:mg "skin_of" = some (.ref f)) (b:Binds K fd ["cubes"] []) (K_added:Known P w K mg base "added" 2 1 zc) (K_middle_of:Known P w K mg base "middle_of" 1 1 zf) (z_sorted:mg "sorted" = none) (C_UNITS:JF K mg "UNITS" QF):Known P w K mg base "skin_of" 1 2 zy:=by
 refine ⟨f,fd,["cubes"],F.pure (k:=1) (u:=J0) (M':=[]) C23 rfl (fun cdv A outer s H E hr G=>?_),m,F.kp,b⟩
 refine qm (M1:=[1]) ?_ ?_
 refine zj 1 ?_ ?_ ?_ ?_ ?_ ?_ ?_ ?_
 ·exact C23.nd
 ·exact (qx O23_1)
 ·rfl
 ·rfl
 ·exact .inl rfl
 ·decide
 ·decide
 exact YL
 refine qm (M1:=[1]) ?_ ?_
 refine za PassesOwn.never rfl ?_ (fun _=>?_) (fun _=>?_)
 refine qR ?_
 exact qe 0 (qg V23_0) (by decide)
 exact qO 2 C23.nd (qx O23_2) (by decide)
 refine qt ?_
 refine za PassesOwn.never rfl ?_ (fun _=>?_) (fun _=>?_)
 refine qR ?_
 exact YC C_UNITS (qu (qb T23) rfl qdz)
 exact qO 3 C23.nd (qx O23_3) (by decide)
 refine qm (M1:=[1]) ?_ ?_
 refine zb 4 ?_ ?_ ?_ ?_ ?_ ?_ ?_
 ·exact C23.nd
 ·exact (qx O23_4)
 ·rfl
 ·rfl
 ·exact .inl rfl
 ·decide
 refine qw K_added hr (by decide) (qu (qb T23) rfl qdA) ?_ rfl
 refine qd ?_ ?_
 refine qw K_middle_of hr (by decide) (qu (qb T23) rfl Y8) ?_ rfl
 refine qd ?_ ?_
 exact qe 2 (qg V23_2) (by decide)
 exact qj
 refine qd ?_ ?_
 exact qe 3 (qg V23_3) (by decide)
 exact qj
 refine qt ?_
 refine Wk hr 1 (qg qeP) (by decide) (by decide) ?_ ?_
 exact qe 4 (qg qiL) (by decide)
 refine qG zu ?_ ?_
 refine qdg hr ?_ ?_ ?_
 exact qe 1 (qg qeP) (by decide)
 exact qe 4 (qg qiL) (by decide)
 exact ql
 exact ql
 refine qt ?_
 refine qI ?_
 refine Q7 ?_
 refine Zc (Q5 hr) (qu (qb T23) rfl qbQ) z_sorted zE ?_
 refine qd ?_ ?_
 refine QV (CompOk.of (k:=1) JN ["cubes", "counts", "cube", "unit", "", "square"] (qb T23) rfl rfl rfl (by decide +kernel)) rfl (by decide +kernel) ?_ (fun _ _ _ _ _ _=>?_) (fun _ _ _ _ _ _=>?_)
 refine Jw ?_
 exact qe 1 (qg qeP) (by decide)
 refine Zb ?_
 refine qQ (d_eq hr) ?_ ?_ (zJ _)
 refine YF hr ?_ ?_
 exact qe 1 (qy (by decide +kernel)) (by decide)
 exact qe 5 (qy (by decide +kernel)) (by decide)
 exact ql
 exact qe 5 (qy (by decide +kernel)) (by decide)
 exact qj
noncomputable abbrev T2:Stmt:=top 18
noncomputable abbrev jL:List Str:=["squares", "counts", "square", "edge"]
theorem C2:FnScope jL ["squares"] (qb T2):=⟨rfl,rfl,rfl,by decide +kernel,rfl,by decide +kernel,by decide +kernel⟩
theorem V2_0:visB (qb T2) "squares" = true:=by decide +kernel
theorem V2_1:visB (qb T2) "counts" = true:=by decide +kernel
theorem O2_1:locB (qb T2) "counts" = true:=by decide +kernel
theorem V2_2:visB (qb T2) "square" = true:=by decide +kernel
theorem O2_2:locB (qb T2) "square" = true:=by decide +kernel
theorem V2_3:visB (qb T2) "edge" = true:=by decide +kernel
theorem O2_3:locB (qb T2) "edge" = true:=by decide +kernel
theorem qaA:glB (qb T2) "edges_of" = true:=by decide +kernel
noncomputable def Zm:Rho->Option Out:=(seqO (qM 1 (kd (.dict []))) (seqO (sFor (evI (vr 0) seqD) (gNm 2) (sFor (evI (evC 1 (aC (vr 2) aN) QB) seqD) (gNm 3) (JC 1 (vr 3) (qF (ev2 (ev3 (vr 1) (vr 3) (kd (.int 0)) ji) (kd (.int 1)) qC))))) (sRet (vr 1))))
noncomputable def zr (ds:List PyData):Option PyData:=ob (Zm (rho0 jL.length ds)) outD
theorem ww {P:Program} {w:World} {K:PySem.W.Frag} {mg:Str->Option Value} {base:Heap} {f:Addr} {fd:FuncData} (F:Fun K "edge_counts" "edge_counts" T2 f fd) (m:mg "edge_counts" = some (.ref f)) (b:Binds K fd ["squares"] []) (K_edges_of:Known P w K mg base "edges_of" 1 3 QB):Known P w K mg base "edge_counts" 1 4 zr:=by
 refine ⟨f,fd,["squares"],F.pure (k:=3) (u:=Zm) (M':=[]) C2 rfl (fun cdv A outer s H E hr G=>?_),m,F.kp,b⟩
 refine qm (M1:=[1]) ?_ ?_
 refine zj 1 ?_ ?_ ?_ ?_ ?_ ?_ ?_ ?_
 ·exact C2.nd
 ·exact (qx O2_1)
 ·rfl
 ·rfl
 ·exact .inl rfl
 ·decide
 ·decide
 exact YL
 refine qm (M1:=[1]) ?_ ?_
 refine za PassesOwn.never rfl ?_ (fun _=>?_) (fun _=>?_)
 refine qR ?_
 exact qe 0 (qg V2_0) (by decide)
 exact qO 2 C2.nd (qx O2_2) (by decide)
 refine qt ?_
 refine za PassesOwn.never rfl ?_ (fun _=>?_) (fun _=>?_)
 refine qR ?_
 refine qw K_edges_of hr (by decide) (qu (qb T2) rfl qaA) ?_ rfl
 refine qd ?_ ?_
 exact qe 2 (qg V2_2) (by decide)
 exact qj
 exact qO 3 C2.nd (qx O2_3) (by decide)
 refine qt ?_
 refine Wk hr 1 (qg V2_1) (by decide) (by decide) ?_ ?_
 exact qe 3 (qg V2_3) (by decide)
 refine qG zu ?_ ?_
 refine qdg hr ?_ ?_ ?_
 exact qe 1 (qg V2_1) (by decide)
 exact qe 3 (qg V2_3) (by decide)
 exact ql
 exact ql
 refine qt ?_
 refine qI ?_
 exact qe 1 (qg V2_1) (by decide)
noncomputable abbrev T0:Stmt:=top 20
noncomputable abbrev jd:List Str:=["solid", "square", "pair", "within"]
theorem C0:FnScope jd ["solid", "square"] (qb T0):=⟨rfl,rfl,rfl,by decide +kernel,rfl,by decide +kernel,by decide +kernel⟩
theorem V0_0:visB (qb T0) "solid" = true:=by decide +kernel
theorem V0_1:visB (qb T0) "square" = true:=by decide +kernel
theorem V0_2:visB (qb T0) "pair" = true:=by decide +kernel
theorem O0_2:locB (qb T0) "pair" = true:=by decide +kernel
theorem V0_3:visB (qb T0) "within" = true:=by decide +kernel
theorem O0_3:locB (qb T0) "within" = true:=by decide +kernel
theorem qau:glB (qb T0) "cubes_at" = true:=by decide +kernel
theorem Wx:glB (qb T0) "middle_of" = true:=by decide +kernel
theorem qbK:glB (qb T0) "negated" = true:=by decide +kernel
theorem qet:glB (qb T0) "added" = true:=by decide +kernel
noncomputable def Qx:Rho->Option Out:=(seqO (sSet 2 (evC 1 (aC (vr 1) aN) Qg)) (seqO (sSet 3 (vIf (tV (ev2 (ev2 (vr 2) (kd (.int 0)) ixD) (vr 0) inD)) (ev2 (vr 2) (kd (.int 0)) ixD) (ev2 (vr 2) (kd (.int 1)) ixD))) (sRet (evC 2 (aC (vr 1) (aC (evC 1 (aC (evC 1 (aC (vr 3) aN) zf) aN) Ql) aN)) zc))))
noncomputable def zx (ds:List PyData):Option PyData:=ob (Qx (rho0 jd.length ds)) outD
theorem Yx {P:Program} {w:World} {K:PySem.W.Frag} {mg:Str->Option Value} {base:Heap} {f:Addr} {fd:FuncData} (F:Fun K "outward_from" "outward_from" T0 f fd) (m:mg "outward_from" = some (.ref f)) (b:Binds K fd ["solid", "square"] []) (K_cubes_at:Known P w K mg base "cubes_at" 1 2 Qg) (K_added:Known P w K mg base "added" 2 1 zc) (K_negated:Known P w K mg base "negated" 1 1 Ql) (K_middle_of:Known P w K mg base "middle_of" 1 1 zf):Known P w K mg base "outward_from" 2 3 zx:=by
 refine ⟨f,fd,["solid", "square"],F.pure (k:=2) (u:=Qx) (M':=[]) C0 rfl (fun cdv A outer s H E hr G=>?_),m,F.kp,b⟩
 refine qm (M1:=[]) ?_ ?_
 refine zb 2 ?_ ?_ ?_ ?_ ?_ ?_ ?_
 ·exact C0.nd
 ·exact (qx O0_2)
 ·rfl
 ·rfl
 ·exact .inl rfl
 ·decide
 refine qw K_cubes_at hr (by decide) (qu (qb T0) rfl qau) ?_ rfl
 refine qd ?_ ?_
 exact qe 1 (qg V0_1) (by decide)
 exact qj
 refine qm (M1:=[]) ?_ ?_
 refine zb 3 ?_ ?_ ?_ ?_ ?_ ?_ ?_
 ·exact C0.nd
 ·exact (qx O0_3)
 ·rfl
 ·rfl
 ·exact .inl rfl
 ·decide
 refine YD ?_ ?_ ?_
 refine qQ (d_in hr) ?_ ?_ rfl
 refine qN ?_ ?_
 exact qe 2 (qg V0_2) (by decide)
 exact ql
 exact qe 0 (qg V0_0) (by decide)
 refine qN ?_ ?_
 exact qe 2 (qg V0_2) (by decide)
 exact ql
 refine qN ?_ ?_
 exact qe 2 (qg V0_2) (by decide)
 exact ql
 refine qt ?_
 refine qI ?_
 refine qw K_added hr (by decide) (qu (qb T0) rfl qet) ?_ rfl
 refine qd ?_ ?_
 exact qe 1 (qg V0_1) (by decide)
 refine qd ?_ ?_
 refine qw K_negated hr (by decide) (qu (qb T0) rfl qbK) ?_ rfl
 refine qd ?_ ?_
 refine qw K_middle_of hr (by decide) (qu (qb T0) rfl Wx) ?_ rfl
 refine qd ?_ ?_
 exact qe 3 (qg V0_3) (by decide)
 exact qj
 exact qj
 exact qj
noncomputable abbrev T24:Stmt:=top 23
noncomputable abbrev JM:List Str:=["solid", "counts"]
theorem C24:FnScope JM ["solid"] (qb T24):=⟨rfl,rfl,rfl,by decide +kernel,rfl,by decide +kernel,by decide +kernel⟩
theorem V24_0:visB (qb T24) "solid" = true:=by decide +kernel
theorem V24_1:visB (qb T24) "counts" = true:=by decide +kernel
theorem O24_1:locB (qb T24) "counts" = true:=by decide +kernel
theorem qaz:glB (qb T24) "skin_of" = true:=by decide +kernel
theorem yq:glB (qb T24) "edge_counts" = true:=by decide +kernel
theorem qgL:glB (qb T24) "min" = true:=by decide +kernel
noncomputable def JX:Rho->Option Out:=(seqO (sSet 1 (evC 1 (aC (evC 1 (aC (vr 0) aN) zy) aN) zr)) (sRet (ev2 (qY 2 (evI (vr 1) Js) (tV (ev2 (ev2 (vr 1) (vr 2) ix2D) (kd Jf) eqD)) (vr 2)) (kd .none) qda)))
noncomputable def Zo (ds:List PyData):Option PyData:=ob (JX (rho0 JM.length ds)) outD
theorem qdY {P:Program} {w:World} {K:PySem.W.Frag} {mg:Str->Option Value} {base:Heap} {f:Addr} {fd:FuncData} (F:Fun K "crowded" "crowded" T24 f fd) (m:mg "crowded" = some (.ref f)) (b:Binds K fd ["solid"] []) (K_edge_counts:Known P w K mg base "edge_counts" 1 4 zr) (K_skin_of:Known P w K mg base "skin_of" 1 2 zy) (z_min:mg "min" = none) (C_CROWD:JF K mg "CROWD" Jf):Known P w K mg base "crowded" 1 5 Zo:=by
 refine ⟨f,fd,["solid"],F.pure (k:=4) (u:=JX) (M':=[]) C24 rfl (fun cdv A outer s H E hr G=>?_),m,F.kp,b⟩
 refine qm (M1:=[]) ?_ ?_
 refine zb 1 ?_ ?_ ?_ ?_ ?_ ?_ ?_
 ·exact C24.nd
 ·exact (qx O24_1)
 ·rfl
 ·rfl
 ·exact .inl rfl
 ·decide
 refine qw K_edge_counts hr (by decide) (qu (qb T24) rfl yq) ?_ rfl
 refine qd ?_ ?_
 refine qw K_skin_of hr (by decide) (qu (qb T24) rfl qaz) ?_ rfl
 refine qd ?_ ?_
 exact qe 0 (qg V24_0) (by decide)
 exact qj
 exact qj
 refine qt ?_
 refine qI ?_
 refine qd7 (qjd hr) (qu (qb T24) rfl qgL) z_min qdH ?_ ?_
 refine QV (CompOk.of (k:=1) JM ["solid", "counts", "edge"] (qb T24) rfl rfl rfl (by decide +kernel)) rfl (by decide +kernel) ?_ (fun _ _ _ _ _ _=>?_) (fun _ _ _ _ _ _=>?_)
 refine Jw ?_
 exact qe 1 (qg V24_1) (by decide)
 refine Zb ?_
 refine qQ (d_eq hr) ?_ ?_ (zJ _)
 refine YF hr ?_ ?_
 exact qe 1 (qy (by decide +kernel)) (by decide)
 exact qe 2 (qy (by decide +kernel)) (by decide)
 exact YC C_CROWD (yG (by decide +kernel))
 exact qe 2 (qy (by decide +kernel)) (by decide)
 exact qf5
noncomputable abbrev T12:Stmt:=top 25
noncomputable abbrev J8:List Str:=["solid", "square", "edge", "other", "beyond"]
theorem C12:FnScope J8 ["solid", "square", "edge", "other"] (qb T12):=⟨rfl,rfl,rfl,by decide +kernel,rfl,by decide +kernel,by decide +kernel⟩
theorem V12_0:visB (qb T12) "solid" = true:=by decide +kernel
theorem qiw:visB (qb T12) "square" = true:=by decide +kernel
theorem qix:visB (qb T12) "edge" = true:=by decide +kernel
theorem V12_3:visB (qb T12) "other" = true:=by decide +kernel
theorem qiy:visB (qb T12) "beyond" = true:=by decide +kernel
theorem O12_4:locB (qb T12) "beyond" = true:=by decide +kernel
theorem J4:glB (qb T12) "negated" = true:=by decide +kernel
theorem wC:glB (qb T12) "added" = true:=by decide +kernel
theorem JH:glB (qb T12) "outward_from" = true:=by decide +kernel
noncomputable def ju:Rho->Option Out:=(seqO (sSet 4 (evC 2 (aC (vr 3) (aC (evC 1 (aC (vr 2) aN) Ql) aN)) zc)) (seqO (sIf (tV (ev2 (vr 4) (evC 2 (aC (vr 2) (aC (evC 1 (aC (vr 1) aN) Ql) aN)) zc) eqD)) (sRet (kd (.int 0))) sN) (sRet (vIf (tV (ev2 (vr 4) (evC 2 (aC (vr 0) (aC (vr 1) aN)) zx) eqD)) (kd (.int 1)) (ev1 (kd (.int 1)) negD)))))
noncomputable def Qk (ds:List PyData):Option PyData:=ob (ju (rho0 J8.length ds)) outD
theorem qa5 {P:Program} {w:World} {K:PySem.W.Frag} {mg:Str->Option Value} {base:Heap} {f:Addr} {fd:FuncData} (F:Fun K "bend_over" "bend_over" T12 f fd) (m:mg "bend_over" = some (.ref f)) (b:Binds K fd ["solid", "square", "edge", "other"] []) (K_added:Known P w K mg base "added" 2 1 zc) (K_negated:Known P w K mg base "negated" 1 1 Ql) (K_outward_from:Known P w K mg base "outward_from" 2 3 zx):Known P w K mg base "bend_over" 4 4 Qk:=by
 refine ⟨f,fd,["solid", "square", "edge", "other"],F.pure (k:=3) (u:=ju) (M':=[]) C12 rfl (fun cdv A outer s H E hr G=>?_),m,F.kp,b⟩
 refine qm (M1:=[]) ?_ ?_
 refine zb 4 ?_ ?_ ?_ ?_ ?_ ?_ ?_
 ·exact C12.nd
 ·exact (qx O12_4)
 ·rfl
 ·rfl
 ·exact .inl rfl
 ·decide
 refine qw K_added hr (by decide) (qu (qb T12) rfl wC) ?_ rfl
 refine qd ?_ ?_
 exact qe 3 (qg V12_3) (by decide)
 refine qd ?_ ?_
 refine qw K_negated hr (by decide) (qu (qb T12) rfl J4) ?_ rfl
 refine qd ?_ ?_
 exact qe 2 (qg qix) (by decide)
 exact qj
 exact qj
 refine qm (M1:=[]) ?_ ?_
 refine Qu ?_ ?_ ?_
 refine qQ (d_eq hr) ?_ ?_ (zJ _)
 exact qe 4 (qg qiy) (by decide)
 refine qw K_added hr (by decide) (qu (qb T12) rfl wC) ?_ rfl
 refine qd ?_ ?_
 exact qe 2 (qg qix) (by decide)
 refine qd ?_ ?_
 refine qw K_negated hr (by decide) (qu (qb T12) rfl J4) ?_ rfl
 refine qd ?_ ?_
 exact qe 1 (qg qiw) (by decide)
 exact qj
 exact qj
 refine qt ?_
 refine qI ?_
 exact ql
 exact Qc
 refine qt ?_
 refine qI ?_
 refine YD ?_ ?_ ?_
 refine qQ (d_eq hr) ?_ ?_ (zJ _)
 exact qe 4 (qg qiy) (by decide)
 refine qw K_outward_from hr (by decide) (qu (qb T12) rfl JH) ?_ rfl
 refine qd ?_ ?_
 exact qe 0 (qg V12_0) (by decide)
 refine qd ?_ ?_
 exact qe 1 (qg qiw) (by decide)
 exact qj
 exact ql
 refine Jv Jg ?_
 exact ql
noncomputable abbrev T1:Stmt:=top 27
noncomputable abbrev jb:List Str:=["_law_script", "_law_k"]
theorem C1:FnScope jb ["_law_script", "_law_k"] (qb T1):=⟨rfl,rfl,rfl,by decide +kernel,rfl,by decide +kernel,by decide +kernel⟩
theorem V1_0:visB (qb T1) "_law_script" = true:=by decide +kernel
theorem V1_1:visB (qb T1) "_law_k" = true:=by decide +kernel
theorem qi2:glB (qb T1) "len" = true:=by decide +kernel
noncomputable def Ze:Rho->Option Out:=(seqO (sIf (tV (ev2 (vr 1) (evA (aC (vr 0) aN) lenD) ltD2)) (sRet (ev2 (vr 0) (vr 1) ixD)) sN) (sRet (kd (.int 0))))
noncomputable def zT (ds:List PyData):Option PyData:=ob (Ze (rho0 jb.length ds)) outD
theorem Yw {P:Program} {w:World} {K:PySem.W.Frag} {mg:Str->Option Value} {base:Heap} {f:Addr} {fd:FuncData} (F:Fun K "_law_cell_at" "_law_cell_at" T1 f fd) (m:mg "_law_cell_at" = some (.ref f)) (b:Binds K fd ["_law_script", "_law_k"] []) (z_len:mg "len" = none):Known P w K mg base "_law_cell_at" 2 1 zT:=by
 refine ⟨f,fd,["_law_script", "_law_k"],F.pure (k:=0) (u:=Ze) (M':=[]) C1 rfl (fun cdv A outer s H E hr G=>?_),m,F.kp,b⟩
 refine qm (M1:=[]) ?_ ?_
 refine Qu ?_ ?_ ?_
 refine qQ (qiN hr) ?_ ?_ (zJ _)
 exact qe 1 (qg V1_1) (by decide)
 refine Q6 yZ (qu (qb T1) rfl qi2) z_len PySem.boot_len ?_
 refine qd ?_ ?_
 exact qe 0 (qg V1_0) (by decide)
 exact qj
 refine qt ?_
 refine qI ?_
 refine qN ?_ ?_
 exact qe 0 (qg V1_0) (by decide)
 exact qe 1 (qg V1_1) (by decide)
 exact Qc
 refine qt ?_
 refine qI ?_
 exact ql
noncomputable abbrev T5:Stmt:=top 28
noncomputable abbrev Jb:List Str:=["_law_found"]
theorem C5:FnScope Jb ["_law_found"] (qb T5):=⟨rfl,rfl,rfl,by decide +kernel,rfl,by decide +kernel,by decide +kernel⟩
theorem V5_0:visB (qb T5) "_law_found" = true:=by decide +kernel
theorem jJ:glB (qb T5) "isinstance" = true:=by decide +kernel
theorem qi3:glB (qb T5) "int" = true:=by decide +kernel
theorem qgN:glB (qb T5) "bool" = true:=by decide +kernel
noncomputable def JD:Rho->Option Out:=(sRet (vA (ev1 (vr 0) (isiD "int")) (vN (ev1 (vr 0) (isiD "bool")))))
noncomputable def Qs (ds:List PyData):Option PyData:=ob (JD (rho0 Jb.length ds)) outD
theorem W8 {P:Program} {w:World} {K:PySem.W.Frag} {mg:Str->Option Value} {base:Heap} {f:Addr} {fd:FuncData} (F:Fun K "_law_whole" "_law_whole" T5 f fd) (m:mg "_law_whole" = some (.ref f)) (b:Binds K fd ["_law_found"] []) (z_isinstance:mg "isinstance" = none) (z_int:mg "int" = none) (z_bool:mg "bool" = none):Known P w K mg base "_law_whole" 1 1 Qs:=by
 refine ⟨f,fd,["_law_found"],F.pure (k:=0) (u:=JD) (M':=[]) C5 rfl (fun cdv A outer s H E hr G=>?_),m,F.kp,b⟩
 refine qt ?_
 refine qI ?_
 refine qjW ?_ ?_
 refine qak (T := "int") (qhz _) (qu (qb T5) rfl jJ) z_isinstance (qu (qb T5) rfl qi3) z_int rfl rfl ?_
 exact qe 0 (qg V5_0) (by decide)
 refine qj0 ?_
 refine qjZ ?_
 refine qak (T := "bool") (qfL _) (qu (qb T5) rfl jJ) z_isinstance (qu (qb T5) rfl qgN) z_bool rfl rfl ?_
 exact qe 0 (qg V5_0) (by decide)
noncomputable abbrev T6:Stmt:=top 29
noncomputable abbrev Ja:List Str:=["_law_found", "_law_spot", "_law_number"]
theorem C6:FnScope Ja ["_law_found"] (qb T6):=⟨rfl,rfl,rfl,by decide +kernel,rfl,by decide +kernel,by decide +kernel⟩
theorem V6_0:visB (qb T6) "_law_found" = true:=by decide +kernel
theorem V6_1:visB (qb T6) "_law_spot" = true:=by decide +kernel
theorem O6_1:locB (qb T6) "_law_spot" = true:=by decide +kernel
theorem V6_2:visB (qb T6) "_law_number" = true:=by decide +kernel
theorem O6_2:locB (qb T6) "_law_number" = true:=by decide +kernel
theorem jK:glB (qb T6) "isinstance" = true:=by decide +kernel
theorem qgO:glB (qb T6) "list" = true:=by decide +kernel
theorem qex:glB (qb T6) "tuple" = true:=by decide +kernel
theorem qi4:glB (qb T6) "len" = true:=by decide +kernel
theorem wj:glB (qb T6) "_law_whole" = true:=by decide +kernel
noncomputable def Z2:Rho->Option Out:=(seqO (sIf (tN (tV (ev1 (vr 0) (isiD "list")))) (sRet (kd (.bool false))) sN) (seqO (sFor (evI (vr 0) seqD) (gNm 1) (seqO (sIf (tO (tN (tV (ev1 (vr 1) (isiD "tuple")))) (tV (ev2 (evA (aC (vr 1) aN) lenD) (kd (.int 3)) neD))) (sRet (kd (.bool false))) sN) (sFor (evI (vr 1) seqD) (gNm 2) (sIf (tN (tV (evC 1 (aC (vr 2) aN) Qs))) (sRet (kd (.bool false))) sN)))) (sRet (kd (.bool true)))))
noncomputable def Qq (ds:List PyData):Option PyData:=ob (Z2 (rho0 Ja.length ds)) outD
theorem W7 {P:Program} {w:World} {K:PySem.W.Frag} {mg:Str->Option Value} {base:Heap} {f:Addr} {fd:FuncData} (F:Fun K "_law_spots" "_law_spots" T6 f fd) (m:mg "_law_spots" = some (.ref f)) (b:Binds K fd ["_law_found"] []) (K__law_whole:Known P w K mg base "_law_whole" 1 1 Qs) (z_isinstance:mg "isinstance" = none) (z_list:mg "list" = none) (z_tuple:mg "tuple" = none) (z_len:mg "len" = none):Known P w K mg base "_law_spots" 1 2 Qq:=by
 refine ⟨f,fd,["_law_found"],F.pure (k:=1) (u:=Z2) (M':=[]) C6 rfl (fun cdv A outer s H E hr G=>?_),m,F.kp,b⟩
 refine qm (M1:=[]) ?_ ?_
 refine Qu ?_ ?_ ?_
 refine yH ?_
 refine yI ?_
 refine qak (T := "list") (qfM _) (qu (qb T6) rfl jK) z_isinstance (qu (qb T6) rfl qgO) z_list rfl rfl ?_
 exact qe 0 (qg V6_0) (by decide)
 refine qt ?_
 refine qI ?_
 exact qbi
 exact Qc
 refine qm (M1:=[]) ?_ ?_
 refine za PassesOwn.never rfl ?_ (fun _=>?_) (fun _=>?_)
 refine qR ?_
 exact qe 0 (qg V6_0) (by decide)
 exact qO 1 C6.nd (qx O6_1) (by decide)
 refine qm (M1:=[]) ?_ ?_
 refine Qu ?_ ?_ ?_
 refine PDW.pdt ?_
 refine qci ?_ ?_
 refine yH ?_
 refine yI ?_
 refine qak (T := "tuple") (kit_tuple _) (qu (qb T6) rfl jK) z_isinstance (qu (qb T6) rfl qex) z_tuple rfl rfl ?_
 exact qe 1 (qg V6_1) (by decide)
 refine qdh ?_
 refine qQ (d_ne hr) ?_ ?_ (zJ _)
 refine Q6 yZ (qu (qb T6) rfl qi4) z_len PySem.boot_len ?_
 refine qd ?_ ?_
 exact qe 1 (qg V6_1) (by decide)
 exact qj
 exact ql
 refine qt ?_
 refine qI ?_
 exact qbi
 exact Qc
 refine qt ?_
 refine za PassesOwn.never rfl ?_ (fun _=>?_) (fun _=>?_)
 refine qR ?_
 exact qe 1 (qg V6_1) (by decide)
 exact qO 2 C6.nd (qx O6_2) (by decide)
 refine qt ?_
 refine Qu ?_ ?_ ?_
 refine yH ?_
 refine yI ?_
 refine qw K__law_whole hr (by decide) (qu (qb T6) rfl wj) ?_ rfl
 refine qd ?_ ?_
 exact qe 2 (qg V6_2) (by decide)
 exact qj
 refine qt ?_
 refine qI ?_
 exact qbi
 exact Qc
 refine qt ?_
 refine qI ?_
 exact qbi
noncomputable abbrev T13:Stmt:=top 30
noncomputable abbrev J6:List Str:=["_law_cells", "_law_base_here", "_law_cell"]
theorem C13:FnScope J6 ["_law_cells"] (qb T13):=⟨rfl,rfl,rfl,by decide +kernel,rfl,by decide +kernel,by decide +kernel⟩
theorem V13_0:visB (qb T13) "_law_cells" = true:=by decide +kernel
theorem qeG:visB (qb T13) "_law_base_here" = true:=by decide +kernel
theorem O13_1:locB (qb T13) "_law_base_here" = true:=by decide +kernel
theorem qeH:visB (qb T13) "_law_cell" = true:=by decide +kernel
theorem O13_2:locB (qb T13) "_law_cell" = true:=by decide +kernel
noncomputable def jq:Rho->Option Out:=(seqO (qM 1 (evA aN lstD)) (seqO (sFor (evI (vr 0) seqD) (gNm 2) (sIf (tV (ev2 (ev2 (vr 2) (kd (.int 5)) modD) (kd (.int 0)) eqD)) (sApp 1 (ev2 (ev2 (ev2 (vr 2) (kd (.int 5)) Qe) (ev2 (ev2 (kd (.int 2)) (ev2 (kd (.int 10)) (kd (.int 19)) powD) mulD) (kd (.int 1)) qC) modD) (ev2 (kd (.int 10)) (kd (.int 19)) powD) subD)) (sApp 1 (ev2 (ev2 (ev2 (vr 2) (kd (.int 5)) Qe) (kd (.int 9)) modD) (kd (.int 4)) subD)))) (sRet (vr 1))))
noncomputable def Qj (ds:List PyData):Option PyData:=ob (jq (rho0 J6.length ds)) outD
theorem qa2 {P:Program} {w:World} {K:PySem.W.Frag} {mg:Str->Option Value} {base:Heap} {f:Addr} {fd:FuncData} (F:Fun K "_law_base" "_law_base" T13 f fd) (m:mg "_law_base" = some (.ref f)) (b:Binds K fd ["_law_cells"] []):Known P w K mg base "_law_base" 1 1 Qj:=by
 refine ⟨f,fd,["_law_cells"],F.pure (k:=0) (u:=jq) (M':=[]) C13 rfl (fun cdv A outer s H E hr G=>?_),m,F.kp,b⟩
 refine qm (M1:=[1]) ?_ ?_
 refine zj 1 ?_ ?_ ?_ ?_ ?_ ?_ ?_ ?_
 ·exact C13.nd
 ·exact (qx O13_1)
 ·rfl
 ·rfl
 ·exact .inl rfl
 ·decide
 ·decide
 refine ZZ ?_
 exact qj
 refine qm (M1:=[1]) ?_ ?_
 refine za PassesOwn.never rfl ?_ (fun _=>?_) (fun _=>?_)
 refine qR ?_
 exact qe 0 (qg V13_0) (by decide)
 exact qO 2 C13.nd (qx O13_2) (by decide)
 refine qt ?_
 refine Qu ?_ ?_ ?_
 refine qQ (d_eq hr) ?_ ?_ (zJ _)
 refine qG Zg ?_ ?_
 exact qe 2 (qg qeH) (by decide)
 exact ql
 exact ql
 refine qt ?_
 refine qal 1 (qg qeG) (by decide) (by decide) ?_
 refine qG Ym ?_ ?_
 refine qG Zg ?_ ?_
 refine qG ZG ?_ ?_
 exact qe 2 (qg qeH) (by decide)
 exact ql
 refine qG zu ?_ ?_
 refine qG ye ?_ ?_
 exact ql
 refine qG qiO ?_ ?_
 exact ql
 exact ql
 exact ql
 refine qG qiO ?_ ?_
 exact ql
 exact ql
 refine qt ?_
 refine qal 1 (qg qeG) (by decide) (by decide) ?_
 refine qG Ym ?_ ?_
 refine qG Zg ?_ ?_
 refine qG ZG ?_ ?_
 exact qe 2 (qg qeH) (by decide)
 exact ql
 exact ql
 exact ql
 refine qt ?_
 refine qI ?_
 exact qe 1 (qg qeG) (by decide)
noncomputable abbrev T7:Stmt:=top 31
noncomputable abbrev j9:List Str:=["_law_cells", "_law_base_here", "_law_kind", "_law_cubes", "_law_corner", "_law_spot", "_law_k", "_law_cell", "_law_cube", "_law_axis"]
theorem C7:FnScope j9 ["_law_cells", "_law_base_here", "_law_kind"] (qb T7):=⟨rfl,rfl,rfl,by decide +kernel,rfl,by decide +kernel,by decide +kernel⟩
theorem V7_0:visB (qb T7) "_law_cells" = true:=by decide +kernel
theorem V7_1:visB (qb T7) "_law_base_here" = true:=by decide +kernel
theorem V7_2:visB (qb T7) "_law_kind" = true:=by decide +kernel
theorem V7_3:visB (qb T7) "_law_cubes" = true:=by decide +kernel
theorem O7_3:locB (qb T7) "_law_cubes" = true:=by decide +kernel
theorem V7_4:visB (qb T7) "_law_corner" = true:=by decide +kernel
theorem O7_4:locB (qb T7) "_law_corner" = true:=by decide +kernel
theorem V7_5:visB (qb T7) "_law_spot" = true:=by decide +kernel
theorem O7_5:locB (qb T7) "_law_spot" = true:=by decide +kernel
theorem V7_6:visB (qb T7) "_law_k" = true:=by decide +kernel
theorem O7_6:locB (qb T7) "_law_k" = true:=by decide +kernel
theorem V7_7:visB (qb T7) "_law_cell" = true:=by decide +kernel
theorem O7_7:locB (qb T7) "_law_cell" = true:=by decide +kernel
theorem V7_8:visB (qb T7) "_law_cube" = true:=by decide +kernel
theorem O7_8:locB (qb T7) "_law_cube" = true:=by decide +kernel
theorem V7_9:visB (qb T7) "_law_axis" = true:=by decide +kernel
theorem O7_9:locB (qb T7) "_law_axis" = true:=by decide +kernel
theorem j8:glB (qb T7) "tuple" = true:=by decide +kernel
theorem qez:glB (qb T7) "range" = true:=by decide +kernel
theorem qey:glB (qb T7) "len" = true:=by decide +kernel
theorem qgP:glB (qb T7) "list" = true:=by decide +kernel
theorem qdD:glB (qb T7) "sorted" = true:=by decide +kernel
noncomputable def Z1:Rho->Option Out:=(seqO (qM 3 (evA (aC (evA (aC (vr 1) aN) qL) aN) lstD)) (seqO (sIf (tV (ev2 (vr 2) (kd (.int 0)) gtD)) (seqO (qM 3 (evA aN lstD)) (sFor (evI (evA (aC (evA (aC (kd (.int 0)) (aC (kd (.int 0)) (aC (kd (.int 0)) aN))) tupD) (aC (evA (aC (kd (.int 0)) (aC (kd (.int 0)) (aC (kd (.int 1)) aN))) tupD) (aC (evA (aC (kd (.int 1)) (aC (kd (.int 0)) (aC (kd (.int 1)) aN))) tupD) (aC (evA (aC (kd (.int 1)) (aC (kd (.int 1)) (aC (kd (.int 1)) aN))) tupD) (aC (evA (aC (kd (.int 1)) (aC (kd (.int 1)) (aC (kd (.int 0)) aN))) tupD) aN))))) tupD) seqD) (gNm 4) (seqO (qM 5 (evA (aC (ev2 (vr 4) (ev2 (vr 2) (kd (.int 3)) modD) ixD) (aC (ev2 (vr 4) (ev2 (ev2 (vr 2) (kd (.int 1)) qC) (kd (.int 3)) modD) ixD) (aC (ev2 (vr 4) (ev2 (ev2 (vr 2) (kd (.int 2)) qC) (kd (.int 3)) modD) ixD) aN))) lstD)) (seqO (sFor (evR (aC (kd (.int 3)) aN) QR) (gNm 6) (sPut 5 (vr 6) (qF (ev2 (ev2 (vr 1) (vr 6) ixD) (ev2 (ev2 (vr 5) (vr 6) ixD) (ev2 (kd (.int 1)) (ev2 (kd (.int 2)) (ev2 (ev2 (vr 2) (ev2 (evA (aC (kd (.int 3)) (aC (kd (.int 6)) (aC (kd (.int 12)) aN))) tupD) (vr 6) ixD) Qe) (kd (.int 2)) modD) mulD) subD) mulD) qC)))) (sApp 3 (qF (evA (aC (vr 5) aN) qL))))))) sN) (seqO (sFor (evI (vr 0) seqD) (gNm 7) (seqO (qM 8 (Yq (evA (aC (ev2 (vr 3) (ev2 (vr 7) (evA (aC (vr 3) aN) lenD) modD) ixD) aN) zP))) (seqO (sSet 9 (ev2 (ev2 (vr 7) (kd (.int 60)) Qe) (kd (.int 3)) modD)) (seqO (sPut 8 (vr 9) (qF (ev2 (ev2 (ev2 (vr 8) (vr 9) ixD) (ev2 (kd (.int 2)) (ev2 (ev2 (vr 7) (kd (.int 180)) Qe) (kd (.int 2)) modD) mulD) qC) (kd (.int 1)) subD))) (sIf (tA (tV (ev2 (evA (aC (vr 3) aN) lenD) (kd (.int 6)) ltD2)) (tV (ev2 (evA (aC (vr 8) aN) qL) (vr 3) ninD))) (sApp 3 (qF (evA (aC (vr 8) aN) qL))) sN))))) (sRet (evA (aC (vr 3) aN) qZ)))))
noncomputable def zZ (ds:List PyData):Option PyData:=ob (Z1 (rho0 j9.length ds)) outD
theorem W6 {P:Program} {w:World} {K:PySem.W.Frag} {mg:Str->Option Value} {base:Heap} {f:Addr} {fd:FuncData} (F:Fun K "_law_solid" "_law_solid" T7 f fd) (m:mg "_law_solid" = some (.ref f)) (b:Binds K fd ["_law_cells", "_law_base_here", "_law_kind"] []) (z_tuple:mg "tuple" = none) (z_range:mg "range" = none) (z_list:mg "list" = none) (z_len:mg "len" = none) (z_sorted:mg "sorted" = none):Known P w K mg base "_law_solid" 3 1 zZ:=by
 refine ⟨f,fd,["_law_cells", "_law_base_here", "_law_kind"],F.pure (k:=0) (u:=Z1) (M':=[]) C7 rfl (fun cdv A outer s H E hr G=>?_),m,F.kp,b⟩
 refine qm (M1:=[3]) ?_ ?_
 refine zj 3 ?_ ?_ ?_ ?_ ?_ ?_ ?_ ?_
 ·exact C7.nd
 ·exact (qx O7_3)
 ·rfl
 ·rfl
 ·exact .inl rfl
 ·decide
 ·decide
 refine ZZ ?_
 refine qd ?_ ?_
 refine zM QT (qu (qb T7) rfl j8) z_tuple rfl ?_
 refine qd ?_ ?_
 exact qe 1 (qg V7_1) (by decide)
 exact qj
 exact qj
 refine qm (M1:=[3]) ?_ ?_
 refine Qu ?_ ?_ ?_
 refine qQ d_gt ?_ ?_ (zJ _)
 exact qe 2 (qg V7_2) (by decide)
 exact ql
 refine qm (M1:=[3]) ?_ ?_
 refine qeb [] ?_ ?_ ?_
 ·rfl
 ·rfl
 refine zj 3 ?_ ?_ ?_ ?_ ?_ ?_ ?_ ?_
 ·exact C7.nd
 ·exact (qx O7_3)
 ·rfl
 ·rfl
 ·exact .inl rfl
 ·decide
 ·decide
 refine ZZ ?_
 exact qj
 refine qt ?_
 refine za PassesOwn.never rfl ?_ (fun _=>?_) (fun _=>?_)
 refine qR ?_
 refine zB ?_
 refine qd ?_ ?_
 refine zB ?_
 refine qd ?_ ?_
 exact ql
 refine qd ?_ ?_
 exact ql
 refine qd ?_ ?_
 exact ql
 exact qj
 refine qd ?_ ?_
 refine zB ?_
 refine qd ?_ ?_
 exact ql
 refine qd ?_ ?_
 exact ql
 refine qd ?_ ?_
 exact ql
 exact qj
 refine qd ?_ ?_
 refine zB ?_
 refine qd ?_ ?_
 exact ql
 refine qd ?_ ?_
 exact ql
 refine qd ?_ ?_
 exact ql
 exact qj
 refine qd ?_ ?_
 refine zB ?_
 refine qd ?_ ?_
 exact ql
 refine qd ?_ ?_
 exact ql
 refine qd ?_ ?_
 exact ql
 exact qj
 refine qd ?_ ?_
 refine zB ?_
 refine qd ?_ ?_
 exact ql
 refine qd ?_ ?_
 exact ql
 refine qd ?_ ?_
 exact ql
 exact qj
 exact qj
 exact qO 4 C7.nd (qx O7_4) (by decide)
 refine Q8 (M':=[5,3]) [3] ?_ ?_ ?_
 refine qm (M1:=[5,3]) ?_ ?_
 refine zj 5 ?_ ?_ ?_ ?_ ?_ ?_ ?_ ?_
 ·exact C7.nd
 ·exact (qx O7_5)
 ·rfl
 ·rfl
 ·exact .inl rfl
 ·decide
 ·decide
 refine ZZ ?_
 refine qd ?_ ?_
 refine qN ?_ ?_
 exact qe 4 (qg V7_4) (by decide)
 refine qG Zg ?_ ?_
 exact qe 2 (qg V7_2) (by decide)
 exact ql
 refine qd ?_ ?_
 refine qN ?_ ?_
 exact qe 4 (qg V7_4) (by decide)
 refine qG Zg ?_ ?_
 refine qG zu ?_ ?_
 exact qe 2 (qg V7_2) (by decide)
 exact ql
 exact ql
 refine qd ?_ ?_
 refine qN ?_ ?_
 exact qe 4 (qg V7_4) (by decide)
 refine qG Zg ?_ ?_
 refine qG zu ?_ ?_
 exact qe 2 (qg V7_2) (by decide)
 exact ql
 exact ql
 exact qj
 refine qm (M1:=[5,3]) ?_ ?_
 refine Jx PassesOwn.never rfl ?_ ?_ ?_
 refine jX (qu (qb T7) rfl qez) z_range ?_
 refine qd ?_ ?_
 exact ql
 exact qj
 exact qO 6 C7.nd (qx O7_6) (by decide)
 refine qt ?_
 refine Q9 5 (qg V7_5) (by decide) (by decide) ?_ ?_
 exact qe 6 (qg V7_6) (by decide)
 refine qG zu ?_ ?_
 refine qN ?_ ?_
 exact qe 1 (qg V7_1) (by decide)
 exact qe 6 (qg V7_6) (by decide)
 refine qG ye ?_ ?_
 refine qN ?_ ?_
 exact qe 5 (qg V7_5) (by decide)
 exact qe 6 (qg V7_6) (by decide)
 refine qG Ym ?_ ?_
 exact ql
 refine qG ye ?_ ?_
 exact ql
 refine qG Zg ?_ ?_
 refine qG ZG ?_ ?_
 exact qe 2 (qg V7_2) (by decide)
 refine qN ?_ ?_
 refine zB ?_
 refine qd ?_ ?_
 exact ql
 refine qd ?_ ?_
 exact ql
 refine qd ?_ ?_
 exact ql
 exact qj
 exact qe 6 (qg V7_6) (by decide)
 exact ql
 refine qt ?_
 refine jk 3 (qg V7_3) (by decide) (by decide) ?_
 refine zM QT (qu (qb T7) rfl j8) z_tuple rfl ?_
 refine qd ?_ ?_
 exact qe 5 (qg V7_5) (by decide)
 exact qj
 ·rfl
 ·rfl
 exact Qc
 refine qm (M1:=[3]) ?_ ?_
 refine za PassesOwn.never rfl ?_ (fun _=>?_) (fun _=>?_)
 refine qR ?_
 exact qe 0 (qg V7_0) (by decide)
 exact qO 7 C7.nd (qx O7_7) (by decide)
 refine Q8 (M':=[8,3]) [3] ?_ ?_ ?_
 refine qm (M1:=[8,3]) ?_ ?_
 refine qee 8 ?_ ?_ ?_ ?_ ?_ ?_ ?_ ?_
 ·exact C7.nd
 ·exact (qx O7_8)
 ·rfl
 ·rfl
 ·exact .inl rfl
 ·decide
 ·decide
 refine Zx qag (qu (qb T7) rfl qgP) z_list rfl ?_
 refine qd ?_ ?_
 refine qN ?_ ?_
 exact qe 3 (qg V7_3) (by decide)
 refine qG Zg ?_ ?_
 exact qe 7 (qg V7_7) (by decide)
 refine Q6 yZ (qu (qb T7) rfl qey) z_len PySem.boot_len ?_
 refine qd ?_ ?_
 exact qe 3 (qg V7_3) (by decide)
 exact qj
 exact qj
 refine qm (M1:=[8,3]) ?_ ?_
 refine zb 9 ?_ ?_ ?_ ?_ ?_ ?_ ?_
 ·exact C7.nd
 ·exact (qx O7_9)
 ·rfl
 ·rfl
 ·exact .inl rfl
 ·decide
 refine qG Zg ?_ ?_
 refine qG ZG ?_ ?_
 exact qe 7 (qg V7_7) (by decide)
 exact ql
 exact ql
 refine qm (M1:=[8,3]) ?_ ?_
 refine Q9 8 (qg V7_8) (by decide) (by decide) ?_ ?_
 exact qe 9 (qg V7_9) (by decide)
 refine qG Ym ?_ ?_
 refine qG zu ?_ ?_
 refine qN ?_ ?_
 exact qe 8 (qg V7_8) (by decide)
 exact qe 9 (qg V7_9) (by decide)
 refine qG ye ?_ ?_
 exact ql
 refine qG Zg ?_ ?_
 refine qG ZG ?_ ?_
 exact qe 7 (qg V7_7) (by decide)
 exact ql
 exact ql
 exact ql
 refine qt ?_
 refine Qu ?_ ?_ ?_
 refine PDW.pdt ?_
 refine qhU ?_ ?_
 refine qQ (qiN hr) ?_ ?_ (zJ _)
 refine Q6 yZ (qu (qb T7) rfl qey) z_len PySem.boot_len ?_
 refine qd ?_ ?_
 exact qe 3 (qg V7_3) (by decide)
 exact qj
 exact ql
 refine qgc ?_
 refine qQ (yF hr) ?_ ?_ rfl
 refine zM QT (qu (qb T7) rfl j8) z_tuple rfl ?_
 refine qd ?_ ?_
 exact qe 8 (qg V7_8) (by decide)
 exact qj
 exact qe 3 (qg V7_3) (by decide)
 refine qt ?_
 refine jk 3 (qg V7_3) (by decide) (by decide) ?_
 refine zM QT (qu (qb T7) rfl j8) z_tuple rfl ?_
 refine qd ?_ ?_
 exact qe 8 (qg V7_8) (by decide)
 exact qj
 exact Qc
 ·rfl
 ·rfl
 refine qt ?_
 refine qI ?_
 refine Q7 ?_
 refine Zc (Q5 hr) (qu (qb T7) rfl qdD) z_sorted zE ?_
 refine qd ?_ ?_
 exact qe 3 (qg V7_3) (by decide)
 exact qj
noncomputable abbrev T14:Stmt:=top 32
noncomputable abbrev jc:List Str:=["_law_cubes", "_law_squares", "_law_cube", "_law_axis", "_law_by", "_law_other", "_law_square"]
theorem C14:FnScope jc ["_law_cubes"] (qb T14):=⟨rfl,rfl,rfl,by decide +kernel,rfl,by decide +kernel,by decide +kernel⟩
theorem qiz:visB (qb T14) "_law_cubes" = true:=by decide +kernel
theorem qiA:visB (qb T14) "_law_squares" = true:=by decide +kernel
theorem O14_1:locB (qb T14) "_law_squares" = true:=by decide +kernel
theorem qiB:visB (qb T14) "_law_cube" = true:=by decide +kernel
theorem O14_2:locB (qb T14) "_law_cube" = true:=by decide +kernel
theorem qcz:visB (qb T14) "_law_axis" = true:=by decide +kernel
theorem O14_3:locB (qb T14) "_law_axis" = true:=by decide +kernel
theorem qiC:visB (qb T14) "_law_by" = true:=by decide +kernel
theorem O14_4:locB (qb T14) "_law_by" = true:=by decide +kernel
theorem qeI:visB (qb T14) "_law_other" = true:=by decide +kernel
theorem O14_5:locB (qb T14) "_law_other" = true:=by decide +kernel
theorem qeJ:visB (qb T14) "_law_square" = true:=by decide +kernel
theorem qeu:glB (qb T14) "list" = true:=by decide +kernel
theorem wD:glB (qb T14) "tuple" = true:=by decide +kernel
theorem qdx:glB (qb T14) "range" = true:=by decide +kernel
theorem qbM:glB (qb T14) "sorted" = true:=by decide +kernel
noncomputable def jr:Rho->Option Out:=(seqO (qM 1 (evA aN lstD)) (seqO (sFor (evI (vr 0) seqD) (gNm 2) (sFor (evR (aC (kd (.int 3)) aN) QR) (gNm 3) (sFor (evI (evA (aC (ev1 (kd (.int 1)) negD) (aC (kd (.int 1)) aN)) tupD) seqD) (gNm 4) (seqO (qM 5 (evA (aC (vr 2) aN) zP)) (seqO (sPut 5 (vr 3) (qF (ev2 (ev2 (vr 5) (vr 3) ixD) (vr 4) qC))) (sIf (tV (ev2 (evA (aC (vr 5) aN) qL) (vr 0) ninD)) (seqO (qM 6 (qY 7 (evI (vr 2) seqD) tT (ev2 (ev2 (kd (.int 2)) (vr 7) mulD) (kd (.int 1)) qC))) (seqO (sPut 6 (vr 3) (qF (ev2 (ev2 (vr 6) (vr 3) ixD) (vr 4) qC))) (sApp 1 (qF (evA (aC (vr 6) aN) qL))))) sN)))))) (sRet (evA (aC (vr 1) aN) qZ))))
noncomputable def qW (ds:List PyData):Option PyData:=ob (jr (rho0 jc.length ds)) outD
theorem qa4 {P:Program} {w:World} {K:PySem.W.Frag} {mg:Str->Option Value} {base:Heap} {f:Addr} {fd:FuncData} (F:Fun K "_law_skin" "_law_skin" T14 f fd) (m:mg "_law_skin" = some (.ref f)) (b:Binds K fd ["_law_cubes"] []) (z_list:mg "list" = none) (z_tuple:mg "tuple" = none) (z_range:mg "range" = none) (z_sorted:mg "sorted" = none):Known P w K mg base "_law_skin" 1 1 qW:=by
 refine ⟨f,fd,["_law_cubes"],F.pure (k:=0) (u:=jr) (M':=[]) C14 rfl (fun cdv A outer s H E hr G=>?_),m,F.kp,b⟩
 refine qm (M1:=[1]) ?_ ?_
 refine zj 1 ?_ ?_ ?_ ?_ ?_ ?_ ?_ ?_
 ·exact C14.nd
 ·exact (qx O14_1)
 ·rfl
 ·rfl
 ·exact .inl rfl
 ·decide
 ·decide
 refine ZZ ?_
 exact qj
 refine qm (M1:=[1]) ?_ ?_
 refine za PassesOwn.never rfl ?_ (fun _=>?_) (fun _=>?_)
 refine qR ?_
 exact qe 0 (qg qiz) (by decide)
 exact qO 2 C14.nd (qx O14_2) (by decide)
 refine qt ?_
 refine Jx PassesOwn.never rfl ?_ ?_ ?_
 refine jX (qu (qb T14) rfl qdx) z_range ?_
 refine qd ?_ ?_
 exact ql
 exact qj
 exact qO 3 C14.nd (qx O14_3) (by decide)
 refine qt ?_
 refine za PassesOwn.never rfl ?_ (fun _=>?_) (fun _=>?_)
 refine qR ?_
 refine zB ?_
 refine qd ?_ ?_
 refine Jv Jg ?_
 exact ql
 refine qd ?_ ?_
 exact ql
 exact qj
 exact qO 4 C14.nd (qx O14_4) (by decide)
 refine Q8 (M':=[5,1]) [1] ?_ ?_ ?_
 refine qm (M1:=[5,1]) ?_ ?_
 refine zj 5 ?_ ?_ ?_ ?_ ?_ ?_ ?_ ?_
 ·exact C14.nd
 ·exact (qx O14_5)
 ·rfl
 ·rfl
 ·exact .inl rfl
 ·decide
 ·decide
 refine Zx qag (qu (qb T14) rfl qeu) z_list rfl ?_
 refine qd ?_ ?_
 exact qe 2 (qg qiB) (by decide)
 exact qj
 refine qm (M1:=[5,1]) ?_ ?_
 refine Q9 5 (qg qeI) (by decide) (by decide) ?_ ?_
 exact qe 3 (qg qcz) (by decide)
 refine qG zu ?_ ?_
 refine qN ?_ ?_
 exact qe 5 (qg qeI) (by decide)
 exact qe 3 (qg qcz) (by decide)
 exact qe 4 (qg qiC) (by decide)
 refine qt ?_
 refine Qu ?_ ?_ ?_
 refine qQ (yF hr) ?_ ?_ rfl
 refine zM QT (qu (qb T14) rfl wD) z_tuple rfl ?_
 refine qd ?_ ?_
 exact qe 5 (qg qeI) (by decide)
 exact qj
 exact qe 0 (qg qiz) (by decide)
 refine Q8 (M':=[6,5,1]) [5,1] ?_ ?_ ?_
 refine qm (M1:=[6,5,1]) ?_ ?_
 refine YH 6 (CompOk.of (k:=1) jc ["_law_cubes", "_law_squares", "_law_cube", "_law_axis", "_law_by", "_law_other", "_law_square", "_law_number"] (qb T14) rfl rfl rfl (by decide +kernel)) rfl (by decide +kernel) (qb T14) rfl (by decide +kernel) (by decide) (by decide) ?_ (fun _ _ _ _ _ _=>?_) (fun _ _ _ _ _ _=>?_)
 refine qR ?_
 exact qe 2 (qg qiB) (by decide)
 exact Za
 refine qG zu ?_ ?_
 refine qG ye ?_ ?_
 exact ql
 exact qe 7 (qy (by decide +kernel)) (by decide)
 exact ql
 refine qm (M1:=[6,5,1]) ?_ ?_
 refine Q9 6 (qg qeJ) (by decide) (by decide) ?_ ?_
 exact qe 3 (qg qcz) (by decide)
 refine qG zu ?_ ?_
 refine qN ?_ ?_
 exact qe 6 (qg qeJ) (by decide)
 exact qe 3 (qg qcz) (by decide)
 exact qe 4 (qg qiC) (by decide)
 refine qt ?_
 refine jk 1 (qg qiA) (by decide) (by decide) ?_
 refine zM QT (qu (qb T14) rfl wD) z_tuple rfl ?_
 refine qd ?_ ?_
 exact qe 6 (qg qeJ) (by decide)
 exact qj
 ·rfl
 ·rfl
 exact Qc
 ·rfl
 ·rfl
 refine qt ?_
 refine qI ?_
 refine Q7 ?_
 refine Zc (Q5 hr) (qu (qb T14) rfl qbM) z_sorted zE ?_
 refine qd ?_ ?_
 exact qe 1 (qg qiA) (by decide)
 exact qj
noncomputable abbrev T15:Stmt:=top 33
noncomputable abbrev J7:List Str:=["_law_spot", "_law_axes", "_law_found", "_law_axis", "_law_by", "_law_made"]
theorem C15:FnScope J7 ["_law_spot", "_law_axes"] (qb T15):=⟨rfl,rfl,rfl,by decide +kernel,rfl,by decide +kernel,by decide +kernel⟩
theorem V15_0:visB (qb T15) "_law_spot" = true:=by decide +kernel
theorem V15_1:visB (qb T15) "_law_axes" = true:=by decide +kernel
theorem qiD:visB (qb T15) "_law_found" = true:=by decide +kernel
theorem O15_2:locB (qb T15) "_law_found" = true:=by decide +kernel
theorem qiE:visB (qb T15) "_law_axis" = true:=by decide +kernel
theorem O15_3:locB (qb T15) "_law_axis" = true:=by decide +kernel
theorem V15_4:visB (qb T15) "_law_by" = true:=by decide +kernel
theorem O15_4:locB (qb T15) "_law_by" = true:=by decide +kernel
theorem qeK:visB (qb T15) "_law_made" = true:=by decide +kernel
theorem O15_5:locB (qb T15) "_law_made" = true:=by decide +kernel
theorem qev:glB (qb T15) "list" = true:=by decide +kernel
theorem qdy:glB (qb T15) "tuple" = true:=by decide +kernel
theorem qbN:glB (qb T15) "sorted" = true:=by decide +kernel
noncomputable def QL:Rho->Option Out:=(seqO (qM 2 (evA aN lstD)) (seqO (sFor (evI (vr 1) seqD) (gNm 3) (sFor (evI (evA (aC (ev1 (kd (.int 1)) negD) (aC (kd (.int 1)) aN)) tupD) seqD) (gNm 4) (seqO (qM 5 (evA (aC (vr 0) aN) zP)) (seqO (sPut 5 (vr 3) (qF (ev2 (ev2 (vr 5) (vr 3) ixD) (vr 4) qC))) (sApp 2 (qF (evA (aC (vr 5) aN) qL))))))) (sRet (evA (aC (vr 2) aN) qZ))))
noncomputable def q8 (ds:List PyData):Option PyData:=ob (QL (rho0 J7.length ds)) outD
theorem qa3 {P:Program} {w:World} {K:PySem.W.Frag} {mg:Str->Option Value} {base:Heap} {f:Addr} {fd:FuncData} (F:Fun K "_law_near" "_law_near" T15 f fd) (m:mg "_law_near" = some (.ref f)) (b:Binds K fd ["_law_spot", "_law_axes"] []) (z_list:mg "list" = none) (z_tuple:mg "tuple" = none) (z_sorted:mg "sorted" = none):Known P w K mg base "_law_near" 2 1 q8:=by
 refine ⟨f,fd,["_law_spot", "_law_axes"],F.pure (k:=0) (u:=QL) (M':=[]) C15 rfl (fun cdv A outer s H E hr G=>?_),m,F.kp,b⟩
 refine qm (M1:=[2]) ?_ ?_
 refine zj 2 ?_ ?_ ?_ ?_ ?_ ?_ ?_ ?_
 ·exact C15.nd
 ·exact (qx O15_2)
 ·rfl
 ·rfl
 ·exact .inl rfl
 ·decide
 ·decide
 refine ZZ ?_
 exact qj
 refine qm (M1:=[2]) ?_ ?_
 refine za PassesOwn.never rfl ?_ (fun _=>?_) (fun _=>?_)
 refine qR ?_
 exact qe 1 (qg V15_1) (by decide)
 exact qO 3 C15.nd (qx O15_3) (by decide)
 refine qt ?_
 refine za PassesOwn.never rfl ?_ (fun _=>?_) (fun _=>?_)
 refine qR ?_
 refine zB ?_
 refine qd ?_ ?_
 refine Jv Jg ?_
 exact ql
 refine qd ?_ ?_
 exact ql
 exact qj
 exact qO 4 C15.nd (qx O15_4) (by decide)
 refine Q8 (M':=[5,2]) [2] ?_ ?_ ?_
 refine qm (M1:=[5,2]) ?_ ?_
 refine zj 5 ?_ ?_ ?_ ?_ ?_ ?_ ?_ ?_
 ·exact C15.nd
 ·exact (qx O15_5)
 ·rfl
 ·rfl
 ·exact .inl rfl
 ·decide
 ·decide
 refine Zx qag (qu (qb T15) rfl qev) z_list rfl ?_
 refine qd ?_ ?_
 exact qe 0 (qg V15_0) (by decide)
 exact qj
 refine qm (M1:=[5,2]) ?_ ?_
 refine Q9 5 (qg qeK) (by decide) (by decide) ?_ ?_
 exact qe 3 (qg qiE) (by decide)
 refine qG zu ?_ ?_
 refine qN ?_ ?_
 exact qe 5 (qg qeK) (by decide)
 exact qe 3 (qg qiE) (by decide)
 exact qe 4 (qg V15_4) (by decide)
 refine qt ?_
 refine jk 2 (qg qiD) (by decide) (by decide) ?_
 refine zM QT (qu (qb T15) rfl qdy) z_tuple rfl ?_
 refine qd ?_ ?_
 exact qe 5 (qg qeK) (by decide)
 exact qj
 ·rfl
 ·rfl
 refine qt ?_
 refine qI ?_
 refine Q7 ?_
 refine Zc (Q5 hr) (qu (qb T15) rfl qbN) z_sorted zE ?_
 refine qd ?_ ?_
 exact qe 2 (qg qiD) (by decide)
 exact qj
noncomputable abbrev T18:Stmt:=top 34
noncomputable abbrev jO:List Str:=["_law_squares", "_law_met_here", "_law_k", "_law_edge"]
theorem C18:FnScope jO ["_law_squares"] (qb T18):=⟨rfl,rfl,rfl,by decide +kernel,rfl,by decide +kernel,by decide +kernel⟩
theorem qiG:visB (qb T18) "_law_squares" = true:=by decide +kernel
theorem qcA:visB (qb T18) "_law_met_here" = true:=by decide +kernel
theorem O18_1:locB (qb T18) "_law_met_here" = true:=by decide +kernel
theorem qiH:visB (qb T18) "_law_k" = true:=by decide +kernel
theorem O18_2:locB (qb T18) "_law_k" = true:=by decide +kernel
theorem qeM:visB (qb T18) "_law_edge" = true:=by decide +kernel
theorem O18_3:locB (qb T18) "_law_edge" = true:=by decide +kernel
theorem wF:glB (qb T18) "range" = true:=by decide +kernel
theorem Y6:glB (qb T18) "_law_near" = true:=by decide +kernel
theorem qgK:glB (qb T18) "len" = true:=by decide +kernel
noncomputable def j6:Rho->Option Out:=(seqO (YX 1 (kd (.dict []))) (seqO (sFor (evR (aC (evA (aC (vr 0) aN) lenD) aN) QR) (gNm 2) (sFor (evI (evC 2 (aC (ev2 (vr 0) (vr 2) ixD) (aC (qY 4 (evR (aC (kd (.int 3)) aN) QR) (tV (ev2 (ev2 (ev2 (ev2 (vr 0) (vr 2) ixD) (vr 4) ixD) (kd (.int 2)) modD) (kd (.int 1)) eqD)) (vr 4)) aN)) q8) seqD) (gNm 3) (seqO (sIf (tV (ev2 (vr 3) (vr 1) We)) (YW 1 (vr 3)) sN) (jZ 1 (vr 3) (vr 2))))) (sRet (vr 1))))
noncomputable def zU (ds:List PyData):Option PyData:=ob (j6 (rho0 jO.length ds)) outD
theorem qca {P:Program} {w:World} {K:PySem.W.Frag} {mg:Str->Option Value} {base:Heap} {f:Addr} {fd:FuncData} (F:Fun K "_law_met" "_law_met" T18 f fd) (m:mg "_law_met" = some (.ref f)) (b:Binds K fd ["_law_squares"] []) (K__law_near:Known P w K mg base "_law_near" 2 1 q8) (z_range:mg "range" = none) (z_len:mg "len" = none):Known P w K mg base "_law_met" 1 2 zU:=by
 refine ⟨f,fd,["_law_squares"],F.pure (k:=1) (u:=j6) (M':=[]) C18 rfl (fun cdv A outer s H E hr G=>?_),m,F.kp,b⟩
 refine qm (M1:=[1,1001]) ?_ ?_
 refine qgb 1 ?_ ?_ ?_ ?_ ?_ ?_ ?_ ?_
 ·exact C18.nd
 ·exact (qx O18_1)
 ·rfl
 ·rfl
 ·exact .inl rfl
 ·decide
 ·decide
 exact qgs
 refine qm (M1:=[1,1001]) ?_ ?_
 refine Jx PassesOwn.never rfl ?_ ?_ ?_
 refine jX (qu (qb T18) rfl wF) z_range ?_
 refine qd ?_ ?_
 refine Q6 yZ (qu (qb T18) rfl qgK) z_len PySem.boot_len ?_
 refine qd ?_ ?_
 exact qe 0 (qg qiG) (by decide)
 exact qj
 exact qj
 exact qO 2 C18.nd (qx O18_2) (by decide)
 refine qt ?_
 refine za PassesOwn.never rfl ?_ (fun _=>?_) (fun _=>?_)
 refine qR ?_
 refine qw K__law_near hr (by decide) (qu (qb T18) rfl Y6) ?_ rfl
 refine qd ?_ ?_
 refine qN ?_ ?_
 exact qe 0 (qg qiG) (by decide)
 exact qe 2 (qg qiH) (by decide)
 refine qd ?_ ?_
 refine QV (CompOk.of (k:=1) jO ["_law_squares", "_law_met_here", "_law_k", "_law_edge", "_law_axis"] (qb T18) rfl rfl rfl (by decide +kernel)) rfl (by decide +kernel) ?_ (fun _ _ _ _ _ _=>?_) (fun _ _ _ _ _ _=>?_)
 refine YG (qu (qb T18) rfl wF) z_range ?_
 refine qd ?_ ?_
 exact ql
 exact qj
 refine Zb ?_
 refine qQ (d_eq hr) ?_ ?_ (zJ _)
 refine qG Zg ?_ ?_
 refine qN ?_ ?_
 refine qN ?_ ?_
 exact qe 0 (qy (by decide +kernel)) (by decide)
 exact qe 2 (qy (by decide +kernel)) (by decide)
 exact qe 4 (qy (by decide +kernel)) (by decide)
 exact ql
 exact ql
 exact qe 4 (qy (by decide +kernel)) (by decide)
 exact qj
 exact qO 3 C18.nd (qx O18_3) (by decide)
 refine qm (M1:=[1,1001]) ?_ ?_
 refine Qu ?_ ?_ ?_
 refine qQ (qfk hr) ?_ ?_ rfl
 exact qe 3 (qg qeM) (by decide)
 exact qe 1 (qg qcA) (by decide)
 refine qt ?_
 refine qf8 hr 1 (qg qcA) (by decide) ?_
 exact qe 3 (qg qeM) (by decide)
 exact Qc
 refine qt ?_
 refine qec hr 1 (qg qcA) (by decide) ?_ ?_
 exact qe 3 (qg qeM) (by decide)
 exact qe 2 (qg qiH) (by decide)
 refine qt ?_
 refine qI ?_
 exact qe 1 (qg qcA) (by decide)
noncomputable abbrev T8:Stmt:=top 35
noncomputable abbrev QS:List Str:=["_law_edge", "_law_solid_here", "_law_axes", "_law_count", "_law_one", "_law_other", "_law_middle"]
theorem C8:FnScope QS ["_law_edge", "_law_solid_here"] (qb T8):=⟨rfl,rfl,rfl,by decide +kernel,rfl,by decide +kernel,by decide +kernel⟩
theorem V8_0:visB (qb T8) "_law_edge" = true:=by decide +kernel
theorem V8_1:visB (qb T8) "_law_solid_here" = true:=by decide +kernel
theorem V8_2:visB (qb T8) "_law_axes" = true:=by decide +kernel
theorem V8_3:visB (qb T8) "_law_count" = true:=by decide +kernel
theorem O8_3:locB (qb T8) "_law_count" = true:=by decide +kernel
theorem V8_4:visB (qb T8) "_law_one" = true:=by decide +kernel
theorem O8_4:locB (qb T8) "_law_one" = true:=by decide +kernel
theorem V8_5:visB (qb T8) "_law_other" = true:=by decide +kernel
theorem O8_5:locB (qb T8) "_law_other" = true:=by decide +kernel
theorem V8_6:visB (qb T8) "_law_middle" = true:=by decide +kernel
theorem O8_6:locB (qb T8) "_law_middle" = true:=by decide +kernel
theorem qeA:glB (qb T8) "range" = true:=by decide +kernel
theorem qgQ:glB (qb T8) "list" = true:=by decide +kernel
theorem qeB:glB (qb T8) "tuple" = true:=by decide +kernel
noncomputable def Z0:Rho->Option Out:=(seqO (qM 2 (qY 7 (evR (aC (kd (.int 3)) aN) QR) (tV (ev2 (ev2 (ev2 (vr 0) (vr 7) ixD) (kd (.int 2)) modD) (kd (.int 0)) eqD)) (vr 7))) (seqO (sSet 3 (kd (.int 0))) (seqO (sFor (evI (evA (aC (ev1 (kd (.int 1)) negD) (aC (kd (.int 1)) aN)) tupD) seqD) (gNm 4) (sFor (evI (evA (aC (ev1 (kd (.int 1)) negD) (aC (kd (.int 1)) aN)) tupD) seqD) (gNm 5) (seqO (qM 6 (evA (aC (vr 0) aN) zP)) (seqO (sPut 6 (ev2 (vr 2) (kd (.int 0)) ixD) (qF (ev2 (ev2 (vr 6) (ev2 (vr 2) (kd (.int 0)) ixD) ixD) (vr 4) qC))) (seqO (sPut 6 (ev2 (vr 2) (kd (.int 1)) ixD) (qF (ev2 (ev2 (vr 6) (ev2 (vr 2) (kd (.int 1)) ixD) ixD) (vr 5) qC))) (sIf (tV (ev2 (evA (aC (qY 7 (evI (vr 6) seqD) tT (ev2 (ev2 (vr 7) (kd (.int 1)) subD) (kd (.int 2)) Qe)) aN) qL) (vr 1) inD)) (sSet 3 (ev2 (vr 3) (kd (.int 1)) qC)) sN)))))) (sRet (vr 3)))))
noncomputable def zY (ds:List PyData):Option PyData:=ob (Z0 (rho0 QS.length ds)) outD
theorem W5 {P:Program} {w:World} {K:PySem.W.Frag} {mg:Str->Option Value} {base:Heap} {f:Addr} {fd:FuncData} (F:Fun K "_law_round" "_law_round" T8 f fd) (m:mg "_law_round" = some (.ref f)) (b:Binds K fd ["_law_edge", "_law_solid_here"] []) (z_range:mg "range" = none) (z_list:mg "list" = none) (z_tuple:mg "tuple" = none):Known P w K mg base "_law_round" 2 1 zY:=by
 refine ⟨f,fd,["_law_edge", "_law_solid_here"],F.pure (k:=0) (u:=Z0) (M':=[]) C8 rfl (fun cdv A outer s H E hr G=>?_),m,F.kp,b⟩
 refine qm (M1:=[2]) ?_ ?_
 refine YH 2 (CompOk.of (k:=1) QS ["_law_edge", "_law_solid_here", "_law_axes", "_law_count", "_law_one", "_law_other", "_law_middle", "_law_axis"] (qb T8) rfl rfl rfl (by decide +kernel)) rfl (by decide +kernel) (qb T8) rfl (by decide +kernel) (by decide) (by decide) ?_ (fun _ _ _ _ _ _=>?_) (fun _ _ _ _ _ _=>?_)
 refine YG (qu (qb T8) rfl qeA) z_range ?_
 refine qd ?_ ?_
 exact ql
 exact qj
 refine Zb ?_
 refine qQ (d_eq hr) ?_ ?_ (zJ _)
 refine qG Zg ?_ ?_
 refine qN ?_ ?_
 exact qe 0 (qy (by decide +kernel)) (by decide)
 exact qe 7 (qy (by decide +kernel)) (by decide)
 exact ql
 exact ql
 exact qe 7 (qy (by decide +kernel)) (by decide)
 refine qm (M1:=[2]) ?_ ?_
 refine zb 3 ?_ ?_ ?_ ?_ ?_ ?_ ?_
 ·exact C8.nd
 ·exact (qx O8_3)
 ·rfl
 ·rfl
 ·exact .inl rfl
 ·decide
 exact ql
 refine qm (M1:=[2]) ?_ ?_
 refine za PassesOwn.never rfl ?_ (fun _=>?_) (fun _=>?_)
 refine qR ?_
 refine zB ?_
 refine qd ?_ ?_
 refine Jv Jg ?_
 exact ql
 refine qd ?_ ?_
 exact ql
 exact qj
 exact qO 4 C8.nd (qx O8_4) (by decide)
 refine qt ?_
 refine za PassesOwn.never rfl ?_ (fun _=>?_) (fun _=>?_)
 refine qR ?_
 refine zB ?_
 refine qd ?_ ?_
 refine Jv Jg ?_
 exact ql
 refine qd ?_ ?_
 exact ql
 exact qj
 exact qO 5 C8.nd (qx O8_5) (by decide)
 refine Q8 (M':=[6,2]) [2] ?_ ?_ ?_
 refine qm (M1:=[6,2]) ?_ ?_
 refine zj 6 ?_ ?_ ?_ ?_ ?_ ?_ ?_ ?_
 ·exact C8.nd
 ·exact (qx O8_6)
 ·rfl
 ·rfl
 ·exact .inl rfl
 ·decide
 ·decide
 refine Zx qag (qu (qb T8) rfl qgQ) z_list rfl ?_
 refine qd ?_ ?_
 exact qe 0 (qg V8_0) (by decide)
 exact qj
 refine qm (M1:=[6,2]) ?_ ?_
 refine Q9 6 (qg V8_6) (by decide) (by decide) ?_ ?_
 refine qN ?_ ?_
 exact qe 2 (qg V8_2) (by decide)
 exact ql
 refine qG zu ?_ ?_
 refine qN ?_ ?_
 exact qe 6 (qg V8_6) (by decide)
 refine qN ?_ ?_
 exact qe 2 (qg V8_2) (by decide)
 exact ql
 exact qe 4 (qg V8_4) (by decide)
 refine qm (M1:=[6,2]) ?_ ?_
 refine Q9 6 (qg V8_6) (by decide) (by decide) ?_ ?_
 refine qN ?_ ?_
 exact qe 2 (qg V8_2) (by decide)
 exact ql
 refine qG zu ?_ ?_
 refine qN ?_ ?_
 exact qe 6 (qg V8_6) (by decide)
 refine qN ?_ ?_
 exact qe 2 (qg V8_2) (by decide)
 exact ql
 exact qe 5 (qg V8_5) (by decide)
 refine qt ?_
 refine Qu ?_ ?_ ?_
 refine qQ (d_in hr) ?_ ?_ rfl
 refine zM QT (qu (qb T8) rfl qeB) z_tuple rfl ?_
 refine qd ?_ ?_
 refine QV (CompOk.of (k:=1) QS ["_law_edge", "_law_solid_here", "_law_axes", "_law_count", "_law_one", "_law_other", "_law_middle", "_law_number"] (qb T8) rfl rfl rfl (by decide +kernel)) rfl (by decide +kernel) ?_ (fun _ _ _ _ _ _=>?_) (fun _ _ _ _ _ _=>?_)
 refine qR ?_
 exact qe 6 (qg V8_6) (by decide)
 exact Za
 refine qG ZG ?_ ?_
 refine qG Ym ?_ ?_
 exact qe 7 (qy (by decide +kernel)) (by decide)
 exact ql
 exact ql
 exact qj
 exact qe 1 (qg V8_1) (by decide)
 refine qt ?_
 refine zb 3 ?_ ?_ ?_ ?_ ?_ ?_ ?_
 ·exact C8.nd
 ·exact (qx O8_3)
 ·rfl
 ·rfl
 ·exact .inl rfl
 ·decide
 refine qG zu ?_ ?_
 exact qe 3 (qg V8_3) (by decide)
 exact ql
 exact Qc
 ·rfl
 ·rfl
 refine qt ?_
 refine qI ?_
 exact qe 3 (qg V8_3) (by decide)
noncomputable abbrev T19:Stmt:=top 36
noncomputable abbrev yS:List Str:=["_law_solid_here", "_law_joins", "_law_edge", "_law_numbers"]
theorem C19:FnScope yS ["_law_solid_here"] (qb T19):=⟨rfl,rfl,rfl,by decide +kernel,rfl,by decide +kernel,by decide +kernel⟩
theorem qiI:visB (qb T19) "_law_solid_here" = true:=by decide +kernel
theorem qiJ:visB (qb T19) "_law_joins" = true:=by decide +kernel
theorem O19_1:locB (qb T19) "_law_joins" = true:=by decide +kernel
theorem V19_2:visB (qb T19) "_law_edge" = true:=by decide +kernel
theorem O19_2:locB (qb T19) "_law_edge" = true:=by decide +kernel
theorem qiK:visB (qb T19) "_law_numbers" = true:=by decide +kernel
theorem O19_3:locB (qb T19) "_law_numbers" = true:=by decide +kernel
theorem yP:glB (qb T19) "_law_round" = true:=by decide +kernel
theorem Y7:glB (qb T19) "_law_skin" = true:=by decide +kernel
theorem Wy:glB (qb T19) "_law_met" = true:=by decide +kernel
theorem qbP:glB (qb T19) "sorted" = true:=by decide +kernel
noncomputable def j5:Rho->Option Out:=(seqO (qM 1 (evA aN lstD)) (seqO (sFor (evI (evC 1 (aC (evC 1 (aC (vr 0) aN) qW) aN) zU) qb8) (unpD 2 (gsC (gNm 2) (gsC (gNm 3) gsN))) (sApp 1 (evA (aC (ev2 (vr 3) (kd (.int 0)) ixD) (aC (ev2 (vr 3) (kd (.int 1)) ixD) (aC (ev2 (evC 2 (aC (vr 2) (aC (vr 0) aN)) zY) (kd (.int 2)) subD) aN))) tupD))) (sRet (evA (aC (vr 1) aN) qZ))))
noncomputable def Qy (ds:List PyData):Option PyData:=ob (j5 (rho0 yS.length ds)) outD
theorem qb9 {P:Program} {w:World} {K:PySem.W.Frag} {mg:Str->Option Value} {base:Heap} {f:Addr} {fd:FuncData} (F:Fun K "_law_due" "_law_due" T19 f fd) (m:mg "_law_due" = some (.ref f)) (b:Binds K fd ["_law_solid_here"] []) (K__law_round:Known P w K mg base "_law_round" 2 1 zY) (K__law_met:Known P w K mg base "_law_met" 1 2 zU) (K__law_skin:Known P w K mg base "_law_skin" 1 1 qW) (z_sorted:mg "sorted" = none):Known P w K mg base "_law_due" 1 3 Qy:=by
 refine ⟨f,fd,["_law_solid_here"],F.pure (k:=2) (u:=j5) (M':=[]) C19 rfl (fun cdv A outer s H E hr G=>?_),m,F.kp,b⟩
 refine qm (M1:=[1]) ?_ ?_
 refine zj 1 ?_ ?_ ?_ ?_ ?_ ?_ ?_ ?_
 ·exact C19.nd
 ·exact (qx O19_1)
 ·rfl
 ·rfl
 ·exact .inl rfl
 ·decide
 ·decide
 refine ZZ ?_
 exact qj
 refine qm (M1:=[1]) ?_ ?_
 refine za PassesOwn.never rfl ?_ (fun _=>?_) (fun _=>?_)
 refine qd9 ?_
 refine qw K__law_met hr (by decide) (qu (qb T19) rfl Wy) ?_ rfl
 refine qd ?_ ?_
 refine qw K__law_skin hr (by decide) (qu (qb T19) rfl Y7) ?_ rfl
 refine qd ?_ ?_
 exact qe 0 (qg qiI) (by decide)
 exact qj
 exact qj
 refine qhS rfl ?_
 refine Wi ?_ ?_
 exact qO 2 C19.nd (qx O19_2) (by decide)
 refine Wi ?_ ?_
 exact qO 3 C19.nd (qx O19_3) (by decide)
 exact qf7
 refine qt ?_
 refine qal 1 (qg qiJ) (by decide) (by decide) ?_
 refine zB ?_
 refine qd ?_ ?_
 refine qN ?_ ?_
 exact qe 3 (qg qiK) (by decide)
 exact ql
 refine qd ?_ ?_
 refine qN ?_ ?_
 exact qe 3 (qg qiK) (by decide)
 exact ql
 refine qd ?_ ?_
 refine qG Ym ?_ ?_
 refine qw K__law_round hr (by decide) (qu (qb T19) rfl yP) ?_ rfl
 refine qd ?_ ?_
 exact qe 2 (qg V19_2) (by decide)
 refine qd ?_ ?_
 exact qe 0 (qg qiI) (by decide)
 exact qj
 exact ql
 exact qj
 refine qt ?_
 refine qI ?_
 refine Q7 ?_
 refine Zc (Q5 hr) (qu (qb T19) rfl qbP) z_sorted zE ?_
 refine qd ?_ ?_
 exact qe 1 (qg qiJ) (by decide)
 exact qj
noncomputable abbrev T9:Stmt:=top 37
noncomputable abbrev Zz:List Str:=["_law_script", "_law_base_here", "_law_most", "_law_solid_here", "_law_met_here"]
theorem C9:FnScope Zz ["_law_script", "_law_base_here"] (qb T9):=⟨rfl,rfl,rfl,by decide +kernel,rfl,by decide +kernel,by decide +kernel⟩
theorem V9_0:visB (qb T9) "_law_script" = true:=by decide +kernel
theorem V9_1:visB (qb T9) "_law_base_here" = true:=by decide +kernel
theorem V9_2:visB (qb T9) "_law_most" = true:=by decide +kernel
theorem O9_2:locB (qb T9) "_law_most" = true:=by decide +kernel
theorem V9_3:visB (qb T9) "_law_solid_here" = true:=by decide +kernel
theorem O9_3:locB (qb T9) "_law_solid_here" = true:=by decide +kernel
theorem V9_4:visB (qb T9) "_law_met_here" = true:=by decide +kernel
theorem O9_4:locB (qb T9) "_law_met_here" = true:=by decide +kernel
theorem wk:glB (qb T9) "_law_solid" = true:=by decide +kernel
theorem WF:glB (qb T9) "_law_skin" = true:=by decide +kernel
theorem qaB:glB (qb T9) "_law_met" = true:=by decide +kernel
theorem qi5:glB (qb T9) "len" = true:=by decide +kernel
theorem qeC:glB (qb T9) "range" = true:=by decide +kernel
theorem qeD:glB (qb T9) "tuple" = true:=by decide +kernel
noncomputable def QW:Rho->Option Out:=(seqO (sFor (evR (aC (kd (.int 9)) (aC (kd (.int 4)) (aC (ev1 (kd (.int 1)) negD) aN))) qdq) (gNm 2) (seqO (sSet 3 (evC 3 (aC (evS (vr 0) (oS (kd (.int 4))) (oS (vr 2))) (aC (vr 1) (aC (kd (.int 0)) aN))) zZ)) (seqO (sSet 4 (evC 1 (aC (evC 1 (aC (vr 3) aN) qW) aN) zU)) (sIf (tV (ev2 (evA (aC (qY 5 (evI (vr 4) Js) (tV (ev2 (evA (aC (ev2 (vr 4) (vr 5) ix2D) aN) lenD) (kd (.int 2)) gtD)) (vr 5)) aN) lenD) (kd (.int 0)) eqD)) (sRet (vr 3)) sN)))) (sRet (evA (aC (evA (aC (vr 1) aN) qL) aN) lstD)))
noncomputable def zX (ds:List PyData):Option PyData:=ob (QW (rho0 Zz.length ds)) outD
theorem W4 {P:Program} {w:World} {K:PySem.W.Frag} {mg:Str->Option Value} {base:Heap} {f:Addr} {fd:FuncData} (F:Fun K "_law_plain" "_law_plain" T9 f fd) (m:mg "_law_plain" = some (.ref f)) (b:Binds K fd ["_law_script", "_law_base_here"] []) (K__law_solid:Known P w K mg base "_law_solid" 3 1 zZ) (K__law_met:Known P w K mg base "_law_met" 1 2 zU) (K__law_skin:Known P w K mg base "_law_skin" 1 1 qW) (z_len:mg "len" = none) (z_range:mg "range" = none) (z_tuple:mg "tuple" = none):Known P w K mg base "_law_plain" 2 3 zX:=by
 refine ⟨f,fd,["_law_script", "_law_base_here"],F.pure (k:=2) (u:=QW) (M':=[]) C9 rfl (fun cdv A outer s H E hr G=>?_),m,F.kp,b⟩
 refine qm (M1:=[]) ?_ ?_
 refine Jx PassesOwn.never rfl ?_ ?_ ?_
 refine qch (qu (qb T9) rfl qeC) z_range ?_
 refine qd ?_ ?_
 exact ql
 refine qd ?_ ?_
 exact ql
 refine qd ?_ ?_
 refine Jv Jg ?_
 exact ql
 exact qj
 exact qO 2 C9.nd (qx O9_2) (by decide)
 refine qm (M1:=[]) ?_ ?_
 refine zb 3 ?_ ?_ ?_ ?_ ?_ ?_ ?_
 ·exact C9.nd
 ·exact (qx O9_3)
 ·rfl
 ·rfl
 ·exact .inl rfl
 ·decide
 refine qw K__law_solid hr (by decide) (qu (qb T9) rfl wk) ?_ rfl
 refine qd ?_ ?_
 refine qf6 ?_ ?_ ?_
 exact qe 0 (qg V9_0) (by decide)
 refine qbn ?_
 exact ql
 refine qbn ?_
 exact qe 2 (qg V9_2) (by decide)
 refine qd ?_ ?_
 exact qe 1 (qg V9_1) (by decide)
 refine qd ?_ ?_
 exact ql
 exact qj
 refine qm (M1:=[]) ?_ ?_
 refine zb 4 ?_ ?_ ?_ ?_ ?_ ?_ ?_
 ·exact C9.nd
 ·exact (qx O9_4)
 ·rfl
 ·rfl
 ·exact .inl rfl
 ·decide
 refine qw K__law_met hr (by decide) (qu (qb T9) rfl qaB) ?_ rfl
 refine qd ?_ ?_
 refine qw K__law_skin hr (by decide) (qu (qb T9) rfl WF) ?_ rfl
 refine qd ?_ ?_
 exact qe 3 (qg V9_3) (by decide)
 exact qj
 exact qj
 refine qt ?_
 refine Qu ?_ ?_ ?_
 refine qQ (d_eq hr) ?_ ?_ (zJ _)
 refine Q6 yZ (qu (qb T9) rfl qi5) z_len PySem.boot_len ?_
 refine qd ?_ ?_
 refine QV (CompOk.of (k:=1) Zz ["_law_script", "_law_base_here", "_law_most", "_law_solid_here", "_law_met_here", "_law_edge"] (qb T9) rfl rfl rfl (by decide +kernel)) rfl (by decide +kernel) ?_ (fun _ _ _ _ _ _=>?_) (fun _ _ _ _ _ _=>?_)
 refine Jw ?_
 exact qe 4 (qg V9_4) (by decide)
 refine Zb ?_
 refine qQ d_gt ?_ ?_ (zJ _)
 refine Q6 yZ (yG (by decide +kernel)) z_len PySem.boot_len ?_
 refine qd ?_ ?_
 refine YF hr ?_ ?_
 exact qe 4 (qy (by decide +kernel)) (by decide)
 exact qe 5 (qy (by decide +kernel)) (by decide)
 exact qj
 exact ql
 exact qe 5 (qy (by decide +kernel)) (by decide)
 exact qj
 exact ql
 refine qt ?_
 refine qI ?_
 exact qe 3 (qg V9_3) (by decide)
 exact Qc
 refine qt ?_
 refine qI ?_
 refine qjY ?_
 refine qd ?_ ?_
 refine zM QT (qu (qb T9) rfl qeD) z_tuple rfl ?_
 refine qd ?_ ?_
 exact qe 1 (qg V9_1) (by decide)
 exact qj
 exact qj
noncomputable abbrev T10:Stmt:=top 24
noncomputable abbrev ZC:List Str:=["solid", "crowd", "squares", "numbers", "joins", "edge", "pair"]
theorem C10:FnScope ZC ["solid"] (qb T10):=⟨rfl,rfl,rfl,by decide +kernel,rfl,by decide +kernel,by decide +kernel⟩
theorem qeE:visB (qb T10) "solid" = true:=by decide +kernel
theorem V10_1:visB (qb T10) "crowd" = true:=by decide +kernel
theorem O10_1:locB (qb T10) "crowd" = true:=by decide +kernel
theorem qis:visB (qb T10) "squares" = true:=by decide +kernel
theorem O10_2:locB (qb T10) "squares" = true:=by decide +kernel
theorem qit:visB (qb T10) "numbers" = true:=by decide +kernel
theorem O10_3:locB (qb T10) "numbers" = true:=by decide +kernel
theorem qiu:visB (qb T10) "joins" = true:=by decide +kernel
theorem O10_4:locB (qb T10) "joins" = true:=by decide +kernel
theorem qiv:visB (qb T10) "edge" = true:=by decide +kernel
theorem O10_5:locB (qb T10) "edge" = true:=by decide +kernel
theorem qcy:visB (qb T10) "pair" = true:=by decide +kernel
theorem qav:glB (qb T10) "crowded" = true:=by decide +kernel
theorem qaw:glB (qb T10) "skin_of" = true:=by decide +kernel
theorem yN:glB (qb T10) "numbers_of" = true:=by decide +kernel
theorem yO:glB (qb T10) "squares_at" = true:=by decide +kernel
theorem Y4:glB (qb T10) "bend_over" = true:=by decide +kernel
theorem yp:glB (qb T10) "edge_counts" = true:=by decide +kernel
theorem qbL:glB (qb T10) "sorted" = true:=by decide +kernel
noncomputable def Z4:Rho->Option Out:=(seqO (sSet 1 (evC 1 (aC (vr 0) aN) Zo)) (seqO (sIf (tV (ev2 (vr 1) (kd .none) isnD)) sNo sN) (seqO (sSet 2 (evC 1 (aC (vr 0) aN) zy)) (seqO (sSet 3 (evC 1 (aC (vr 2) aN) Qt)) (seqO (qM 4 (evA aN lstD)) (seqO (sFor (evI (evC 1 (aC (vr 2) aN) zr) Js) (gNm 5) (seqO (qM 6 (qY 7 (evI (evC 1 (aC (vr 5) aN) Qa) seqD) (tV (ev2 (vr 7) (vr 3) in2D)) (vr 7))) (sApp 4 (qF (evA (aC (ev2 (vr 3) (ev2 (vr 6) (kd (.int 0)) ixD) ix2D) (aC (ev2 (vr 3) (ev2 (vr 6) (kd (.int 1)) ixD) ix2D) (aC (evC 4 (aC (vr 0) (aC (ev2 (vr 6) (kd (.int 0)) ixD) (aC (vr 5) (aC (ev2 (vr 6) (kd (.int 1)) ixD) aN)))) Qk) aN))) tupD))))) (sRet (evA (aC (vr 4) aN) qZ))))))))
noncomputable def zF (ds:List PyData):Option PyData:=ob (Z4 (rho0 ZC.length ds)) outF
theorem qaa {P:Program} {w:World} {K:PySem.W.Frag} {mg:Str->Option Value} {base:Heap} {f:Addr} {fd:FuncData} (F:Fun K "skin_joins" "skin_joins" T10 f fd) (m:mg "skin_joins" = some (.ref f)) (b:Binds K fd ["solid"] []) (K_crowded:Known P w K mg base "crowded" 1 5 Zo) (K_skin_of:Known P w K mg base "skin_of" 1 2 zy) (K_numbers_of:Known P w K mg base "numbers_of" 1 1 Qt) (K_squares_at:Known P w K mg base "squares_at" 1 3 Qa) (K_bend_over:Known P w K mg base "bend_over" 4 4 Qk) (K_edge_counts:Known P w K mg base "edge_counts" 1 4 zr) (z_sorted:mg "sorted" = none):KnownN P w K mg base "skin_joins" 1 6 zF:=by
 refine ⟨f,fd,["solid"],F.new (k:=5) (u:=Z4) (M':=[]) C10 rfl (fun cdv A outer s H E hr G=>?_),m,F.kp,b⟩
 refine qm (M1:=[]) ?_ ?_
 refine zb 1 ?_ ?_ ?_ ?_ ?_ ?_ ?_
 ·exact C10.nd
 ·exact (qx O10_1)
 ·rfl
 ·rfl
 ·exact .inl rfl
 ·decide
 refine qw K_crowded hr (by decide) (qu (qb T10) rfl qav) ?_ rfl
 refine qd ?_ ?_
 exact qe 0 (qg qeE) (by decide)
 exact qj
 refine qm (M1:=[]) ?_ ?_
 refine Qu ?_ ?_ ?_
 refine qQ d_isn ?_ ?_ (zJ _)
 exact qe 1 (qg V10_1) (by decide)
 exact qf5
 refine qt ?_
 exact qed
 exact Qc
 refine qm (M1:=[]) ?_ ?_
 refine zb 2 ?_ ?_ ?_ ?_ ?_ ?_ ?_
 ·exact C10.nd
 ·exact (qx O10_2)
 ·rfl
 ·rfl
 ·exact .inl rfl
 ·decide
 refine qw K_skin_of hr (by decide) (qu (qb T10) rfl qaw) ?_ rfl
 refine qd ?_ ?_
 exact qe 0 (qg qeE) (by decide)
 exact qj
 refine qm (M1:=[]) ?_ ?_
 refine zb 3 ?_ ?_ ?_ ?_ ?_ ?_ ?_
 ·exact C10.nd
 ·exact (qx O10_3)
 ·rfl
 ·rfl
 ·exact .inl rfl
 ·decide
 refine qw K_numbers_of hr (by decide) (qu (qb T10) rfl yN) ?_ rfl
 refine qd ?_ ?_
 exact qe 2 (qg qis) (by decide)
 exact qj
 refine qm (M1:=[4]) ?_ ?_
 refine zj 4 ?_ ?_ ?_ ?_ ?_ ?_ ?_ ?_
 ·exact C10.nd
 ·exact (qx O10_4)
 ·rfl
 ·rfl
 ·exact .inl rfl
 ·decide
 ·decide
 refine ZZ ?_
 exact qj
 refine qm (M1:=[4]) ?_ ?_
 refine za PassesOwn.never rfl ?_ (fun _=>?_) (fun _=>?_)
 refine Jw ?_
 refine qw K_edge_counts hr (by decide) (qu (qb T10) rfl yp) ?_ rfl
 refine qd ?_ ?_
 exact qe 2 (qg qis) (by decide)
 exact qj
 exact qO 5 C10.nd (qx O10_5) (by decide)
 refine Q8 (M':=[6,4]) [4] ?_ ?_ ?_
 refine qm (M1:=[6,4]) ?_ ?_
 refine YH 6 (CompOk.of (k:=1) ZC ["solid", "crowd", "squares", "numbers", "joins", "edge", "pair", "square"] (qb T10) rfl rfl rfl (by decide +kernel)) rfl (by decide +kernel) (qb T10) rfl (by decide +kernel) (by decide) (by decide) ?_ (fun _ _ _ _ _ _=>?_) (fun _ _ _ _ _ _=>?_)
 refine qR ?_
 refine qw K_squares_at hr (by decide) (qu (qb T10) rfl yO) ?_ rfl
 refine qd ?_ ?_
 exact qe 5 (qg qiv) (by decide)
 exact qj
 refine Zb ?_
 refine qQ (d_in2 hr) ?_ ?_ rfl
 exact qe 7 (qy (by decide +kernel)) (by decide)
 exact qe 3 (qy (by decide +kernel)) (by decide)
 exact qe 7 (qy (by decide +kernel)) (by decide)
 refine qt ?_
 refine jk 4 (qg qiu) (by decide) (by decide) ?_
 refine zB ?_
 refine qd ?_ ?_
 refine YF hr ?_ ?_
 exact qe 3 (qg qit) (by decide)
 refine qN ?_ ?_
 exact qe 6 (qg qcy) (by decide)
 exact ql
 refine qd ?_ ?_
 refine YF hr ?_ ?_
 exact qe 3 (qg qit) (by decide)
 refine qN ?_ ?_
 exact qe 6 (qg qcy) (by decide)
 exact ql
 refine qd ?_ ?_
 refine qw K_bend_over hr (by decide) (qu (qb T10) rfl Y4) ?_ rfl
 refine qd ?_ ?_
 exact qe 0 (qg qeE) (by decide)
 refine qd ?_ ?_
 refine qN ?_ ?_
 exact qe 6 (qg qcy) (by decide)
 exact ql
 refine qd ?_ ?_
 exact qe 5 (qg qiv) (by decide)
 refine qd ?_ ?_
 refine qN ?_ ?_
 exact qe 6 (qg qcy) (by decide)
 exact ql
 exact qj
 exact qj
 ·rfl
 ·rfl
 refine qt ?_
 refine qga ?_
 refine Zc (Q5 hr) (qu (qb T10) rfl qbL) z_sorted zE ?_
 refine qd ?_ ?_
 exact qe 4 (qg qiu) (by decide)
 exact qj
noncomputable abbrev T27:Stmt:=top 38
noncomputable abbrev qcw:List Str:=["_law_script", "_law_base_here", "_law_solid_here", "_law_mine", "_law_found", "_law_due_here"]
theorem C27:FnScope qcw ["_law_script"] (qb T27):=⟨rfl,rfl,rfl,by decide +kernel,rfl,by decide +kernel,by decide +kernel⟩
theorem V27_0:visB (qb T27) "_law_script" = true:=by decide +kernel
theorem V27_1:visB (qb T27) "_law_base_here" = true:=by decide +kernel
theorem O27_1:locB (qb T27) "_law_base_here" = true:=by decide +kernel
theorem qeS:visB (qb T27) "_law_solid_here" = true:=by decide +kernel
theorem O27_2:locB (qb T27) "_law_solid_here" = true:=by decide +kernel
theorem qeT:visB (qb T27) "_law_mine" = true:=by decide +kernel
theorem O27_3:locB (qb T27) "_law_mine" = true:=by decide +kernel
theorem qeU:visB (qb T27) "_law_found" = true:=by decide +kernel
theorem O27_4:locB (qb T27) "_law_found" = true:=by decide +kernel
theorem qiM:visB (qb T27) "_law_due_here" = true:=by decide +kernel
theorem O27_5:locB (qb T27) "_law_due_here" = true:=by decide +kernel
theorem Y9:glB (qb T27) "_law_base" = true:=by decide +kernel
theorem yQ:glB (qb T27) "_law_plain" = true:=by decide +kernel
theorem qew:glB (qb T27) "list" = true:=by decide +kernel
theorem Z9:glB (qb T27) "skin_joins" = true:=by decide +kernel
theorem Wz:glB (qb T27) "_law_due" = true:=by decide +kernel
theorem yR:glB (qb T27) "_law_spots" = true:=by decide +kernel
noncomputable def qdw:Rho->Option Out:=(seqO (sSet 1 (evC 1 (aC (qY 6 (evI (evA (aC (kd (.int 1)) (aC (kd (.int 2)) (aC (kd (.int 3)) aN))) tupD) seqD) tT (evC 2 (aC (vr 0) (aC (vr 6) aN)) zT)) aN) Qj)) (seqO (sSet 2 (evC 2 (aC (vr 0) (aC (vr 1) aN)) zX)) (seqO (sSet 3 (evA (aC (vr 2) aN) zP)) (seqO (qM 4 (evC 1 (aC (vr 3) aN) zF)) (seqO (sSet 5 (evC 1 (aC (vr 2) aN) Qy)) (seqO (sIf (tO (tV (ev2 (vr 3) (vr 2) neD)) (tO (tN (tV (evC 1 (aC (vr 4) aN) Qq))) (tV (ev2 (vr 4) (vr 5) neD)))) (sRet (kd (.bool false))) sN) (seqO (qds 4) (sRet (ev2 (evC 1 (aC (vr 3) aN) zF) (vr 5) eqD)))))))))
noncomputable def qfr (ds:List PyData):Option PyData:=ob (qdw (rho0 qcw.length ds)) outD
theorem qjM {P:Program} {w:World} {K:PySem.W.Frag} {mg:Str->Option Value} {base:Heap} {f:Addr} {fd:FuncData} (F:Fun K "law" "law" T27 f fd) (K__law_base:Known P w K mg base "_law_base" 1 1 Qj) (K__law_cell_at:Known P w K mg base "_law_cell_at" 2 1 zT) (K__law_plain:Known P w K mg base "_law_plain" 2 3 zX) (K_skin_joins:KnownN P w K mg base "skin_joins" 1 6 zF) (K__law_due:Known P w K mg base "_law_due" 1 3 Qy) (K__law_spots:Known P w K mg base "_law_spots" 1 2 Qq) (z_list:mg "list" = none):FnOk P w K mg base CX0 7 f fd ["_law_script"] (spF K 1 qfr):=by
 refine F.pure (k:=6) (u:=qdw) (M':=[]) C27 rfl (fun cdv A outer s H E hr G=>?_)
 refine qm (M1:=[]) ?_ ?_
 refine zb 1 ?_ ?_ ?_ ?_ ?_ ?_ ?_
 ·exact C27.nd
 ·exact (qx O27_1)
 ·rfl
 ·rfl
 ·exact .inl rfl
 ·decide
 refine qw K__law_base hr (by decide) (qu (qb T27) rfl Y9) ?_ rfl
 refine qd ?_ ?_
 refine QV (CompOk.of (k:=1) qcw ["_law_script", "_law_base_here", "_law_solid_here", "_law_mine", "_law_found", "_law_due_here", "_law_k"] (qb T27) rfl rfl rfl (by decide +kernel)) rfl (by decide +kernel) ?_ (fun _ _ _ _ _ _=>?_) (fun _ _ _ _ _ _=>?_)
 refine qR ?_
 refine zB ?_
 refine qd ?_ ?_
 exact ql
 refine qd ?_ ?_
 exact ql
 refine qd ?_ ?_
 exact ql
 exact qj
 exact Za
 refine qw K__law_cell_at hr (by decide) (yG (by decide +kernel)) ?_ rfl
 refine qd ?_ ?_
 exact qe 0 (qy (by decide +kernel)) (by decide)
 refine qd ?_ ?_
 exact qe 6 (qy (by decide +kernel)) (by decide)
 exact qj
 exact qj
 refine qm (M1:=[]) ?_ ?_
 refine zb 2 ?_ ?_ ?_ ?_ ?_ ?_ ?_
 ·exact C27.nd
 ·exact (qx O27_2)
 ·rfl
 ·rfl
 ·exact .inl rfl
 ·decide
 refine qw K__law_plain hr (by decide) (qu (qb T27) rfl yQ) ?_ rfl
 refine qd ?_ ?_
 exact qe 0 (qg V27_0) (by decide)
 refine qd ?_ ?_
 exact qe 1 (qg V27_1) (by decide)
 exact qj
 refine qm (M1:=[]) ?_ ?_
 refine zb 3 ?_ ?_ ?_ ?_ ?_ ?_ ?_
 ·exact C27.nd
 ·exact (qx O27_3)
 ·rfl
 ·rfl
 ·exact .inl rfl
 ·decide
 refine zM qjc (qu (qb T27) rfl qew) z_list rfl ?_
 refine qd ?_ ?_
 exact qe 2 (qg qeS) (by decide)
 exact qj
 refine qm (M1:=[4]) ?_ ?_
 refine zj 4 ?_ ?_ ?_ ?_ ?_ ?_ ?_ ?_
 ·exact C27.nd
 ·exact (qx O27_4)
 ·rfl
 ·rfl
 ·exact .inl rfl
 ·decide
 ·decide
 refine qgi K_skin_joins hr (by decide) (qu (qb T27) rfl Z9) ?_ rfl
 refine qd ?_ ?_
 exact qe 3 (qg qeT) (by decide)
 exact qj
 refine qm (M1:=[4]) ?_ ?_
 refine zb 5 ?_ ?_ ?_ ?_ ?_ ?_ ?_
 ·exact C27.nd
 ·exact (qx O27_5)
 ·rfl
 ·rfl
 ·exact .inl rfl
 ·decide
 refine qw K__law_due hr (by decide) (qu (qb T27) rfl Wz) ?_ rfl
 refine qd ?_ ?_
 exact qe 2 (qg qeS) (by decide)
 exact qj
 refine qm (M1:=[4]) ?_ ?_
 refine Qu ?_ ?_ ?_
 refine PDW.pdt ?_
 refine qci ?_ ?_
 refine qQ (d_ne hr) ?_ ?_ (zJ _)
 exact qe 3 (qg qeT) (by decide)
 exact qe 2 (qg qeS) (by decide)
 refine qci ?_ ?_
 refine yH ?_
 refine yI ?_
 refine qw K__law_spots hr (by decide) (qu (qb T27) rfl yR) ?_ rfl
 refine qd ?_ ?_
 exact qe 4 (qg qeU) (by decide)
 exact qj
 refine qdh ?_
 refine qQ (d_ne hr) ?_ ?_ (zJ _)
 exact qe 4 (qg qeU) (by decide)
 exact qe 5 (qg qiM) (by decide)
 refine qt ?_
 refine qI ?_
 exact qbi
 exact Qc
 refine qm (M1:=[4]) ?_ ?_
 exact qf9 4 (qg qeU) (by decide) (by decide)
 refine qt ?_
 refine qI ?_
 refine qjX (d_eq hr) ?_ ?_ (zJ _)
 refine qw K_skin_joins.known hr (by decide) (qu (qb T27) rfl Z9) ?_ rfl
 refine qd ?_ ?_
 exact qe 3 (qg qeT) (by decide)
 exact qj
 exact qe 5 (qg qiM) (by decide)
end SF
local macro_rules
 | `(tactic| simp_arith [$ts,*] $[$loc]?)=> do
  let q := ("L2.rho0 List.map_cons List.map_nil List.length_cons List.length_nil Nat.reduceAdd Nat.reduceSub Nat.zero_add Nat.sub_self List.replicate_succ List.replicate_zero List.cons_append List.nil_append List.append_nil L2.qkr L2.qe6 L2.qe7 L2.qe4 L2.qe5 L2.ifO_t L2.ifO_f L2.sIf_b L2.vIf_b L2.tA_b L2.tO_b L2.vA_b L2.vN L2.qko L2.qkt L2.qkn L2.qki L2.sN L2.sBk L2.sCt L2.tV L2.tN L2.tT L2.ev2_b L2.qjf L2.ev1 L2.vr_z L2.vr_s L2.kd L2.evA L2.evC_b L2.qgX L2.evC0 L2.aC_b L2.qg8 L2.aN L2.qjC L2.qjD L2.tupD L2.lstD L2.qgF L2.qgG L2.qhA L2.qhB L2.qi7 L2.qkz L2.qjI L2.qfs L2.qdc L2.pow_a L2.pow_b L2.qhj L2.qhF L2.qjF L2.gtD_i L2.qgW L2.ixD_l L2.ixD_t L2.atI0 L2.atI1 L2.atI2 L2.atI3 L2.atI4 L2.atI5 L2.qjU L2.qjT L2.ob_s L2.gNm L2.gsN_n L2.gsC_c L2.qkG List.set_cons_zero List.set_cons_succ List.set_nil L2.evI L2.evR L2.qkp L2.qkq L2.qid L2.rngL L2.qg6 L2.qg2 L2.qcO L2.qg4 L2.qcR L2.qcQ L2.qhC L2.qgv L2.qfv L2.qb4 L2.qjn L2.W0 L2.qhp L2.qho L2.qcZ if_true if_false Bool.false_eq_true Bool.not_true Bool.not_false Nat.reduceLeDiff and_self and_true true_and Int.reduceToNat Int.reduceAdd Int.reduceSub Int.reduceLE Int.reduceLT Int.reduceNeg reduceIte L2.isiD L2.qju L2.qjr L2.qjq L2.qjp L2.qjt L2.qjs String.reduceBEq L2.natLit Int.reduceBEq Bool.true_or Bool.or_true Bool.false_or Bool.or_false L2.qii L2.qkC L2.qhl L2.qjk L2.qhm L2.qjl L2.qkk L2.qja L2.qi9 L2.qjV L2.qjw L2.qjv L2.evS_b L2.qkx L2.oN L2.oS_b L2.qkb Nat.reduceLT decide_true decide_false L2.qkm L2.qke L2.qks L2.qgw L2.qgR L2.qih L2.qka L2.qhh L2.qhi L2.enL_n L2.enL_c L2.qcT L2.qg7 L2.qcN L2.qcL L2.qg3 L2.qg5 L2.qg1 L2.qig L2.dpO_s L2.qjL L2.ev3_b L2.qkD".splitOn " ").toArray.map fun s => Lean.mkIdent s.toName
  `(tactic| simp only [$[$q:term],*, $ts,*] $[$loc]?)
namespace SF
open PySem L2
noncomputable def QJ (ns:List Int) (k:Int):Int:=ns.getD k.toNat 0
theorem cell_bd {ns:List Int} (h:∀ k∈ns,Builtin.Int.intBits k <= 2 ^ 20) (k:Int):Bd 1048576 (QJ ns k):=by
 unfold QJ
 by_cases hk:k.toNat < ns.length
 ·rw [List.getD_eq_getElem?_getD,List.getElem?_eq_getElem hk]
  exact h _ (List.getElem_mem hk)
 ·rw [List.getD_eq_getElem?_getD,List.getElem?_eq_none (by omega)]
  show Builtin.Int.intBits 0 <= 1048576
  decide
theorem cell_eq (ns:List Int) (k:Int) (hk:0 <= k):zT [.list (ns.map .int),.int k]=some (.int (QJ ns k)):=by
 simp only [zT,Ze]
 simp_arith []
 by_cases h:k < ((ns.map PyData.int).length:Int)
 ·have h':k.toNat < ns.length:=by rw [List.length_map] at h;omega
  have e:atI (ns.map PyData.int) k=some (.int (QJ ns k)):=by
   have e1:((k.toNat:Nat):Int)=k:=by omega
   have:=qcH (xs:=ns.map PyData.int) (j:=k.toNat) (v:=.int (QJ ns k)) (by
    rw [List.getElem?_map,List.getElem?_eq_getElem h']
    unfold QJ
    rw [List.getD_eq_getElem?_getD,List.getElem?_eq_getElem h']
    rfl)
   rw [e1] at this
   exact this
  simp_arith [decide_eq_true h,e]
 ·have h':¬ k.toNat < ns.length:=by rw [List.length_map] at h;omega
  have e:QJ ns k=0:=by
   unfold QJ
   rw [List.getD_eq_getElem?_getD,List.getElem?_eq_none (by omega)]
   rfl
  simp_arith [decide_eq_false h,e]
noncomputable abbrev Sp:=Int×Int×Int
noncomputable def eS (s:Sp):PyData:=.tuple [.int s.1,.int s.2.1,.int s.2.2]
noncomputable def l3 (s:Sp):List Int:=[s.1,s.2.1,s.2.2]
noncomputable def b3:List Int->Sp
 | [a,b,c]=>(a,b,c)
 | _=>(0,0,0)
theorem qcf (xs:List Sp):xs.map eS=(xs.map l3).map tI:=by rw [List.map_map];rfl
theorem QD {xs:List Sp} (h:xs.length < 64):∃ ys:List Sp,qZ [.list (xs.map eS)]=some (.list (ys.map eS))/\ys.Perm xs/\(ys.map l3).Pairwise (fun a b=>HT.lexLt b a=false):=by
 obtain ⟨mss,e,p,o⟩:=qap (nss:=xs.map l3) (by rw [List.length_map];exact h) (by
  intro ns hn
  obtain ⟨x,_,rfl⟩:=List.mem_map.mp hn
  exact fun z=>by cases z)
 have back:∀ m∈mss,(l3 ∘ b3) m=id m:=fun m hm=>by
  obtain ⟨x,_,rfl⟩:=List.mem_map.mp (p.mem_iff.mp hm)
  rfl
 have hm:(mss.map b3).map l3=mss:=by
  rw [List.map_map]
  exact (List.map_congr_left back).trans (List.map_id mss)
 refine ⟨mss.map b3,?_,?_,?_⟩
 ·rw [qcf,e,qcf,hm]
 ·have:=p.map b3
  rw [List.map_map] at this
  have e2:xs.map (b3 ∘ l3)=xs:=(List.map_congr_left (fun x _=>rfl)).trans (List.map_id xs)
  rwa [e2] at this
 ·rw [hm];exact o
theorem QK {as bs:List Sp} (p:as.Perm bs) (h1:(as.map l3).Pairwise (fun a b=>HT.lexLt b a=false)) (h2:(bs.map l3).Pairwise (fun a b=>HT.lexLt b a=false)):as=bs:=by
 have:=jN (p.map l3) h1 h2
 have e:=congrArg (List.map b3) this
 rw [List.map_map,List.map_map] at e
 have k:∀ xs:List Sp,xs.map (b3 ∘ l3)=xs:=fun xs=>(List.map_congr_left (fun x _=>rfl)).trans (List.map_id xs)
 rwa [k,k] at e
theorem jR (a b:Sp):PyData.eqv (eS a) (eS b)=decide (a=b):=by
 have:PyData.eqv (eS a) (eS b)=((a.1 == b.1) && ((a.2.1 == b.2.1) && ((a.2.2 == b.2.2) && true))):=rfl
 rw [this]
 obtain ⟨a1,a2,a3⟩:=a
 obtain ⟨b1,b2,b3⟩:=b
 by_cases h1:a1=b1<;>by_cases h2:a2=b2<;>by_cases h3:a3=b3<;>simp [h1,h2,h3]
theorem qfc (xs:List Sp):PyData.canLayAll0 (xs.map eS)=true/\PyData.depthAll (xs.map eS) <= 1:=by rw [qcf];exact Ye _
theorem qc4 (xs:List Sp) (q:Sp):inOk (xs.map eS) (eS q)=true:=by
 unfold inOk
 rw [(qfc xs).1,Bool.true_and,Bool.and_eq_true]
 exact ⟨rfl,rfl⟩
theorem qfA (xs:List Sp) (q:Sp):inL (xs.map eS) (eS q)=decide (q∈xs):=by
 unfold inL
 rw [List.any_map]
 induction xs with
 | nil=>rfl
 | cons x xs ih =>
  rw [List.any_cons,ih]
  show (PyData.eqv (eS x) (eS q) || _)=_
  rw [jR]
  by_cases h:x=q
  ·subst h;rw [decide_eq_true rfl,Bool.true_or,decide_eq_true List.mem_cons_self]
  ·rw [decide_eq_false h,Bool.false_or]
   by_cases h2:q∈xs
   ·rw [decide_eq_true h2,decide_eq_true (List.mem_cons_of_mem _ h2)]
   ·rw [decide_eq_false h2,decide_eq_false (by rw [List.mem_cons];rintro (rfl | z);exact h rfl;exact h2 z)]
theorem qfz (xs:List Sp) (q:Sp):inD (eS q) (.list (xs.map eS))=some (.bool (decide (q∈xs))):=by
 show (if inOk (xs.map eS) (eS q)=true then some (PyData.bool (inL (xs.map eS) (eS q))) else none)=_
 rw [qc4,qfA];rfl
theorem qde (xs:List Sp) (q:Sp):ninD (eS q) (.list (xs.map eS))=some (.bool (!decide (q∈xs))):=by
 show (if inOk (xs.map eS) (eS q)=true then some (PyData.bool (!inL (xs.map eS) (eS q))) else none)=_
 rw [qc4,qfA];rfl
theorem jG (xs:List Sp):SeqAt.shaped (.list (xs.map eS))=true:=by
 have h:=qfc xs
 have h2:PyData.depth (.list (xs.map eS))=PyData.depthAll (xs.map eS) + 1:=rfl
 unfold SeqAt.shaped
 rw [h2,Bool.and_eq_true]
 exact ⟨h.1,decide_eq_true (by omega)⟩
theorem WW:∀ xs ys:List Sp,PyData.eqv (.list (xs.map eS)) (.list (ys.map eS))=decide (xs=ys)
 | [],[]=>rfl
 | [],_ :: _=>rfl
 | _ :: _,[]=>rfl
 | x :: xs,y :: ys=>by
  have:PyData.eqv (.list ((x :: xs).map eS)) (.list ((y :: ys).map eS))=(PyData.eqv (eS x) (eS y) && PyData.eqv (.list (xs.map eS)) (.list (ys.map eS))):=rfl
  rw [this,jR,WW,Bool.eq_iff_iff]
  simp
theorem qfX (xs ys:List Sp):neD (.list (xs.map eS)) (.list (ys.map eS))=some (.bool (!decide (xs=ys))):=by
 unfold neD
 rw [if_pos ⟨jG _,jG _⟩,WW]
theorem qjj (xs ys:List Sp):eqD (.list (xs.map eS)) (.list (ys.map eS))=some (.bool (decide (xs=ys))):=by
 unfold eqD
 rw [if_pos ⟨jG _,jG _⟩,WW]
theorem qaS {α:Type} (enc:α->PyData) {g:PyData->Rho->Option Rho} {u:Rho->Option Out} (I:List α->Rho->Prop) (all:List α) (step:∀ a∈all,∀ done ρ,done.length < all.length->I done ρ->∃ ρ',ob (g (enc a) ρ) u=some (.nx ρ')/\I (done ++ [a]) ρ') :
  ∀ (as done:List α) (ρ:Rho),(∀ a∈as,a∈all)->done.length + as.length=all.length->I done ρ->∃ ρ',forD g u (as.map enc) ρ=some (.nx ρ')/\I (done ++ as) ρ'
 | [],done,ρ,_,_,h=>⟨ρ,rfl,by rw [List.append_nil];exact h⟩
 | a :: as,done,ρ,hm,hl,h=>by
  rw [List.length_cons] at hl
  obtain ⟨ρ1,e1,h1⟩:=step a (hm a (.head _)) done ρ (by omega) h
  obtain ⟨ρ2,e2,h2⟩:=qaS enc I all step as (done ++ [a]) ρ1 (fun x hx=>hm x (.tail _ hx)) (by rw [List.length_append,List.length_singleton];omega) h1
  refine ⟨ρ2,?_,by rw [List.append_assoc] at h2;exact h2⟩
  rw [List.map_cons,qb4,e1,W0]
  exact e2
theorem q9 {α:Type} (enc:α->PyData) {g:PyData->Rho->Option Rho} {u:Rho->Option Out} (I:List α->Rho->Prop) (as:List α) (ρ:Rho) (h:I [] ρ) (step:∀ a∈as,∀ done ρ,done.length < as.length->I done ρ->∃ ρ',ob (g (enc a) ρ) u=some (.nx ρ')/\I (done ++ [a]) ρ') :
  ∃ ρ',forD g u (as.map enc) ρ=some (.nx ρ')/\I as ρ':=by
 obtain ⟨ρ',e,i⟩:=qaS enc I as step as [] ρ (fun _ h=>h) (by simp) h
 exact ⟨ρ',e,by rwa [List.nil_append] at i⟩
theorem Zn {α:Type} (enc:α->PyData) {tt:Rho->Option Bool} {te:Rho->Option PyData} {ρ:Rho} (p:α->Bool) (f:α->PyData):∀ (as:List α),(∀ a∈as,tt (ρ ++ [some (enc a)])=some (p a))->(∀ a∈as,p a=true->te (ρ ++ [some (enc a)])=some (f a))->zO tt te ρ (as.map enc)=some ((as.filter p).map f)
 | [],_,_=>rfl
 | a :: as,h1,h2=>by
  have ih:=Zn enc p f as (fun x hx=>h1 x (.tail _ hx)) (fun x hx=>h2 x (.tail _ hx))
  rw [List.map_cons,qcO,h1 a (.head _),List.filter_cons]
  cases e:p a with
  | true=>rw [qcR,h2 a (.head _) e,ih];rfl
  | false=>rw [qcQ,ih];rfl
noncomputable def mid (c:Sp):Sp:=(2 * c.1 + 1,2 * c.2.1 + 1,2 * c.2.2 + 1)
noncomputable def cr (a:Nat) (q s:Sp):Bool:=match a with
 | 0=>decide (s.1 % 2=0/\s.1 > q.1/\s.2.1=q.2.1/\s.2.2=q.2.2)
 | 1=>decide (s.2.1 % 2=0/\s.2.1 > q.2.1/\s.1=q.1/\s.2.2=q.2.2)
 | _=>decide (s.2.2 % 2=0/\s.2.2 > q.2.2/\s.1=q.1/\s.2.1=q.2.1)
noncomputable def Sq (s:Sp):Prop:=(s.1 % 2=0/\s.2.1 % 2=1/\s.2.2 % 2=1)\/(s.1 % 2=1/\s.2.1 % 2=0/\s.2.2 % 2=1)\/(s.1 % 2=1/\s.2.1 % 2=1/\s.2.2 % 2=0)
theorem qcW (a b:Sp):eqD (eS a) (eS b)=some (.bool (decide (a=b))):=by
 unfold eqD
 rw [if_pos ⟨rfl,rfl⟩,jR]
theorem qcG {α β:Type} {f:α->β} {xs:List α} {k:Int} {x:α} (h0:0 <= k) (h:xs[k.toNat]?=some x):atI (xs.map f) k=some (f x):=by
 have e1:((k.toNat:Nat):Int)=k:=by omega
 have:=qcH (xs:=xs.map f) (j:=k.toNat) (v:=f x) (by rw [List.getElem?_map,h];rfl)
 rwa [e1] at this
theorem ixe0 (s:Sp):ixD (eS s) (.int 0)=some (.int s.1):=rfl
theorem ixe1 (s:Sp):ixD (eS s) (.int 1)=some (.int s.2.1):=rfl
theorem ixe2 (s:Sp):ixD (eS s) (.int 2)=some (.int s.2.2):=rfl
theorem qfq (s:Sp):wQ (eS s)=some (enL 0 [.int s.1,.int s.2.1,.int s.2.2]):=rfl
theorem ix0:ixN 3 0=some 0:=rfl
theorem ix1:ixN 3 1=some 1:=rfl
theorem ix2:ixN 3 2=some 2:=rfl
theorem zA (i:Int):flat (.int i)=true:=rfl
theorem Zh (a b c:Int):flat (.tuple [.int a,.int b,.int c])=true:=rfl
theorem Yr (a b c:Int):wR (.list [.int a,.int b,.int c])=true:=rfl
theorem qft:∀ xs:List Sp,wR (.list (xs.map eS))=true
 | []=>rfl
 | _ :: xs=>qft xs
noncomputable def BdS (n:Nat) (c:Sp):Prop:=Bd n c.1/\Bd n c.2.1/\Bd n c.2.2
theorem bd2:Bd 2 2:=Bd.of (by decide)
theorem qgu (n:Nat):rngL 0 n=(List.range n).map fun k=>PyData.int (k:Nat):=by
 have:∀ (n m:Nat),rngL (m:Nat) n=(List.range' m n).map fun k=>PyData.int (k:Nat):=by
  intro n
  induction n with
  | zero=>intro m;rfl
  | succ n ih =>
   intro m
   rw [rngL,List.range'_succ,List.map_cons,← ih (m + 1)]
   rfl
 rw [List.range_eq_range']
 exact this n 0
theorem lex3 (x y:Sp):HT.lexLt (l3 x) (l3 y)=decide (x.1 < y.1\/(x.1=y.1/\(x.2.1 < y.2.1\/(x.2.1=y.2.1/\x.2.2 < y.2.2)))):=by
 unfold l3
 rw [HT.zG,HT.zG,HT.zG,HT.wy]
 by_cases h1:x.1=y.1
 ·rw [if_pos h1]
  by_cases h2:x.2.1=y.2.1
  ·rw [if_pos h2]
   by_cases h3:x.2.2=y.2.2
   ·rw [if_pos h3,decide_eq_false (by omega)]
   ·rw [if_neg h3]
    exact decide_eq_decide.mpr (by omega)
  ·rw [if_neg h2]
   exact decide_eq_decide.mpr (by omega)
 ·rw [if_neg h1]
  exact decide_eq_decide.mpr (by omega)
theorem ris3 (x y:Sp):HT.lexLt (l3 y) (l3 x)=false↔(x.1 < y.1\/(x.1=y.1/\(x.2.1 < y.2.1\/(x.2.1=y.2.1/\x.2.2 <= y.2.2)))):=by
 rw [lex3,decide_eq_false_iff_not]
 omega
noncomputable def qdd (n:Nat) (c:Sp):Prop:=c.1.natAbs <= n/\c.2.1.natAbs <= n/\c.2.2.natAbs <= n
theorem qhG {n:Nat} {c:Sp} (h:qdd n c) (hn:n < 2 ^ 200):BdS 200 c:=⟨Bd.of (by have:=h.1;omega),Bd.of (by have:=h.2.1;omega),Bd.of (by have:=h.2.2;omega)⟩
theorem emod3 (x:Int):x % 3=0\/x % 3=1\/x % 3=2:=by omega
theorem qhg {α:Type} {xs:List α} (x:Int) (h:0 < xs.length):∃ y∈xs,xs[(x % (xs.length:Int)).toNat]?=some y:=by
 have a1:=Int.emod_nonneg x (b:=(xs.length:Int)) (by omega)
 have a2:=Int.emod_lt_of_pos x (b:=(xs.length:Int)) (by omega)
 have hlt:(x % (xs.length:Int)).toNat < xs.length:=by omega
 exact ⟨xs[(x % (xs.length:Int)).toNat],List.getElem_mem hlt,List.getElem?_eq_getElem hlt⟩
theorem qe1 {s:Sp} {A:Nat} (hA:A=0/\s.1 % 2=0/\s.2.1 % 2=1/\s.2.2 % 2=1\/A=1/\s.1 % 2=1/\s.2.1 % 2=0/\s.2.2 % 2=1\/A=2/\s.1 % 2=1/\s.2.1 % 2=1/\s.2.2 % 2=0):zL [eS s]=some (.int (A:Nat)):=by
 have i0:QM (.list [.int 0,.int 1,.int 1]) (.int 0)=some (.int 0):=rfl
 have i1:QM (.list [.int 1,.int 0,.int 1]) (.int 0)=some (.int 1):=rfl
 have i2:QM (.list [.int 1,.int 1,.int 0]) (.int 0)=some (.int 2):=rfl
 rcases hA with ⟨rfl,h1,h2,h3⟩ | ⟨rfl,h1,h2,h3⟩ | ⟨rfl,h1,h2,h3⟩<;>simp only [zL,JW,eS]
 ·simp_arith [h1,h2,h3,i0]
 ·simp_arith [h1,h2,h3,i1]
 ·simp_arith [h1,h2,h3,i2]
noncomputable def ed (A:Nat) (s:Sp):List Sp:=match A with
 | 0=>[(s.1,s.2.1 + -1,s.2.2),(s.1,s.2.1 + 1,s.2.2),(s.1,s.2.1,s.2.2 + -1),(s.1,s.2.1,s.2.2 + 1)]
 | 1=>[(s.1 + -1,s.2.1,s.2.2),(s.1 + 1,s.2.1,s.2.2),(s.1,s.2.1,s.2.2 + -1),(s.1,s.2.1,s.2.2 + 1)]
 | _=>[(s.1 + -1,s.2.1,s.2.2),(s.1 + 1,s.2.1,s.2.2),(s.1,s.2.1 + -1,s.2.2),(s.1,s.2.1 + 1,s.2.2)]
noncomputable def others (A:Nat):List PyData:=match A with
 | 0=>[.int 1,.int 2]
 | 1=>[.int 0,.int 2]
 | _=>[.int 0,.int 1]
theorem qfY {A:Nat} (hA:A=0\/A=1\/A=2) (s:Sp):∃ zs:List Sp,q8 [eS s,.list (others A)]=some (.list (zs.map eS))/\zs.Perm (ed A s)/\(zs.map l3).Pairwise (fun a b=>HT.lexLt b a=false):=by
 obtain ⟨zs,e,p,o⟩:=QD (xs:=ed A s) (by rcases hA with rfl | rfl | rfl<;>exact (show (4:Nat) < 64 by decide))
 refine ⟨zs,?_,p,o⟩
 rcases hA with rfl | rfl | rfl
 ·have e:qZ [.list [.tuple [.int s.1,.int (s.2.1 + -1),.int s.2.2],.tuple [.int s.1,.int (s.2.1 + 1),.int s.2.2],.tuple [.int s.1,.int s.2.1,.int (s.2.2 + -1)],.tuple [.int s.1,.int s.2.1,.int (s.2.2 + 1)]]]=some (.list (zs.map eS)):=e
  simp only [q8,QL,eS,others]
  simp_arith [ix0,ix1,ix2,zA,Zh,e]
 ·have e:qZ [.list [.tuple [.int (s.1 + -1),.int s.2.1,.int s.2.2],.tuple [.int (s.1 + 1),.int s.2.1,.int s.2.2],.tuple [.int s.1,.int s.2.1,.int (s.2.2 + -1)],.tuple [.int s.1,.int s.2.1,.int (s.2.2 + 1)]]]=some (.list (zs.map eS)):=e
  simp only [q8,QL,eS,others]
  simp_arith [ix0,ix1,ix2,zA,Zh,e]
 ·have e:qZ [.list [.tuple [.int (s.1 + -1),.int s.2.1,.int s.2.2],.tuple [.int (s.1 + 1),.int s.2.1,.int s.2.2],.tuple [.int s.1,.int (s.2.1 + -1),.int s.2.2],.tuple [.int s.1,.int (s.2.1 + 1),.int s.2.2]]]=some (.list (zs.map eS)):=e
  simp only [q8,QL,eS,others]
  simp_arith [ix0,ix1,ix2,zA,Zh,e]
noncomputable def edU (A:Nat) (s:Sp):List Sp:=match A with
 | 0=>[(s.1 + 0,s.2.1 + -1,s.2.2 + 0),(s.1 + 0,s.2.1 + 0,s.2.2 + -1),(s.1 + 0,s.2.1 + 0,s.2.2 + 1),(s.1 + 0,s.2.1 + 1,s.2.2 + 0)]
 | 1=>[(s.1 + -1,s.2.1 + 0,s.2.2 + 0),(s.1 + 0,s.2.1 + 0,s.2.2 + -1),(s.1 + 0,s.2.1 + 0,s.2.2 + 1),(s.1 + 1,s.2.1 + 0,s.2.2 + 0)]
 | _=>[(s.1 + -1,s.2.1 + 0,s.2.2 + 0),(s.1 + 0,s.2.1 + -1,s.2.2 + 0),(s.1 + 0,s.2.1 + 1,s.2.2 + 0),(s.1 + 1,s.2.1 + 0,s.2.2 + 0)]
theorem qiX {α:Type} (a b c d:α):[a,c,d,b].Perm [a,b,c,d]:=.cons a ((List.Perm.cons c (.swap b d [])).trans (.swap b c [d]))
theorem qfp {A:Nat} (hA:A=0\/A=1\/A=2) (s:Sp):(edU A s).Perm (ed A s):=by
 obtain ⟨x,y,z⟩:=s
 rcases hA with rfl | rfl | rfl<;>simp only [edU,ed,Int.add_zero]<;>exact qiX _ _ _ _
theorem qeZ {A:Nat} (hA:A=0\/A=1\/A=2) (s:Sp):∃ zs:List Sp,zV [eS s,.int (A:Nat)]=some (.list (zs.map eS))/\q8 [eS s,.list (others A)]=some (.list (zs.map eS))/\zs.Perm (ed A s):=by
 obtain ⟨zs,en,pn,on⟩:=qfY hA s
 obtain ⟨ys,e,p,o⟩:=QD (xs:=edU A s) (by rcases hA with rfl | rfl | rfl<;>exact (show (4:Nat) < 64 by decide))
 have same:ys=zs:=QK ((p.trans (qfp hA s)).trans pn.symm) o on
 subst same
 refine ⟨ys,?_,en,pn⟩
 rcases hA with rfl | rfl | rfl
 ·have e:qZ [.list [.tuple [.int (s.1 + 0),.int (s.2.1 + -1),.int (s.2.2 + 0)],.tuple [.int (s.1 + 0),.int (s.2.1 + 0),.int (s.2.2 + -1)],.tuple [.int (s.1 + 0),.int (s.2.1 + 0),.int (s.2.2 + 1)],.tuple [.int (s.1 + 0),.int (s.2.1 + 1),.int (s.2.2 + 0)]]]=some (.list (ys.map eS)):=e
  simp only [zV,jt,eS,QF]
  simp_arith [zc,jH,e,Int.ofNat_eq_natCast,Int.natCast_zero]
 ·have e:qZ [.list [.tuple [.int (s.1 + -1),.int (s.2.1 + 0),.int (s.2.2 + 0)],.tuple [.int (s.1 + 0),.int (s.2.1 + 0),.int (s.2.2 + -1)],.tuple [.int (s.1 + 0),.int (s.2.1 + 0),.int (s.2.2 + 1)],.tuple [.int (s.1 + 1),.int (s.2.1 + 0),.int (s.2.2 + 0)]]]=some (.list (ys.map eS)):=e
  simp only [zV,jt,eS,QF]
  have h1:(((1:Nat):Int))=1:=rfl
  simp_arith [zc,jH,e,h1]
 ·have e:qZ [.list [.tuple [.int (s.1 + -1),.int (s.2.1 + 0),.int (s.2.2 + 0)],.tuple [.int (s.1 + 0),.int (s.2.1 + -1),.int (s.2.2 + 0)],.tuple [.int (s.1 + 0),.int (s.2.1 + 1),.int (s.2.2 + 0)],.tuple [.int (s.1 + 1),.int (s.2.1 + 0),.int (s.2.2 + 0)]]]=some (.list (ys.map eS)):=e
  simp only [zV,jt,eS,QF]
  have h2:(((2:Nat):Int))=2:=rfl
  simp_arith [zc,jH,e,h2]
theorem qip (n:Int):Qs [.int n]=some (.bool true):=rfl
theorem qim (xs:List Sp):Qq [.list (xs.map eS)]=some (.bool true):=by
 obtain ⟨ρ',e,o1,o2,rfl⟩:=q9 eS (g:=gNm 1) (u:=(seqO (sIf (tO (tN (tV (ev1 (vr 1) (isiD "tuple")))) (tV (ev2 (evA (aC (vr 1) aN) lenD) (kd (.int 3)) neD))) (sRet (kd (.bool false))) sN) (sFor (evI (vr 1) seqD) (gNm 2) (sIf (tN (tV (evC 1 (aC (vr 2) aN) Qs))) (sRet (kd (.bool false))) sN))))
  (fun done ρ=>∃ o1 o2:Option PyData,ρ=[some (.list (xs.map eS)),o1,o2]) xs [some (.list (xs.map eS)),none,none] ⟨none,none,rfl⟩ (by
   rintro a ha done ρ hdl ⟨o1,o2,rfl⟩
   refine ⟨[some (.list (xs.map eS)),some (eS a),some (.int a.2.2)],?_,_,_,rfl⟩
   simp only [eS]
   simp_arith [qip])
 simp only [Qq,Z2]
 simp_arith []
 have:=congrArg (fun o=>ob (Yb o (sRet (kd (.bool true)))) outD) e
 simp_arith [] at this
 exact this
noncomputable def sb (a b:Sp):Sp:=(a.1 - b.1,a.2.1 - b.2.1,a.2.2 - b.2.2)
noncomputable def ar (B:Nat) (e:Sp):List Sp:=match B with
 | 0=>[(e.1,e.2.1 - 1,e.2.2),(e.1,e.2.1,e.2.2 - 1),(e.1,e.2.1,e.2.2 + 1),(e.1,e.2.1 + 1,e.2.2)]
 | 1=>[(e.1 - 1,e.2.1,e.2.2),(e.1,e.2.1,e.2.2 - 1),(e.1,e.2.1,e.2.2 + 1),(e.1 + 1,e.2.1,e.2.2)]
 | _=>[(e.1 - 1,e.2.1,e.2.2),(e.1,e.2.1 - 1,e.2.2),(e.1,e.2.1 + 1,e.2.2),(e.1 + 1,e.2.1,e.2.2)]
noncomputable def lo (A:Nat) (s:Sp):Sp:=match A with
 | 0=>(s.1 - 1,s.2.1,s.2.2)
 | 1=>(s.1,s.2.1 - 1,s.2.2)
 | _=>(s.1,s.2.1,s.2.2 - 1)
noncomputable def hi (A:Nat) (s:Sp):Sp:=match A with
 | 0=>(s.1 + 1,s.2.1,s.2.2)
 | 1=>(s.1,s.2.1 + 1,s.2.2)
 | _=>(s.1,s.2.1,s.2.2 + 1)
noncomputable def axA (s:Sp):Nat:=if s.1 % 2=0 then 0 else if s.2.1 % 2=0 then 1 else 2
noncomputable def skB (I:Sp->Bool) (s:Sp):Bool:=I (lo (axA s) s) != I (hi (axA s) s)
noncomputable def QH (I:Sp->Bool) (s0 e s1:Sp):Int:=if sb s1 e=sb e s0 then 0 else if sb s1 e=sb s0 (if I (lo (axA s0) s0)=true then lo (axA s0) s0 else hi (axA s0) s0) then 1 else -1
noncomputable def md4 (B:Nat) (e:Sp):List Sp:=match B with
 | 0=>[(e.1,e.2.1 - 1,e.2.2 - 1),(e.1,e.2.1 - 1,e.2.2 + 1),(e.1,e.2.1 + 1,e.2.2 - 1),(e.1,e.2.1 + 1,e.2.2 + 1)]
 | 1=>[(e.1 - 1,e.2.1,e.2.2 - 1),(e.1 - 1,e.2.1,e.2.2 + 1),(e.1 + 1,e.2.1,e.2.2 - 1),(e.1 + 1,e.2.1,e.2.2 + 1)]
 | _=>[(e.1 - 1,e.2.1 - 1,e.2.2),(e.1 - 1,e.2.1 + 1,e.2.2),(e.1 + 1,e.2.1 - 1,e.2.2),(e.1 + 1,e.2.1 + 1,e.2.2)]
theorem ZX {α:Type} [DecidableEq α]:∀ {as bs:List α},as.Nodup->bs.Nodup->(∀ x,x∈as↔x∈bs)->as.Perm bs
 | [],[],_,_,_=>.refl _
 | [],b :: bs,_,_,h=>absurd ((h b).mpr (.head _)) (by simp)
 | a :: as,bs,h1,h2,h=>by
  have ha:a∈bs:=(h a).mp (.head _)
  obtain ⟨n1,n2⟩:=List.nodup_cons.mp h1
  refine List.Perm.trans (List.Perm.cons a (ZX n2 (h2.erase a) fun x=>?_)) (List.perm_cons_erase ha).symm
  rw [h2.mem_erase_iff]
  constructor
  ·intro hx
   exact ⟨fun z=>n1 (by rw [← z];exact hx),(h x).mp (.tail _ hx)⟩
  ·rintro ⟨hx,hm⟩
   rcases List.mem_cons.mp ((h x).mpr hm) with z | z
   ·exact absurd z hx
   ·exact z
noncomputable abbrev EdB' (B:Nat) (e:Sp):Prop:=B=0/\e.1 % 2=1/\e.2.1 % 2=0/\e.2.2 % 2=0\/B=1/\e.1 % 2=0/\e.2.1 % 2=1/\e.2.2 % 2=0\/B=2/\e.1 % 2=0/\e.2.1 % 2=0/\e.2.2 % 2=1
theorem Qf {s:Sp} (h:Sq s):(axA s=0/\s.1 % 2=0/\s.2.1 % 2=1/\s.2.2 % 2=1)\/(axA s=1/\s.1 % 2=1/\s.2.1 % 2=0/\s.2.2 % 2=1)\/(axA s=2/\s.1 % 2=1/\s.2.1 % 2=1/\s.2.2 % 2=0):=by
 unfold axA
 rcases h with ⟨a,b,c⟩ | ⟨a,b,c⟩ | ⟨a,b,c⟩
 ·exact .inl ⟨if_pos a,a,b,c⟩
 ·exact .inr (.inl ⟨by rw [if_neg (by omega),if_pos b],a,b,c⟩)
 ·exact .inr (.inr ⟨by rw [if_neg (by omega),if_neg (by omega)],a,b,c⟩)
theorem ZM {e s:Sp}:s∈ar 0 e↔s.1=e.1/\((s.2.2=e.2.2/\(s.2.1=e.2.1 - 1\/s.2.1=e.2.1 + 1))\/(s.2.1=e.2.1/\(s.2.2=e.2.2 - 1\/s.2.2=e.2.2 + 1))):=by
 obtain ⟨x,y,z⟩:=e
 obtain ⟨u,v,w⟩:=s
 simp only [ar,List.mem_cons,List.not_mem_nil,or_false,Prod.mk.injEq]
 constructor
 ·rintro (⟨a,b,c⟩ | ⟨a,b,c⟩ | ⟨a,b,c⟩ | ⟨a,b,c⟩)
  ·exact ⟨a,.inl ⟨c,.inl b⟩⟩
  ·exact ⟨a,.inr ⟨b,.inl c⟩⟩
  ·exact ⟨a,.inr ⟨b,.inr c⟩⟩
  ·exact ⟨a,.inl ⟨c,.inr b⟩⟩
 ·rintro ⟨a,⟨c,b | b⟩ | ⟨b,c | c⟩⟩
  ·exact .inl ⟨a,b,c⟩
  ·exact .inr (.inr (.inr ⟨a,b,c⟩))
  ·exact .inr (.inl ⟨a,b,c⟩)
  ·exact .inr (.inr (.inl ⟨a,b,c⟩))
theorem ZP {e s:Sp}:s∈ar 1 e↔s.2.1=e.2.1/\((s.2.2=e.2.2/\(s.1=e.1 - 1\/s.1=e.1 + 1))\/(s.1=e.1/\(s.2.2=e.2.2 - 1\/s.2.2=e.2.2 + 1))):=by
 obtain ⟨x,y,z⟩:=e
 obtain ⟨u,v,w⟩:=s
 simp only [ar,List.mem_cons,List.not_mem_nil,or_false,Prod.mk.injEq]
 constructor
 ·rintro (⟨a,b,c⟩ | ⟨a,b,c⟩ | ⟨a,b,c⟩ | ⟨a,b,c⟩)
  ·exact ⟨b,.inl ⟨c,.inl a⟩⟩
  ·exact ⟨b,.inr ⟨a,.inl c⟩⟩
  ·exact ⟨b,.inr ⟨a,.inr c⟩⟩
  ·exact ⟨b,.inl ⟨c,.inr a⟩⟩
 ·rintro ⟨b,⟨c,a | a⟩ | ⟨a,c | c⟩⟩
  ·exact .inl ⟨a,b,c⟩
  ·exact .inr (.inr (.inr ⟨a,b,c⟩))
  ·exact .inr (.inl ⟨a,b,c⟩)
  ·exact .inr (.inr (.inl ⟨a,b,c⟩))
theorem ZQ {e s:Sp}:s∈ar 2 e↔s.2.2=e.2.2/\((s.2.1=e.2.1/\(s.1=e.1 - 1\/s.1=e.1 + 1))\/(s.1=e.1/\(s.2.1=e.2.1 - 1\/s.2.1=e.2.1 + 1))):=by
 obtain ⟨x,y,z⟩:=e
 obtain ⟨u,v,w⟩:=s
 simp only [ar,List.mem_cons,List.not_mem_nil,or_false,Prod.mk.injEq]
 constructor
 ·rintro (⟨a,b,c⟩ | ⟨a,b,c⟩ | ⟨a,b,c⟩ | ⟨a,b,c⟩)
  ·exact ⟨c,.inl ⟨b,.inl a⟩⟩
  ·exact ⟨c,.inr ⟨a,.inl b⟩⟩
  ·exact ⟨c,.inr ⟨a,.inr b⟩⟩
  ·exact ⟨c,.inl ⟨b,.inr a⟩⟩
 ·rintro ⟨c,⟨b,a | a⟩ | ⟨a,b | b⟩⟩
  ·exact .inl ⟨a,b,c⟩
  ·exact .inr (.inr (.inr ⟨a,b,c⟩))
  ·exact .inr (.inl ⟨a,b,c⟩)
  ·exact .inr (.inr (.inl ⟨a,b,c⟩))
theorem ax0 {s:Sp} (h:s.1 % 2=0):axA s=0:=if_pos h
theorem ax1 {s:Sp} (h:s.1 % 2=1) (g:s.2.1 % 2=0):axA s=1:=by unfold axA;rw [if_neg (by omega),if_pos g]
theorem ax2 {s:Sp} (h:s.1 % 2=1) (g:s.2.1 % 2=1):axA s=2:=by unfold axA;rw [if_neg (by omega),if_neg (by omega)]
theorem Z6 {a b:Int} (h:a=b - 1\/a=b + 1):b=a - 1\/b=a + 1:=by omega
theorem odd1 {a b:Int} (h:a=b - 1\/a=b + 1) (g:b % 2=0):a % 2=1:=by omega
theorem Z7 {a b:Int} (h:a=b - 1\/a=b + 1) (g:b % 2=1):a % 2=0:=by omega
theorem ne01 {a:Int} (h:a % 2=0) (g:a % 2=1) {P:Prop}:P:=by rw [h] at g;cases g
theorem oddm {a:Int} (h:a % 2=0):(a - 1) % 2=1:=by omega
theorem oddp {a:Int} (h:a % 2=0):(a + 1) % 2=1:=by omega
theorem od1 {a o:Int} (h:a % 2=0) (ho:o=-1\/o=1):(a + o) % 2=1:=by omega
theorem hlf {a:Int} (h:a % 2=1):(a - 1) / 2=a / 2:=by omega
theorem qdt {B:Nat} {e s:Sp} (hB:EdB' B e):s∈ar B e↔Sq s/\e∈ar (axA s) s:=by
 constructor
 ·intro h
  rcases hB with ⟨rfl,h1,h2,h3⟩ | ⟨rfl,h1,h2,h3⟩ | ⟨rfl,h1,h2,h3⟩
  ·obtain ⟨p,⟨q,r⟩ | ⟨q,r⟩⟩:=ZM.mp h
   ·have k1:s.1 % 2=1:=p ▸ h1
    have k2:=odd1 r h2
    have k3:s.2.2 % 2=0:=q ▸ h3
    exact ⟨.inr (.inr ⟨k1,k2,k3⟩),by rw [ax2 k1 k2,ZQ];exact ⟨q.symm,.inr ⟨p.symm,Z6 r⟩⟩⟩
   ·have k1:s.1 % 2=1:=p ▸ h1
    have k2:s.2.1 % 2=0:=q ▸ h2
    have k3:=odd1 r h3
    exact ⟨.inr (.inl ⟨k1,k2,k3⟩),by rw [ax1 k1 k2,ZP];exact ⟨q.symm,.inr ⟨p.symm,Z6 r⟩⟩⟩
  ·obtain ⟨p,⟨q,r⟩ | ⟨q,r⟩⟩:=ZP.mp h
   ·have k1:=odd1 r h1
    have k2:s.2.1 % 2=1:=p ▸ h2
    have k3:s.2.2 % 2=0:=q ▸ h3
    exact ⟨.inr (.inr ⟨k1,k2,k3⟩),by rw [ax2 k1 k2,ZQ];exact ⟨q.symm,.inl ⟨p.symm,Z6 r⟩⟩⟩
   ·have k1:s.1 % 2=0:=q ▸ h1
    have k2:s.2.1 % 2=1:=p ▸ h2
    have k3:=odd1 r h3
    exact ⟨.inl ⟨k1,k2,k3⟩,by rw [ax0 k1,ZM];exact ⟨q.symm,.inr ⟨p.symm,Z6 r⟩⟩⟩
  ·obtain ⟨p,⟨q,r⟩ | ⟨q,r⟩⟩:=ZQ.mp h
   ·have k1:=odd1 r h1
    have k2:s.2.1 % 2=0:=q ▸ h2
    have k3:s.2.2 % 2=1:=p ▸ h3
    exact ⟨.inr (.inl ⟨k1,k2,k3⟩),by rw [ax1 k1 k2,ZP];exact ⟨q.symm,.inl ⟨p.symm,Z6 r⟩⟩⟩
   ·have k1:s.1 % 2=0:=q ▸ h1
    have k2:=odd1 r h2
    have k3:s.2.2 % 2=1:=p ▸ h3
    exact ⟨.inl ⟨k1,k2,k3⟩,by rw [ax0 k1,ZM];exact ⟨q.symm,.inl ⟨p.symm,Z6 r⟩⟩⟩
 ·rintro ⟨hs,h⟩
  rcases Qf hs with ⟨e1,a,b,c⟩ | ⟨e1,a,b,c⟩ | ⟨e1,a,b,c⟩<;>rw [e1] at h
  ·obtain ⟨p,⟨q,r⟩ | ⟨q,r⟩⟩:=ZM.mp h
   ·have k1:e.1 % 2=0:=p ▸ a
    have k2:=Z7 r b
    rcases hB with ⟨rfl,h1,h2,h3⟩ | ⟨rfl,h1,h2,h3⟩ | ⟨rfl,h1,h2,h3⟩
    ·exact ne01 k1 h1
    ·exact ne01 k2 h2
    ·exact ZQ.mpr ⟨q.symm,.inr ⟨p.symm,Z6 r⟩⟩
   ·have k1:e.1 % 2=0:=p ▸ a
    have k3:=Z7 r c
    rcases hB with ⟨rfl,h1,h2,h3⟩ | ⟨rfl,h1,h2,h3⟩ | ⟨rfl,h1,h2,h3⟩
    ·exact ne01 k1 h1
    ·exact ZP.mpr ⟨q.symm,.inr ⟨p.symm,Z6 r⟩⟩
    ·exact ne01 k3 h3
  ·obtain ⟨p,⟨q,r⟩ | ⟨q,r⟩⟩:=ZP.mp h
   ·have k1:=Z7 r a
    have k2:e.2.1 % 2=0:=p ▸ b
    rcases hB with ⟨rfl,h1,h2,h3⟩ | ⟨rfl,h1,h2,h3⟩ | ⟨rfl,h1,h2,h3⟩
    ·exact ne01 k1 h1
    ·exact ne01 k2 h2
    ·exact ZQ.mpr ⟨q.symm,.inl ⟨p.symm,Z6 r⟩⟩
   ·have k2:e.2.1 % 2=0:=p ▸ b
    have k3:=Z7 r c
    rcases hB with ⟨rfl,h1,h2,h3⟩ | ⟨rfl,h1,h2,h3⟩ | ⟨rfl,h1,h2,h3⟩
    ·exact ZM.mpr ⟨q.symm,.inr ⟨p.symm,Z6 r⟩⟩
    ·exact ne01 k2 h2
    ·exact ne01 k3 h3
  ·obtain ⟨p,⟨q,r⟩ | ⟨q,r⟩⟩:=ZQ.mp h
   ·have k1:=Z7 r a
    have k3:e.2.2 % 2=0:=p ▸ c
    rcases hB with ⟨rfl,h1,h2,h3⟩ | ⟨rfl,h1,h2,h3⟩ | ⟨rfl,h1,h2,h3⟩
    ·exact ne01 k1 h1
    ·exact ZP.mpr ⟨q.symm,.inl ⟨p.symm,Z6 r⟩⟩
    ·exact ne01 k3 h3
   ·have k2:=Z7 r b
    have k3:e.2.2 % 2=0:=p ▸ c
    rcases hB with ⟨rfl,h1,h2,h3⟩ | ⟨rfl,h1,h2,h3⟩ | ⟨rfl,h1,h2,h3⟩
    ·exact ZM.mpr ⟨q.symm,.inl ⟨p.symm,Z6 r⟩⟩
    ·exact ne01 k2 h2
    ·exact ne01 k3 h3
theorem qeY {B:Nat} (hB:B=0\/B=1\/B=2) (e:Sp):((ar B e).map l3).Pairwise (fun a b=>HT.lexLt b a=false):=by
 obtain ⟨x,y,z⟩:=e
 rcases hB with rfl | rfl | rfl<;>rw [List.pairwise_map]<;>simp only [ar,List.pairwise_cons,List.mem_cons,List.not_mem_nil,or_false,forall_eq_or_imp,forall_eq,ris3]<;>simp<;>omega
theorem yW {B:Nat} (hB:B=0\/B=1\/B=2) (e:Sp):(ar B e).Nodup:=by
 obtain ⟨x,y,z⟩:=e
 rcases hB with rfl | rfl | rfl<;>simp [ar]<;>omega
theorem qcI {I:Sp->Bool} {sk:List Sp} (hr:(sk.map l3).Pairwise (fun a b=>HT.lexLt b a=false)) (hn:sk.Nodup) (hm:∀ s,s∈sk↔Sq s/\skB I s=true) {B:Nat} {e:Sp} (hB:EdB' B e) :
  sk.filter (fun s=>decide (e∈ar (axA s) s))=(ar B e).filter (skB I):=by
 have hB3:B=0\/B=1\/B=2:=by rcases hB with z | z | z<;>simp [z.1]
 refine QK (ZX (hn.filter _) ((yW hB3 e).filter _) fun s=>?_) ?_ ?_
 ·rw [List.mem_filter,List.mem_filter,hm,qdt hB,decide_eq_true_eq]
  constructor
  ·rintro ⟨⟨a,b⟩,c⟩;exact ⟨⟨a,c⟩,b⟩
  ·rintro ⟨⟨a,b⟩,c⟩;exact ⟨⟨a,c⟩,b⟩
 ·rw [List.pairwise_map] at hr ⊢
  exact hr.filter _
 ·have:=qeY hB3 e
  rw [List.pairwise_map] at this ⊢
  exact this.filter _
noncomputable def ad (a b:Sp):Sp:=(a.1 + b.1,a.2.1 + b.2.1,a.2.2 + b.2.2)
theorem Qn {a b:Sp} (h1:a.1=b.1) (h2:a.2.1=b.2.1) (h3:a.2.2=b.2.2):a=b:=Prod.ext h1 (Prod.ext h2 h3)
theorem ar_tr (A:Nat) (s t:Sp):ar A (ad s t)=(ar A s).map fun x=>ad x t:=by
 have h:∀ a b:Int,a + b - 1=a - 1 + b:=fun a b=>by omega
 have g:∀ a b:Int,a + b + 1=a + 1 + b:=fun a b=>by omega
 unfold ar
 split<;>simp only [ad,List.map_cons,List.map_nil,h,g]
noncomputable def evn (t:Sp):Prop:=t.1 % 2=0/\t.2.1 % 2=0/\t.2.2 % 2=0
theorem evn1 {a b:Int} (h:b % 2=0):(a + b) % 2=a % 2:=by omega
theorem qe0 {t:Sp} (ht:evn t) (s:Sp):axA (ad s t)=axA s:=by
 unfold axA ad
 dsimp only
 rw [evn1 ht.1,evn1 ht.2.1]
theorem qiT (A:Nat) (s t:Sp):lo A (ad s t)=ad (lo A s) t:=by
 have h:∀ a b:Int,a + b - 1=a - 1 + b:=fun a b=>by omega
 unfold lo
 split<;>simp only [ad,h]
theorem qiQ (A:Nat) (s t:Sp):hi A (ad s t)=ad (hi A s) t:=by
 have h:∀ a b:Int,a + b + 1=a + 1 + b:=fun a b=>by omega
 unfold hi
 split<;>simp only [ad,h]
theorem qgx (a b t:Sp):sb (ad a t) (ad b t)=sb a b:=by
 have h:∀ a b c:Int,a + c - (b + c)=a - b:=fun a b c=>by omega
 simp only [sb,ad,h]
theorem qku (I:Sp->Bool) {t:Sp} (ht:evn t) (s:Sp):skB I (ad s t)=skB (fun x=>I (ad x t)) s:=by
 unfold skB
 rw [qe0 ht,qiT,qiQ]
theorem qe3 (I:Sp->Bool) {t:Sp} (ht:evn t) (a e b:Sp):QH I (ad a t) (ad e t) (ad b t)=QH (fun x=>I (ad x t)) a e b:=by
 unfold QH
 rw [qe0 ht,qiT,qiQ,qgx,qgx]
 have:sb (ad a t) (if I (ad (lo (axA a) a) t)=true then ad (lo (axA a) a) t else ad (hi (axA a) a) t)=sb a (if I (ad (lo (axA a) a) t)=true then lo (axA a) a else hi (axA a) a):=by
  split<;>exact qgx _ _ _
 rw [this]
theorem qjG (B:Nat) (e t:Sp):md4 B (ad e t)=(md4 B e).map fun x=>ad x t:=by
 have h:∀ a b:Int,a + b - 1=a - 1 + b:=fun a b=>by omega
 have g:∀ a b:Int,a + b + 1=a + 1 + b:=fun a b=>by omega
 unfold md4
 split<;>simp only [ad,List.map_cons,List.map_nil,h,g]
noncomputable def jf (l:List Sp) (a b c d:Bool):Sp->Bool:=fun m=>match l with
 | [m1,m2,m3,m4]=>if m == m1 then a else if m == m2 then b else if m == m3 then c else if m == m4 then d else false
 | _=>false
noncomputable def e0s:List (Nat×Sp):=[(0,1,0,0),(1,0,1,0),(2,0,0,1)]
theorem yx (b:Bool):b∈[false,true]:=by cases b<;>simp
theorem e0_of {B:Nat} {e:Sp} (hB:EdB' B e):∃ t p:Sp,evn t/\(B,p)∈e0s/\e=ad p t:=by
 refine ⟨(e.1 / 2 * 2,e.2.1 / 2 * 2,e.2.2 / 2 * 2),(e.1 % 2,e.2.1 % 2,e.2.2 % 2),⟨by dsimp only;omega,by dsimp only;omega,by dsimp only;omega⟩,?_,Qn (by show e.1=e.1 % 2 + e.1 / 2 * 2;omega) (by show e.2.1=e.2.1 % 2 + e.2.1 / 2 * 2;omega) (by show e.2.2=e.2.2 % 2 + e.2.2 / 2 * 2;omega)⟩
 rcases hB with ⟨rfl,a,b,c⟩ | ⟨rfl,a,b,c⟩ | ⟨rfl,a,b,c⟩<;>rw [a,b,c]<;>simp [e0s]
theorem J_of (I:Sp->Bool) {B:Nat} {p:Sp} (hp:(B,p)∈e0s):∃ a b c d:Bool,(∀ m∈md4 B p,I m=jf (md4 B p) a b c d m)/\(∀ s∈ar B p,skB I s=skB (jf (md4 B p) a b c d) s)/\∀ s∈ar B p,I (lo (axA s) s)=jf (md4 B p) a b c d (lo (axA s) s):=by
 unfold e0s at hp
 simp only [List.mem_cons,List.not_mem_nil,or_false,Prod.mk.injEq] at hp
 rcases hp with ⟨rfl,rfl⟩ | ⟨rfl,rfl⟩ | ⟨rfl,rfl⟩
 ·refine ⟨I (1,-1,-1),I (1,-1,1),I (1,1,-1),I (1,1,1),fun s hs=>?_,fun s hs=>?_,fun s hs=>?_⟩
  ·simp only [md4,List.mem_cons,List.not_mem_nil,or_false] at hs;rcases hs with rfl | rfl | rfl | rfl<;>kernel_rfl
  ·simp only [ar,List.mem_cons,List.not_mem_nil,or_false] at hs;rcases hs with rfl | rfl | rfl | rfl<;>kernel_rfl
  ·simp only [ar,List.mem_cons,List.not_mem_nil,or_false] at hs;rcases hs with rfl | rfl | rfl | rfl<;>kernel_rfl
 ·refine ⟨I (-1,1,-1),I (-1,1,1),I (1,1,-1),I (1,1,1),fun s hs=>?_,fun s hs=>?_,fun s hs=>?_⟩
  ·simp only [md4,List.mem_cons,List.not_mem_nil,or_false] at hs;rcases hs with rfl | rfl | rfl | rfl<;>kernel_rfl
  ·simp only [ar,List.mem_cons,List.not_mem_nil,or_false] at hs;rcases hs with rfl | rfl | rfl | rfl<;>kernel_rfl
  ·simp only [ar,List.mem_cons,List.not_mem_nil,or_false] at hs;rcases hs with rfl | rfl | rfl | rfl<;>kernel_rfl
 ·refine ⟨I (-1,-1,1),I (-1,1,1),I (1,-1,1),I (1,1,1),fun s hs=>?_,fun s hs=>?_,fun s hs=>?_⟩
  ·simp only [md4,List.mem_cons,List.not_mem_nil,or_false] at hs;rcases hs with rfl | rfl | rfl | rfl<;>kernel_rfl
  ·simp only [ar,List.mem_cons,List.not_mem_nil,or_false] at hs;rcases hs with rfl | rfl | rfl | rfl<;>kernel_rfl
  ·simp only [ar,List.mem_cons,List.not_mem_nil,or_false] at hs;rcases hs with rfl | rfl | rfl | rfl<;>kernel_rfl
theorem qbW {I J:Sp->Bool} {a e b:Sp} (h:I (lo (axA a) a)=J (lo (axA a) a)):QH I a e b=QH J a e b:=by unfold QH;rw [h]
noncomputable def bndB (J:Sp->Bool) (B:Nat) (p:Sp):Bool:=match (ar B p).filter (skB J) with
 | []=>true
 | [s0,s1]=>QH J s0 p s1 == ((md4 B p).countP J:Nat) - 2
 | l=>l == ar B p
noncomputable def qe8:Bool:=e0s.all fun q=>[false,true].all fun a=>[false,true].all fun b=>[false,true].all fun c=>[false,true].all fun d=>bndB (jf (md4 q.1 q.2) a b c d) q.1 q.2
theorem qdG:qe8=true:=by decide +kernel
theorem wO (I:Sp->Bool) {B:Nat} {e:Sp} (hB:EdB' B e) :
  (ar B e).filter (skB I)=[]\/((ar B e).filter (skB I)=ar B e)\/∃ s0 s1,(ar B e).filter (skB I)=[s0,s1]/\QH I s0 e s1=((md4 B e).countP I:Nat) - 2:=by
 obtain ⟨t,p,ht,hp,rfl⟩:=e0_of hB
 have hf:skB I ∘ (fun x=>ad x t)=skB (fun x=>I (ad x t)):=funext fun s=>qku I ht s
 rw [ar_tr,List.filter_map,hf,qjG,List.countP_map]
 have hic:I ∘ (fun x=>ad x t)=fun x=>I (ad x t):=rfl
 rw [hic]
 obtain ⟨a,b,c,d,h1,h2,h3⟩:=J_of (fun x=>I (ad x t)) hp
 have hall:=qdG
 unfold qe8 at hall
 have k:=List.all_eq_true.mp (List.all_eq_true.mp (List.all_eq_true.mp (List.all_eq_true.mp (List.all_eq_true.mp hall (B,p) hp) a (yx a)) b (yx b)) c (yx c)) d (yx d)
 dsimp only at k
 generalize jf (md4 B p) a b c d=J at h1 h2 h3 k
 have hc:(md4 B p).countP (fun x=>I (ad x t))=(md4 B p).countP J:=List.countP_congr fun m hm=>by rw [h1 m hm]
 rw [List.filter_congr h2,hc]
 unfold bndB at k
 cases hq:(ar B p).filter (skB J) with
 | nil=>exact .inl rfl
 | cons x l =>
  rw [hq] at k
  cases l with
  | nil=>exact .inr (.inl (by rw [beq_iff_eq.mp (show ([x] == ar B p)=true from k)]))
  | cons y l =>
   cases l with
   | cons z l=>exact .inr (.inl (by rw [beq_iff_eq.mp (show ((x :: y :: z :: l) == ar B p)=true from k)]))
   | nil =>
    have hx:x∈ar B p:=(List.mem_filter.mp (show x∈(ar B p).filter (skB J) by rw [hq];exact List.mem_cons_self)).1
    refine .inr (.inr ⟨ad x t,ad y t,rfl,?_⟩)
    rw [qe3 I ht]
    have hb:QH (fun x=>I (ad x t)) x p y=QH J x p y:=qbW (h3 x hx)
    rw [hb]
    exact beq_iff_eq.mp (show (QH J x p y == ((md4 B p).countP J:Nat) - 2)=true from k)
noncomputable def kS (s:Sp):KX:=.inr [.inl s.1,.inl s.2.1,.inl s.2.2]
theorem Jr (s:Sp):kxD (kS s)=eS s:=rfl
theorem yj (s:Sp):kxOf (eS s)=some (kS s):=rfl
noncomputable def eD (kvs:List (Sp×Nat)):List (PyData×PyData):=kvs.map fun p=>(eS p.1,.int (p.2:Nat))
noncomputable def cnt (kvs:List (Sp×Nat)) (s:Sp):Nat:=((kvs.find? fun p=>decide (p.1=s)).map (·.2)).getD 0
noncomputable def bump (kvs:List (Sp×Nat)) (s:Sp):List (Sp×Nat):=if s∈kvs.map (·.1) then kvs.map fun p=>if p.1=s then (p.1,cnt kvs s + 1) else p else kvs ++ [(s,1)]
noncomputable def tally (xs:List Sp):List (Sp×Nat):=xs.foldl bump []
noncomputable def once (xs:List Sp):List Sp:=xs.foldl (fun ks s=>if s∈ks then ks else ks ++ [s]) []
theorem W2 (kvs:List (Sp×Nat)) (s:Sp):kOk (eD kvs) (kS s)=true:=by
 unfold kOk eD
 rw [List.all_map]
 exact List.all_eq_true.mpr fun p _=>rfl
theorem Jm (s:Sp):∀ kvs:List (Sp×Nat),qP (eD kvs) (kS s)=(kvs.find? fun p=>decide (p.1=s)).map fun p=>PyData.int (p.2:Nat)
 | []=>rfl
 | p :: kvs=>by
  have ih:=Jm s kvs
  unfold qP eD at *
  rw [List.map_cons,List.find?_cons,List.find?_cons,Jr,jR]
  rw [Jr] at ih
  by_cases h:p.1=s
  ·rw [decide_eq_true h];rfl
  ·rw [decide_eq_false h];exact ih
theorem yK (s:Sp) (kvs:List (Sp×Nat)):(qP (eD kvs) (kS s)).isSome=decide (s∈kvs.map (·.1)):=by
 rw [Jm]
 by_cases h:s∈kvs.map (·.1)
 ·obtain ⟨p,hp,rfl⟩:=List.mem_map.mp h
  rw [decide_eq_true h]
  cases e:kvs.find? (fun x=>decide (x.1=p.1)) with
  | some x=>rfl
  | none=>exact absurd (List.find?_eq_none.mp e p hp) (by simp)
 ·rw [decide_eq_false h,List.find?_eq_none.mpr fun p hp=>by simpa using fun z=>h (List.mem_map.mpr ⟨p,hp,z⟩)];rfl
theorem qfx (kvs:List (Sp×Nat)) (s:Sp):ji (.dict (eD kvs)) (eS s) (.int 0)=some (.int (cnt kvs s:Nat)):=by
 show ob (kxOf (eS s)) (fun ks=>if kOk (eD kvs) ks=true then some ((qP (eD kvs) ks).getD (.int 0)) else none)=_
 rw [yj,ob_s,if_pos (W2 _ _),Jm]
 unfold cnt
 cases kvs.find? (fun p=>decide (p.1=s))<;>rfl
theorem qgr {kvs:List (Sp×Nat)} {s:Sp} (hl:kvs.length < 900):Yo (.dict (eD kvs)) (eS s) (.int ((cnt kvs s:Nat) + 1))=some (.dict (eD (bump kvs s))):=by
 show ob (kxOf (eS s)) (fun ks=>if kOk (eD kvs) ks=true/\(eD kvs).length < 1000 then some (PyData.dict (putD (eD kvs) ks _)) else none)=_
 rw [yj,ob_s,if_pos ⟨W2 _ _,by unfold eD;rw [List.length_map];omega⟩]
 unfold putD bump
 rw [yK]
 by_cases h:s∈kvs.map (·.1)
 ·rw [decide_eq_true h,if_pos rfl,if_pos h]
  unfold eD
  rw [List.map_map,List.map_map]
  refine congrArg (fun z=>some (PyData.dict z)) (List.map_congr_left fun p _=>?_)
  show (if PyData.eqv (eS p.1) (kxD (kS s))=true then (eS p.1,PyData.int ((cnt kvs s:Nat) + 1)) else (eS p.1,.int (p.2:Nat)))=(fun p:Sp×Nat=>(eS p.1,PyData.int (p.2:Nat))) (if p.1=s then (p.1,cnt kvs s + 1) else p)
  rw [Jr,jR]
  by_cases e:p.1=s
  ·rw [if_pos (decide_eq_true e),if_pos e];rfl
  ·rw [if_neg (by simpa using e),if_neg e]
 ·rw [decide_eq_false h,if_neg (by decide),if_neg h]
  have hc:cnt kvs s=0:=by
   unfold cnt
   rw [List.find?_eq_none.mpr fun p hp=>by simpa using fun z=>h (List.mem_map.mpr ⟨p,hp,z⟩)]
   rfl
  unfold eD
  rw [List.map_append,hc,Jr]
  rfl
theorem qfF {kvs:List (Sp×Nat)} {s:Sp} (h:s∈kvs.map (·.1)):ix2D (.dict (eD kvs)) (eS s)=some (.int (cnt kvs s:Nat)):=by
 show ob (kxOf (eS s)) (fun ks=>if kOk (eD kvs) ks=true then qP (eD kvs) ks else none)=_
 have hs:=yK s kvs
 rw [decide_eq_true h,Jm] at hs
 rw [yj,ob_s,if_pos (W2 _ _),Jm]
 unfold cnt
 cases e:kvs.find? (fun p=>decide (p.1=s)) with
 | none=>rw [e] at hs;cases hs
 | some p=>rfl
theorem qad (kvs:List (Sp×Nat)):Js (.dict (eD kvs))=some (kvs.map fun p=>eS p.1):=by
 show some ((eD kvs).map (·.1))=_
 unfold eD
 rw [List.map_map]
 rfl
theorem qdI (kvs:List (Sp×Nat)) (s:Sp):(bump kvs s).map (·.1)=if s∈kvs.map (·.1) then kvs.map (·.1) else kvs.map (·.1) ++ [s]:=by
 unfold bump
 by_cases h:s∈kvs.map (·.1)
 ·rw [if_pos h,if_pos h,List.map_map]
  refine List.map_congr_left fun p _=>?_
  show (if p.1=s then (p.1,cnt kvs s + 1) else p).1=p.1
  split<;>rfl
 ·rw [if_neg h,if_neg h,List.map_append];rfl
theorem qe9 (kvs:List (Sp×Nat)) (s t:Sp):cnt (bump kvs s) t=cnt kvs t + if s=t then 1 else 0:=by
 unfold bump
 by_cases h:s∈kvs.map (·.1)
 ·rw [if_pos h]
  generalize hc:cnt kvs s=n
  by_cases e:s=t
  ·subst e
   rw [if_pos rfl,hc]
   obtain ⟨p,hp,hps⟩:=List.mem_map.mp h
   clear hc h
   unfold cnt
   induction kvs with
   | nil=>cases hp
   | cons q kvs ih =>
    rw [List.map_cons,List.find?_cons]
    by_cases hq:q.1=s
    ·rw [if_pos hq];simp [hq]
    ·rw [if_neg hq,decide_eq_false hq]
     rcases List.mem_cons.mp hp with rfl | z
     ·exact absurd hps hq
     ·exact ih z
  ·rw [if_neg e,Nat.add_zero]
   clear hc h
   unfold cnt
   induction kvs with
   | nil=>rfl
   | cons q kvs ih =>
    rw [List.map_cons,List.find?_cons,List.find?_cons]
    by_cases hq:q.1=s
    ·rw [if_pos hq]
     have:¬ q.1=t:=fun z=>e (hq.symm.trans z)
     rw [decide_eq_false this]
     exact ih
    ·rw [if_neg hq]
     by_cases ht:q.1=t
     ·rw [decide_eq_true ht];rfl
     ·rw [decide_eq_false ht];exact ih
 ·rw [if_neg h]
  unfold cnt
  rw [List.find?_append]
  by_cases e:s=t
  ·subst e
   rw [List.find?_eq_none.mpr fun p hp=>by simpa using fun z=>h (List.mem_map.mpr ⟨p,hp,z⟩)]
   simp
  ·rw [if_neg e]
   have:([(s,1)]:List (Sp×Nat)).find? (fun p=>decide (p.1=t))=none:=by simp [e]
   rw [this,Option.or_none,Nat.add_zero]
theorem Wv (xs:List Sp):∀ kvs:List (Sp×Nat),((xs.foldl bump kvs).map (·.1)=xs.foldl (fun ks s=>if s∈ks then ks else ks ++ [s]) (kvs.map (·.1)))/\∀ t,cnt (xs.foldl bump kvs) t=cnt kvs t + xs.count t:=by
 induction xs with
 | nil=>exact fun kvs=>⟨rfl,fun t=>rfl⟩
 | cons x xs ih =>
  intro kvs
  obtain ⟨h1,h2⟩:=ih (bump kvs x)
  refine ⟨?_,fun t=>?_⟩
  ·rw [List.foldl_cons,List.foldl_cons,h1,qdI]
  ·rw [List.foldl_cons,h2,qe9,List.count_cons]
   by_cases e:x=t
   ·rw [if_pos e,if_pos (by simp [e])];omega
   ·rw [if_neg e,if_neg (by simp [e])];omega
theorem j4 (xs:List Sp):(tally xs).map (·.1)=once xs:=(Wv xs []).1
theorem Wu (xs:List Sp) (t:Sp):cnt (tally xs) t=xs.count t:=by
 have:=(Wv xs []).2 t
 have h0:cnt [] t=0:=rfl
 rw [h0,Nat.zero_add] at this
 exact this
theorem qbg (xs:List Sp):∀ ks:List Sp,ks.Nodup->(xs.foldl (fun ks s=>if s∈ks then ks else ks ++ [s]) ks).Nodup/\∀ t,t∈xs.foldl (fun ks s=>if s∈ks then ks else ks ++ [s]) ks↔t∈ks\/t∈xs:=by
 induction xs with
 | nil=>exact fun ks h=>⟨h,fun t=>by simp⟩
 | cons x xs ih =>
  intro ks h
  rw [List.foldl_cons]
  by_cases hx:x∈ks
  ·rw [if_pos hx]
   obtain ⟨h1,h2⟩:=ih ks h
   refine ⟨h1,fun t=>(h2 t).trans ?_⟩
   rw [List.mem_cons]
   constructor
   ·rintro (z | z)
    ·exact .inl z
    ·exact .inr (.inr z)
   ·rintro (z | rfl | z)
    ·exact .inl z
    ·exact .inl hx
    ·exact .inr z
  ·rw [if_neg hx]
   obtain ⟨h1,h2⟩:=ih (ks ++ [x]) (by
    rw [List.nodup_append]
    exact ⟨h,by simp,fun a ha b hb z=>by subst z;exact hx (by have:=List.mem_singleton.mp hb;subst this;exact ha)⟩)
   refine ⟨h1,fun t=>(h2 t).trans ?_⟩
   rw [List.mem_append,List.mem_singleton,List.mem_cons]
   exact or_assoc
theorem ZV (xs:List Sp):(once xs).Nodup:=(qbg xs [] List.nodup_nil).1
theorem Q4 {xs:List Sp} {t:Sp}:t∈once xs↔t∈xs:=by
 have:=(qbg xs [] List.nodup_nil).2 t
 unfold once
 rw [this]
 simp
theorem yX {A:Nat} (hA:A=0\/A=1\/A=2) (s:Sp):zV [eS s,.int (A:Nat)]=some (.list ((ar A s).map eS))/\q8 [eS s,.list (others A)]=some (.list ((ar A s).map eS)):=by
 obtain ⟨zs,e1,e2,p⟩:=qeZ hA s
 obtain ⟨ys,e3,p3,o3⟩:=qfY hA s
 have hz:zs=ys:=by
  have:=e2.symm.trans e3
  have h:=PyData.list.inj (Option.some.inj this)
  have inj:∀ (as bs:List Sp),as.map eS=bs.map eS->as=bs:=by
   intro as
   induction as with
   | nil=>intro bs h;cases bs with
    | nil=>rfl
    | cons b bs=>cases h
   | cons a as ih =>
    intro bs h
    cases bs with
    | nil=>cases h
    | cons b bs =>
     obtain ⟨h1,h2⟩:=List.cons.inj h
     have:a=b:=by
      obtain ⟨x,y,z⟩:=a
      obtain ⟨u,v,w⟩:=b
      simp only [eS] at h1
      cases h1
      rfl
     rw [this,ih bs h2]
  exact inj zs ys h
 have har:(ed A s).Perm (ar A s):=by
  obtain ⟨x,y,z⟩:=s
  rcases hA with rfl | rfl | rfl<;>simp only [ed,ar,Int.sub_eq_add_neg]<;>exact (qiX _ _ _ _).symm
 have:zs=ar A s:=by
  subst hz
  exact QK (p.trans har) o3 (qeY hA s)
 rw [this] at e1 e2
 exact ⟨e1,e2⟩
theorem qhf {s:Sp} (h:Sq s):QB [eS s]=some (.list ((ar (axA s) s).map eS)):=by
 have hA:axA s=0\/axA s=1\/axA s=2:=by rcases Qf h with z | z | z<;>simp [z.1]
 have e1:=qe1 (A:=axA s) (s:=s) (by rcases Qf h with ⟨a,b⟩ | ⟨a,b⟩ | ⟨a,b⟩;exact .inl ⟨a,b⟩;exact .inr (.inl ⟨a,b⟩);exact .inr (.inr ⟨a,b⟩))
 have e2:=(yX hA s).1
 simp only [QB,j7]
 simp_arith [e1,e2]
theorem qem {B:Nat} {e:Sp} (h:EdB' B e):Qa [eS e]=some (.list ((ar B e).map eS)):=by
 have hB:B=0\/B=1\/B=2:=by rcases h with z | z | z<;>simp [z.1]
 have e2:=(yX hB e).1
 have i0:QM (.list [.int 1,.int 0,.int 0]) (.int 1)=some (.int 0):=rfl
 have i1:QM (.list [.int 0,.int 1,.int 0]) (.int 1)=some (.int 1):=rfl
 have i2:QM (.list [.int 0,.int 0,.int 1]) (.int 1)=some (.int 2):=rfl
 have me:∀ k:Int,∀ (hk:k=(B:Nat)),zV [eS e,.int k]=some (.list ((ar B e).map eS)):=fun k hk=>by rw [hk];exact e2
 rcases h with ⟨rfl,h1,h2,h3⟩ | ⟨rfl,h1,h2,h3⟩ | ⟨rfl,h1,h2,h3⟩<;>simp only [Qa,Z5]
 ·have m:=me 0 rfl
  simp only [eS] at m ⊢
  simp_arith [h1,h2,h3,i0,m]
 ·have m:=me 1 rfl
  simp only [eS] at m ⊢
  simp_arith [h1,h2,h3,i1,m]
 ·have m:=me 2 rfl
  simp only [eS] at m ⊢
  simp_arith [h1,h2,h3,i2,m]
theorem qaE (kvs:List (Sp×Nat)) (s:Sp):(bump kvs s).length <= kvs.length + 1:=by
 unfold bump
 split
 ·rw [List.length_map];omega
 ·rw [List.length_append,List.length_singleton];omega
theorem qaI {sk:List Sp} (hs:∀ s∈sk,Sq s) (hl:sk.length <= 60):zr [.list (sk.map eS)]=some (.dict (eD (tally (sk.flatMap fun s=>ar (axA s) s)))):=by
 obtain ⟨ρ',e,o2,o3,rfl,-⟩:=q9 eS (g:=gNm 2) (u:=(sFor (evI (evC 1 (aC (vr 2) aN) QB) seqD) (gNm 3) (JC 1 (vr 3) (qF (ev2 (ev3 (vr 1) (vr 3) (kd (.int 0)) ji) (kd (.int 1)) qC)))))
  (fun done ρ=>∃ o2 o3:Option PyData,ρ=[some (.list (sk.map eS)),some (.dict (eD (tally (done.flatMap fun s=>ar (axA s) s)))),o2,o3]/\(tally (done.flatMap fun s=>ar (axA s) s)).length <= 4 * done.length) sk [some (.list (sk.map eS)),some (.dict []),none,none] ⟨none,none,rfl,Nat.zero_le _⟩ (by
   rintro s hsm done ρ hdl ⟨o2,o3,rfl,hlen⟩
   have hed:=qhf (hs s hsm)
   have h4:(ar (axA s) s).length=4:=by rcases Qf (hs s hsm) with z | z | z<;>rw [z.1]<;>rfl
   generalize hk:tally (done.flatMap fun s=>ar (axA s) s)=kvs at *
   obtain ⟨ρ1,e1,o3',rfl,hlen1⟩:=q9 eS (g:=gNm 3) (u:=(JC 1 (vr 3) (qF (ev2 (ev3 (vr 1) (vr 3) (kd (.int 0)) ji) (kd (.int 1)) qC))))
    (fun don ρ=>∃ o3:Option PyData,ρ=[some (.list (sk.map eS)),some (.dict (eD (don.foldl bump kvs))),some (eS s),o3]/\(don.foldl bump kvs).length <= kvs.length + don.length) (ar (axA s) s) [some (.list (sk.map eS)),some (.dict (eD kvs)),some (eS s),o3] ⟨o3,rfl,Nat.le_refl _⟩ (by
     rintro t ht don ρ hd ⟨o3,rfl,hl2⟩
     have hg:=qfx (don.foldl bump kvs) t
     have hp:=qgr (kvs:=don.foldl bump kvs) (s:=t) (by omega)
     have hb:=qaE (don.foldl bump kvs) t
     refine ⟨_,?_,some (eS t),rfl,?_⟩
     ·simp_arith [hg,zA,hp]
      rw [List.foldl_append]
      rfl
     ·rw [List.foldl_append,List.length_append,List.length_singleton]
      show (bump (don.foldl bump kvs) t).length <= _
      omega)
   have ht:tally ((done ++ [s]).flatMap fun s=>ar (axA s) s)=(ar (axA s) s).foldl bump kvs:=by
    rw [List.flatMap_append,← hk]
    unfold tally
    rw [List.foldl_append]
    simp
   refine ⟨_,?_,some (eS s),o3',rfl,?_⟩
   ·rw [ht]
    simp_arith [hed,e1]
   ·rw [ht,List.length_append,List.length_singleton]
    omega)
 simp only [zr,Zm]
 simp_arith [e]
theorem qfV {c:Sp} (h:BdS 200 c):zf [eS c]=some (eS (mid c)):=by
 simp only [zf,jw,eS,mid]
 simp_arith [ZS (bd2.ok h.1),ZS (bd2.ok h.2.1),ZS (bd2.ok h.2.2)]
theorem Jc (a b:Sp):zc [eS a,eS b]=some (eS (ad a b)):=by
 simp only [zc,jH]
 simp_arith [ixe0,ixe1,ixe2]
 rfl
noncomputable def units:List Sp:=[(-1,0,0),(0,-1,0),(0,0,-1),(0,0,1),(0,1,0),(1,0,0)]
theorem qgJ:seqD QF=some (units.map eS):=by kernel_rfl
noncomputable def usq (c:Sp):List Sp:=units.map (ad (mid c))
theorem qkv {cs:List Sp} (hb:∀ c∈cs,BdS 200 c) (hl:cs.length <= 6):∃ sk:List Sp,zy [.list (cs.map eS)]=some (.list (sk.map eS))/\(sk.map l3).Pairwise (fun a b=>HT.lexLt b a=false)/\sk.Nodup/\sk.length <= 36/\∀ s,s∈sk↔(cs.flatMap usq).count s=1:=by
 obtain ⟨ρ',e,o2,o3,o4,rfl,hlen⟩:=q9 eS (g:=gNm 2) (u:=(sFor (evI (kd QF) seqD) (gNm 3) (seqO (sSet 4 (evC 2 (aC (evC 1 (aC (vr 2) aN) zf) (aC (vr 3) aN)) zc)) (JC 1 (vr 4) (qF (ev2 (ev3 (vr 1) (vr 4) (kd (.int 0)) ji) (kd (.int 1)) qC))))))
  (fun done ρ=>∃ o2 o3 o4:Option PyData,ρ=[some (.list (cs.map eS)),some (.dict (eD (tally (done.flatMap usq)))),o2,o3,o4]/\(tally (done.flatMap usq)).length <= 6 * done.length) cs [some (.list (cs.map eS)),some (.dict []),none,none,none] ⟨none,none,none,rfl,Nat.zero_le _⟩ (by
   rintro c hc done ρ hdl ⟨o2,o3,o4,rfl,hlen⟩
   have hm:=qfV (hb c hc)
   generalize hk:tally (done.flatMap usq)=kvs at *
   obtain ⟨ρ1,e1,o3',o4',rfl,hlen1⟩:=q9 eS (g:=gNm 3) (u:=(seqO (sSet 4 (evC 2 (aC (evC 1 (aC (vr 2) aN) zf) (aC (vr 3) aN)) zc)) (JC 1 (vr 4) (qF (ev2 (ev3 (vr 1) (vr 4) (kd (.int 0)) ji) (kd (.int 1)) qC)))))
    (fun don ρ=>∃ o3 o4:Option PyData,ρ=[some (.list (cs.map eS)),some (.dict (eD ((don.map (ad (mid c))).foldl bump kvs))),some (eS c),o3,o4]/\((don.map (ad (mid c))).foldl bump kvs).length <= kvs.length + don.length) units [some (.list (cs.map eS)),some (.dict (eD kvs)),some (eS c),o3,o4] ⟨o3,o4,rfl,Nat.le_refl _⟩ (by
     rintro u hu don ρ hd ⟨o3,o4,rfl,hl2⟩
     have hu6:units.length=6:=rfl
     have ha:=Jc (mid c) u
     have hg:=qfx ((don.map (ad (mid c))).foldl bump kvs) (ad (mid c) u)
     have hp:=qgr (kvs:=(don.map (ad (mid c))).foldl bump kvs) (s:=ad (mid c) u) (by omega)
     have hbl:=qaE ((don.map (ad (mid c))).foldl bump kvs) (ad (mid c) u)
     refine ⟨_,?_,some (eS u),some (eS (ad (mid c) u)),rfl,?_⟩
     ·simp_arith [hm,ha,hg,zA,hp]
      rw [List.map_append,List.foldl_append]
      rfl
     ·rw [List.map_append,List.foldl_append,List.length_append,List.length_singleton]
      show (bump ((don.map (ad (mid c))).foldl bump kvs) (ad (mid c) u)).length <= _
      omega)
   have ht:tally ((done ++ [c]).flatMap usq)=(units.map (ad (mid c))).foldl bump kvs:=by
    rw [List.flatMap_append,← hk]
    unfold tally
    rw [List.foldl_append]
    simp [usq]
   have hu6:units.length=6:=rfl
   refine ⟨_,?_,some (eS c),o3',o4',rfl,?_⟩
   ·rw [ht]
    simp_arith [qgJ,e1]
   ·rw [ht,List.length_append,List.length_singleton]
    omega)
 generalize hk:tally (cs.flatMap usq)=kvs at *
 have hcnt:∀ t,cnt kvs t=(cs.flatMap usq).count t:=fun t=>by rw [← hk,Wu]
 have hkeys:kvs.map (·.1)=once (cs.flatMap usq):=by rw [← hk,j4]
 have hc:zO (tV (ev2 (ev2 (vr 1) (vr 5) ix2D) (kd (.int 1)) eqD)) (vr 5) [some (.list (cs.map eS)),some (.dict (eD kvs)),o2,o3,o4] (kvs.map fun p=>eS p.1)=some ((kvs.filter fun p=>decide (cnt kvs p.1=1)).map fun p=>eS p.1):=by
  refine Zn (fun p:Sp×Nat=>eS p.1) (fun p=>decide (cnt kvs p.1=1)) (fun p=>eS p.1) kvs (fun p hp=>?_) fun p hp _=>?_
  ·have hi:=qfF (s:=p.1) (List.mem_map.mpr ⟨p,hp,rfl⟩)
   simp_arith [hi]
   refine congrArg some ?_
   rw [Bool.eq_iff_iff]
   simp
   omega
  ·simp_arith []
 have hlk:kvs.length <= 36:=by omega
 have hfl:=List.length_filter_le (fun p:Sp×Nat=>decide (cnt kvs p.1=1)) kvs
 obtain ⟨sk,es,p,r⟩:=QD (xs:=(kvs.filter fun p=>decide (cnt kvs p.1=1)).map (·.1)) (by rw [List.length_map];omega)
 have hz:(kvs.map fun p=>eS p.1).length <= 1000:=by rw [List.length_map];omega
 have es:qZ [.list ((kvs.filter fun p=>decide (cnt kvs p.1=1)).map fun p=>eS p.1)]=some (.list (sk.map eS)):=by
  rw [← es,List.map_map]
  rfl
 have hnk:(kvs.map (·.1)).Nodup:=by rw [hkeys];exact ZV _
 refine ⟨sk,?_,r,p.nodup_iff.mpr (List.Nodup.sublist (List.filter_sublist.map _) hnk),by rw [p.length_eq,List.length_map];omega,fun s=>?_⟩
 ·simp only [zy,J0]
  simp_arith [e,qad,hz,hc,es]
 ·rw [p.mem_iff]
  constructor
  ·intro h
   obtain ⟨q,hq,rfl⟩:=List.mem_map.mp h
   have:=of_decide_eq_true (List.mem_filter.mp hq).2
   rwa [hcnt] at this
  ·intro h
   have hm:s∈kvs.map (·.1):=by
    rw [hkeys,Q4]
    exact List.count_pos_iff.mp (by omega)
   obtain ⟨q,hq,rfl⟩:=List.mem_map.mp hm
   exact List.mem_map.mpr ⟨q,List.mem_filter.mpr ⟨hq,decide_eq_true (by rw [hcnt];exact h)⟩,rfl⟩
theorem ZR {a b:Sp} (h:mid a=mid b):a=b:=by
 obtain ⟨x,y,z⟩:=a
 obtain ⟨u,v,w⟩:=b
 unfold mid at h
 obtain ⟨h1,h2⟩:=Prod.mk.inj h
 obtain ⟨h2,h3⟩:=Prod.mk.inj h2
 dsimp only at h1 h2 h3
 have e1:x=u:=by omega
 have e2:y=v:=by omega
 have e3:z=w:=by omega
 rw [e1,e2,e3]
noncomputable def inM (cs:List Sp) (m:Sp):Bool:=decide (m∈cs.map mid)
theorem qc9 (c:Sp):(mid c).1 % 2=1/\(mid c).2.1 % 2=1/\(mid c).2.2 % 2=1:=⟨by show (2 * c.1 + 1) % 2=1;omega,by show (2 * c.2.1 + 1) % 2=1;omega,by show (2 * c.2.2 + 1) % 2=1;omega⟩
theorem QG {m s:Sp}:s∈units.map (ad m)↔(s.1=m.1 + -1/\s.2.1=m.2.1 + 0/\s.2.2=m.2.2 + 0)\/(s.1=m.1 + 0/\s.2.1=m.2.1 + -1/\s.2.2=m.2.2 + 0)\/(s.1=m.1 + 0/\s.2.1=m.2.1 + 0/\s.2.2=m.2.2 + -1)\/(s.1=m.1 + 0/\s.2.1=m.2.1 + 0/\s.2.2=m.2.2 + 1)\/(s.1=m.1 + 0/\s.2.1=m.2.1 + 1/\s.2.2=m.2.2 + 0)\/(s.1=m.1 + 1/\s.2.1=m.2.1 + 0/\s.2.2=m.2.2 + 0):=by
 obtain ⟨x,y,z⟩:=m
 obtain ⟨a,b,d⟩:=s
 simp only [units,List.map_cons,List.map_nil,List.mem_cons,List.not_mem_nil,or_false,ad,Prod.mk.injEq]
theorem zem {a b:Int} (h:a=b + -1) (o:b % 2=1):a % 2=0:=by omega
theorem zep {a b:Int} (h:a=b + 1) (o:b % 2=1):a % 2=0:=by omega
theorem ze0 {a b:Int} (h:a=b + 0) (o:b % 2=1):a % 2=1:=by omega
theorem z0 {a b:Int} (h:a=b + 0):b=a:=by omega
theorem zm {a b:Int} (h:a=b + -1):b=a + 1:=by omega
theorem zp {a b:Int} (h:a=b + 1):b=a - 1:=by omega
theorem w0 {a b:Int} (h:b=a):a=b + 0:=by omega
theorem wm {a b:Int} (h:b=a + 1):a=b + -1:=by omega
theorem wp {a b:Int} (h:b=a - 1):a=b + 1:=by omega
theorem qkH {c s:Sp} (h:s∈usq c):Sq s:=by
 obtain ⟨o1,o2,o3⟩:=qc9 c
 rcases QG.mp h with ⟨p,q,r⟩ | ⟨p,q,r⟩ | ⟨p,q,r⟩ | ⟨p,q,r⟩ | ⟨p,q,r⟩ | ⟨p,q,r⟩
 ·exact .inl ⟨zem p o1,ze0 q o2,ze0 r o3⟩
 ·exact .inr (.inl ⟨ze0 p o1,zem q o2,ze0 r o3⟩)
 ·exact .inr (.inr ⟨ze0 p o1,ze0 q o2,zem r o3⟩)
 ·exact .inr (.inr ⟨ze0 p o1,ze0 q o2,zep r o3⟩)
 ·exact .inr (.inl ⟨ze0 p o1,zep q o2,ze0 r o3⟩)
 ·exact .inl ⟨zep p o1,ze0 q o2,ze0 r o3⟩
theorem qio {m s:Sp} (hm:m.1 % 2=1/\m.2.1 % 2=1/\m.2.2 % 2=1) (hs:Sq s):s∈units.map (ad m)↔m=lo (axA s) s\/m=hi (axA s) s:=by
 obtain ⟨o1,o2,o3⟩:=hm
 rcases Qf hs with ⟨e,h1,h2,h3⟩ | ⟨e,h1,h2,h3⟩ | ⟨e,h1,h2,h3⟩<;>rw [e]
 ·constructor
  ·intro h
   rcases QG.mp h with ⟨p,q,r⟩ | ⟨p,q,r⟩ | ⟨p,q,r⟩ | ⟨p,q,r⟩ | ⟨p,q,r⟩ | ⟨p,q,r⟩
   ·exact .inr (Qn (zm p) (z0 q) (z0 r))
   ·exact ne01 h1 (ze0 p o1)
   ·exact ne01 h1 (ze0 p o1)
   ·exact ne01 h1 (ze0 p o1)
   ·exact ne01 h1 (ze0 p o1)
   ·exact .inl (Qn (zp p) (z0 q) (z0 r))
  ·rintro (h | h)
   ·exact QG.mpr (.inr (.inr (.inr (.inr (.inr ⟨wp (congrArg (·.1) h),w0 (congrArg (·.2.1) h),w0 (congrArg (·.2.2) h)⟩)))))
   ·exact QG.mpr (.inl ⟨wm (congrArg (·.1) h),w0 (congrArg (·.2.1) h),w0 (congrArg (·.2.2) h)⟩)
 ·constructor
  ·intro h
   rcases QG.mp h with ⟨p,q,r⟩ | ⟨p,q,r⟩ | ⟨p,q,r⟩ | ⟨p,q,r⟩ | ⟨p,q,r⟩ | ⟨p,q,r⟩
   ·exact ne01 h2 (ze0 q o2)
   ·exact .inr (Qn (z0 p) (zm q) (z0 r))
   ·exact ne01 h2 (ze0 q o2)
   ·exact ne01 h2 (ze0 q o2)
   ·exact .inl (Qn (z0 p) (zp q) (z0 r))
   ·exact ne01 h2 (ze0 q o2)
  ·rintro (h | h)
   ·exact QG.mpr (.inr (.inr (.inr (.inr (.inl ⟨w0 (congrArg (·.1) h),wp (congrArg (·.2.1) h),w0 (congrArg (·.2.2) h)⟩)))))
   ·exact QG.mpr (.inr (.inl ⟨w0 (congrArg (·.1) h),wm (congrArg (·.2.1) h),w0 (congrArg (·.2.2) h)⟩))
 ·constructor
  ·intro h
   rcases QG.mp h with ⟨p,q,r⟩ | ⟨p,q,r⟩ | ⟨p,q,r⟩ | ⟨p,q,r⟩ | ⟨p,q,r⟩ | ⟨p,q,r⟩
   ·exact ne01 h3 (ze0 r o3)
   ·exact ne01 h3 (ze0 r o3)
   ·exact .inr (Qn (z0 p) (z0 q) (zm r))
   ·exact .inl (Qn (z0 p) (z0 q) (zp r))
   ·exact ne01 h3 (ze0 r o3)
   ·exact ne01 h3 (ze0 r o3)
  ·rintro (h | h)
   ·exact QG.mpr (.inr (.inr (.inr (.inl ⟨w0 (congrArg (·.1) h),w0 (congrArg (·.2.1) h),wp (congrArg (·.2.2) h)⟩))))
   ·exact QG.mpr (.inr (.inr (.inl ⟨w0 (congrArg (·.1) h),w0 (congrArg (·.2.1) h),wm (congrArg (·.2.2) h)⟩)))
theorem Wf {α β:Type} {f:α->β} (hf:∀ a b,f a=f b->a=b):∀ {l:List α},l.Nodup->(l.map f).Nodup
 | [],_=>List.nodup_nil
 | a :: l,h=>by
  obtain ⟨h1,h2⟩:=List.nodup_cons.mp h
  refine List.map_cons ▸ List.nodup_cons.mpr ⟨fun z=>?_,Wf hf h2⟩
  obtain ⟨x,hx,e⟩:=List.mem_map.mp z
  rw [hf x a e] at hx
  exact h1 hx
theorem qi6 {m a b:Sp} (h:ad m a=ad m b):a=b:=by
 have h1:m.1 + a.1=m.1 + b.1:=congrArg (·.1) h
 have h2:m.2.1 + a.2.1=m.2.1 + b.2.1:=congrArg (·.2.1) h
 have h3:m.2.2 + a.2.2=m.2.2 + b.2.2:=congrArg (·.2.2) h
 exact Qn (by omega) (by omega) (by omega)
theorem qfP (A:Nat) (s:Sp):lo A s≠hi A s:=fun h=>by
 unfold lo hi at h
 split at h
 ·have:=congrArg (·.1) h;dsimp only at this;omega
 ·have:=congrArg (·.2.1) h;dsimp only at this;omega
 ·have:=congrArg (·.2.2) h;dsimp only at this;omega
theorem JQ {s:Sp}:∀ {l:List Sp},l.Nodup->s∈l->l.count s=1
 | [],_,h=>by cases h
 | a :: l,hn,h=>by
  obtain ⟨h1,h2⟩:=List.nodup_cons.mp hn
  rw [List.count_cons]
  by_cases e:a=s
  ·subst e
   rw [List.count_eq_zero.mpr h1,beq_self_eq_true]
   rfl
  ·rw [JQ h2 ((List.mem_cons.mp h).resolve_left (fun z=>e z.symm)),beq_eq_false_iff_ne.mpr e]
   rfl
theorem qin {c s:Sp} (hs:Sq s):(usq c).count s=(if mid c=lo (axA s) s then 1 else 0) + (if mid c=hi (axA s) s then 1 else 0):=by
 have hiff:=qio (qc9 c) hs
 have hnd:(usq c).Nodup:=Wf (fun _ _=>qi6) (by decide)
 by_cases h1:mid c=lo (axA s) s
 ·rw [if_pos h1,if_neg (fun z=>qfP _ _ (h1.symm.trans z))]
  exact JQ hnd (hiff.mpr (.inl h1))
 ·rw [if_neg h1]
  by_cases h2:mid c=hi (axA s) s
  ·rw [if_pos h2]
   exact JQ hnd (hiff.mpr (.inr h2))
  ·rw [if_neg h2]
   exact List.count_eq_zero.mpr fun z=>(hiff.mp z).elim h1 h2
theorem WL {s:Sp} (hs:Sq s):∀ {cs:List Sp},cs.Nodup->(cs.flatMap usq).count s=(if lo (axA s) s∈cs.map mid then 1 else 0) + (if hi (axA s) s∈cs.map mid then 1 else 0)
 | [],_=>rfl
 | c :: cs,hn=>by
  obtain ⟨n1,n2⟩:=List.nodup_cons.mp hn
  have ih:=WL hs n2
  have nm:mid c∉cs.map mid:=fun z=>by
   obtain ⟨c',h1,h2⟩:=List.mem_map.mp z
   exact n1 (by rw [← ZR h2];exact h1)
  rw [List.flatMap_cons,List.count_append,qin hs,ih,List.map_cons]
  have one:∀ m:Sp,(if m∈mid c :: cs.map mid then 1 else 0)=(if mid c=m then 1 else 0) + (if m∈cs.map mid then 1 else 0):=fun m=>by
   by_cases h:mid c=m
   ·subst h
    rw [if_pos (.head _),if_pos rfl,if_neg nm]
   ·rw [if_neg h,Nat.zero_add]
    by_cases h2:m∈cs.map mid
    ·rw [if_pos h2,if_pos (.tail _ h2)]
    ·rw [if_neg h2,if_neg (fun z=>by rcases List.mem_cons.mp z with y | y;exact h y.symm;exact h2 y)]
  rw [one,one]
  omega
theorem qgy {cs:List Sp} (hn:cs.Nodup) (s:Sp):(cs.flatMap usq).count s=1↔Sq s/\skB (inM cs) s=true:=by
 constructor
 ·intro h
  have hm:s∈cs.flatMap usq:=List.count_pos_iff.mp (by omega)
  obtain ⟨c,_,hc⟩:=List.mem_flatMap.mp hm
  have hs:=qkH hc
  refine ⟨hs,?_⟩
  rw [WL hs hn] at h
  unfold skB inM
  by_cases h1:lo (axA s) s∈cs.map mid<;>by_cases h2:hi (axA s) s∈cs.map mid
  ·rw [if_pos h1,if_pos h2] at h;cases h
  ·rw [decide_eq_true h1,decide_eq_false h2];rfl
  ·rw [decide_eq_false h1,decide_eq_true h2];rfl
  ·rw [if_neg h1,if_neg h2] at h;cases h
 ·rintro ⟨hs,h⟩
  rw [WL hs hn]
  unfold skB inM at h
  by_cases h1:lo (axA s) s∈cs.map mid<;>by_cases h2:hi (axA s) s∈cs.map mid
  ·rw [decide_eq_true h1,decide_eq_true h2] at h;cases h
  ·rw [if_pos h1,if_neg h2]
  ·rw [if_neg h1,if_pos h2]
  ·rw [decide_eq_false h1,decide_eq_false h2] at h;cases h
noncomputable def oth (a:Nat) (b:Int) (c:Sp):Sp:=match a with
 | 0=>(c.1 + b,c.2.1,c.2.2)
 | 1=>(c.1,c.2.1 + b,c.2.2)
 | _=>(c.1,c.2.1,c.2.2 + b)
theorem qky {cs L:List Sp} {c:Sp} (hc:BdS 200 c) {a:Nat} (ha:a=0\/a=1\/a=2) (b:Int) (hl:L.length < 900) (o5 o6:Option PyData) :
  ∃ o5' o6',(seqO (qM 5 (evA (aC (vr 2) aN) zP)) (seqO (sPut 5 (vr 3) (qF (ev2 (ev2 (vr 5) (vr 3) ixD) (vr 4) qC))) (sIf (tV (ev2 (evA (aC (vr 5) aN) qL) (vr 0) ninD)) (seqO (qM 6 (qY 7 (evI (vr 2) seqD) tT (ev2 (ev2 (kd (.int 2)) (vr 7) mulD) (kd (.int 1)) qC))) (seqO (sPut 6 (vr 3) (qF (ev2 (ev2 (vr 6) (vr 3) ixD) (vr 4) qC))) (sApp 1 (qF (evA (aC (vr 6) aN) qL))))) sN))) [some (.list (cs.map eS)),some (.list (L.map eS)),some (eS c),some (.int (a:Nat)),some (.int b),o5,o6]=some (.nx [some (.list (cs.map eS)),some (.list ((L ++ if oth a b c∈cs then [] else [oth a b (mid c)]).map eS)),some (eS c),some (.int (a:Nat)),some (.int b),o5',o6']):=by
 have hz:(L.map eS).length < 1000:=by rw [List.length_map];omega
 have nn:=qde cs (oth a b c)
 have m1:=ZS (bd2.ok hc.1)
 have m2:=ZS (bd2.ok hc.2.1)
 have m3:=ZS (bd2.ok hc.2.2)
 have n1:(((1:Nat):Int))=1:=rfl
 have n2:(((2:Nat):Int))=2:=rfl
 by_cases h:oth a b c∈cs
 ·rw [if_pos h,List.append_nil]
  rw [decide_eq_true h] at nn
  rcases ha with rfl | rfl | rfl<;>simp only [oth,eS] at nn ⊢
  ·exact ⟨_,_,by simp_arith [ix0,ix1,ix2,zA,nn,Int.natCast_zero];rfl⟩
  ·exact ⟨_,_,by simp_arith [ix0,ix1,ix2,zA,nn,n1];rfl⟩
  ·exact ⟨_,_,by simp_arith [ix0,ix1,ix2,zA,nn,n2];rfl⟩
 ·rw [if_neg h]
  rw [decide_eq_false h] at nn
  rcases ha with rfl | rfl | rfl<;>simp only [oth,eS,mid,List.map_append,List.map_cons,List.map_nil] at nn ⊢
  ·exact ⟨_,_,by simp_arith [ix0,ix1,ix2,zA,Zh,nn,m1,m2,m3,hz,Int.natCast_zero];rfl⟩
  ·exact ⟨_,_,by simp_arith [ix0,ix1,ix2,zA,Zh,nn,m1,m2,m3,hz,n1];rfl⟩
  ·exact ⟨_,_,by simp_arith [ix0,ix1,ix2,zA,Zh,nn,m1,m2,m3,hz,n2];rfl⟩
noncomputable def lsb (cs:List Sp) (c:Sp) (a:Nat) (b:Int):List Sp:=if oth a b c∈cs then [] else [oth a b (mid c)]
noncomputable def lsa (cs:List Sp) (c:Sp) (a:Nat):List Sp:=[-1,1].flatMap (lsb cs c a)
noncomputable def lsq (cs:List Sp) (c:Sp):List Sp:=[0,1,2].flatMap (lsa cs c)
theorem qhD (cs:List Sp) (c:Sp) (a:Nat) (b:Int):(lsb cs c a b).length <= 1:=by
 unfold lsb
 split
 ·exact Nat.zero_le _
 ·exact Nat.le_refl _
theorem qhE {cs:List Sp} (hb:∀ c∈cs,BdS 200 c) (hl:cs.length <= 6):∃ sk:List Sp,qW [.list (cs.map eS)]=some (.list (sk.map eS))/\(sk.map l3).Pairwise (fun a b=>HT.lexLt b a=false)/\sk.Perm (cs.flatMap (lsq cs)):=by
 obtain ⟨ρ',e,o2,o3,o4,o5,o6,rfl,hlen⟩:=q9 eS (g:=gNm 2) (u:=(sFor (evR (aC (kd (.int 3)) aN) QR) (gNm 3) (sFor (evI (evA (aC (ev1 (kd (.int 1)) negD) (aC (kd (.int 1)) aN)) tupD) seqD) (gNm 4) (seqO (qM 5 (evA (aC (vr 2) aN) zP)) (seqO (sPut 5 (vr 3) (qF (ev2 (ev2 (vr 5) (vr 3) ixD) (vr 4) qC))) (sIf (tV (ev2 (evA (aC (vr 5) aN) qL) (vr 0) ninD)) (seqO (qM 6 (qY 7 (evI (vr 2) seqD) tT (ev2 (ev2 (kd (.int 2)) (vr 7) mulD) (kd (.int 1)) qC))) (seqO (sPut 6 (vr 3) (qF (ev2 (ev2 (vr 6) (vr 3) ixD) (vr 4) qC))) (sApp 1 (qF (evA (aC (vr 6) aN) qL))))) sN))))))
  (fun done ρ=>∃ o2 o3 o4 o5 o6:Option PyData,ρ=[some (.list (cs.map eS)),some (.list ((done.flatMap (lsq cs)).map eS)),o2,o3,o4,o5,o6]/\(done.flatMap (lsq cs)).length <= 6 * done.length) cs [some (.list (cs.map eS)),some (.list []),none,none,none,none,none] ⟨none,none,none,none,none,rfl,Nat.zero_le _⟩ (by
   rintro c hc done ρ hdl ⟨o2,o3,o4,o5,o6,rfl,hlen⟩
   generalize hL:done.flatMap (lsq cs)=L at *
   obtain ⟨ρ1,e1,o3',o4',o5',o6',rfl,hlen1⟩:=q9 (fun a:Nat=>PyData.int (a:Nat)) (g:=gNm 3) (u:=(sFor (evI (evA (aC (ev1 (kd (.int 1)) negD) (aC (kd (.int 1)) aN)) tupD) seqD) (gNm 4) (seqO (qM 5 (evA (aC (vr 2) aN) zP)) (seqO (sPut 5 (vr 3) (qF (ev2 (ev2 (vr 5) (vr 3) ixD) (vr 4) qC))) (sIf (tV (ev2 (evA (aC (vr 5) aN) qL) (vr 0) ninD)) (seqO (qM 6 (qY 7 (evI (vr 2) seqD) tT (ev2 (ev2 (kd (.int 2)) (vr 7) mulD) (kd (.int 1)) qC))) (seqO (sPut 6 (vr 3) (qF (ev2 (ev2 (vr 6) (vr 3) ixD) (vr 4) qC))) (sApp 1 (qF (evA (aC (vr 6) aN) qL))))) sN)))))
    (fun don ρ=>∃ o3 o4 o5 o6:Option PyData,ρ=[some (.list (cs.map eS)),some (.list ((L ++ don.flatMap (lsa cs c)).map eS)),some (eS c),o3,o4,o5,o6]/\(L ++ don.flatMap (lsa cs c)).length <= L.length + 2 * don.length) [0,1,2] [some (.list (cs.map eS)),some (.list (L.map eS)),some (eS c),o3,o4,o5,o6] ⟨o3,o4,o5,o6,by simp,by simp⟩ (by
     rintro a ham don ρ hd ⟨o3,o4,o5,o6,rfl,hl2⟩
     have ha:a=0\/a=1\/a=2:=by simpa using ham
     have h3:([0,1,2]:List Nat).length=3:=rfl
     generalize hL2:L ++ don.flatMap (lsa cs c)=Lh at *
     obtain ⟨ρ2,e2,o4',o5',o6',rfl,hlen2⟩:=q9 PyData.int (g:=gNm 4) (u:=(seqO (qM 5 (evA (aC (vr 2) aN) zP)) (seqO (sPut 5 (vr 3) (qF (ev2 (ev2 (vr 5) (vr 3) ixD) (vr 4) qC))) (sIf (tV (ev2 (evA (aC (vr 5) aN) qL) (vr 0) ninD)) (seqO (qM 6 (qY 7 (evI (vr 2) seqD) tT (ev2 (ev2 (kd (.int 2)) (vr 7) mulD) (kd (.int 1)) qC))) (seqO (sPut 6 (vr 3) (qF (ev2 (ev2 (vr 6) (vr 3) ixD) (vr 4) qC))) (sApp 1 (qF (evA (aC (vr 6) aN) qL))))) sN))))
      (fun dn ρ=>∃ o4 o5 o6:Option PyData,ρ=[some (.list (cs.map eS)),some (.list ((Lh ++ dn.flatMap (lsb cs c a)).map eS)),some (eS c),some (.int (a:Nat)),o4,o5,o6]/\(Lh ++ dn.flatMap (lsb cs c a)).length <= Lh.length + dn.length) [-1,1] [some (.list (cs.map eS)),some (.list (Lh.map eS)),some (eS c),some (.int (a:Nat)),o4,o5,o6] ⟨o4,o5,o6,by simp,by simp⟩ (by
       rintro b hbm dn ρ hd2 ⟨o4,o5,o6,rfl,hl3⟩
       have h2:([-1,1]:List Int).length=2:=rfl
       have hll:=qhD cs c a b
       obtain ⟨o5',o6',es⟩:=qky (cs:=cs) (L:=Lh ++ dn.flatMap (lsb cs c a)) (hb c hc) ha b (by omega) o5 o6
       have hn:Lh ++ (dn ++ [b]).flatMap (lsb cs c a)=(Lh ++ dn.flatMap (lsb cs c a)) ++ lsb cs c a b:=by
        rw [List.flatMap_append,List.append_assoc]
        simp
       refine ⟨_,es,some (.int b),o5',o6',by rw [hn];rfl,?_⟩
       rw [hn,List.length_append,List.length_append (as:=dn),List.length_singleton]
       omega)
     have hn:L ++ (don ++ [a]).flatMap (lsa cs c)=Lh ++ [-1,1].flatMap (lsb cs c a):=by
      rw [List.flatMap_append,← List.append_assoc,hL2]
      simp [lsa]
     have h2:([-1,1]:List Int).length=2:=rfl
     have e2:forD (gNm 4) (seqO (qM 5 (evA (aC (vr 2) aN) zP)) (seqO (sPut 5 (vr 3) (qF (ev2 (ev2 (vr 5) (vr 3) ixD) (vr 4) qC))) (sIf (tV (ev2 (evA (aC (vr 5) aN) qL) (vr 0) ninD)) (seqO (qM 6 (qY 7 (evI (vr 2) seqD) tT (ev2 (ev2 (kd (.int 2)) (vr 7) mulD) (kd (.int 1)) qC))) (seqO (sPut 6 (vr 3) (qF (ev2 (ev2 (vr 6) (vr 3) ixD) (vr 4) qC))) (sApp 1 (qF (evA (aC (vr 6) aN) qL))))) sN))) [.int (-1),.int 1] [some (.list (cs.map eS)),some (.list (Lh.map eS)),some (eS c),some (.int (a:Nat)),o4,o5,o6]=some (.nx [some (.list (cs.map eS)),some (.list ((Lh ++ [-1,1].flatMap (lsb cs c a)).map eS)),some (eS c),some (.int (a:Nat)),o4',o5',o6']):=e2
     refine ⟨_,?_,some (.int (a:Nat)),o4',o5',o6',rfl,?_⟩
     ·rw [hn]
      simp_arith [e2]
     ·rw [hn,List.length_append (as:=don),List.length_singleton]
      omega)
   have hn:(done ++ [c]).flatMap (lsq cs)=L ++ [0,1,2].flatMap (lsa cs c):=by
    rw [List.flatMap_append,hL]
    simp [lsq]
   have h3:([0,1,2]:List Nat).length=3:=rfl
   have e1:forD (gNm 3) (sFor (evI (evA (aC (ev1 (kd (.int 1)) negD) (aC (kd (.int 1)) aN)) tupD) seqD) (gNm 4) (seqO (qM 5 (evA (aC (vr 2) aN) zP)) (seqO (sPut 5 (vr 3) (qF (ev2 (ev2 (vr 5) (vr 3) ixD) (vr 4) qC))) (sIf (tV (ev2 (evA (aC (vr 5) aN) qL) (vr 0) ninD)) (seqO (qM 6 (qY 7 (evI (vr 2) seqD) tT (ev2 (ev2 (kd (.int 2)) (vr 7) mulD) (kd (.int 1)) qC))) (seqO (sPut 6 (vr 3) (qF (ev2 (ev2 (vr 6) (vr 3) ixD) (vr 4) qC))) (sApp 1 (qF (evA (aC (vr 6) aN) qL))))) sN)))) [.int 0,.int 1,.int 2] [some (.list (cs.map eS)),some (.list (L.map eS)),some (eS c),o3,o4,o5,o6]=some (.nx [some (.list (cs.map eS)),some (.list ((L ++ [0,1,2].flatMap (lsa cs c)).map eS)),some (eS c),o3',o4',o5',o6']):=e1
   have hr:∀ ρ:Rho,(evR (aC (kd (.int 3)) aN) QR) ρ=some [.int 0,.int 1,.int 2]:=fun _=>rfl
   refine ⟨_,?_,some (eS c),o3',o4',o5',o6',rfl,?_⟩
   ·rw [hn]
    show sFor (evR (aC (kd (.int 3)) aN) QR) (gNm 3) (sFor (evI (evA (aC (ev1 (kd (.int 1)) negD) (aC (kd (.int 1)) aN)) tupD) seqD) (gNm 4) (seqO (qM 5 (evA (aC (vr 2) aN) zP)) (seqO (sPut 5 (vr 3) (qF (ev2 (ev2 (vr 5) (vr 3) ixD) (vr 4) qC))) (sIf (tV (ev2 (evA (aC (vr 5) aN) qL) (vr 0) ninD)) (seqO (qM 6 (qY 7 (evI (vr 2) seqD) tT (ev2 (ev2 (kd (.int 2)) (vr 7) mulD) (kd (.int 1)) qC))) (seqO (sPut 6 (vr 3) (qF (ev2 (ev2 (vr 6) (vr 3) ixD) (vr 4) qC))) (sApp 1 (qF (evA (aC (vr 6) aN) qL))))) sN)))) [some (.list (cs.map eS)),some (.list (L.map eS)),some (eS c),o3,o4,o5,o6]=_
    rw [qgv,hr,qfv]
    exact e1
   ·rw [hn,List.length_append (as:=done),List.length_singleton]
    omega)
 obtain ⟨sk,es,p,r⟩:=QD (xs:=cs.flatMap (lsq cs)) (by omega)
 refine ⟨sk,?_,r,p⟩
 simp only [qW,jr]
 simp_arith [e,es]
theorem jD {cs:List Sp} {c s:Sp}:s∈lsq cs c↔∃ a b,(a=0\/a=1\/a=2)/\(b=-1\/b=1)/\oth a b c∉cs/\s=oth a b (mid c):=by
 have hb:∀ a b,s∈lsb cs c a b↔oth a b c∉cs/\s=oth a b (mid c):=fun a b=>by
  unfold lsb
  by_cases h:oth a b c∈cs
  ·rw [if_pos h]
   exact ⟨(fun z=>by cases z),fun z=>absurd h z.1⟩
  ·rw [if_neg h,List.mem_singleton]
   exact ⟨fun z=>⟨h,z⟩,fun z=>z.2⟩
 unfold lsq lsa
 simp only [List.mem_flatMap,hb]
 constructor
 ·rintro ⟨a,ha,b,hb',h1,h2⟩
  exact ⟨a,b,by simpa using ha,by simpa using hb',h1,h2⟩
 ·rintro ⟨a,b,ha,hb',h1,h2⟩
  exact ⟨a,by simpa using ha,b,by simpa using hb',h1,h2⟩
theorem md1 (x:Int):(2 * x + 1) % 2=1:=by omega
theorem md2 {x b:Int} (h:b=-1\/b=1):(2 * x + 1 + b) % 2=0:=by omega
theorem md3 {x b:Int} (h:b=-1):2 * x + 1 + b + 1=2 * x + 1/\2 * x + 1 + b - 1=2 * (x + b) + 1:=by omega
theorem md5 {x b:Int} (h:b=1):2 * x + 1 + b - 1=2 * x + 1/\2 * x + 1 + b + 1=2 * (x + b) + 1:=by omega
theorem Ju (a:Nat) (b:Int) (c:Sp) (ha:a=0\/a=1\/a=2) (hb:b=-1\/b=1):Sq (oth a b (mid c))/\axA (oth a b (mid c))=a/\(b=-1->hi a (oth a b (mid c))=mid c/\lo a (oth a b (mid c))=mid (oth a b c))/\(b=1->lo a (oth a b (mid c))=mid c/\hi a (oth a b (mid c))=mid (oth a b c)):=by
 obtain ⟨x,y,z⟩:=c
 rcases ha with rfl | rfl | rfl
 ·exact ⟨.inl ⟨md2 hb,md1 y,md1 z⟩,ax0 (s:=oth 0 b (mid (x,y,z))) (md2 hb),fun h=>⟨Qn (md3 h).1 rfl rfl,Qn (md3 h).2 rfl rfl⟩,fun h=>⟨Qn (md5 h).1 rfl rfl,Qn (md5 h).2 rfl rfl⟩⟩
 ·exact ⟨.inr (.inl ⟨md1 x,md2 hb,md1 z⟩),ax1 (s:=oth 1 b (mid (x,y,z))) (md1 x) (md2 hb),fun h=>⟨Qn rfl (md3 h).1 rfl,Qn rfl (md3 h).2 rfl⟩,fun h=>⟨Qn rfl (md5 h).1 rfl,Qn rfl (md5 h).2 rfl⟩⟩
 ·exact ⟨.inr (.inr ⟨md1 x,md1 y,md2 hb⟩),ax2 (s:=oth 2 b (mid (x,y,z))) (md1 x) (md1 y),fun h=>⟨Qn rfl rfl (md3 h).1,Qn rfl rfl (md3 h).2⟩,fun h=>⟨Qn rfl rfl (md5 h).1,Qn rfl rfl (md5 h).2⟩⟩
theorem Wb {cs:List Sp} {s:Sp}:s∈cs.flatMap (lsq cs)↔Sq s/\skB (inM cs) s=true:=by
 have inm:∀ c,mid c∈cs.map mid↔c∈cs:=fun c=>by
  constructor
  ·intro h
   obtain ⟨c',h1,h2⟩:=List.mem_map.mp h
   rw [← ZR h2];exact h1
  ·exact fun h=>List.mem_map.mpr ⟨c,h,rfl⟩
 rw [List.mem_flatMap]
 constructor
 ·rintro ⟨c,hc,h⟩
  obtain ⟨a,b,ha,hb,h1,rfl⟩:=jD.mp h
  obtain ⟨g1,g2,g3,g4⟩:=Ju a b c ha hb
  refine ⟨g1,?_⟩
  unfold skB inM
  rw [g2]
  rcases hb with hb | hb
  ·rw [(g3 hb).1,(g3 hb).2,decide_eq_true ((inm c).mpr hc),decide_eq_false (fun z=>h1 ((inm _).mp z))];rfl
  ·rw [(g4 hb).1,(g4 hb).2,decide_eq_true ((inm c).mpr hc),decide_eq_false (fun z=>h1 ((inm _).mp z))];rfl
 ·rintro ⟨hs,h⟩
  unfold skB inM at h
  have hA:axA s=0\/axA s=1\/axA s=2:=by rcases Qf hs with z | z | z<;>simp [z.1]
  have back:∀ (b:Int) (c:Sp),(b=-1/\hi (axA s) s=mid c)\/(b=1/\lo (axA s) s=mid c)->s=oth (axA s) b (mid c):=fun b c hh=>by
   obtain ⟨x,y,z⟩:=s
   rcases hA with e | e | e<;>rw [e] at hh ⊢<;>rcases hh with ⟨rfl,g⟩ | ⟨rfl,g⟩<;>rw [← g]<;>simp only [oth,lo,hi]<;>(congr 1<;>first | omega | (congr 1<;>omega))
  by_cases h1:lo (axA s) s∈cs.map mid<;>by_cases h2:hi (axA s) s∈cs.map mid
  ·rw [decide_eq_true h1,decide_eq_true h2] at h;cases h
  ·obtain ⟨c,hc,ec⟩:=List.mem_map.mp h1
   have es:=back 1 c (.inr ⟨rfl,ec.symm⟩)
   refine ⟨c,hc,jD.mpr ⟨axA s,1,hA,.inr rfl,fun z=>h2 ?_,es⟩⟩
   have:=((Ju (axA s) 1 c hA (.inr rfl)).2.2.2 rfl).2
   rw [← es] at this
   rw [this]
   exact (inm _).mpr z
  ·obtain ⟨c,hc,ec⟩:=List.mem_map.mp h2
   have es:=back (-1) c (.inl ⟨rfl,ec.symm⟩)
   refine ⟨c,hc,jD.mpr ⟨axA s,-1,hA,.inl rfl,fun z=>h1 ?_,es⟩⟩
   have:=((Ju (axA s) (-1) c hA (.inl rfl)).2.2.1 rfl).2
   rw [← es] at this
   rw [this]
   exact (inm _).mpr z
  ·rw [decide_eq_false h1,decide_eq_false h2] at h;cases h
theorem qd4 (cs:List Sp) (c:Sp):(lsq cs c).Nodup:=by
 have sub:∀ a b,(lsb cs c a b).Sublist [oth a b (mid c)]:=fun a b=>by
  unfold lsb
  split
  ·exact List.nil_sublist _
  ·exact List.Sublist.refl _
 have e:lsq cs c=(lsb cs c 0 (-1) ++ lsb cs c 0 1) ++ ((lsb cs c 1 (-1) ++ lsb cs c 1 1) ++ (lsb cs c 2 (-1) ++ lsb cs c 2 1)):=by simp [lsq,lsa]
 rw [e]
 refine List.Nodup.sublist (((sub 0 (-1)).append (sub 0 1)).append (((sub 1 (-1)).append (sub 1 1)).append ((sub 2 (-1)).append (sub 2 1)))) ?_
 obtain ⟨x,y,z⟩:=c
 simp [oth,mid]
 omega
theorem yl {cs:List Sp} (hn:cs.Nodup):(cs.flatMap (lsq cs)).Nodup:=by
 refine List.pairwise_flatMap.mpr ⟨fun c _=>qd4 cs c,?_⟩
 refine List.Pairwise.imp_of_mem (R:=fun a b=>a≠b) ?_ hn
 rintro c1 c2 m1 m2 hne x hx y hy rfl
 obtain ⟨a1,b1,ha1,hb1,n1,e1⟩:=jD.mp hx
 obtain ⟨a2,b2,ha2,hb2,n2,e2⟩:=jD.mp hy
 have g1:=Ju a1 b1 c1 ha1 hb1
 have g2:=Ju a2 b2 c2 ha2 hb2
 rw [← e1] at g1
 rw [← e2] at g2
 have ea:a1=a2:=g1.2.1.symm.trans g2.2.1
 subst ea
 rcases hb1 with h1 | h1<;>rcases hb2 with h2 | h2
 ·exact hne (ZR ((g1.2.2.1 h1).1.symm.trans (g2.2.2.1 h2).1))
 ·have:=ZR ((g1.2.2.1 h1).2.symm.trans (g2.2.2.2 h2).1)
  exact n1 (by rw [this];exact m2)
 ·have:=ZR ((g1.2.2.2 h1).2.symm.trans (g2.2.2.1 h2).1)
  exact n1 (by rw [this];exact m2)
 ·exact hne (ZR ((g1.2.2.2 h1).1.symm.trans (g2.2.2.2 h2).1))
theorem qij {cs:List Sp} (hb:∀ c∈cs,BdS 200 c) (hl:cs.length <= 6) (hn:cs.Nodup):∃ sk:List Sp,zy [.list (cs.map eS)]=some (.list (sk.map eS))/\qW [.list (cs.map eS)]=some (.list (sk.map eS))/\(sk.map l3).Pairwise (fun a b=>HT.lexLt b a=false)/\sk.Nodup/\sk.length <= 36/\∀ s,s∈sk↔Sq s/\skB (inM cs) s=true:=by
 obtain ⟨sk,e1,r1,n1,l1,m1⟩:=qkv hb hl
 obtain ⟨sk',e2,r2,p2⟩:=qhE hb hl
 have hm:∀ s,s∈sk↔Sq s/\skB (inM cs) s=true:=fun s=>(m1 s).trans (qgy hn s)
 have same:sk'=sk:=QK (p2.trans (ZX (yl hn) n1 fun s=>Wb.trans (hm s).symm)) r2 r1
 rw [same] at e2
 exact ⟨sk,e1,e2,r1,n1,l1,hm⟩
theorem Yj {α:Type} (enc:α->PyData) {k:Nat} {g:PyData->Rho->Option Rho} {te:Rho->Option PyData} {ρ:Rho} (f:α->PyData):∀ (as:List α),(∀ a∈as,ob (g (enc a) (ρ ++ List.replicate k none)) te=some (f a))->Qh k g tT te ρ (as.map enc)=some (as.map f)
 | [],_=>rfl
 | a :: as,h=>by
  have ih:=Yj enc f as fun x hx=>h x (.tail _ hx)
  obtain ⟨ρ1,e1,e2⟩:=qi (h a (.head _))
  rw [List.map_cons,qcT,e1,qcN]
  show qaH (some true) _ _=_
  rw [qcL,e2,ih]
  rfl
theorem qaN {α:Type} (e:α->PyData):∀ (xs:List α) (n:Nat),enL (n:Nat) (xs.map e)=(xs.zipIdx n).map fun p=>.tuple [.int (p.2:Nat),e p.1]
 | [],_=>rfl
 | x :: xs,n=>by
  rw [List.map_cons,List.zipIdx_cons,List.map_cons,← qaN e xs (n + 1)]
  rfl
theorem qdO {α:Type} (e:α->PyData) (xs:List α):enL 0 (xs.map e)=xs.zipIdx.map fun p=>.tuple [.int (p.2:Nat),e p.1]:=qaN e xs 0
theorem qbs {α:Type} {f:α->PyData} {g:α->KX×PyData} (h:∀ a,prOf (f a)=some (g a)):∀ xs:List α,Wn (xs.map f)=some (xs.map g)
 | []=>rfl
 | x :: xs=>by
  show ob (prOf (f x)) (fun p=>ob (Wn (xs.map f)) fun ps=>some (p :: ps))=_
  rw [h,qbs h xs]
  rfl
theorem qdo:∀ (zs done:List (Sp×Nat)),((done ++ zs).map (·.1)).Nodup->yo (eD done) (zs.map fun p=>(kS p.1,.int (p.2:Nat)))=eD (done ++ zs)
 | [],done,_=>by rw [List.append_nil];rfl
 | z :: zs,done,hn=>by
  have hf:(qP (eD done) (kS z.1)).isSome=false:=by
   rw [yK,decide_eq_false]
   intro hm
   rw [List.map_append,List.nodup_append] at hn
   exact hn.2.2 z.1 hm z.1 (by simp) rfl
  have hp:putD (eD done) (kS z.1) (.int (z.2:Nat))=eD (done ++ [z]):=by
   unfold putD
   rw [hf,if_neg (by decide),Jr]
   unfold eD
   rw [List.map_append]
   rfl
  show yo (putD (eD done) (kS z.1) (.int (z.2:Nat))) _=_
  rw [hp,qdo zs (done ++ [z]) (by rw [List.append_assoc];exact hn),List.append_assoc]
  rfl
theorem qcK (s:Sp):∀ (S:List Sp) (n:Nat),s∈S->cnt (S.zipIdx n) s=n + S.idxOf s
 | x :: S,n,h=>by
  unfold cnt
  rw [List.zipIdx_cons,List.find?_cons,List.idxOf_cons]
  by_cases hx:x=s
  ·subst hx;simp
  ·have hc:s∈S:=by rcases List.mem_cons.mp h with z | z;exact absurd z.symm hx;exact z
   have e1:(x == s)=false:=beq_eq_false_iff_ne.mpr hx
   have ih:=qcK s S (n + 1) hc
   unfold cnt at ih
   rw [decide_eq_false hx,e1]
   refine ih.trans ?_
   show n + 1 + S.idxOf s=n + (S.idxOf s + 1)
   omega
theorem qd5 {S:List Sp} (hn:S.Nodup) (hl:S.length <= 900):Qt [.list (S.map eS)]=some (.dict (eD S.zipIdx)):=by
 have hc:Qh 2 (unpD 2 (gsC (gNm 1) (gsC (gNm 2) gsN))) tT (evA (aC (vr 2) (aC (vr 1) aN)) tupD) [some (.list (S.map eS))] (S.zipIdx.map fun p:Sp×Nat=>.tuple [.int (p.2:Nat),eS p.1])=some (S.zipIdx.map fun p=>.tuple [eS p.1,.int (p.2:Nat)]) :=
  Yj (fun p:Sp×Nat=>.tuple [.int (p.2:Nat),eS p.1]) _ S.zipIdx fun a _=>by simp_arith []
 have hlen:(S.zipIdx.map fun p:Sp×Nat=>PyData.tuple [.int (p.2:Nat),eS p.1]).length <= 1000:=by rw [List.length_map,List.length_zipIdx];omega
 have hd:WR [.list (S.zipIdx.map fun p:Sp×Nat=>.tuple [eS p.1,.int (p.2:Nat)])]=some (.dict (eD S.zipIdx)):=by
  have e1:=qbs (f:=fun p:Sp×Nat=>PyData.tuple [eS p.1,.int (p.2:Nat)]) (g:=fun p=>(kS p.1,.int (p.2:Nat))) (fun _=>rfl) S.zipIdx
  show ob (Wn _) _=_
  rw [e1,ob_s,if_pos ⟨.inr (by rw [List.all_map];exact List.all_eq_true.mpr fun p _=>rfl),by rw [List.length_map,List.length_zipIdx];omega⟩]
  have:=qdo S.zipIdx [] (by rw [List.nil_append,List.zipIdx_map_fst];exact hn)
  rw [List.nil_append] at this
  exact congrArg (fun z=>some (PyData.dict z)) this
 simp only [Qt,Z3]
 simp_arith [qdO,hlen,hc,hd]
theorem in_eD (kvs:List (Sp×Nat)) (s:Sp):in2D (eS s) (.dict (eD kvs))=some (.bool (decide (s∈kvs.map (·.1)))):=by
 show ob (kxOf (eS s)) (fun ks=>if kOk (eD kvs) ks=true then some (PyData.bool (qP (eD kvs) ks).isSome) else none)=_
 rw [yj,ob_s,if_pos (W2 _ _),yK]
theorem qbd {S:List Sp} {s:Sp} (h:s∈S):ix2D (.dict (eD S.zipIdx)) (eS s)=some (.int (S.idxOf s:Nat)):=by
 rw [qfF (by rw [List.zipIdx_map_fst];exact h),qcK s S 0 h,Nat.zero_add]
theorem qdM {cs sk:List Sp} (hs:∀ s∈sk,Sq s) (hl:sk.length <= 60) (e1:zy [.list (cs.map eS)]=some (.list (sk.map eS))) (h4:∀ e,(sk.flatMap fun s=>ar (axA s) s).count e≠4):Zo [.list (cs.map eS)]=some .none:=by
 have e2:=qaI hs hl
 generalize hk:tally (sk.flatMap fun s=>ar (axA s) s)=kvs at *
 have hcnt:∀ t,cnt kvs t≠4:=fun t=>by rw [← hk,Wu];exact h4 t
 have hkl:kvs.length <= 240:=by
  have h1:(kvs.map (·.1)).length <= (sk.flatMap fun s=>ar (axA s) s).length:=by
   rw [← hk,j4]
   have:∀ (xs ks:List Sp),(xs.foldl (fun ks s=>if s∈ks then ks else ks ++ [s]) ks).length <= ks.length + xs.length:=by
    intro xs
    induction xs with
    | nil=>exact fun ks=>Nat.le_refl _
    | cons x xs ih =>
     intro ks
     rw [List.foldl_cons,List.length_cons]
     have:=ih (if x∈ks then ks else ks ++ [x])
     have h2:(if x∈ks then ks else ks ++ [x]).length <= ks.length + 1:=by
      split
      ·omega
      ·rw [List.length_append,List.length_singleton];omega
     omega
   have:=this (sk.flatMap fun s=>ar (axA s) s) []
   rw [List.length_nil,Nat.zero_add] at this
   exact this
  have h2:∀ ss:List Sp,(ss.flatMap fun s=>ar (axA s) s).length <= 4 * ss.length:=by
   intro ss
   induction ss with
   | nil=>exact Nat.le_refl _
   | cons s ss ih =>
    rw [List.flatMap_cons,List.length_append,List.length_cons]
    have:(ar (axA s) s).length=4:=by
     unfold ar
     split<;>rfl
    omega
  have:=h2 sk
  rw [List.length_map] at h1
  omega
 have hc:zO (tV (ev2 (ev2 (vr 1) (vr 2) ix2D) (kd Jf) eqD)) (vr 2) [some (.list (cs.map eS)),some (.dict (eD kvs))] (kvs.map fun p=>eS p.1)=some ((kvs.filter fun _=>false).map fun p=>eS p.1):=by
  refine Zn (fun p:Sp×Nat=>eS p.1) (fun _=>false) (fun p=>eS p.1) kvs (fun p hp=>?_) fun p hp h=>by cases h
  have hi:=qfF (s:=p.1) (List.mem_map.mpr ⟨p,hp,rfl⟩)
  have cr:Jf=.int 4:=rfl
  have hne:(((cnt kvs p.1:Nat):Int) == 4)=false:=beq_eq_false_iff_ne.mpr fun z=>hcnt p.1 (by omega)
  simp_arith [hi,cr,hne]
 have hz:(kvs.map fun p=>eS p.1).length <= 1000:=by rw [List.length_map];omega
 rw [List.filter_eq_nil_iff.mpr (fun p _=>by decide),List.map_nil] at hc
 have hm:qda (.list []) .none=some .none:=rfl
 simp only [Zo,JX]
 simp_arith [e1,e2,qad,hz,hc,hm]
noncomputable abbrev Mt:=Sp×List Nat
noncomputable def eNs (l:List Nat):PyData:=.list (l.map fun k=>.int (k:Nat))
noncomputable def eM (kvs:List Mt):List (PyData×PyData):=kvs.map fun p=>(eS p.1,eNs p.2)
noncomputable def setM (s:Sp) (k:Nat):List Mt->List Mt
 | []=>[]
 | p :: r=>if p.1=s then (p.1,p.2 ++ [k]) :: r else p :: setM s k r
noncomputable def addM (kvs:List Mt) (s:Sp) (k:Nat):List Mt:=if s∈kvs.map (·.1) then setM s k kvs else kvs ++ [(s,[k])]
theorem W3 (kvs:List Mt) (s:Sp):kOk (eM kvs) (kS s)=true:=by
 unfold kOk eM
 rw [List.all_map]
 exact List.all_eq_true.mpr fun p _=>rfl
theorem jB (s:Sp):∀ kvs:List Mt,qP (eM kvs) (kS s)=(kvs.find? fun p=>decide (p.1=s)).map fun p=>eNs p.2
 | []=>rfl
 | p :: kvs=>by
  have ih:=jB s kvs
  unfold qP eM at *
  rw [List.map_cons,List.find?_cons,List.find?_cons,Jr,jR]
  rw [Jr] at ih
  by_cases h:p.1=s
  ·rw [decide_eq_true h];rfl
  ·rw [decide_eq_false h];exact ih
theorem yL (s:Sp) (kvs:List Mt):(qP (eM kvs) (kS s)).isSome=decide (s∈kvs.map (·.1)):=by
 rw [jB]
 by_cases h:s∈kvs.map (·.1)
 ·obtain ⟨p,hp,rfl⟩:=List.mem_map.mp h
  rw [decide_eq_true h]
  cases e:kvs.find? (fun x=>decide (x.1=p.1)) with
  | some x=>rfl
  | none=>exact absurd (List.find?_eq_none.mp e p hp) (by simp)
 ·rw [decide_eq_false h,List.find?_eq_none.mpr fun p hp=>by simpa using fun z=>h (List.mem_map.mpr ⟨p,hp,z⟩)];rfl
theorem qjK (kvs:List Mt) (s:Sp):We (eS s) (.dict (eM kvs))=some (.bool (!decide (s∈kvs.map (·.1)))):=by
 show ob (kxOf (eS s)) (fun ks=>if kOk (eM kvs) ks=true then some (PyData.bool (!(qP (eM kvs) ks).isSome)) else none)=_
 rw [yj,ob_s,if_pos (W3 _ _),yL]
theorem qjJ {kvs:List Mt} {s:Sp} (hl:kvs.length < 900) (h:s∉kvs.map (·.1)):Jk (.dict (eM kvs)) (eS s)=some (.dict (eM (kvs ++ [(s,[])]))):=by
 show ob (kxOf (eS s)) (fun ks=>if kOk (eM kvs) ks=true/\(eM kvs).length < 900/\(qP (eM kvs) ks).isSome=false then some (PyData.dict (eM kvs ++ [(kxD ks,.list [])])) else none)=_
 rw [yj,ob_s,if_pos ⟨W3 _ _,by unfold eM;rw [List.length_map];exact hl,by rw [yL,decide_eq_false h]⟩,Jr]
 unfold eM
 rw [List.map_append]
 rfl
theorem qdm (s:Sp) (k:Nat):∀ (kvs:List Mt) (p0:Mt),kvs.find? (fun p=>decide (p.1=s))=some p0->put1 (kS s) (eNs (p0.2 ++ [k])) (eM kvs)=eM (setM s k kvs)
 | [],_,e=>by cases e
 | p :: kvs,p0,e=>by
  rw [List.find?_cons] at e
  unfold eM
  rw [List.map_cons,put1,Jr,jR,setM]
  by_cases h:p.1=s
  ·rw [decide_eq_true h] at e ⊢
   cases e
   rw [if_pos rfl,if_pos h]
   rfl
  ·rw [decide_eq_false h] at e ⊢
   rw [if_neg (by decide),if_neg h,List.map_cons]
   exact congrArg _ (qdm s k kvs p0 e)
theorem qeX {kvs:List Mt} {s:Sp} {k:Nat} (h:s∈kvs.map (·.1)) (hl:∀ p∈kvs,p.2.length < 900):Jh (.dict (eM kvs)) (eS s) (.int (k:Nat))=some (.dict (eM (setM s k kvs))):=by
 obtain ⟨p0,e0⟩:∃ p0,kvs.find? (fun p=>decide (p.1=s))=some p0:=by
  have:=yL s kvs
  rw [decide_eq_true h,jB] at this
  cases e:kvs.find? (fun p=>decide (p.1=s)) with
  | none=>rw [e] at this;cases this
  | some p=>exact ⟨p,rfl⟩
 have hm:=hl p0 (List.mem_of_find?_eq_some e0)
 have ha:appD (eNs p0.2) (.int (k:Nat))=some (eNs (p0.2 ++ [k])):=by
  show (if (p0.2.map fun k=>PyData.int (k:Nat)).length < 1000 then some (PyData.list ((p0.2.map fun k=>PyData.int (k:Nat)) ++ [.int (k:Nat)])) else none)=_
  rw [if_pos (by rw [List.length_map];omega)]
  unfold eNs
  rw [List.map_append]
  rfl
 show ob (kxOf (eS s)) (fun ks=>if kOk (eM kvs) ks=true then ob (qP (eM kvs) ks) fun l=>ob (appD l (.int (k:Nat))) fun l'=>some (PyData.dict (put1 ks l' (eM kvs))) else none)=_
 rw [yj,ob_s,if_pos (W3 _ _),jB,e0]
 show ob (appD (eNs p0.2) (.int (k:Nat))) _=_
 rw [ha,ob_s,qdm s k kvs p0 e0]
noncomputable def dnwO (c k:Option PyData) (i:Nat) (ρ:Rho):Option Out:=match c,k with
 | some c,some k=>nxdO (Jk c k) i ρ
 | _,_=>none
theorem qji (c k:PyData) (i:Nat) (ρ:Rho):dnwO (some c) (some k) i ρ=nxdO (Jk c k) i ρ:=rfl
theorem qif (i:Nat) (fk:Rho->Option PyData) (ρ:Rho):YW i fk ρ=dnwO (vr i ρ) (fk ρ) i ρ:=by
 unfold YW dnwO
 cases vr i ρ with
 | none=>rfl
 | some c =>
  cases fk ρ with
  | none=>rfl
  | some k =>
   show ob (Jk c k) _=nxdO (Jk c k) i ρ
   cases Jk c k<;>rfl
noncomputable def kadO (c k d:Option PyData) (i:Nat) (ρ:Rho):Option Out:=match c,k,d with
 | some c,some k,some d=>nxdO (Jh c k d) i ρ
 | _,_,_=>none
theorem qfK (c k d:PyData) (i:Nat) (ρ:Rho):kadO (some c) (some k) (some d) i ρ=nxdO (Jh c k d) i ρ:=rfl
theorem qbB (i:Nat) (fk f:Rho->Option PyData) (ρ:Rho):jZ i fk f ρ=kadO (vr i ρ) (fk ρ) (f ρ) i ρ:=by
 unfold jZ kadO
 cases vr i ρ with
 | none=>rfl
 | some c =>
  cases fk ρ with
  | none=>rfl
  | some k =>
   cases f ρ with
   | none=>rfl
   | some d =>
    show ob (Jh c k d) _=nxdO (Jh c k d) i ρ
    cases Jh c k d<;>rfl
noncomputable def lstM (kvs:List Mt) (s:Sp):List Nat:=((kvs.find? fun p=>decide (p.1=s)).map (·.2)).getD []
theorem Wr (s:Sp) (k:Nat):∀ kvs:List Mt,(setM s k kvs).map (·.1)=kvs.map (·.1)
 | []=>rfl
 | p :: kvs=>by
  unfold setM
  split
  ·rfl
  ·rw [List.map_cons,List.map_cons,Wr s k kvs]
theorem qbC (s t:Sp) (k:Nat):∀ kvs:List Mt,s∈kvs.map (·.1)->lstM (setM s k kvs) t=lstM kvs t ++ if s=t then [k] else []
 | [],h=>by cases h
 | p :: kvs,h=>by
  unfold setM lstM
  by_cases hp:p.1=s
  ·rw [if_pos hp,List.find?_cons,List.find?_cons]
   by_cases hst:s=t
   ·subst hst
    rw [if_pos rfl]
    simp [hp]
   ·have:¬ p.1=t:=fun z=>hst (hp.symm.trans z)
    rw [if_neg hst,decide_eq_false this,List.append_nil]
  ·have hm:s∈kvs.map (·.1):=by rcases List.mem_cons.mp h with z | z;exact absurd z.symm hp;exact z
   have ih:=qbC s t k kvs hm
   unfold lstM at ih
   rw [if_neg hp,List.find?_cons,List.find?_cons]
   by_cases hpt:p.1=t
   ·have hst:¬ s=t:=fun z=>hp (hpt.trans z.symm)
    rw [decide_eq_true hpt,if_neg hst,List.append_nil]
   ·rw [decide_eq_false hpt];exact ih
theorem wI (kvs:List Mt) (s:Sp) (k:Nat):(addM kvs s k).map (·.1)=if s∈kvs.map (·.1) then kvs.map (·.1) else kvs.map (·.1) ++ [s]:=by
 unfold addM
 by_cases h:s∈kvs.map (·.1)
 ·rw [if_pos h,if_pos h,Wr]
 ·rw [if_neg h,if_neg h,List.map_append];rfl
theorem qeW (kvs:List Mt) (s t:Sp) (k:Nat):lstM (addM kvs s k) t=lstM kvs t ++ if s=t then [k] else []:=by
 unfold addM
 by_cases h:s∈kvs.map (·.1)
 ·rw [if_pos h];exact qbC s t k kvs h
 ·rw [if_neg h]
  unfold lstM
  rw [List.find?_append]
  by_cases e:s=t
  ·subst e
   rw [List.find?_eq_none.mpr fun p hp=>by simpa using fun z=>h (List.mem_map.mpr ⟨p,hp,z⟩)]
   simp
  ·have:([(s,[k])]:List Mt).find? (fun p=>decide (p.1=t))=none:=by simp [e]
   rw [if_neg e,this,Option.or_none,List.append_nil]
theorem qbD {s:Sp} {k:Nat}:∀ {kvs:List Mt} {p:Mt},p∈setM s k kvs->p∈kvs\/∃ q∈kvs,p.2=q.2 ++ [k]
 | [],_,h=>by cases h
 | q :: kvs,p,h=>by
  unfold setM at h
  split at h
  ·rcases List.mem_cons.mp h with rfl | z
   ·exact .inr ⟨q,.head _,rfl⟩
   ·exact .inl (.tail _ z)
  ·rcases List.mem_cons.mp h with rfl | z
   ·exact .inl (.head _)
   ·rcases qbD z with y | ⟨q',m,e⟩
    ·exact .inl (.tail _ y)
    ·exact .inr ⟨q',.tail _ m,e⟩
theorem qeV {kvs:List Mt} {s:Sp} {k n:Nat} (h:∀ p∈kvs,p.2.length <= n):∀ p∈addM kvs s k,p.2.length <= n + 1:=fun p hp=>by
 unfold addM at hp
 split at hp
 ·rcases qbD hp with z | ⟨q,m,e⟩
  ·exact Nat.le_succ_of_le (h p z)
  ·have:=h q m
   rw [e,List.length_append,List.length_singleton]
   omega
 ·rcases List.mem_append.mp hp with z | z
  ·exact Nat.le_succ_of_le (h p z)
  ·rw [List.mem_singleton.mp z]
   show 1 <= n + 1
   omega
theorem qdE (kvs:List Mt) (s:Sp) (k:Nat):(addM kvs s k).length <= kvs.length + 1:=by
 have h:=congrArg List.length (wI kvs s k)
 rw [List.length_map] at h
 rw [h]
 split
 ·rw [List.length_map];omega
 ·rw [List.length_append,List.length_map,List.length_singleton];omega
theorem qgB {kvs:List Mt} {e:Sp} {k n:Nat} (hl:kvs.length < 900) (hn:∀ p∈kvs,p.2.length <= n) (hn9:n < 900) (o0:Option PyData) :
  (seqO (sIf (tV (ev2 (vr 3) (vr 1) We)) (YW 1 (vr 3)) sN) (jZ 1 (vr 3) (vr 2))) [o0,some (.dict (eM kvs)),some (.int (k:Nat)),some (eS e)]=some (.nx [o0,some (.dict (eM (addM kvs e k))),some (.int (k:Nat)),some (eS e)]):=by
 have hni:=qjK kvs e
 by_cases h:e∈kvs.map (·.1)
 ·have ha:=qeX (k:=k) h fun p hp=>by have:=hn p hp;omega
  have hadd:addM kvs e k=setM e k kvs:=if_pos h
  rw [decide_eq_true h] at hni
  rw [hadd]
  simp_arith [hni,qbB,qfK,ha]
 ·have hw:=qjJ hl h
  have ha:=qeX (kvs:=kvs ++ [(e,[])]) (s:=e) (k:=k) (by simp) fun p hp=>by
   rcases List.mem_append.mp hp with z | z
   ·have:=hn p z;omega
   ·rw [List.mem_singleton.mp z];exact (show 0 < 900 by decide)
  have hset:∀ ks:List Mt,e∉ks.map (·.1)->setM e k (ks ++ [(e,[])])=ks ++ [(e,[k])]:=by
   intro ks
   induction ks with
   | nil=>intro _;simp [setM]
   | cons p ks ih =>
    intro hh
    rw [List.map_cons,List.mem_cons] at hh
    have h1:¬ p.1=e:=fun z=>hh (.inl z.symm)
    rw [List.cons_append,setM,if_neg h1,ih fun z=>hh (.inr z)]
    rfl
  have hadd:addM kvs e k=kvs ++ [(e,[k])]:=if_neg h
  rw [hset kvs h] at ha
  rw [decide_eq_false h] at hni
  rw [hadd]
  simp_arith [hni,qif,qji,hw,qbB,qfK,ha]
noncomputable def metE (kvs:List Mt) (p:Sp×Nat) (es:List Sp):List Mt:=es.foldl (fun kvs e=>addM kvs e p.2) kvs
noncomputable def metF (ps:List (Sp×Nat)):List Mt:=ps.foldl (fun kvs p=>metE kvs p (ar (axA p.1) p.1)) []
theorem qjb {s:Sp} (hs:Sq s) (o0 o1 o3:Option PyData) {sk:List Sp} {k:Nat} (hk:atI (sk.map eS) (k:Nat)=some (eS s)):zO (tV (ev2 (ev2 (ev2 (ev2 (vr 0) (vr 2) ixD) (vr 4) ixD) (kd (.int 2)) modD) (kd (.int 1)) eqD)) (vr 4) [some (.list (sk.map eS)),o1,some (.int (k:Nat)),o3] [.int 0,.int 1,.int 2]=some (others (axA s)):=by
 obtain ⟨x,y,z⟩:=s
 rcases Qf hs with ⟨e,h1,h2,h3⟩ | ⟨e,h1,h2,h3⟩ | ⟨e,h1,h2,h3⟩<;>rw [e]<;>dsimp only at h1 h2 h3<;>simp only [eS] at hk
 ·simp_arith [hk,ix0,ix1,ix2,h1,h2,h3]
  rfl
 ·simp_arith [hk,ix0,ix1,ix2,h1,h2,h3]
  rfl
 ·simp_arith [hk,ix0,ix1,ix2,h1,h2,h3]
  rfl
theorem qiU {sk:List Sp} (hs:∀ s∈sk,Sq s) (hl:sk.length <= 60):zU [.list (sk.map eS)]=some (.dict (eM (metF sk.zipIdx))):=by
 obtain ⟨ρ',e,o2,o3,rfl,-,-⟩:=q9 (fun p:Sp×Nat=>PyData.int (p.2:Nat)) (g:=gNm 2) (u:=(sFor (evI (evC 2 (aC (ev2 (vr 0) (vr 2) ixD) (aC (qY 4 (evR (aC (kd (.int 3)) aN) QR) (tV (ev2 (ev2 (ev2 (ev2 (vr 0) (vr 2) ixD) (vr 4) ixD) (kd (.int 2)) modD) (kd (.int 1)) eqD)) (vr 4)) aN)) q8) seqD) (gNm 3) (seqO (sIf (tV (ev2 (vr 3) (vr 1) We)) (YW 1 (vr 3)) sN) (jZ 1 (vr 3) (vr 2)))))
  (fun done ρ=>∃ o2 o3:Option PyData,ρ=[some (.list (sk.map eS)),some (.dict (eM (metF done))),o2,o3]/\(metF done).length <= 4 * done.length/\∀ p∈metF done,p.2.length <= 4 * done.length) sk.zipIdx [some (.list (sk.map eS)),some (.dict []),none,none] ⟨none,none,rfl,Nat.zero_le _,fun p hp=>by cases hp⟩ (by
   rintro ⟨s,k⟩ hm done ρ hdl ⟨o2,o3,rfl,hlen,hlp⟩
   rw [List.length_zipIdx] at hdl
   obtain ⟨_,hkl,hks⟩:=List.mem_zipIdx hm
   have hkl:k < sk.length:=by omega
   have hks:s=sk[k]:=by simpa using hks
   have hsq:Sq s:=hs s (by rw [hks];exact List.getElem_mem hkl)
   have hat:atI (sk.map eS) ((k:Nat):Int)=some (eS s):=qcG (Int.natCast_nonneg _) (by rw [Int.toNat_natCast,List.getElem?_eq_getElem hkl,hks])
   have hax:=qjb hsq none (some (.dict (eM (metF done)))) o3 hat
   have hA:axA s=0\/axA s=1\/axA s=2:=by rcases Qf hsq with z | z | z<;>simp [z.1]
   have hnr:=(yX hA s).2
   have h4:(ar (axA s) s).length=4:=by rcases Qf hsq with z | z | z<;>rw [z.1]<;>rfl
   have hf:metF (done ++ [(s,k)])=metE (metF done) (s,k) (ar (axA s) s):=by unfold metF;rw [List.foldl_append];rfl
   generalize hkv:metF done=kvs at *
   obtain ⟨ρ1,e1,o3',rfl,hlen1,hlp1⟩:=q9 eS (g:=gNm 3) (u:=(seqO (sIf (tV (ev2 (vr 3) (vr 1) We)) (YW 1 (vr 3)) sN) (jZ 1 (vr 3) (vr 2))))
    (fun don ρ=>∃ o3:Option PyData,ρ=[some (.list (sk.map eS)),some (.dict (eM (metE kvs (s,k) don))),some (.int (k:Nat)),o3]/\(metE kvs (s,k) don).length <= kvs.length + don.length/\∀ p∈metE kvs (s,k) don,p.2.length <= 4 * done.length + don.length) (ar (axA s) s) [some (.list (sk.map eS)),some (.dict (eM kvs)),some (.int (k:Nat)),o3] ⟨o3,rfl,Nat.le_refl _,hlp⟩ (by
     rintro e he don ρ hd ⟨o3,rfl,hl2,hp2⟩
     have hst:=qgB (kvs:=metE kvs (s,k) don) (e:=e) (k:=k) (n:=4 * done.length + don.length) (by omega) hp2 (by omega) (some (.list (sk.map eS)))
     have hn:metE kvs (s,k) (don ++ [e])=addM (metE kvs (s,k) don) e k:=by unfold metE;rw [List.foldl_append];rfl
     refine ⟨_,hst,some (eS e),by rw [hn],?_,?_⟩
     ·have:=qdE (metE kvs (s,k) don) e k
      rw [hn,List.length_append,List.length_singleton]
      omega
     ·rw [hn,List.length_append,List.length_singleton,← Nat.add_assoc]
      exact qeV hp2)
   have hr:∀ ρ:Rho,(evR (aC (kd (.int 3)) aN) QR) ρ=some [.int 0,.int 1,.int 2]:=fun _=>rfl
   refine ⟨_,?_,some (.int (k:Nat)),o3',by rw [hf],?_,?_⟩
   ·simp_arith [hat,hr,hax,hnr,e1]
   ·rw [hf,List.length_append,List.length_singleton]
    omega
   ·rw [hf,List.length_append,List.length_singleton]
    intro p hp
    have:=hlp1 p hp
    omega)
 have hrng:((List.range (sk.map eS).length).map fun k:Nat=>PyData.int (k:Nat))=sk.zipIdx.map fun p:Sp×Nat=>PyData.int (p.2:Nat):=by
  have h1:sk.zipIdx.map (fun p:Sp×Nat=>PyData.int (p.2:Nat))=(sk.zipIdx.map (·.2)).map fun k:Nat=>PyData.int (k:Nat):=by rw [List.map_map];rfl
  rw [h1,List.zipIdx_map_snd,List.length_map,List.range_eq_range']
 have e5:(if (-1000:Int) <= (((sk.map eS).length:Nat):Int)/\(((sk.map eS).length:Nat):Int) <= 1000 then some (rngL 0 ((((sk.map eS).length:Nat):Int)).toNat) else none)=some (sk.zipIdx.map fun p:Sp×Nat=>PyData.int (p.2:Nat)):=by
  rw [if_pos (by rw [List.length_map];omega),Int.toNat_natCast,qgu,hrng]
 simp only [zU,j6]
 simp_arith [e5,e]
noncomputable def prsM (ps:List (Sp×Nat)):List (Sp×Nat):=ps.flatMap fun p=>(ar (axA p.1) p.1).map fun e=>(e,p.2)
theorem Wc (p:Sp×Nat):∀ (es:List Sp) (kvs:List Mt),metE kvs p es=(es.map fun e=>(e,p.2)).foldl (fun kvs q=>addM kvs q.1 q.2) kvs
 | [],_=>rfl
 | e :: es,kvs=>Wc p es (addM kvs e p.2)
theorem Wd (ps:List (Sp×Nat)):metF ps=(prsM ps).foldl (fun kvs q=>addM kvs q.1 q.2) []:=by
 have:∀ (ps:List (Sp×Nat)) (kvs:List Mt),ps.foldl (fun kvs p=>metE kvs p (ar (axA p.1) p.1)) kvs=(prsM ps).foldl (fun kvs q=>addM kvs q.1 q.2) kvs:=by
  intro ps
  induction ps with
  | nil=>exact fun _=>rfl
  | cons p ps ih =>
   intro kvs
   rw [List.foldl_cons,ih,Wc]
   unfold prsM
   rw [List.flatMap_cons,List.foldl_append]
 exact this ps []
theorem qaR (Q:List (Sp×Nat)):∀ kvs:List Mt,((Q.foldl (fun kvs q=>addM kvs q.1 q.2) kvs).map (·.1)=(Q.map (·.1)).foldl (fun ks s=>if s∈ks then ks else ks ++ [s]) (kvs.map (·.1)))/\∀ t,lstM (Q.foldl (fun kvs q=>addM kvs q.1 q.2) kvs) t=lstM kvs t ++ (Q.filter fun q=>decide (q.1=t)).map (·.2):=by
 induction Q with
 | nil=>exact fun kvs=>⟨rfl,fun t=>by simp⟩
 | cons q Q ih =>
  intro kvs
  obtain ⟨h1,h2⟩:=ih (addM kvs q.1 q.2)
  refine ⟨?_,fun t=>?_⟩
  ·rw [List.foldl_cons,List.map_cons,List.foldl_cons,h1,wI]
  ·rw [List.foldl_cons,h2,qeW,List.filter_cons,List.append_assoc]
   by_cases e:q.1=t
   ·rw [if_pos e,decide_eq_true e,if_pos rfl];rfl
   ·rw [if_neg e,decide_eq_false e,if_neg (by decide)];rfl
theorem Zu (sk:List Sp):(metF sk.zipIdx).map (·.1)=once (sk.flatMap fun s=>ar (axA s) s):=by
 rw [Wd,(qaR _ []).1]
 have:∀ (S:List Sp) (n:Nat),(prsM (S.zipIdx n)).map (·.1)=S.flatMap fun s=>ar (axA s) s:=by
  intro S
  induction S with
  | nil=>exact fun _=>rfl
  | cons s S ih =>
   intro n
   have h1:prsM ((s :: S).zipIdx n)=((ar (axA s) s).map fun e=>(e,n)) ++ prsM (S.zipIdx (n + 1)):=by unfold prsM;rw [List.zipIdx_cons,List.flatMap_cons]
   rw [h1,List.map_append,ih,List.flatMap_cons,List.map_map]
   refine congrArg (· ++ _) ((List.map_congr_left fun _ _=>rfl).trans (List.map_id _))
 rw [this]
 rfl
theorem YM (t:Sp):∀ (S:List Sp) (n:Nat),S.Nodup->(∀ s∈S,(ar (axA s) s).Nodup)->((prsM (S.zipIdx n)).filter fun q=>decide (q.1=t)).map (·.2)=(S.filter fun s=>decide (t∈ar (axA s) s)).map fun s=>n + S.idxOf s
 | [],_,_,_=>rfl
 | s :: S,n,hn,ha=>by
  obtain ⟨n1,n2⟩:=List.nodup_cons.mp hn
  have ih:=YM t S (n + 1) n2 fun x hx=>ha x (.tail _ hx)
  have h1:prsM ((s :: S).zipIdx n)=((ar (axA s) s).map fun e=>(e,n)) ++ prsM (S.zipIdx (n + 1)):=by unfold prsM;rw [List.zipIdx_cons,List.flatMap_cons]
  have one:∀ es:List Sp,es.Nodup->((es.map fun e=>(e,n)).filter fun q:Sp×Nat=>decide (q.1=t)).map (·.2)=if t∈es then [n] else []:=by
   intro es
   induction es with
   | nil=>exact fun _=>rfl
   | cons x es ih2 =>
    intro hx
    obtain ⟨x1,x2⟩:=List.nodup_cons.mp hx
    have:=ih2 x2
    rw [List.map_cons,List.filter_cons]
    by_cases e:x=t
    ·subst e
     rw [if_neg x1] at this
     rw [if_pos (decide_eq_true rfl),List.map_cons,this,if_pos (.head _)]
    ·rw [if_neg (by simpa using e),this]
     by_cases h2:t∈es
     ·rw [if_pos h2,if_pos (.tail _ h2)]
     ·rw [if_neg h2,if_neg fun z=>by rcases List.mem_cons.mp z with y | y;exact e y.symm;exact h2 y]
  have rest:(S.filter fun s=>decide (t∈ar (axA s) s)).map (fun x=>n + 1 + S.idxOf x)=(S.filter fun s=>decide (t∈ar (axA s) s)).map fun x=>n + (s :: S).idxOf x:=by
   refine List.map_congr_left fun x hx=>?_
   have hxS:=(List.mem_filter.mp hx).1
   have hne:(s == x)=false:=beq_eq_false_iff_ne.mpr fun z=>n1 (by rw [z];exact hxS)
   rw [List.idxOf_cons,hne]
   show n + 1 + S.idxOf x=n + (S.idxOf x + 1)
   omega
  rw [h1,List.filter_append,List.map_append,one _ (ha s (.head _)),ih,rest,List.filter_cons]
  by_cases h2:t∈ar (axA s) s
  ·rw [if_pos h2,if_pos (decide_eq_true h2),List.map_cons]
   have:(s :: S).idxOf s=0:=by simp
   rw [this]
   rfl
  ·rw [if_neg h2,if_neg (by simpa using h2)]
   rfl
theorem qbb {sk:List Sp} (hn:sk.Nodup) (hs:∀ s∈sk,Sq s) (t:Sp):lstM (metF sk.zipIdx) t=(sk.filter fun s=>decide (t∈ar (axA s) s)).map fun s=>sk.idxOf s:=by
 rw [Wd,(qaR _ []).2 t,YM t sk 0 hn fun s h=>yW (by rcases Qf (hs s h) with z | z | z<;>simp [z.1]) s]
 show [] ++ _=_
 rw [List.nil_append]
 exact List.map_congr_left fun x _=>Nat.zero_add _
theorem yD {sk:List Sp} (hs:∀ s∈sk,Sq s) (t:Sp):(sk.flatMap fun s=>ar (axA s) s).count t=(sk.filter fun s=>decide (t∈ar (axA s) s)).length:=by
 induction sk with
 | nil=>rfl
 | cons s sk ih =>
  have hn:=yW (B:=axA s) (by rcases Qf (hs s (.head _)) with z | z | z<;>simp [z.1]) s
  rw [List.flatMap_cons,List.count_append,ih fun x hx=>hs x (.tail _ hx),List.filter_cons]
  by_cases h:t∈ar (axA s) s
  ·have:(ar (axA s) s).count t=1:=by
    have h1:=List.nodup_iff_count.mp hn t
    have h2:=List.count_pos_iff.mpr h
    omega
   rw [this,if_pos (decide_eq_true h),List.length_cons]
   omega
  ·rw [List.count_eq_zero.mpr h,if_neg (by simpa using h)]
   omega
noncomputable def cb (m:Sp):Sp:=(m.1 / 2,m.2.1 / 2,m.2.2 / 2)
noncomputable def Od (m:Sp):Prop:=m.1 % 2=1/\m.2.1 % 2=1/\m.2.2 % 2=1
theorem WP {m:Sp} (h:Od m):mid (cb m)=m:=by
 obtain ⟨x,y,z⟩:=m
 obtain ⟨h1,h2,h3⟩:=h
 dsimp only at h1 h2 h3
 unfold mid cb
 exact Prod.ext (by dsimp only;omega) (Prod.ext (by dsimp only;omega) (by dsimp only;omega))
theorem qb5 {cs:List Sp} {m:Sp} (h:Od m):inM cs m=decide (cb m∈cs):=by
 unfold inM
 refine decide_eq_decide.mpr ⟨fun z=>?_,fun z=>List.mem_map.mpr ⟨_,z,WP h⟩⟩
 obtain ⟨c,h1,h2⟩:=List.mem_map.mp z
 have:c=cb m:=ZR (h2.trans (WP h).symm)
 rw [← this];exact h1
theorem qf0 {s:Sp} (h:Sq s):Od (lo (axA s) s)/\Od (hi (axA s) s):=by
 rcases Qf h with ⟨e,h1,h2,h3⟩ | ⟨e,h1,h2,h3⟩ | ⟨e,h1,h2,h3⟩<;>rw [e]
 ·exact ⟨⟨oddm h1,h2,h3⟩,⟨oddp h1,h2,h3⟩⟩
 ·exact ⟨⟨h1,oddm h2,h3⟩,⟨h1,oddp h2,h3⟩⟩
 ·exact ⟨⟨h1,h2,oddm h3⟩,⟨h1,h2,oddp h3⟩⟩
theorem qg9 {s:Sp} (h:Sq s):Qg [eS s]=some (.tuple [eS (cb (lo (axA s) s)),eS (cb (hi (axA s) s))]):=by
 have ha:=qe1 (A:=axA s) (s:=s) (by rcases Qf h with ⟨a,b⟩ | ⟨a,b⟩ | ⟨a,b⟩;exact .inl ⟨a,b⟩;exact .inr (.inl ⟨a,b⟩);exact .inr (.inr ⟨a,b⟩))
 have n1:(((1:Nat):Nat):Int)=1:=rfl
 have n2:(((2:Nat):Nat):Int)=2:=rfl
 obtain ⟨x,y,z⟩:=s
 rcases Qf h with ⟨e,h1,h2,h3⟩ | ⟨e,h1,h2,h3⟩ | ⟨e,h1,h2,h3⟩<;>rw [e] at ha ⊢<;>dsimp only at h1 h2 h3
 ·have ha:zL [eS (x,y,z)]=some (.int 0):=ha
  have q:(x + 1) / 2=x / 2:=by omega
  simp only [Qg,Zf,cb,lo,hi,q]
  simp_arith [ha,qfq,Qz,Zy,ixe0,ixe1,ixe2,Int.natCast_zero,n1,n2]
  rfl
 ·have ha:zL [eS (x,y,z)]=some (.int 1):=ha
  have q:(y + 1) / 2=y / 2:=by omega
  simp only [Qg,Zf,cb,lo,hi,q]
  simp_arith [ha,qfq,Qz,Zy,ixe0,ixe1,ixe2,Int.natCast_zero,n1,n2]
  rfl
 ·have ha:zL [eS (x,y,z)]=some (.int 2):=ha
  have q:(z + 1) / 2=z / 2:=by omega
  simp only [Qg,Zf,cb,lo,hi,q]
  simp_arith [ha,qfq,Qz,Zy,ixe0,ixe1,ixe2,Int.natCast_zero,n1,n2]
  rfl
theorem jE (a:Sp):Ql [eS a]=some (eS (-a.1,-a.2.1,-a.2.2)):=by
 simp only [Ql,JZ]
 simp_arith [ixe0,ixe1,ixe2]
 rfl
theorem qbU (a b:Sp):ad a (-b.1,-b.2.1,-b.2.2)=sb a b:=by
 unfold ad sb
 exact Prod.ext (by dsimp only;omega) (Prod.ext (by dsimp only;omega) (by dsimp only;omega))
theorem qd6 {cs:List Sp} (hb:∀ c∈cs,BdS 200 c) {s:Sp} (hs:Sq s) (hk:skB (inM cs) s=true):zx [.list (cs.map eS),eS s]=some (eS (sb s (if inM cs (lo (axA s) s)=true then lo (axA s) s else hi (axA s) s))):=by
 have hc:=qg9 hs
 obtain ⟨o1,o2⟩:=qf0 hs
 have i1:=qfz cs (cb (lo (axA s) s))
 have m1:=qb5 (cs:=cs) o1
 have m2:=qb5 (cs:=cs) o2
 unfold skB at hk
 by_cases h:cb (lo (axA s) s)∈cs
 ·rw [decide_eq_true h] at i1 m1
  have hm:=qfV (hb _ h)
  rw [WP o1] at hm
  have hn:=jE (lo (axA s) s)
  have ha:=Jc s (-(lo (axA s) s).1,-(lo (axA s) s).2.1,-(lo (axA s) s).2.2)
  rw [qbU] at ha
  rw [if_pos m1]
  simp only [zx,Qx]
  simp_arith [hc,i1,hm,hn,ha]
 ·rw [decide_eq_false h] at i1 m1
  have h2:cb (hi (axA s) s)∈cs:=by
   rw [m1,m2] at hk
   by_cases z:cb (hi (axA s) s)∈cs
   ·exact z
   ·rw [decide_eq_false z] at hk;cases hk
  have hm:=qfV (hb _ h2)
  rw [WP o2] at hm
  have hn:=jE (hi (axA s) s)
  have ha:=Jc s (-(hi (axA s) s).1,-(hi (axA s) s).2.1,-(hi (axA s) s).2.2)
  rw [qbU] at ha
  rw [if_neg (by rw [m1];decide)]
  simp only [zx,Qx]
  simp_arith [hc,i1,hm,hn,ha]
theorem qje {cs:List Sp} (hb:∀ c∈cs,BdS 200 c) {s0 e s1:Sp} (hs:Sq s0) (hk:skB (inM cs) s0=true):Qk [.list (cs.map eS),eS s0,eS e,eS s1]=some (.int (QH (inM cs) s0 e s1)):=by
 have ho:=qd6 hb hs hk
 have n1:=jE e
 have n2:=jE s0
 have a1:=Jc s1 (-e.1,-e.2.1,-e.2.2)
 have a2:=Jc e (-s0.1,-s0.2.1,-s0.2.2)
 rw [qbU] at a1 a2
 have q1:=qcW (sb s1 e) (sb e s0)
 have q2:=qcW (sb s1 e) (sb s0 (if inM cs (lo (axA s0) s0)=true then lo (axA s0) s0 else hi (axA s0) s0))
 simp only [Qk,ju]
 unfold QH
 by_cases h1:sb s1 e=sb e s0
 ·rw [decide_eq_true h1] at q1
  rw [if_pos h1]
  simp_arith [n1,n2,a1,a2,q1]
 ·rw [decide_eq_false h1] at q1
  rw [if_neg h1]
  by_cases h2:sb s1 e=sb s0 (if inM cs (lo (axA s0) s0)=true then lo (axA s0) s0 else hi (axA s0) s0)
  ·rw [decide_eq_true h2] at q2
   rw [if_pos h2]
   simp_arith [n1,n2,a1,a2,q1,ho,q2]
  ·rw [decide_eq_false h2] at q2
   rw [if_neg h2]
   simp_arith [n1,n2,a1,a2,q1,ho,q2]
noncomputable def mm (B:Nat) (e:Sp) (o t:Int):Sp:=match B with
 | 0=>(e.1,e.2.1 + o,e.2.2 + t)
 | 1=>(e.1 + o,e.2.1,e.2.2 + t)
 | _=>(e.1 + o,e.2.1 + t,e.2.2)
theorem stepR {cs:List Sp} {B:Nat} {e:Sp} (hB:EdB' B e) {o t:Int} (ho:o=-1\/o=1) (ht:t=-1\/t=1) (n:Int) (o6:Option PyData) :
  ∃ o6',(seqO (qM 6 (evA (aC (vr 0) aN) zP)) (seqO (sPut 6 (ev2 (vr 2) (kd (.int 0)) ixD) (qF (ev2 (ev2 (vr 6) (ev2 (vr 2) (kd (.int 0)) ixD) ixD) (vr 4) qC))) (seqO (sPut 6 (ev2 (vr 2) (kd (.int 1)) ixD) (qF (ev2 (ev2 (vr 6) (ev2 (vr 2) (kd (.int 1)) ixD) ixD) (vr 5) qC))) (sIf (tV (ev2 (evA (aC (qY 7 (evI (vr 6) seqD) tT (ev2 (ev2 (vr 7) (kd (.int 1)) subD) (kd (.int 2)) Qe)) aN) qL) (vr 1) inD)) (sSet 3 (ev2 (vr 3) (kd (.int 1)) qC)) sN)))) [some (eS e),some (.list (cs.map eS)),some (.list (others B)),some (.int n),some (.int o),some (.int t),o6]=some (.nx [some (eS e),some (.list (cs.map eS)),some (.list (others B)),some (.int (n + if inM cs (mm B e o t)=true then 1 else 0)),some (.int o),some (.int t),o6']):=by
 have hod:Od (mm B e o t):=by
  rcases hB with ⟨rfl,h1,h2,h3⟩ | ⟨rfl,h1,h2,h3⟩ | ⟨rfl,h1,h2,h3⟩
  ·exact ⟨h1,od1 h2 ho,od1 h3 ht⟩
  ·exact ⟨od1 h1 ho,h2,od1 h3 ht⟩
  ·exact ⟨od1 h1 ho,od1 h2 ht,h3⟩
 rw [qb5 hod]
 have ii:=qfz cs (cb (mm B e o t))
 obtain ⟨x,y,z⟩:=e
 by_cases h:cb (mm B (x,y,z) o t)∈cs
 ·rw [decide_eq_true h] at ii ⊢
  rw [if_pos rfl]
  rcases hB with ⟨rfl,h1,h2,h3⟩ | ⟨rfl,h1,h2,h3⟩ | ⟨rfl,h1,h2,h3⟩<;>dsimp only at h1 h2 h3
  ·have q1:(x - 1) / 2=x / 2:=hlf h1
   have q2:(y + o - 1) / 2=(y + o) / 2:=hlf (od1 h2 ho)
   have q3:(z + t - 1) / 2=(z + t) / 2:=hlf (od1 h3 ht)
   simp only [eS,others,mm,cb] at ii ⊢
   exact ⟨_,by simp_arith [ix0,ix1,ix2,zA,q1,q2,q3,ii];rfl⟩
  ·have q1:(x + o - 1) / 2=(x + o) / 2:=hlf (od1 h1 ho)
   have q2:(y - 1) / 2=y / 2:=hlf h2
   have q3:(z + t - 1) / 2=(z + t) / 2:=hlf (od1 h3 ht)
   simp only [eS,others,mm,cb] at ii ⊢
   exact ⟨_,by simp_arith [ix0,ix1,ix2,zA,q1,q2,q3,ii];rfl⟩
  ·have q1:(x + o - 1) / 2=(x + o) / 2:=hlf (od1 h1 ho)
   have q2:(y + t - 1) / 2=(y + t) / 2:=hlf (od1 h2 ht)
   have q3:(z - 1) / 2=z / 2:=hlf h3
   simp only [eS,others,mm,cb] at ii ⊢
   exact ⟨_,by simp_arith [ix0,ix1,ix2,zA,q1,q2,q3,ii];rfl⟩
 ·rw [decide_eq_false h] at ii ⊢
  rw [if_neg (by decide),Int.add_zero]
  rcases hB with ⟨rfl,h1,h2,h3⟩ | ⟨rfl,h1,h2,h3⟩ | ⟨rfl,h1,h2,h3⟩<;>dsimp only at h1 h2 h3
  ·have q1:(x - 1) / 2=x / 2:=hlf h1
   have q2:(y + o - 1) / 2=(y + o) / 2:=hlf (od1 h2 ho)
   have q3:(z + t - 1) / 2=(z + t) / 2:=hlf (od1 h3 ht)
   simp only [eS,others,mm,cb] at ii ⊢
   exact ⟨_,by simp_arith [ix0,ix1,ix2,zA,q1,q2,q3,ii];rfl⟩
  ·have q1:(x + o - 1) / 2=(x + o) / 2:=hlf (od1 h1 ho)
   have q2:(y - 1) / 2=y / 2:=hlf h2
   have q3:(z + t - 1) / 2=(z + t) / 2:=hlf (od1 h3 ht)
   simp only [eS,others,mm,cb] at ii ⊢
   exact ⟨_,by simp_arith [ix0,ix1,ix2,zA,q1,q2,q3,ii];rfl⟩
  ·have q1:(x + o - 1) / 2=(x + o) / 2:=hlf (od1 h1 ho)
   have q2:(y + t - 1) / 2=(y + t) / 2:=hlf (od1 h2 ht)
   have q3:(z - 1) / 2=z / 2:=hlf h3
   simp only [eS,others,mm,cb] at ii ⊢
   exact ⟨_,by simp_arith [ix0,ix1,ix2,zA,q1,q2,q3,ii];rfl⟩
theorem qie {cs:List Sp} {B:Nat} {e:Sp} (hB:EdB' B e):zY [eS e,.list (cs.map eS)]=some (.int ((md4 B e).countP (inM cs):Nat)):=by
 obtain ⟨v,hv⟩:∃ v:Int->Int->Int,v=fun o t=>if inM cs (mm B e o t)=true then 1 else 0:=⟨_,rfl⟩
 obtain ⟨ρ',el,o4,o5,o6,rfl⟩:=q9 PyData.int (g:=gNm 4) (u:=(sFor (evI (evA (aC (ev1 (kd (.int 1)) negD) (aC (kd (.int 1)) aN)) tupD) seqD) (gNm 5) (seqO (qM 6 (evA (aC (vr 0) aN) zP)) (seqO (sPut 6 (ev2 (vr 2) (kd (.int 0)) ixD) (qF (ev2 (ev2 (vr 6) (ev2 (vr 2) (kd (.int 0)) ixD) ixD) (vr 4) qC))) (seqO (sPut 6 (ev2 (vr 2) (kd (.int 1)) ixD) (qF (ev2 (ev2 (vr 6) (ev2 (vr 2) (kd (.int 1)) ixD) ixD) (vr 5) qC))) (sIf (tV (ev2 (evA (aC (qY 7 (evI (vr 6) seqD) tT (ev2 (ev2 (vr 7) (kd (.int 1)) subD) (kd (.int 2)) Qe)) aN) qL) (vr 1) inD)) (sSet 3 (ev2 (vr 3) (kd (.int 1)) qC)) sN))))))
  (fun done ρ=>∃ o4 o5 o6:Option PyData,ρ=[some (eS e),some (.list (cs.map eS)),some (.list (others B)),some (.int (done.map fun o=>v o (-1) + v o 1).sum),o4,o5,o6]) [-1,1] [some (eS e),some (.list (cs.map eS)),some (.list (others B)),some (.int 0),none,none,none] ⟨none,none,none,rfl⟩ (by
   rintro o ho done ρ hdl ⟨o4,o5,o6,rfl⟩
   have ho:o=-1\/o=1:=by simpa using ho
   generalize hn:(done.map fun o=>v o (-1) + v o 1).sum=n
   obtain ⟨ρ1,e1,o5',o6',rfl⟩:=q9 PyData.int (g:=gNm 5) (u:=(seqO (qM 6 (evA (aC (vr 0) aN) zP)) (seqO (sPut 6 (ev2 (vr 2) (kd (.int 0)) ixD) (qF (ev2 (ev2 (vr 6) (ev2 (vr 2) (kd (.int 0)) ixD) ixD) (vr 4) qC))) (seqO (sPut 6 (ev2 (vr 2) (kd (.int 1)) ixD) (qF (ev2 (ev2 (vr 6) (ev2 (vr 2) (kd (.int 1)) ixD) ixD) (vr 5) qC))) (sIf (tV (ev2 (evA (aC (qY 7 (evI (vr 6) seqD) tT (ev2 (ev2 (vr 7) (kd (.int 1)) subD) (kd (.int 2)) Qe)) aN) qL) (vr 1) inD)) (sSet 3 (ev2 (vr 3) (kd (.int 1)) qC)) sN)))))
    (fun dn ρ=>∃ o5 o6:Option PyData,ρ=[some (eS e),some (.list (cs.map eS)),some (.list (others B)),some (.int (n + (dn.map (v o)).sum)),some (.int o),o5,o6]) [-1,1] [some (eS e),some (.list (cs.map eS)),some (.list (others B)),some (.int n),some (.int o),o5,o6] ⟨o5,o6,by simp⟩ (by
     rintro t ht dn ρ hd ⟨o5,o6,rfl⟩
     have ht:t=-1\/t=1:=by simpa using ht
     obtain ⟨o6',es⟩:=stepR (cs:=cs) hB ho ht (n + (dn.map (v o)).sum) o6
     refine ⟨_,es,some (.int t),o6',?_⟩
     rw [List.map_append,List.sum_append,← Int.add_assoc]
     have:([t].map (v o)).sum=if inM cs (mm B e o t)=true then 1 else 0:=by rw [hv];simp
     rw [this])
   have e1:forD (gNm 5) (seqO (qM 6 (evA (aC (vr 0) aN) zP)) (seqO (sPut 6 (ev2 (vr 2) (kd (.int 0)) ixD) (qF (ev2 (ev2 (vr 6) (ev2 (vr 2) (kd (.int 0)) ixD) ixD) (vr 4) qC))) (seqO (sPut 6 (ev2 (vr 2) (kd (.int 1)) ixD) (qF (ev2 (ev2 (vr 6) (ev2 (vr 2) (kd (.int 1)) ixD) ixD) (vr 5) qC))) (sIf (tV (ev2 (evA (aC (qY 7 (evI (vr 6) seqD) tT (ev2 (ev2 (vr 7) (kd (.int 1)) subD) (kd (.int 2)) Qe)) aN) qL) (vr 1) inD)) (sSet 3 (ev2 (vr 3) (kd (.int 1)) qC)) sN)))) [.int (-1),.int 1] [some (eS e),some (.list (cs.map eS)),some (.list (others B)),some (.int n),some (.int o),o5,o6]=some (.nx [some (eS e),some (.list (cs.map eS)),some (.list (others B)),some (.int (n + ([-1,1].map (v o)).sum)),some (.int o),o5',o6']):=e1
   refine ⟨[some (eS e),some (.list (cs.map eS)),some (.list (others B)),some (.int (n + ([-1,1].map (v o)).sum)),some (.int o),o5',o6'],?_,some (.int o),o5',o6',?_⟩
   ·simp_arith [e1]
   ·rw [List.map_append,List.sum_append,hn]
    have:([o].map fun o=>v o (-1) + v o 1).sum=([-1,1].map (v o)).sum:=by simp
    rw [this])
 have hcount:(([-1,1]:List Int).map fun o=>v o (-1) + v o 1).sum=(((md4 B e).countP (inM cs):Nat):Int):=by
  rw [hv]
  rcases hB with ⟨rfl,_⟩ | ⟨rfl,_⟩ | ⟨rfl,_⟩<;>simp only [List.map_cons,List.map_nil,List.sum_cons,List.sum_nil,md4,List.countP_cons,List.countP_nil,mm,Int.sub_eq_add_neg]<;>(split<;>split<;>split<;>split<;>simp_all)
 have el:forD (gNm 4) (sFor (evI (evA (aC (ev1 (kd (.int 1)) negD) (aC (kd (.int 1)) aN)) tupD) seqD) (gNm 5) (seqO (qM 6 (evA (aC (vr 0) aN) zP)) (seqO (sPut 6 (ev2 (vr 2) (kd (.int 0)) ixD) (qF (ev2 (ev2 (vr 6) (ev2 (vr 2) (kd (.int 0)) ixD) ixD) (vr 4) qC))) (seqO (sPut 6 (ev2 (vr 2) (kd (.int 1)) ixD) (qF (ev2 (ev2 (vr 6) (ev2 (vr 2) (kd (.int 1)) ixD) ixD) (vr 5) qC))) (sIf (tV (ev2 (evA (aC (qY 7 (evI (vr 6) seqD) tT (ev2 (ev2 (vr 7) (kd (.int 1)) subD) (kd (.int 2)) Qe)) aN) qL) (vr 1) inD)) (sSet 3 (ev2 (vr 3) (kd (.int 1)) qC)) sN))))) [.int (-1),.int 1] [some (eS e),some (.list (cs.map eS)),some (.list (others B)),some (.int 0),none,none,none]=some (.nx [some (eS e),some (.list (cs.map eS)),some (.list (others B)),some (.int (([-1,1]:List Int).map fun o=>v o (-1) + v o 1).sum),o4,o5,o6]):=el
 rw [hcount] at el
 have hr:∀ ρ:Rho,(evR (aC (kd (.int 3)) aN) QR) ρ=some [.int 0,.int 1,.int 2]:=fun _=>rfl
 have hax:∀ o2 o3 o4 o5 o6:Option PyData,zO (tV (ev2 (ev2 (ev2 (vr 0) (vr 7) ixD) (kd (.int 2)) modD) (kd (.int 0)) eqD)) (vr 7) [some (eS e),some (.list (cs.map eS)),o2,o3,o4,o5,o6] [.int 0,.int 1,.int 2]=some (others B):=fun o2 o3 o4 o5 o6=>by
  obtain ⟨x,y,z⟩:=e
  rcases hB with ⟨rfl,h1,h2,h3⟩ | ⟨rfl,h1,h2,h3⟩ | ⟨rfl,h1,h2,h3⟩<;>dsimp only at h1 h2 h3<;>simp only [eS]
  ·simp_arith [ix0,ix1,ix2,h1,h2,h3];rfl
  ·simp_arith [ix0,ix1,ix2,h1,h2,h3];rfl
  ·simp_arith [ix0,ix1,ix2,h1,h2,h3];rfl
 simp only [zY,Z0]
 simp_arith [hr,hax,el]
noncomputable def clS (b:Sp) (n:Nat) (c:Sp):Prop:=(c.1 - b.1).natAbs <= n/\(c.2.1 - b.2.1).natAbs <= n/\(c.2.2 - b.2.2).natAbs <= n
inductive GrC (b:Sp):List Sp->Prop
 | one:GrC b [b]
 | add {cs:List Sp} {c:Sp} {a:Nat} {s:Int}:GrC b cs->c∈cs->(a=0\/a=1\/a=2)->(s=-1\/s=1)->oth a s c∉cs->GrC b (cs ++ [oth a s c])
theorem GrC.nodup {b:Sp} {cs:List Sp} (h:GrC b cs):cs.Nodup:=by
 induction h with
 | one=>simp
 | add _ _ _ _ hn ih =>
  rw [List.nodup_append]
  exact ⟨ih,by simp,fun a ha y hy z=>by subst z;rw [List.mem_singleton.mp hy] at ha;exact hn ha⟩
theorem nr0 (a:Int):(a - a).natAbs <= 1:=by omega
theorem nr1 {a b s:Int} {n:Nat} (h:(a - b).natAbs <= n) (hs:s=-1\/s=1):(a + s - b).natAbs <= n + 1:=by omega
theorem clS.up {b c:Sp} {n:Nat} (h:clS b n c):clS b (n + 1) c:=⟨Nat.le_succ_of_le h.1,Nat.le_succ_of_le h.2.1,Nat.le_succ_of_le h.2.2⟩
theorem GrC.near {b:Sp} {cs:List Sp} (h:GrC b cs):∀ c∈cs,clS b cs.length c:=by
 induction h with
 | one=>intro c hc;rw [List.mem_singleton.mp hc];exact ⟨nr0 _,nr0 _,nr0 _⟩
 | add _ hc ha hs _ ih =>
  intro d hd
  rw [List.length_append,List.length_singleton]
  rcases List.mem_append.mp hd with q | q
  ·exact (ih d q).up
  ·rw [List.mem_singleton.mp q]
   have k:=ih _ hc
   rcases ha with rfl | rfl | rfl
   ·exact ⟨nr1 k.1 hs,k.up.2.1,k.up.2.2⟩
   ·exact ⟨k.up.1,nr1 k.2.1 hs,k.up.2.2⟩
   ·exact ⟨k.up.1,k.up.2.1,nr1 k.2.2 hs⟩
theorem GrC.pos {b:Sp} {cs:List Sp} (h:GrC b cs):cs≠[]:=by
 cases h with
 | one=>simp
 | add _ _ _ _ _=>simp
noncomputable def frN (cs:List Sp) (c:Sp):Nat:=(lsq cs c).length
theorem zK {cs cs':List Sp} (h:∀ x∈cs,x∈cs') (c:Sp) (a:Nat) (b:Int):(lsb cs' c a b).length <= (lsb cs c a b).length:=by
 unfold lsb
 by_cases h1:oth a b c∈cs
 ·rw [if_pos h1,if_pos (h _ h1)];exact Nat.le_refl _
 ·rw [if_neg h1];split<;>simp
theorem Ys (cs:List Sp) (c:Sp):frN cs c=(lsb cs c 0 (-1)).length + (lsb cs c 0 1).length + (lsb cs c 1 (-1)).length + (lsb cs c 1 1).length + (lsb cs c 2 (-1)).length + (lsb cs c 2 1).length:=by
 unfold frN lsq lsa
 simp only [List.flatMap_cons,List.flatMap_nil,List.append_nil,List.length_append]
 omega
theorem Yt {cs cs':List Sp} (h:∀ x∈cs,x∈cs') (c:Sp):frN cs' c <= frN cs c:=by
 rw [Ys,Ys]
 have h1:=zK h c 0 (-1)
 have h2:=zK h c 0 1
 have h3:=zK h c 1 (-1)
 have h4:=zK h c 1 1
 have h5:=zK h c 2 (-1)
 have h6:=zK h c 2 1
 omega
theorem ad1 {x x' y y':Nat} (h:x' + 1 <= x) (g:y' <= y):x' + y' + 1 <= x + y:=by omega
theorem ad2 {x x' y y':Nat} (h:x' <= x) (g:y' + 1 <= y):x' + y' + 1 <= x + y:=by omega
theorem Zv {x x':Nat} (h:x=1) (g:x'=0):x' + 1 <= x:=by omega
theorem qaT {cs cs':List Sp} (h:∀ x∈cs,x∈cs') {c:Sp} {a:Nat} {s:Int} (ha:a=0\/a=1\/a=2) (hs:s=-1\/s=1) (h1:oth a s c∉cs) (h2:oth a s c∈cs'):frN cs' c + 1 <= frN cs c:=by
 have e1:(lsb cs c a s).length=1:=by unfold lsb;rw [if_neg h1];rfl
 have e2:(lsb cs' c a s).length=0:=by unfold lsb;rw [if_pos h2];rfl
 rw [Ys,Ys]
 have m1:=zK h c 0 (-1)
 have m2:=zK h c 0 1
 have m3:=zK h c 1 (-1)
 have m4:=zK h c 1 1
 have m5:=zK h c 2 (-1)
 have m6:=zK h c 2 1
 rcases ha with rfl | rfl | rfl<;>rcases hs with rfl | rfl
 ·exact ad1 (ad1 (ad1 (ad1 (ad1 (Zv e1 e2) m2) m3) m4) m5) m6
 ·exact ad1 (ad1 (ad1 (ad1 (ad2 m1 (Zv e1 e2)) m3) m4) m5) m6
 ·exact ad1 (ad1 (ad1 (ad2 (Nat.add_le_add m1 m2) (Zv e1 e2)) m4) m5) m6
 ·exact ad1 (ad1 (ad2 (Nat.add_le_add (Nat.add_le_add m1 m2) m3) (Zv e1 e2)) m5) m6
 ·exact ad1 (ad2 (Nat.add_le_add (Nat.add_le_add (Nat.add_le_add m1 m2) m3) m4) (Zv e1 e2)) m6
 ·exact ad2 (Nat.add_le_add (Nat.add_le_add (Nat.add_le_add (Nat.add_le_add m1 m2) m3) m4) m5) (Zv e1 e2)
theorem qc0 (c:Sp):frN [] c=6:=by
 rw [Ys]
 simp [lsb]
theorem qf2 {a:Nat} {s:Int} (ha:a=0\/a=1\/a=2) (c:Sp):oth a (-s) (oth a s c)=c:=by
 obtain ⟨x,y,z⟩:=c
 rcases ha with rfl | rfl | rfl<;>simp only [oth,Prod.mk.injEq,and_true,true_and]<;>omega
noncomputable def frS (cs ds:List Sp):Nat:=(ds.flatMap (lsq cs)).length
theorem Zr (cs:List Sp) (d:Sp) (ds:List Sp):frS cs (d :: ds)=frN cs d + frS cs ds:=by
 unfold frS frN
 rw [List.flatMap_cons,List.length_append]
theorem qaV {cs cs':List Sp} (h:∀ x∈cs,x∈cs'):∀ ds:List Sp,frS cs' ds <= frS cs ds
 | []=>Nat.le_refl _
 | d :: ds=>by
  rw [Zr,Zr]
  have:=Yt h d
  have:=qaV h ds
  omega
theorem qaU {cs cs':List Sp} (h:∀ x∈cs,x∈cs') {c:Sp} {a:Nat} {s:Int} (ha:a=0\/a=1\/a=2) (hs:s=-1\/s=1) (h1:oth a s c∉cs) (h2:oth a s c∈cs'):∀ ds:List Sp,c∈ds->frS cs' ds + 1 <= frS cs ds
 | [],hc=>by cases hc
 | d :: ds,hc=>by
  rw [Zr,Zr]
  rcases List.mem_cons.mp hc with rfl | q
  ·have:=qaT h ha hs h1 h2
   have:=qaV h ds
   omega
  ·have:=Yt h d
   have:=qaU h ha hs h1 h2 ds q
   omega
theorem qhq (cs ds es:List Sp):frS cs (ds ++ es)=frS cs ds + frS cs es:=by
 unfold frS
 rw [List.flatMap_append,List.length_append]
theorem GrC.free {b:Sp} {cs:List Sp} (h:GrC b cs):frS cs cs <= 4 * cs.length + 2:=by
 induction h with
 | one =>
  have h1:=Yt (cs:=[]) (cs':=[b]) (fun x hx=>by cases hx) b
  have h2:=qc0 b
  have h3:frS [b] [b]=frN [b] b + 0:=Zr [b] b []
  rw [List.length_singleton]
  omega
 | @add cs c a s _ hc ha hs hn ih =>
  have k1:=qaU (cs:=cs) (cs':=cs ++ [oth a s c]) (fun x hx=>List.mem_append_left _ hx) ha hs hn (List.mem_append_right _ List.mem_cons_self) cs hc
  have k2:=qaT (cs:=[]) (cs':=cs ++ [oth a s c]) (fun x hx=>by cases hx) (c:=oth a s c) (a:=a) (s:=-s) ha (by omega) (by simp) (by rw [qf2 ha];exact List.mem_append_left _ hc)
  have k3:=qc0 (oth a s c)
  have k4:frS (cs ++ [oth a s c]) [oth a s c]=frN (cs ++ [oth a s c]) (oth a s c) + 0:=Zr _ _ []
  rw [qhq,List.length_append,List.length_singleton]
  omega
theorem qcX:∀ {cs:List Sp},cs≠[]->∃ c∈cs,∀ d∈cs,d.1 <= c.1
 | [],h=>absurd rfl h
 | [c],_=>⟨c,List.mem_cons_self,fun d hd=>by rw [List.mem_singleton.mp hd];exact Int.le_refl _⟩
 | c :: e :: cs,_=>by
  obtain ⟨m,hm,h⟩:=qcX (cs:=e :: cs) (by simp)
  by_cases q:c.1 <= m.1
  ·exact ⟨m,List.mem_cons_of_mem _ hm,fun d hd=>by rcases List.mem_cons.mp hd with rfl | z;exact q;exact h d z⟩
  ·exact ⟨c,List.mem_cons_self,fun d hd=>by rcases List.mem_cons.mp hd with rfl | z;exact Int.le_refl _;have:=h d z;omega⟩
theorem qdQ {cs:List Sp} (h:cs≠[]):∃ s,s∈cs.flatMap (lsq cs):=by
 obtain ⟨c,hc,hf⟩:=qcX h
 refine ⟨oth 0 1 (mid c),List.mem_flatMap.mpr ⟨c,hc,jD.mpr ⟨0,1,.inl rfl,.inr rfl,fun z=>?_,rfl⟩⟩⟩
 have:=hf _ z
 simp only [oth] at this
 omega
theorem qfB {cs gs:List Sp} (h:cs.Perm gs):inM cs=inM gs:=by
 funext m
 unfold inM
 rw [Bool.eq_iff_iff,decide_eq_true_eq,decide_eq_true_eq]
 exact (h.map mid).mem_iff
theorem twice_len:∀ (ks xs:List Sp),ks.Nodup->(∀ t∈ks,2 <= xs.count t)->2 * ks.length <= xs.length
 | [],_,_,_=>by simp
 | t :: ks,xs,hn,h=>by
  obtain ⟨h1,h2⟩:=List.nodup_cons.mp hn
  have ih:=twice_len ks (xs.filter fun x=>!decide (x=t)) h2 fun u hu=>by
   rw [List.count_filter (by
    have:u≠t:=fun z=>h1 (z ▸ hu)
    simp [this])]
   exact h u (List.mem_cons_of_mem _ hu)
  have hl:∀ ys:List Sp,ys.length=ys.count t + (ys.filter fun x=>!decide (x=t)).length:=by
   intro ys
   induction ys with
   | nil=>rfl
   | cons y ys ih =>
    rw [List.count_cons,List.filter_cons,List.length_cons,ih]
    by_cases hy:y=t
    ·subst hy;simp;omega
    ·simp [hy];omega
  have:=hl xs
  have:=h t List.mem_cons_self
  rw [List.length_cons]
  omega
theorem qfo {s e:Sp} (hs:Sq s) (he:e∈ar (axA s) s):∃ B,EdB' B e:=by
 rcases Qf hs with ⟨h0,h1,h2,h3⟩ | ⟨h0,h1,h2,h3⟩ | ⟨h0,h1,h2,h3⟩<;>rw [h0] at he
 ·obtain ⟨p,⟨q,r⟩ | ⟨q,r⟩⟩:=ZM.mp he
  ·exact ⟨2,.inr (.inr ⟨rfl,by rw [p];exact h1,Z7 r h2,by rw [q];exact h3⟩)⟩
  ·exact ⟨1,.inr (.inl ⟨rfl,by rw [p];exact h1,by rw [q];exact h2,Z7 r h3⟩)⟩
 ·obtain ⟨p,⟨q,r⟩ | ⟨q,r⟩⟩:=ZP.mp he
  ·exact ⟨2,.inr (.inr ⟨rfl,Z7 r h1,by rw [p];exact h2,by rw [q];exact h3⟩)⟩
  ·exact ⟨0,.inl ⟨rfl,by rw [q];exact h1,by rw [p];exact h2,Z7 r h3⟩⟩
 ·obtain ⟨p,⟨q,r⟩ | ⟨q,r⟩⟩:=ZQ.mp he
  ·exact ⟨1,.inr (.inl ⟨rfl,Z7 r h1,by rw [q];exact h2,by rw [p];exact h3⟩)⟩
  ·exact ⟨0,.inl ⟨rfl,by rw [q];exact h1,Z7 r h2,by rw [p];exact h3⟩⟩
theorem qfw (I:Sp->Bool) {B:Nat} {e:Sp} (hB:EdB' B e) (h:(ar B e).filter (skB I)=ar B e):∃ m n,m≠n/\I m=true/\I n=true:=by
 have hall:=List.filter_eq_self.mp h
 obtain ⟨x,y,z⟩:=e
 rcases hB with ⟨rfl,h1,h2,h3⟩ | ⟨rfl,h1,h2,h3⟩ | ⟨rfl,h1,h2,h3⟩<;>dsimp only at h1 h2 h3
 ·have x1:axA (x,y - 1,z)=2:=by unfold axA;dsimp only;rw [if_neg (by omega),if_neg (by omega)]
  have x2:axA (x,y,z - 1)=1:=by unfold axA;dsimp only;rw [if_neg (by omega),if_pos (by omega)]
  have x4:axA (x,y + 1,z)=2:=by unfold axA;dsimp only;rw [if_neg (by omega),if_neg (by omega)]
  have k1:=hall (x,y - 1,z) (by simp [ar])
  have k2:=hall (x,y,z - 1) (by simp [ar])
  have k4:=hall (x,y + 1,z) (by simp [ar])
  simp only [skB,x1,x2,x4,lo,hi] at k1 k2 k4
  cases ha:I (x,y - 1,z - 1) with
  | true =>
   refine ⟨(x,y - 1,z - 1),(x,y + 1,z + 1),by simp;omega,ha,?_⟩
   cases hd:I (x,y + 1,z + 1)<;>simp_all
  | false =>
   refine ⟨(x,y - 1,z + 1),(x,y + 1,z - 1),by simp;omega,?_,?_⟩<;>simp_all
 ·have x1:axA (x - 1,y,z)=2:=by unfold axA;dsimp only;rw [if_neg (by omega),if_neg (by omega)]
  have x2:axA (x,y,z - 1)=0:=by unfold axA;dsimp only;rw [if_pos (by omega)]
  have x4:axA (x + 1,y,z)=2:=by unfold axA;dsimp only;rw [if_neg (by omega),if_neg (by omega)]
  have k1:=hall (x - 1,y,z) (by simp [ar])
  have k2:=hall (x,y,z - 1) (by simp [ar])
  have k4:=hall (x + 1,y,z) (by simp [ar])
  simp only [skB,x1,x2,x4,lo,hi] at k1 k2 k4
  cases ha:I (x - 1,y,z - 1) with
  | true =>
   refine ⟨(x - 1,y,z - 1),(x + 1,y,z + 1),by simp;omega,ha,?_⟩
   cases hd:I (x + 1,y,z + 1)<;>simp_all
  | false =>
   refine ⟨(x - 1,y,z + 1),(x + 1,y,z - 1),by simp;omega,?_,?_⟩<;>simp_all
 ·have x1:axA (x - 1,y,z)=1:=by unfold axA;dsimp only;rw [if_neg (by omega),if_pos (by omega)]
  have x2:axA (x,y - 1,z)=0:=by unfold axA;dsimp only;rw [if_pos (by omega)]
  have x4:axA (x + 1,y,z)=1:=by unfold axA;dsimp only;rw [if_neg (by omega),if_pos (by omega)]
  have k1:=hall (x - 1,y,z) (by simp [ar])
  have k2:=hall (x,y - 1,z) (by simp [ar])
  have k4:=hall (x + 1,y,z) (by simp [ar])
  simp only [skB,x1,x2,x4,lo,hi] at k1 k2 k4
  cases ha:I (x - 1,y - 1,z) with
  | true =>
   refine ⟨(x - 1,y - 1,z),(x + 1,y + 1,z),by simp;omega,ha,?_⟩
   cases hd:I (x + 1,y + 1,z)<;>simp_all
  | false =>
   refine ⟨(x - 1,y + 1,z),(x + 1,y - 1,z),by simp;omega,?_,?_⟩<;>simp_all
noncomputable abbrev EG (sk:List Sp):List Sp:=sk.flatMap fun s=>ar (axA s) s
structure Pl (cs sk:List Sp):Prop where
 hb:∀ c∈cs,BdS 200 c
 e1:zy [.list (cs.map eS)]=some (.list (sk.map eS))
 e2:qW [.list (cs.map eS)]=some (.list (sk.map eS))
 hr:(sk.map l3).Pairwise (fun a b=>HT.lexLt b a=false)
 hn:sk.Nodup
 hk:sk.length <= 31
 hm:∀ s,s∈sk↔Sq s/\skB (inM cs) s=true
 h2:∀ e,(EG sk).count e <= 2
 ne:sk≠[]
theorem WM (B:Nat) (e:Sp):(ar B e).length=4:=by
 unfold ar
 split<;>rfl
theorem qbJ:∀ sk:List Sp,(EG sk).length=4 * sk.length
 | []=>rfl
 | s :: sk=>by
  have ih:=qbJ sk
  show (ar (axA s) s ++ EG sk).length=_
  rw [List.length_append,WM,List.length_cons,ih]
  omega
theorem Yp {cs sk:List Sp} (P:Pl cs sk) {e:Sp} (he:e∈EG sk):∃ B s0 s1,EdB' B e/\(ar B e).filter (skB (inM cs))=[s0,s1]/\sk.filter (fun s=>decide (e∈ar (axA s) s))=[s0,s1]/\QH (inM cs) s0 e s1=((md4 B e).countP (inM cs):Nat) - 2/\s0∈sk/\s1∈sk:=by
 obtain ⟨s,hs,hes⟩:=List.mem_flatMap.mp he
 obtain ⟨B,hB⟩:=qfo ((P.hm s).mp hs).1 hes
 have hat:=qcI P.hr P.hn P.hm hB
 have hc:=yD (fun s h=>((P.hm s).mp h).1) e
 have hle:=P.h2 e
 have hin:s∈sk.filter (fun s=>decide (e∈ar (axA s) s)):=List.mem_filter.mpr ⟨hs,decide_eq_true hes⟩
 rcases wO (inM cs) hB with z | z | ⟨s0,s1,z,hbd⟩
 ·rw [hat,z] at hin
  cases hin
 ·rw [hat,z,WM] at hc
  have hle:(sk.flatMap fun s=>ar (axA s) s).count e <= 2:=hle
  omega
 ·have hs01:=hat.trans z
  have m0:s0∈sk.filter (fun s=>decide (e∈ar (axA s) s)):=by rw [hs01];exact List.mem_cons_self
  have m1:s1∈sk.filter (fun s=>decide (e∈ar (axA s) s)):=by rw [hs01];exact List.mem_cons_of_mem _ List.mem_cons_self
  exact ⟨B,s0,s1,hB,z,hs01,hbd,(List.mem_filter.mp m0).1,(List.mem_filter.mp m1).1⟩
theorem qbh {cs sk:List Sp} (P:Pl cs sk):(once (EG sk)).length < 64:=by
 have h1:=twice_len (once (EG sk)) (EG sk) (ZV _) fun t ht=>by
  obtain ⟨B,s0,s1,hB,hf,hf2,_⟩:=Yp P (Q4.mp ht)
  have h:=yD (fun s h=>((P.hm s).mp h).1) t
  rw [hf2] at h
  exact Nat.le_of_eq h.symm
 have h2:=qbJ sk
 have h3:=P.hk
 omega
noncomputable def jn (I:Sp->Bool) (sk:List Sp) (e:Sp):Sp:=match sk.filter (fun s=>decide (e∈ar (axA s) s)) with
 | s0 :: s1 :: _=>((sk.idxOf s0:Nat),(sk.idxOf s1:Nat),QH I s0 e s1)
 | _=>(0,0,0)
theorem qfH {I:Sp->Bool} {sk:List Sp} {e s0 s1:Sp} (h:sk.filter (fun s=>decide (e∈ar (axA s) s))=[s0,s1]):jn I sk e=(((sk.idxOf s0:Nat):Int),((sk.idxOf s1:Nat):Int),QH I s0 e s1):=by
 unfold jn
 rw [h]
theorem qht {cs sk:List Sp} (P:Pl cs sk):∃ zs:List Sp,zF [.list (cs.map eS)]=some (.list (zs.map eS))/\zs.Perm ((once (EG sk)).map (jn (inM cs) sk))/\(zs.map l3).Pairwise (fun a b=>HT.lexLt b a=false):=by
 have hs:∀ s∈sk,Sq s:=fun s h=>((P.hm s).mp h).1
 have hk:=P.hk
 have hol:=qbh P
 have hcr:=qdM hs (by omega) P.e1 (fun e z=>by
  have hle:(sk.flatMap fun s=>ar (axA s) s).count e <= 2:=P.h2 e
  omega)
 have hsk:=P.e1
 have hnum:=qd5 P.hn (by omega)
 have hcnt:=qaI hs (by omega)
 have hkeys:Js (.dict (eD (tally (sk.flatMap fun s=>ar (axA s) s))))=some ((once (EG sk)).map eS):=by
  rw [qad,← j4,List.map_map];rfl
 obtain ⟨ρ',e,o5,o6,rfl⟩:=q9 eS (g:=gNm 5) (u:=(seqO (qM 6 (qY 7 (evI (evC 1 (aC (vr 5) aN) Qa) seqD) (tV (ev2 (vr 7) (vr 3) in2D)) (vr 7))) (sApp 4 (qF (evA (aC (ev2 (vr 3) (ev2 (vr 6) (kd (.int 0)) ixD) ix2D) (aC (ev2 (vr 3) (ev2 (vr 6) (kd (.int 1)) ixD) ix2D) (aC (evC 4 (aC (vr 0) (aC (ev2 (vr 6) (kd (.int 0)) ixD) (aC (vr 5) (aC (ev2 (vr 6) (kd (.int 1)) ixD) aN)))) Qk) aN))) tupD)))))
  (fun done ρ=>∃ o5 o6:Option PyData,ρ=[some (.list (cs.map eS)),some .none,some (.list (sk.map eS)),some (.dict (eD sk.zipIdx)),some (.list ((done.map (jn (inM cs) sk)).map eS)),o5,o6]) (once (EG sk)) [some (.list (cs.map eS)),some .none,some (.list (sk.map eS)),some (.dict (eD sk.zipIdx)),some (.list []),none,none] ⟨none,none,rfl⟩ (by
   rintro e he done ρ hdl ⟨o5,o6,rfl⟩
   obtain ⟨B,s0,s1,hB,hf,hf2,hbd,m0,m1⟩:=Yp P (Q4.mp he)
   have hsq:=qem hB
   have hcp:∀ o5 o6:Option PyData,zO (tV (ev2 (vr 7) (vr 3) in2D)) (vr 7) [some (.list (cs.map eS)),some .none,some (.list (sk.map eS)),some (.dict (eD sk.zipIdx)),some (.list ((done.map (jn (inM cs) sk)).map eS)),o5,o6] ((ar B e).map eS)=some [eS s0,eS s1]:=fun o5 o6=>by
    have:=Zn eS (tt:=(tV (ev2 (vr 7) (vr 3) in2D))) (te:=(vr 7)) (ρ:=[some (.list (cs.map eS)),some .none,some (.list (sk.map eS)),some (.dict (eD sk.zipIdx)),some (.list ((done.map (jn (inM cs) sk)).map eS)),o5,o6]) (skB (inM cs)) eS (ar B e) (fun s h=>by
     have hin:=in_eD sk.zipIdx s
     rw [List.zipIdx_map_fst] at hin
     have hd:decide (s∈sk)=skB (inM cs) s:=by
      rw [Bool.eq_iff_iff,decide_eq_true_eq,P.hm]
      exact ⟨fun z=>z.2,fun z=>⟨((qdt hB).mp h).1,z⟩⟩
     rw [hd] at hin
     simp_arith [hin]) (fun s h _=>by simp_arith [])
    rw [hf] at this
    exact this
   have n0:=qbd m0
   have n1:=qbd m1
   have hbn:=qje (e:=e) (s1:=s1) P.hb (hs s0 m0) ((P.hm s0).mp m0).2
   have hz:((done.map (jn (inM cs) sk)).map eS).length < 1000:=by rw [List.length_map,List.length_map];omega
   have hz4:((ar B e).map eS).length <= 1000:=by rw [List.length_map,WM];omega
   have hj:=qfH (I:=inM cs) hf2
   have ha:((done ++ [e]).map (jn (inM cs) sk)).map eS=(done.map (jn (inM cs) sk)).map eS ++ [.tuple [.int (sk.idxOf s0:Nat),.int (sk.idxOf s1:Nat),.int (QH (inM cs) s0 e s1)]]:=by
    rw [List.map_append,List.map_append,List.map_cons,List.map_nil,List.map_cons,List.map_nil,hj];rfl
   refine ⟨[some (.list (cs.map eS)),some .none,some (.list (sk.map eS)),some (.dict (eD sk.zipIdx)),some (.list (((done ++ [e]).map (jn (inM cs) sk)).map eS)),some (eS e),some (.list [eS s0,eS s1])],?_,some (eS e),some (.list [eS s0,eS s1]),rfl⟩
   rw [ha]
   simp_arith [hsq,hcp,n0,n1,hbn,Zh,hz,hz4])
 obtain ⟨zs,es,p,o⟩:=QD (xs:=(once (EG sk)).map (jn (inM cs) sk)) (by rw [List.length_map];exact hol)
 refine ⟨zs,?_,p,o⟩
 simp only [zF,Z4]
 have hno:isNone .none=true:=rfl
 simp_arith [hcr,hno,hsk,hnum,hcnt,hkeys,e,es]
theorem qjE {kvs:List Mt} (hn:(kvs.map (·.1)).Nodup) {p:Mt} (hp:p∈kvs):lstM kvs p.1=p.2:=by
 induction kvs with
 | nil=>cases hp
 | cons q kvs ih =>
  rw [List.map_cons,List.nodup_cons] at hn
  unfold lstM
  rw [List.find?_cons]
  rcases List.mem_cons.mp hp with rfl | z
  ·rw [decide_eq_true rfl];rfl
  ·have:q.1≠p.1:=fun w=>hn.1 (w ▸ List.mem_map.mpr ⟨p,z,rfl⟩)
   rw [decide_eq_false this]
   exact ih hn.2 z
theorem qhy (sk:List Sp):((metF sk.zipIdx).map (·.1)).Nodup:=by rw [Zu];exact ZV _
theorem qgZ (J:List Sp->Prop) (hne:∀ cs,J cs->cs≠[]) (hadd:∀ (cs:List Sp) (c:Sp) (a:Nat) (s:Int),J cs->c∈cs->(a=0\/a=1\/a=2)->(s=-1\/s=1)->oth a s c∉cs->J (cs ++ [oth a s c])) (ms:List Int) (o0 o1 o2 o4 o5 o6:Option PyData) {cs0:List Sp} (hJ:J cs0) (hl0:cs0.length <= 6) :
  ∃ (gs:List Sp) (o7 o8 o9:Option PyData),forD (gNm 7) (seqO (qM 8 (Yq (evA (aC (ev2 (vr 3) (ev2 (vr 7) (evA (aC (vr 3) aN) lenD) modD) ixD) aN) zP))) (seqO (sSet 9 (ev2 (ev2 (vr 7) (kd (.int 60)) Qe) (kd (.int 3)) modD)) (seqO (sPut 8 (vr 9) (qF (ev2 (ev2 (ev2 (vr 8) (vr 9) ixD) (ev2 (kd (.int 2)) (ev2 (ev2 (vr 7) (kd (.int 180)) Qe) (kd (.int 2)) modD) mulD) qC) (kd (.int 1)) subD))) (sIf (tA (tV (ev2 (evA (aC (vr 3) aN) lenD) (kd (.int 6)) ltD2)) (tV (ev2 (evA (aC (vr 8) aN) qL) (vr 3) ninD))) (sApp 3 (qF (evA (aC (vr 8) aN) qL))) sN)))) (ms.map .int) [o0,o1,o2,some (.list (cs0.map eS)),o4,o5,o6,none,none,none]=some (.nx [o0,o1,o2,some (.list (gs.map eS)),o4,o5,o6,o7,o8,o9])/\J gs/\gs.length <= 6:=by
 obtain ⟨ρ',e,gs,o7,o8,o9,rfl,h1,h2⟩:=q9 PyData.int (g:=gNm 7) (u:=(seqO (qM 8 (Yq (evA (aC (ev2 (vr 3) (ev2 (vr 7) (evA (aC (vr 3) aN) lenD) modD) ixD) aN) zP))) (seqO (sSet 9 (ev2 (ev2 (vr 7) (kd (.int 60)) Qe) (kd (.int 3)) modD)) (seqO (sPut 8 (vr 9) (qF (ev2 (ev2 (ev2 (vr 8) (vr 9) ixD) (ev2 (kd (.int 2)) (ev2 (ev2 (vr 7) (kd (.int 180)) Qe) (kd (.int 2)) modD) mulD) qC) (kd (.int 1)) subD))) (sIf (tA (tV (ev2 (evA (aC (vr 3) aN) lenD) (kd (.int 6)) ltD2)) (tV (ev2 (evA (aC (vr 8) aN) qL) (vr 3) ninD))) (sApp 3 (qF (evA (aC (vr 8) aN) qL))) sN)))))
  (fun done ρ=>∃ (cs:List Sp) (o7 o8 o9:Option PyData),ρ=[o0,o1,o2,some (.list (cs.map eS)),o4,o5,o6,o7,o8,o9]/\J cs/\cs.length <= 6) ms [o0,o1,o2,some (.list (cs0.map eS)),o4,o5,o6,none,none,none] ⟨cs0,none,none,none,rfl,hJ,hl0⟩ (by
   rintro x hx done ρ hdl ⟨cs,o7,o8,o9,rfl,h1,h2⟩
   have fin:∀ (d:Sp),(∃ a s c,c∈cs/\(a=0\/a=1\/a=2)/\(s=-1\/s=1)/\d=oth a s c)->∀ o7 o9:Option PyData,∃ ρ',(sIf (tA (tV (ev2 (evA (aC (vr 3) aN) lenD) (kd (.int 6)) ltD2)) (tV (ev2 (evA (aC (vr 8) aN) qL) (vr 3) ninD))) (sApp 3 (qF (evA (aC (vr 8) aN) qL))) sN) [o0,o1,o2,some (.list (cs.map eS)),o4,o5,o6,o7,some (.list [.int d.1,.int d.2.1,.int d.2.2]),o9]=some (.nx ρ')/\
     ∃ (cs:List Sp) (o7 o8 o9:Option PyData),ρ'=[o0,o1,o2,some (.list (cs.map eS)),o4,o5,o6,o7,o8,o9]/\J cs/\cs.length <= 6:=by
    rintro d ⟨a,s,c,hc,ha,hs,hd⟩ o7 o9
    have hn:ninD (.tuple [.int d.1,.int d.2.1,.int d.2.2]) (.list (cs.map eS))=some (.bool (!decide (d∈cs))):=qde cs d
    by_cases h6:cs.length < 6
    ·have e6:decide ((((cs.map eS).length:Nat):Int) < 6)=true:=decide_eq_true (by rw [List.length_map];omega)
     by_cases hm:d∈cs
     ·refine ⟨[o0,o1,o2,some (.list (cs.map eS)),o4,o5,o6,o7,some (.list [.int d.1,.int d.2.1,.int d.2.2]),o9],?_,cs,o7,_,o9,rfl,h1,h2⟩
      simp_arith [hn,decide_eq_true hm,e6]
     ·refine ⟨[o0,o1,o2,some (.list ((cs ++ [d]).map eS)),o4,o5,o6,o7,some (.list [.int d.1,.int d.2.1,.int d.2.2]),o9],?_,cs ++ [d],o7,_,o9,rfl,?_,by rw [List.length_append,List.length_singleton];omega⟩
      ·have hz:(cs.map eS).length < 1000:=by rw [List.length_map];omega
       simp_arith [hn,decide_eq_false hm,e6,Zh,hz]
       simp only [List.map_append,List.map_cons,List.map_nil,eS]
      ·rw [hd] at hm ⊢
       exact hadd cs c a s h1 hc ha hs hm
    ·have e6:decide ((((cs.map eS).length:Nat):Int) < 6)=false:=decide_eq_false (by rw [List.length_map];omega)
     refine ⟨[o0,o1,o2,some (.list (cs.map eS)),o4,o5,o6,o7,some (.list [.int d.1,.int d.2.1,.int d.2.2]),o9],?_,cs,o7,_,o9,rfl,h1,h2⟩
     simp_arith [e6]
   have h0:0 < cs.length:=List.length_pos_iff.mpr (hne cs h1)
   obtain ⟨c,hc,ec⟩:=qhg x h0
   have e3:modD (.int x) (.int (((cs.map eS).length:Nat):Int))=some (.int (x % (cs.length:Int))):=by rw [List.length_map];exact qdc _ (by omega)
   have e4:atI (cs.map eS) (x % (cs.length:Int))=some (.tuple [.int c.1,.int c.2.1,.int c.2.2]):=qcG (Int.emod_nonneg _ (by omega)) ec
   have e5:mulD (.int 2) (.int (x / 180 % 2))=some (.int (2 * (x / 180 % 2))):=ZS (bd2.ok (Bd.of (n:=2) (by omega)))
   have hs:2 * (x / 180 % 2) - 1=-1\/2 * (x / 180 % 2) - 1=1:=by omega
   rcases emod3 (x / 60) with h | h | h
   ·obtain ⟨ρ',k1,k2⟩:=fin (c.1 + 2 * (x / 180 % 2) - 1,c.2.1,c.2.2) ⟨0,_,c,hc,.inl rfl,hs,by simp only [oth,Prod.mk.injEq,and_true];omega⟩ (some (.int x)) (some (.int 0))
    refine ⟨ρ',?_,k2⟩
    simp_arith [e3,e4,Yr,h,e5,zA,ix0,ix1,ix2]
    simp_arith [] at k1
    exact k1
   ·obtain ⟨ρ',k1,k2⟩:=fin (c.1,c.2.1 + 2 * (x / 180 % 2) - 1,c.2.2) ⟨1,_,c,hc,.inr (.inl rfl),hs,by simp only [oth,Prod.mk.injEq,and_true,true_and];omega⟩ (some (.int x)) (some (.int 1))
    refine ⟨ρ',?_,k2⟩
    simp_arith [e3,e4,Yr,h,e5,zA,ix0,ix1,ix2]
    simp_arith [] at k1
    exact k1
   ·obtain ⟨ρ',k1,k2⟩:=fin (c.1,c.2.1,c.2.2 + 2 * (x / 180 % 2) - 1) ⟨2,_,c,hc,.inr (.inr rfl),hs,by simp only [oth,Prod.mk.injEq,true_and];omega⟩ (some (.int x)) (some (.int 2))
    refine ⟨ρ',?_,k2⟩
    simp_arith [e3,e4,Yr,h,e5,zA,ix0,ix1,ix2]
    simp_arith [] at k1
    exact k1)
 exact ⟨gs,o7,o8,o9,e,h1,h2⟩
theorem qil (ms:List Int) (b:Sp):∃ cs gs:List Sp,zZ [.list (ms.map .int),.list [.int b.1,.int b.2.1,.int b.2.2],.int 0]=some (.list (cs.map eS))/\GrC b gs/\gs.length <= 6/\cs.Perm gs:=by
 obtain ⟨gs,o7,o8,o9,e,h1,h2⟩:=qgZ (GrC b) (fun cs h=>h.pos) (fun cs c a s h hc ha hs hn=>.add h hc ha hs hn) ms (some (.list (ms.map .int))) (some (.list [.int b.1,.int b.2.1,.int b.2.2])) (some (.int 0)) none none none (cs0:=[b]) .one (by simp)
 obtain ⟨cs,es,p,_⟩:=QD (xs:=gs) (by omega)
 refine ⟨cs,gs,?_,h1,h2,p⟩
 have e:forD (gNm 7) (seqO (qM 8 (Yq (evA (aC (ev2 (vr 3) (ev2 (vr 7) (evA (aC (vr 3) aN) lenD) modD) ixD) aN) zP))) (seqO (sSet 9 (ev2 (ev2 (vr 7) (kd (.int 60)) Qe) (kd (.int 3)) modD)) (seqO (sPut 8 (vr 9) (qF (ev2 (ev2 (ev2 (vr 8) (vr 9) ixD) (ev2 (kd (.int 2)) (ev2 (ev2 (vr 7) (kd (.int 180)) Qe) (kd (.int 2)) modD) mulD) qC) (kd (.int 1)) subD))) (sIf (tA (tV (ev2 (evA (aC (vr 3) aN) lenD) (kd (.int 6)) ltD2)) (tV (ev2 (evA (aC (vr 8) aN) qL) (vr 3) ninD))) (sApp 3 (qF (evA (aC (vr 8) aN) qL))) sN)))) (ms.map .int) [some (.list (ms.map .int)),some (.list [.int b.1,.int b.2.1,.int b.2.2]),some (.int 0),some (.list [.tuple [.int b.1,.int b.2.1,.int b.2.2]]),none,none,none,none,none,none]=some (.nx [some (.list (ms.map .int)),some (.list [.int b.1,.int b.2.1,.int b.2.2]),some (.int 0),some (.list (gs.map eS)),none,none,none,o7,o8,o9]):=e
 simp only [zZ,Z1]
 simp_arith [e,es]
theorem far6 {a b:Int} {n:Nat} (h:(a - b).natAbs <= 6) (g:b.natAbs <= n):a.natAbs <= n + 6:=by omega
theorem qc3 {b:Sp} {cs gs:List Sp} (hb:qdd (10 ^ 19) b) (h:GrC b gs) (hl:gs.length <= 6) (p:cs.Perm gs):(∀ c∈cs,BdS 200 c)/\∃ sk:List Sp,zy [.list (cs.map eS)]=some (.list (sk.map eS))/\qW [.list (cs.map eS)]=some (.list (sk.map eS))/\(sk.map l3).Pairwise (fun a b=>HT.lexLt b a=false)/\sk.Nodup/\sk.length <= 31/\(∀ s,s∈sk↔Sq s/\skB (inM cs) s=true)/\sk≠[]:=by
 have hbd:∀ c∈cs,BdS 200 c:=fun c hc=>by
  obtain ⟨a1,a2,a3⟩:=h.near c (p.mem_iff.mp hc)
  obtain ⟨b1,b2,b3⟩:=hb
  exact qhG (n:=10 ^ 19 + 6) ⟨far6 (Nat.le_trans a1 hl) b1,far6 (Nat.le_trans a2 hl) b2,far6 (Nat.le_trans a3 hl) b3⟩ (by decide)
 obtain ⟨sk,k1,k2,k3,k4,k5,k6⟩:=qij hbd (by rw [p.length_eq];exact hl) (p.nodup_iff.mpr h.nodup)
 have hp:sk.Perm (gs.flatMap (lsq gs)):=ZX k4 (yl h.nodup) fun s=>by rw [k6,Wb,qfB p]
 refine ⟨hbd,sk,k1,k2,k3,k4,?_,k6,fun z=>?_⟩
 ·have:=h.free
  have:=hp.length_eq
  unfold frS at *
  omega
 ·obtain ⟨s,hs⟩:=qdQ h.pos
  have:=hp.mem_iff.mpr hs
  rw [z] at this
  cases this
theorem qcY {α:Type} (enc:α->PyData) {g:PyData->Rho->Option Rho} {u:Rho->Option Out} (I:Rho->Prop) (Q:PyData->Prop):∀ (as:List α) (ρ:Rho),I ρ->(∀ a∈as,∀ ρ,I ρ->(∃ ρ',ob (g (enc a) ρ) u=some (.nx ρ')/\I ρ')\/∃ d,ob (g (enc a) ρ) u=some (.rt d)/\Q d)->
  (∃ ρ',forD g u (as.map enc) ρ=some (.nx ρ')/\I ρ')\/∃ d,forD g u (as.map enc) ρ=some (.rt d)/\Q d
 | [],ρ,h,_=>.inl ⟨ρ,rfl,h⟩
 | a :: as,ρ,h,st=>by
  rw [List.map_cons,qb4]
  rcases st a List.mem_cons_self ρ h with ⟨ρ',e,i⟩ | ⟨d,e,q⟩
  ·rw [e,W0]
   exact qcY enc I Q as ρ' i fun x hx=>st x (List.mem_cons_of_mem _ hx)
  ·rw [e,qcZ]
   exact .inr ⟨d,rfl,q⟩
theorem ix_eM {kvs:List Mt} {s:Sp} (h:s∈kvs.map (·.1)):ix2D (.dict (eM kvs)) (eS s)=some (eNs (lstM kvs s)):=by
 show ob (kxOf (eS s)) (fun ks=>if kOk (eM kvs) ks=true then qP (eM kvs) ks else none)=_
 have hs:=yL s kvs
 rw [decide_eq_true h,jB] at hs
 rw [yj,ob_s,if_pos (W3 _ _),jB]
 unfold lstM
 cases e:kvs.find? (fun p=>decide (p.1=s)) with
 | none=>rw [e] at hs;cases hs
 | some p=>rfl
theorem qhx (kvs:List Mt):Js (.dict (eM kvs))=some (kvs.map fun p=>eS p.1):=by
 show some ((eM kvs).map (·.1))=_
 unfold eM
 rw [List.map_map]
 rfl
theorem qg0 {sk:List Sp} (hn:sk.Nodup) (hs:∀ s∈sk,Sq s) (e:Sp):(EG sk).count e=(lstM (metF sk.zipIdx) e).length:=by
 rw [qbb hn hs,List.length_map]
 exact yD hs e
noncomputable def bsV (c:Int):Int:=if (c % 5 == 0)=true then c / 5 % (2 * 10 ^ 19 + 1) - 10 ^ 19 else c / 5 % 9 - 4
theorem qbX (c:Int):(bsV c).natAbs <= 10 ^ 19:=by
 unfold bsV
 split
 ·have a1:=Int.emod_nonneg (c / 5) (b:=2 * 10 ^ 19 + 1) (by decide)
  have a2:=Int.emod_lt_of_pos (c / 5) (b:=2 * 10 ^ 19 + 1) (by decide)
  generalize c / 5 % (2 * 10 ^ 19 + 1)=z at a1 a2 ⊢
  omega
 ·omega
theorem qgT (a b c:Int):Qj [.list [.int a,.int b,.int c]]=some (.list [.int (bsV a),.int (bsV b),.int (bsV c)]):=by
 have p19:powD (.int 10) (.int 19)=some (.int (10 ^ 19)):=rfl
 have m19:mulD (.int 2) (.int (10 ^ 19))=some (.int (2 * 10 ^ 19)):=rfl
 have md:∀ x:Int,modD (.int x) (.int (2 * 10 ^ 19 + 1))=some (.int (x % (2 * 10 ^ 19 + 1))):=fun x=>rfl
 simp only [Qj,jq,bsV]
 cases ha:a % 5 == 0<;>cases hb:b % 5 == 0<;>cases hc:c % 5 == 0<;>simp_arith [ha,hb,hc,p19,m19,md]
theorem due24 {cs sk:List Sp} (P:Pl cs sk):∃ zs:List Sp,Qy [.list (cs.map eS)]=some (.list (zs.map eS))/\zs.Perm ((once (EG sk)).map (jn (inM cs) sk))/\(zs.map l3).Pairwise (fun a b=>HT.lexLt b a=false):=by
 have hs:∀ s∈sk,Sq s:=fun s h=>((P.hm s).mp h).1
 have hk:=P.hk
 have hol:=qbh P
 have hsk:=P.e2
 have hmet:=qiU hs (by omega)
 have hlen:(metF sk.zipIdx).length < 64:=by
  have:=congrArg List.length (Zu sk)
  rw [List.length_map] at this
  rw [this]
  exact hol
 have hit:qb8 (.dict (eM (metF sk.zipIdx)))=some ((metF sk.zipIdx).map fun p=>.tuple [eS p.1,eNs p.2]):=by
  show some ((eM (metF sk.zipIdx)).map fun p=>PyData.tuple [p.1,p.2])=_
  unfold eM
  rw [List.map_map]
  rfl
 obtain ⟨ρ',e,o2,o3,rfl⟩:=q9 (fun p:Mt=>PyData.tuple [eS p.1,eNs p.2]) (g:=unpD 2 (gsC (gNm 2) (gsC (gNm 3) gsN))) (u:=(sApp 1 (evA (aC (ev2 (vr 3) (kd (.int 0)) ixD) (aC (ev2 (vr 3) (kd (.int 1)) ixD) (aC (ev2 (evC 2 (aC (vr 2) (aC (vr 0) aN)) zY) (kd (.int 2)) subD) aN))) tupD)))
  (fun done ρ=>∃ o2 o3:Option PyData,ρ=[some (.list (cs.map eS)),some (.list (((done.map (·.1)).map (jn (inM cs) sk)).map eS)),o2,o3]) (metF sk.zipIdx) [some (.list (cs.map eS)),some (.list []),none,none] ⟨none,none,rfl⟩ (by
   rintro p hp done ρ hdl ⟨o2,o3,rfl⟩
   have he:p.1∈EG sk:=Q4.mp (Zu sk ▸ List.mem_map.mpr ⟨p,hp,rfl⟩)
   obtain ⟨B,s0,s1,hB,hf,hf2,hbd,m0,m1⟩:=Yp P he
   have hl:p.2=[sk.idxOf s0,sk.idxOf s1]:=by
    rw [← qjE (qhy sk) hp,qbb P.hn hs,hf2];rfl
   have hN:eNs p.2=.list [.int (sk.idxOf s0:Nat),.int (sk.idxOf s1:Nat)]:=by rw [hl];rfl
   have hrd:=qie (cs:=cs) hB
   have hj:=qfH (I:=inM cs) hf2
   rw [hbd] at hj
   have hz:(((done.map (·.1)).map (jn (inM cs) sk)).map eS).length < 1000:=by rw [List.length_map,List.length_map,List.length_map];omega
   have ha:(((done ++ [p]).map (·.1)).map (jn (inM cs) sk)).map eS=((done.map (·.1)).map (jn (inM cs) sk)).map eS ++ [.tuple [.int (sk.idxOf s0:Nat),.int (sk.idxOf s1:Nat),.int (((md4 B p.1).countP (inM cs):Nat) - 2)]]:=by
    rw [List.map_append,List.map_append,List.map_append,List.map_cons,List.map_nil,List.map_cons,List.map_nil,List.map_cons,List.map_nil,hj];rfl
   refine ⟨[some (.list (cs.map eS)),some (.list ((((done ++ [p]).map (·.1)).map (jn (inM cs) sk)).map eS)),some (eS p.1),some (.list [.int (sk.idxOf s0:Nat),.int (sk.idxOf s1:Nat)])],?_,some (eS p.1),some (.list [.int (sk.idxOf s0:Nat),.int (sk.idxOf s1:Nat)]),rfl⟩
   rw [ha,hN]
   simp_arith [hrd,hz])
 have hks:(metF sk.zipIdx).map (·.1)=once (EG sk):=Zu sk
 rw [hks] at e
 obtain ⟨zs,es,p,o⟩:=QD (xs:=(once (EG sk)).map (jn (inM cs) sk)) (by rw [List.length_map];exact hol)
 refine ⟨zs,?_,p,o⟩
 simp only [Qy,j5]
 simp_arith [hsk,hmet,hit,e,es]
theorem qjg {cs sk:List Sp} (P:Pl cs sk):∃ zs:List Sp,zF [.list (cs.map eS)]=some (.list (zs.map eS))/\Qy [.list (cs.map eS)]=some (.list (zs.map eS))/\zs≠[]:=by
 obtain ⟨zs,e1,p1,o1⟩:=qht P
 obtain ⟨ys,e2,p2,o2⟩:=due24 P
 have:zs=ys:=QK (p1.trans p2.symm) o1 o2
 subst this
 refine ⟨zs,e1,e2,fun z=>?_⟩
 subst z
 have h0:=p1.length_eq
 rw [List.length_map,List.length_nil] at h0
 obtain ⟨s,hs⟩:=List.exists_mem_of_ne_nil sk P.ne
 have h4:=WM (axA s) s
 cases hq:ar (axA s) s with
 | nil=>rw [hq] at h4;cases h4
 | cons t _ =>
  have ht:t∈once (EG sk):=Q4.mpr (List.mem_flatMap.mpr ⟨s,hs,by rw [hq];exact List.mem_cons_self⟩)
  have:=List.length_pos_of_mem ht
  omega
theorem qha (ns:List Int) (a b:Option Int):∃ ms:List Int,sliD (.list (ns.map .int)) a b=some (.list (ms.map .int)):=by
 refine ⟨(ns.drop (HT.sIx (ns.map PyData.int).length 0 a)).take (HT.sIx (ns.map PyData.int).length (ns.map PyData.int).length b - HT.sIx (ns.map PyData.int).length 0 a),?_⟩
 show some (PyData.list (cutD (ns.map .int) a b))=_
 unfold cutD
 rw [← List.map_drop,← List.map_take]
theorem qh2 (ns:List Int) {b:Sp} (hb:qdd (10 ^ 19) b):∃ cs sk:List Sp,zX [.list (ns.map .int),.list [.int b.1,.int b.2.1,.int b.2.2]]=some (.list (cs.map eS))/\Pl cs sk:=by
 have hrg:qdq [.int 9,.int 4,.int (-1)]=some (([9,8,7,6,5]:List Nat).map fun k=>PyData.int (k:Nat)):=rfl
 have lp:=qcY (fun k:Nat=>PyData.int (k:Nat)) (g:=gNm 2) (u:=(seqO (sSet 3 (evC 3 (aC (evS (vr 0) (oS (kd (.int 4))) (oS (vr 2))) (aC (vr 1) (aC (kd (.int 0)) aN))) zZ)) (seqO (sSet 4 (evC 1 (aC (evC 1 (aC (vr 3) aN) qW) aN) zU)) (sIf (tV (ev2 (evA (aC (qY 5 (evI (vr 4) Js) (tV (ev2 (evA (aC (ev2 (vr 4) (vr 5) ix2D) aN) lenD) (kd (.int 2)) gtD)) (vr 5)) aN) lenD) (kd (.int 0)) eqD)) (sRet (vr 3)) sN))))
  (fun ρ=>∃ o2 o3 o4:Option PyData,ρ=[some (.list (ns.map .int)),some (.list [.int b.1,.int b.2.1,.int b.2.2]),o2,o3,o4])
  (fun d=>∃ cs sk:List Sp,d=.list (cs.map eS)/\Pl cs sk) [9,8,7,6,5] [some (.list (ns.map .int)),some (.list [.int b.1,.int b.2.1,.int b.2.2]),none,none,none] ⟨none,none,none,rfl⟩ (by
   rintro k _ ρ ⟨o2,o3,o4,rfl⟩
   obtain ⟨ms,em⟩:=qha ns (some 4) (some (k:Int))
   obtain ⟨cs,gs,esd,hg,hl,hp⟩:=qil ms b
   obtain ⟨hbd,sk,k1,k2,k3,k4,k5,k6,k7⟩:=qc3 hb hg hl hp
   have hs:∀ s∈sk,Sq s:=fun s h=>((k6 s).mp h).1
   have hmet:=qiU hs (by omega)
   have hcl:=qg0 k4 hs
   have hky:(metF sk.zipIdx).map (·.1)=once (EG sk):=Zu sk
   generalize metF sk.zipIdx=kvs at hmet hcl hky
   have hkeys:=qhx kvs
   have hcp:∀ o2 o3:Option PyData,zO (tV (ev2 (evA (aC (ev2 (vr 4) (vr 5) ix2D) aN) lenD) (kd (.int 2)) gtD)) (vr 5) [some (.list (ns.map .int)),some (.list [.int b.1,.int b.2.1,.int b.2.2]),o2,o3,some (.dict (eM kvs))] (kvs.map fun p=>eS p.1)=some ((kvs.filter fun p=>decide ((2:Int) < (((lstM kvs p.1).length:Nat):Int))).map fun p=>eS p.1):=fun o2 o3=>by
    refine Zn (fun p:Mt=>eS p.1) (fun p=>decide ((2:Int) < (((lstM kvs p.1).length:Nat):Int))) (fun p=>eS p.1) kvs (fun p hp=>?_) fun p hp _=>by simp_arith []
    have hi:=ix_eM (List.mem_map.mpr ⟨p,hp,rfl⟩)
    have hle:lenD [eNs (lstM kvs p.1)]=some (.int ((lstM kvs p.1).length:Nat)):=by
     show some (PyData.int ((((lstM kvs p.1).map fun k=>PyData.int (k:Nat)).length:Nat):Int))=_
     rw [List.length_map]
    simp_arith [hi,hle]
   have hz:(kvs.map fun p=>eS p.1).length <= 1000:=by
    have h1:=congrArg List.length hky
    have h3:(once (EG sk)).length <= (EG sk).length:=by
     have h:=twice_len (once (EG sk)) (EG sk ++ EG sk) (ZV _) fun t ht=>by
      have:=List.count_pos_iff.mpr (Q4.mp ht)
      rw [List.count_append]
      omega
     rw [List.length_append] at h
     omega
    have h4:=qbJ sk
    rw [List.length_map] at h1 ⊢
    omega
   generalize hf:(kvs.filter fun p=>decide ((2:Int) < (((lstM kvs p.1).length:Nat):Int)))=fl at hcp
   cases fl with
   | nil =>
    refine .inr ⟨.list (cs.map eS),?_,cs,sk,rfl,hbd,k1,k2,k3,k4,k5,k6,fun e=>?_,k7⟩
    ·have hcp:∀ o2 o3:Option PyData,zO (tV (ev2 (evA (aC (ev2 (vr 4) (vr 5) ix2D) aN) lenD) (kd (.int 2)) gtD)) (vr 5) [some (.list (ns.map .int)),some (.list [.int b.1,.int b.2.1,.int b.2.2]),o2,o3,some (.dict (eM kvs))] (kvs.map fun p=>eS p.1)=some []:=hcp
     simp_arith [em,esd,k2,hmet,hkeys,hcp,hz]
    ·by_cases he:e∈EG sk
     ·obtain ⟨p,hp,rfl⟩:=List.mem_map.mp (show e∈kvs.map (·.1) from hky ▸ Q4.mpr he)
      have:=List.filter_eq_nil_iff.mp hf p hp
      rw [decide_eq_true_eq] at this
      rw [hcl]
      omega
     ·rw [List.count_eq_zero.mpr he]
      exact Nat.zero_le _
   | cons q fl =>
    refine .inl ⟨[some (.list (ns.map .int)),some (.list [.int b.1,.int b.2.1,.int b.2.2]),some (.int (k:Nat)),some (.list (cs.map eS)),some (.dict (eM kvs))],?_,_,_,_,rfl⟩
    have hne:(((((q :: fl).map fun p:Mt=>eS p.1).length:Nat):Int) == 0)=false:=beq_eq_false_iff_ne.mpr (by rw [List.length_map,List.length_cons];omega)
    generalize (q :: fl).map (fun p:Mt=>eS p.1)=L at hcp hne
    simp_arith [em,esd,k2,hmet,hkeys,hcp,hz,hne])
 generalize ([9,8,7,6,5]:List Nat).map (fun k=>PyData.int (k:Nat))=RL at hrg lp
 rcases lp with ⟨ρ',e,o2,o3,o4,rfl⟩ | ⟨d,e,cs,sk,rfl,hP⟩
 ·obtain ⟨hbd,sk,k1,k2,k3,k4,k5,k6,k7⟩:=qc3 hb (GrC.one (b:=b)) (by simp) (List.Perm.refl _)
  refine ⟨[b],sk,?_,hbd,k1,k2,k3,k4,k5,k6,fun e=>?_,k7⟩
  ·simp only [zX,QW]
   simp_arith [hrg,e,eS]
  ·by_cases he:e∈EG sk
   ·obtain ⟨s,hs,hes⟩:=List.mem_flatMap.mp he
    obtain ⟨B,hB⟩:=qfo ((k6 s).mp hs).1 hes
    have hat:=qcI k3 k4 k6 hB
    have hc:(EG sk).count e=_:=yD (fun s h=>((k6 s).mp h).1) e
    rw [hc,hat]
    rcases wO (inM [b]) hB with z | z | ⟨s0,s1,z,_⟩
    ·rw [z];exact Nat.zero_le _
    ·obtain ⟨m,n,hne,h1,h2⟩:=qfw _ hB z
     unfold inM at h1 h2
     simp only [List.map_cons,List.map_nil,List.mem_singleton,decide_eq_true_eq] at h1 h2
     exact absurd (h1.trans h2.symm) hne
    ·rw [z];exact Nat.le_refl 2
   ·rw [List.count_eq_zero.mpr he]
    exact Nat.zero_le _
 ·refine ⟨cs,sk,?_,hP⟩
  simp only [zX,QW]
  simp_arith [hrg,e]
theorem qd2 (ns:List Int) (_:ns.length <= 63) (_:∀ k∈ns,Builtin.Int.intBits k <= 2 ^ 20):qfr [.list (ns.map .int)]=some (.bool true):=by
 have c1:=cell_eq ns 1 (by decide)
 have c2:=cell_eq ns 2 (by decide)
 have c3:=cell_eq ns 3 (by decide)
 have be:=qgT (QJ ns 1) (QJ ns 2) (QJ ns 3)
 obtain ⟨b,hb⟩:∃ b:Sp,b=(bsV (QJ ns 1),bsV (QJ ns 2),bsV (QJ ns 3)):=⟨_,rfl⟩
 have hnb:qdd (10 ^ 19) b:=by rw [hb];exact ⟨qbX _,qbX _,qbX _⟩
 have be:Qj [.list [.int (QJ ns 1),.int (QJ ns 2),.int (QJ ns 3)]]=some (.list [.int b.1,.int b.2.1,.int b.2.2]):=by rw [hb];exact be
 obtain ⟨cs,sk,ep,P⟩:=qh2 ns hnb
 obtain ⟨zs,ej,ed,hne⟩:=qjg P
 have e1:neD (.list (cs.map eS)) (.list (cs.map eS))=some (.bool false):=by rw [qfX,decide_eq_true rfl];rfl
 have e2:neD (.list (zs.map eS)) (.list (zs.map eS))=some (.bool false):=by rw [qfX,decide_eq_true rfl];rfl
 have e3:eqD (.list (zs.map eS)) (.list (zs.map eS))=some (.bool true):=by rw [qjj,decide_eq_true rfl]
 have hsp:=qim zs
 obtain ⟨r,hpop⟩:∃ r,popD (.list (zs.map eS))=some r:=by
  have hl:0 < zs.length:=List.length_pos_iff.mpr hne
  have:(zs.map eS)[(zs.map eS).length - 1]?=some ((zs.map eS)[(zs.map eS).length - 1]'(by rw [List.length_map];omega)):=List.getElem?_eq_getElem _
  refine ⟨((zs.map eS)[(zs.map eS).length - 1]'(by rw [List.length_map];omega),.list (zs.map eS).dropLast),?_⟩
  show ob ((zs.map eS)[(zs.map eS).length - 1]?) (fun d=>some (d,PyData.list (zs.map eS).dropLast))=_
  rw [this]
  rfl
 have e:qdw (rho0 qcw.length [.list (ns.map .int)])=some (.rt (.bool true)):=by
  unfold qdw
  simp_arith [c1,c2,c3,be,ep,ej,ed,e1,e2,e3,hsp,hpop]
 unfold qfr
 rw [e]
 rfl
theorem qi8 {l:PySem.W.OpenLaw} {w:World} {K:PySem.W.Frag} {h:Heap} {mg:Str->Option Value} {fa f0 f1 f2 f3 f4 f5 f6 f7 f8 f9 f10 f11 f12 f13 f14 f15 f16 f17 f18 f19 f20 f21 f22 f23 f24 f25 f26 f27:Addr} (X:K.In h) (G:h.Ns mainGlobals mg) (hfa:mg "law" = some (.ref fa))
  {od0 an0 od1 an1 od2 an2 od3 an3 od4 an4 od5 an5 od6 an6 od7 an7 od8 an8 od9 an9 od10 an10 od11 an11 od12 an12 od13 an13 od14 an14 od15 an15 od16 an16 od17 an17 od18 an18 od19 an19 od20 an20 od21 an21 od22 an22 od23 an23 od24 an24 od25 an25 od26 an26 od27 an27:Option Addr} {sl0 sl1 sl2 sl3 sl4 sl5 sl6 sl7 sl8 sl9 sl10 sl11 sl12 sl13 sl14 sl15 sl16 sl17 sl18 sl19 sl20 sl21 sl22 sl23 sl24 sl25 sl26 sl27:Array (Option Value)} {oc0 kV0 dc0 pm0 cd0 ct0 oc1 kV1 dc1 pm1 cd1 ct1 oc2 kV2 dc2 pm2 cd2 ct2 oc3 kV3 dc3 pm3 cd3 ct3 oc4 kV4 dc4 pm4 cd4 ct4 oc5 kV5 dc5 pm5 cd5 ct5 oc6 kV6 dc6 pm6 cd6 ct6 oc7 kV7 dc7 pm7 cd7 ct7 oc8 kV8 dc8 pm8 cd8 ct8 oc9 kV9 dc9 pm9 cd9 ct9 oc10 kV10 dc10 pm10 cd10 ct10 oc11 kV11 dc11 pm11 cd11 ct11 oc12 kV12 dc12 pm12 cd12 ct12 oc13 kV13 dc13 pm13 cd13 ct13 oc14 kV14 dc14 pm14 cd14 ct14 oc15 kV15 dc15 pm15 cd15 ct15 oc16 kV16 dc16 pm16 cd16 ct16 oc17 kV17 dc17 pm17 cd17 ct17 oc18 kV18 dc18 pm18 cd18 ct18 oc19 kV19 dc19 pm19 cd19 ct19 oc20 kV20 dc20 pm20 cd20 ct20 oc21 kV21 dc21 pm21 cd21 ct21 oc22 kV22 dc22 pm22 cd22 ct22 oc23 kV23 dc23 pm23 cd23 ct23 oc24 kV24 dc24 pm24 cd24 ct24 oc25 kV25 dc25 pm25 cd25 ct25 oc26 kV26 dc26 pm26 cd26 ct26 oc27 kV27 dc27 pm27 cd27 ct27:Value}
  (a0:PySem.W.nsIn K mainGlobals "numbers_of" = some (some (.ref f0))) (l0:K.lookup f0=some ⟨oc0,od0,.func (PySem.W.fnOf "numbers_of" "numbers_of" (qH T3) (qz T3) (qb T3) .none kV0 dc0 pm0 an0 cd0 ct0),sl0⟩) (c0:PySem.W.codeIn K cd0 "numbers_of" = true) (k0:PySem.W.keepIn K (.ref f0)=true)
  (a1:PySem.W.nsIn K mainGlobals "added" = some (some (.ref f1))) (l1:K.lookup f1=some ⟨oc1,od1,.func (PySem.W.fnOf "added" "added" (qH T26) (qz T26) (qb T26) .none kV1 dc1 pm1 an1 cd1 ct1),sl1⟩) (c1:PySem.W.codeIn K cd1 "added" = true) (k1:PySem.W.keepIn K (.ref f1)=true)
  (a2:PySem.W.nsIn K mainGlobals "negated" = some (some (.ref f2))) (l2:K.lookup f2=some ⟨oc2,od2,.func (PySem.W.fnOf "negated" "negated" (qH T20) (qz T20) (qb T20) .none kV2 dc2 pm2 an2 cd2 ct2),sl2⟩) (c2:PySem.W.codeIn K cd2 "negated" = true) (k2:PySem.W.keepIn K (.ref f2)=true)
  (a3:PySem.W.nsIn K mainGlobals "axis_of" = some (some (.ref f3))) (l3:K.lookup f3=some ⟨oc3,od3,.func (PySem.W.fnOf "axis_of" "axis_of" (qH T21) (qz T21) (qb T21) .none kV3 dc3 pm3 an3 cd3 ct3),sl3⟩) (c3:PySem.W.codeIn K cd3 "axis_of" = true) (k3:PySem.W.keepIn K (.ref f3)=true)
  (a4:PySem.W.nsIn K mainGlobals "around" = some (some (.ref f4))) (l4:K.lookup f4=some ⟨oc4,od4,.func (PySem.W.fnOf "around" "around" (qH T25) (qz T25) (qb T25) .none kV4 dc4 pm4 an4 cd4 ct4),sl4⟩) (c4:PySem.W.codeIn K cd4 "around" = true) (k4:PySem.W.keepIn K (.ref f4)=true)
  (a5:PySem.W.nsIn K mainGlobals "edges_of" = some (some (.ref f5))) (l5:K.lookup f5=some ⟨oc5,od5,.func (PySem.W.fnOf "edges_of" "edges_of" (qH T16) (qz T16) (qb T16) .none kV5 dc5 pm5 an5 cd5 ct5),sl5⟩) (c5:PySem.W.codeIn K cd5 "edges_of" = true) (k5:PySem.W.keepIn K (.ref f5)=true)
  (a6:PySem.W.nsIn K mainGlobals "squares_at" = some (some (.ref f6))) (l6:K.lookup f6=some ⟨oc6,od6,.func (PySem.W.fnOf "squares_at" "squares_at" (qH T4) (qz T4) (qb T4) .none kV6 dc6 pm6 an6 cd6 ct6),sl6⟩) (c6:PySem.W.codeIn K cd6 "squares_at" = true) (k6:PySem.W.keepIn K (.ref f6)=true)
  (a7:PySem.W.nsIn K mainGlobals "middle_of" = some (some (.ref f7))) (l7:K.lookup f7=some ⟨oc7,od7,.func (PySem.W.fnOf "middle_of" "middle_of" (qH T11) (qz T11) (qb T11) .none kV7 dc7 pm7 an7 cd7 ct7),sl7⟩) (c7:PySem.W.codeIn K cd7 "middle_of" = true) (k7:PySem.W.keepIn K (.ref f7)=true)
  (a8:PySem.W.nsIn K mainGlobals "cube_of" = some (some (.ref f8))) (l8:K.lookup f8=some ⟨oc8,od8,.func (PySem.W.fnOf "cube_of" "cube_of" (qH T22) (qz T22) (qb T22) .none kV8 dc8 pm8 an8 cd8 ct8),sl8⟩) (c8:PySem.W.codeIn K cd8 "cube_of" = true) (k8:PySem.W.keepIn K (.ref f8)=true)
  (a9:PySem.W.nsIn K mainGlobals "cubes_at" = some (some (.ref f9))) (l9:K.lookup f9=some ⟨oc9,od9,.func (PySem.W.fnOf "cubes_at" "cubes_at" (qH T17) (qz T17) (qb T17) .none kV9 dc9 pm9 an9 cd9 ct9),sl9⟩) (c9:PySem.W.codeIn K cd9 "cubes_at" = true) (k9:PySem.W.keepIn K (.ref f9)=true)
  (a10:PySem.W.nsIn K mainGlobals "skin_of" = some (some (.ref f10))) (l10:K.lookup f10=some ⟨oc10,od10,.func (PySem.W.fnOf "skin_of" "skin_of" (qH T23) (qz T23) (qb T23) .none kV10 dc10 pm10 an10 cd10 ct10),sl10⟩) (c10:PySem.W.codeIn K cd10 "skin_of" = true) (k10:PySem.W.keepIn K (.ref f10)=true)
  (a11:PySem.W.nsIn K mainGlobals "edge_counts" = some (some (.ref f11))) (l11:K.lookup f11=some ⟨oc11,od11,.func (PySem.W.fnOf "edge_counts" "edge_counts" (qH T2) (qz T2) (qb T2) .none kV11 dc11 pm11 an11 cd11 ct11),sl11⟩) (c11:PySem.W.codeIn K cd11 "edge_counts" = true) (k11:PySem.W.keepIn K (.ref f11)=true)
  (a12:PySem.W.nsIn K mainGlobals "outward_from" = some (some (.ref f12))) (l12:K.lookup f12=some ⟨oc12,od12,.func (PySem.W.fnOf "outward_from" "outward_from" (qH T0) (qz T0) (qb T0) .none kV12 dc12 pm12 an12 cd12 ct12),sl12⟩) (c12:PySem.W.codeIn K cd12 "outward_from" = true) (k12:PySem.W.keepIn K (.ref f12)=true)
  (a13:PySem.W.nsIn K mainGlobals "crowded" = some (some (.ref f13))) (l13:K.lookup f13=some ⟨oc13,od13,.func (PySem.W.fnOf "crowded" "crowded" (qH T24) (qz T24) (qb T24) .none kV13 dc13 pm13 an13 cd13 ct13),sl13⟩) (c13:PySem.W.codeIn K cd13 "crowded" = true) (k13:PySem.W.keepIn K (.ref f13)=true)
  (a14:PySem.W.nsIn K mainGlobals "bend_over" = some (some (.ref f14))) (l14:K.lookup f14=some ⟨oc14,od14,.func (PySem.W.fnOf "bend_over" "bend_over" (qH T12) (qz T12) (qb T12) .none kV14 dc14 pm14 an14 cd14 ct14),sl14⟩) (c14:PySem.W.codeIn K cd14 "bend_over" = true) (k14:PySem.W.keepIn K (.ref f14)=true)
  (a15:PySem.W.nsIn K mainGlobals "_law_cell_at" = some (some (.ref f15))) (l15:K.lookup f15=some ⟨oc15,od15,.func (PySem.W.fnOf "_law_cell_at" "_law_cell_at" (qH T1) (qz T1) (qb T1) .none kV15 dc15 pm15 an15 cd15 ct15),sl15⟩) (c15:PySem.W.codeIn K cd15 "_law_cell_at" = true) (k15:PySem.W.keepIn K (.ref f15)=true)
  (a16:PySem.W.nsIn K mainGlobals "_law_whole" = some (some (.ref f16))) (l16:K.lookup f16=some ⟨oc16,od16,.func (PySem.W.fnOf "_law_whole" "_law_whole" (qH T5) (qz T5) (qb T5) .none kV16 dc16 pm16 an16 cd16 ct16),sl16⟩) (c16:PySem.W.codeIn K cd16 "_law_whole" = true) (k16:PySem.W.keepIn K (.ref f16)=true)
  (a17:PySem.W.nsIn K mainGlobals "_law_spots" = some (some (.ref f17))) (l17:K.lookup f17=some ⟨oc17,od17,.func (PySem.W.fnOf "_law_spots" "_law_spots" (qH T6) (qz T6) (qb T6) .none kV17 dc17 pm17 an17 cd17 ct17),sl17⟩) (c17:PySem.W.codeIn K cd17 "_law_spots" = true) (k17:PySem.W.keepIn K (.ref f17)=true)
  (a18:PySem.W.nsIn K mainGlobals "_law_base" = some (some (.ref f18))) (l18:K.lookup f18=some ⟨oc18,od18,.func (PySem.W.fnOf "_law_base" "_law_base" (qH T13) (qz T13) (qb T13) .none kV18 dc18 pm18 an18 cd18 ct18),sl18⟩) (c18:PySem.W.codeIn K cd18 "_law_base" = true) (k18:PySem.W.keepIn K (.ref f18)=true)
  (a19:PySem.W.nsIn K mainGlobals "_law_solid" = some (some (.ref f19))) (l19:K.lookup f19=some ⟨oc19,od19,.func (PySem.W.fnOf "_law_solid" "_law_solid" (qH T7) (qz T7) (qb T7) .none kV19 dc19 pm19 an19 cd19 ct19),sl19⟩) (c19:PySem.W.codeIn K cd19 "_law_solid" = true) (k19:PySem.W.keepIn K (.ref f19)=true)
  (a20:PySem.W.nsIn K mainGlobals "_law_skin" = some (some (.ref f20))) (l20:K.lookup f20=some ⟨oc20,od20,.func (PySem.W.fnOf "_law_skin" "_law_skin" (qH T14) (qz T14) (qb T14) .none kV20 dc20 pm20 an20 cd20 ct20),sl20⟩) (c20:PySem.W.codeIn K cd20 "_law_skin" = true) (k20:PySem.W.keepIn K (.ref f20)=true)
  (a21:PySem.W.nsIn K mainGlobals "_law_near" = some (some (.ref f21))) (l21:K.lookup f21=some ⟨oc21,od21,.func (PySem.W.fnOf "_law_near" "_law_near" (qH T15) (qz T15) (qb T15) .none kV21 dc21 pm21 an21 cd21 ct21),sl21⟩) (c21:PySem.W.codeIn K cd21 "_law_near" = true) (k21:PySem.W.keepIn K (.ref f21)=true)
  (a22:PySem.W.nsIn K mainGlobals "_law_met" = some (some (.ref f22))) (l22:K.lookup f22=some ⟨oc22,od22,.func (PySem.W.fnOf "_law_met" "_law_met" (qH T18) (qz T18) (qb T18) .none kV22 dc22 pm22 an22 cd22 ct22),sl22⟩) (c22:PySem.W.codeIn K cd22 "_law_met" = true) (k22:PySem.W.keepIn K (.ref f22)=true)
  (a23:PySem.W.nsIn K mainGlobals "_law_round" = some (some (.ref f23))) (l23:K.lookup f23=some ⟨oc23,od23,.func (PySem.W.fnOf "_law_round" "_law_round" (qH T8) (qz T8) (qb T8) .none kV23 dc23 pm23 an23 cd23 ct23),sl23⟩) (c23:PySem.W.codeIn K cd23 "_law_round" = true) (k23:PySem.W.keepIn K (.ref f23)=true)
  (a24:PySem.W.nsIn K mainGlobals "_law_due" = some (some (.ref f24))) (l24:K.lookup f24=some ⟨oc24,od24,.func (PySem.W.fnOf "_law_due" "_law_due" (qH T19) (qz T19) (qb T19) .none kV24 dc24 pm24 an24 cd24 ct24),sl24⟩) (c24:PySem.W.codeIn K cd24 "_law_due" = true) (k24:PySem.W.keepIn K (.ref f24)=true)
  (a25:PySem.W.nsIn K mainGlobals "_law_plain" = some (some (.ref f25))) (l25:K.lookup f25=some ⟨oc25,od25,.func (PySem.W.fnOf "_law_plain" "_law_plain" (qH T9) (qz T9) (qb T9) .none kV25 dc25 pm25 an25 cd25 ct25),sl25⟩) (c25:PySem.W.codeIn K cd25 "_law_plain" = true) (k25:PySem.W.keepIn K (.ref f25)=true)
  (a26:PySem.W.nsIn K mainGlobals "skin_joins" = some (some (.ref f26))) (l26:K.lookup f26=some ⟨oc26,od26,.func (PySem.W.fnOf "skin_joins" "skin_joins" (qH T10) (qz T10) (qb T10) .none kV26 dc26 pm26 an26 cd26 ct26),sl26⟩) (c26:PySem.W.codeIn K cd26 "skin_joins" = true) (k26:PySem.W.keepIn K (.ref f26)=true)
  (a27:PySem.W.nsIn K mainGlobals "law" = some (some (.ref f27))) (l27:K.lookup f27=some ⟨oc27,od27,.func (PySem.W.fnOf "law" "law" (qH T27) (qz T27) (qb T27) .none kV27 dc27 pm27 an27 cd27 ct27),sl27⟩) (c27:PySem.W.codeIn K cd27 "law" = true) (k27:PySem.W.keepIn K (.ref f27)=true)
  (z0:PySem.W.nsIn K mainGlobals "dict" = some none)
  (z1:PySem.W.nsIn K mainGlobals "enumerate" = some none)
  (z2:PySem.W.nsIn K mainGlobals "sorted" = some none)
  (z3:PySem.W.nsIn K mainGlobals "min" = some none)
  (z4:PySem.W.nsIn K mainGlobals "len" = some none)
  (z5:PySem.W.nsIn K mainGlobals "isinstance" = some none)
  (z6:PySem.W.nsIn K mainGlobals "int" = some none)
  (z7:PySem.W.nsIn K mainGlobals "bool" = some none)
  (z8:PySem.W.nsIn K mainGlobals "list" = some none)
  (z9:PySem.W.nsIn K mainGlobals "tuple" = some none)
  (z10:PySem.W.nsIn K mainGlobals "range" = some none)
  {kc0_a0:Addr}
  {kc0_d0:Option Addr}
  {kc0_n0:Nat}
  {kc0_s0:Array (Option Value)}
  {kc0_a4:Addr}
  {kc0_d4:Option Addr}
  {kc0_n4:Nat}
  {kc0_s4:Array (Option Value)}
  {kc0_t8:Tok}
  {kc0_t9:Tok}
  {kc0_t10:Tok}
  {kc0_a11:Addr}
  {kc0_d11:Option Addr}
  {kc0_n11:Nat}
  {kc0_s11:Array (Option Value)}
  {kc0_t15:Tok}
  {kc0_t16:Tok}
  {kc0_t17:Tok}
  {kc0_a18:Addr}
  {kc0_d18:Option Addr}
  {kc0_n18:Nat}
  {kc0_s18:Array (Option Value)}
  {kc0_t22:Tok}
  {kc0_t23:Tok}
  {kc0_t24:Tok}
  {kc0_a25:Addr}
  {kc0_d25:Option Addr}
  {kc0_n25:Nat}
  {kc0_s25:Array (Option Value)}
  {kc0_t29:Tok}
  {kc0_t30:Tok}
  {kc0_t31:Tok}
  {kc0_a32:Addr}
  {kc0_d32:Option Addr}
  {kc0_n32:Nat}
  {kc0_s32:Array (Option Value)}
  {kc0_t36:Tok}
  {kc0_t37:Tok}
  {kc0_t38:Tok}
  {kc0_a39:Addr}
  {kc0_d39:Option Addr}
  {kc0_n39:Nat}
  {kc0_s39:Array (Option Value)}
  {kc0_t43:Tok}
  {kc0_t44:Tok}
  {kc0_t45:Tok}
  (kc0:PySem.W.nsIn K mainGlobals "UNITS" = some (some (.ref kc0_a0)))
  (kc0_h0:K.lookup kc0_a0=some ⟨.type "tuple", kc0_d0,.seq #[(.ref kc0_a4),(.ref kc0_a11),(.ref kc0_a18),(.ref kc0_a25),(.ref kc0_a32),(.ref kc0_a39)] kc0_n0,kc0_s0⟩)
  (kc0_h4:K.lookup kc0_a4=some ⟨.type "tuple", kc0_d4,.seq #[(.int (-1) kc0_t8),(.int (0) kc0_t9),(.int (0) kc0_t10)] kc0_n4,kc0_s4⟩)
  (kc0_h11:K.lookup kc0_a11=some ⟨.type "tuple", kc0_d11,.seq #[(.int (0) kc0_t15),(.int (-1) kc0_t16),(.int (0) kc0_t17)] kc0_n11,kc0_s11⟩)
  (kc0_h18:K.lookup kc0_a18=some ⟨.type "tuple", kc0_d18,.seq #[(.int (0) kc0_t22),(.int (0) kc0_t23),(.int (-1) kc0_t24)] kc0_n18,kc0_s18⟩)
  (kc0_h25:K.lookup kc0_a25=some ⟨.type "tuple", kc0_d25,.seq #[(.int (0) kc0_t29),(.int (0) kc0_t30),(.int (1) kc0_t31)] kc0_n25,kc0_s25⟩)
  (kc0_h32:K.lookup kc0_a32=some ⟨.type "tuple", kc0_d32,.seq #[(.int (0) kc0_t36),(.int (1) kc0_t37),(.int (0) kc0_t38)] kc0_n32,kc0_s32⟩)
  (kc0_h39:K.lookup kc0_a39=some ⟨.type "tuple", kc0_d39,.seq #[(.int (1) kc0_t43),(.int (0) kc0_t44),(.int (0) kc0_t45)] kc0_n39,kc0_s39⟩)
  {kc1_t0:Tok}
  (kc1:PySem.W.nsIn K mainGlobals "CROWD" = some (some (.int (4) kc1_t0)))
  : ∃ fd:FuncData,(∀ (s:Shared) (v:Value),BindsTo s fd ⟨[v],[]⟩ [("_law_script", v)])/\∀ base:Heap,K.In base->base.Ns mainGlobals mg->FnOk l.prog w K mg base CX0 7 fa fd ["_law_script"] (qcp K 63):=by
 have e:=hfa.symm.trans (PySem.W.mg_of X G a27)
 cases e
 have F0:=qT (st:=T3) l0 c0 k0
 have b0:=F0.binds (ps:=["things"]) fun _ _ _ _ _ _ us hl=>match us,hl with | [_],_=>rfl
 have F1:=qT (st:=T26) l1 c1 k1
 have b1:=F1.binds (ps:=["one", "other"]) fun _ _ _ _ _ _ us hl=>match us,hl with | [_,_],_=>rfl
 have F2:=qT (st:=T20) l2 c2 k2
 have b2:=F2.binds (ps:=["spot"]) fun _ _ _ _ _ _ us hl=>match us,hl with | [_],_=>rfl
 have F3:=qT (st:=T21) l3 c3 k3
 have b3:=F3.binds (ps:=["square"]) fun _ _ _ _ _ _ us hl=>match us,hl with | [_],_=>rfl
 have F4:=qT (st:=T25) l4 c4 k4
 have b4:=F4.binds (ps:=["spot", "axis"]) fun _ _ _ _ _ _ us hl=>match us,hl with | [_,_],_=>rfl
 have F5:=qT (st:=T16) l5 c5 k5
 have b5:=F5.binds (ps:=["square"]) fun _ _ _ _ _ _ us hl=>match us,hl with | [_],_=>rfl
 have F6:=qT (st:=T4) l6 c6 k6
 have b6:=F6.binds (ps:=["edge"]) fun _ _ _ _ _ _ us hl=>match us,hl with | [_],_=>rfl
 have F7:=qT (st:=T11) l7 c7 k7
 have b7:=F7.binds (ps:=["cube"]) fun _ _ _ _ _ _ us hl=>match us,hl with | [_],_=>rfl
 have F8:=qT (st:=T22) l8 c8 k8
 have b8:=F8.binds (ps:=["spot"]) fun _ _ _ _ _ _ us hl=>match us,hl with | [_],_=>rfl
 have F9:=qT (st:=T17) l9 c9 k9
 have b9:=F9.binds (ps:=["square"]) fun _ _ _ _ _ _ us hl=>match us,hl with | [_],_=>rfl
 have F10:=qT (st:=T23) l10 c10 k10
 have b10:=F10.binds (ps:=["cubes"]) fun _ _ _ _ _ _ us hl=>match us,hl with | [_],_=>rfl
 have F11:=qT (st:=T2) l11 c11 k11
 have b11:=F11.binds (ps:=["squares"]) fun _ _ _ _ _ _ us hl=>match us,hl with | [_],_=>rfl
 have F12:=qT (st:=T0) l12 c12 k12
 have b12:=F12.binds (ps:=["solid", "square"]) fun _ _ _ _ _ _ us hl=>match us,hl with | [_,_],_=>rfl
 have F13:=qT (st:=T24) l13 c13 k13
 have b13:=F13.binds (ps:=["solid"]) fun _ _ _ _ _ _ us hl=>match us,hl with | [_],_=>rfl
 have F14:=qT (st:=T12) l14 c14 k14
 have b14:=F14.binds (ps:=["solid", "square", "edge", "other"]) fun _ _ _ _ _ _ us hl=>match us,hl with | [_,_,_,_],_=>rfl
 have F15:=qT (st:=T1) l15 c15 k15
 have b15:=F15.binds (ps:=["_law_script", "_law_k"]) fun _ _ _ _ _ _ us hl=>match us,hl with | [_,_],_=>rfl
 have F16:=qT (st:=T5) l16 c16 k16
 have b16:=F16.binds (ps:=["_law_found"]) fun _ _ _ _ _ _ us hl=>match us,hl with | [_],_=>rfl
 have F17:=qT (st:=T6) l17 c17 k17
 have b17:=F17.binds (ps:=["_law_found"]) fun _ _ _ _ _ _ us hl=>match us,hl with | [_],_=>rfl
 have F18:=qT (st:=T13) l18 c18 k18
 have b18:=F18.binds (ps:=["_law_cells"]) fun _ _ _ _ _ _ us hl=>match us,hl with | [_],_=>rfl
 have F19:=qT (st:=T7) l19 c19 k19
 have b19:=F19.binds (ps:=["_law_cells", "_law_base_here", "_law_kind"]) fun _ _ _ _ _ _ us hl=>match us,hl with | [_,_,_],_=>rfl
 have F20:=qT (st:=T14) l20 c20 k20
 have b20:=F20.binds (ps:=["_law_cubes"]) fun _ _ _ _ _ _ us hl=>match us,hl with | [_],_=>rfl
 have F21:=qT (st:=T15) l21 c21 k21
 have b21:=F21.binds (ps:=["_law_spot", "_law_axes"]) fun _ _ _ _ _ _ us hl=>match us,hl with | [_,_],_=>rfl
 have F22:=qT (st:=T18) l22 c22 k22
 have b22:=F22.binds (ps:=["_law_squares"]) fun _ _ _ _ _ _ us hl=>match us,hl with | [_],_=>rfl
 have F23:=qT (st:=T8) l23 c23 k23
 have b23:=F23.binds (ps:=["_law_edge", "_law_solid_here"]) fun _ _ _ _ _ _ us hl=>match us,hl with | [_,_],_=>rfl
 have F24:=qT (st:=T19) l24 c24 k24
 have b24:=F24.binds (ps:=["_law_solid_here"]) fun _ _ _ _ _ _ us hl=>match us,hl with | [_],_=>rfl
 have F25:=qT (st:=T9) l25 c25 k25
 have b25:=F25.binds (ps:=["_law_script", "_law_base_here"]) fun _ _ _ _ _ _ us hl=>match us,hl with | [_,_],_=>rfl
 have F26:=qT (st:=T10) l26 c26 k26
 have b26:=F26.binds (ps:=["solid"]) fun _ _ _ _ _ _ us hl=>match us,hl with | [_],_=>rfl
 have F27:=qT (st:=T27) l27 c27 k27
 have z_dict:=PySem.W.mg_none_of X G z0
 have z_enumerate:=PySem.W.mg_none_of X G z1
 have z_sorted:=PySem.W.mg_none_of X G z2
 have z_min:=PySem.W.mg_none_of X G z3
 have z_len:=PySem.W.mg_none_of X G z4
 have z_isinstance:=PySem.W.mg_none_of X G z5
 have z_int:=PySem.W.mg_none_of X G z6
 have z_bool:=PySem.W.mg_none_of X G z7
 have z_list:=PySem.W.mg_none_of X G z8
 have z_tuple:=PySem.W.mg_none_of X G z9
 have z_range:=PySem.W.mg_none_of X G z10
 have C_UNITS:JF K mg "UNITS" QF:=⟨(.ref kc0_a0),(.ref kc0_a0),PySem.W.mg_of X G kc0,rfl,fun H S=>(.tuple (xs:=[(.ref kc0_a4),(.ref kc0_a11),(.ref kc0_a18),(.ref kc0_a25),(.ref kc0_a32),(.ref kc0_a39)]) (.inr ⟨_,_,_,kc0_h0,rfl,rfl,(show 6 <= sizeLine by decide),(.cons rfl (.cons rfl (.cons rfl (.cons rfl (.cons rfl (.cons rfl .nil))))))⟩) (.cons (.tuple (xs:=[(.int (-1)),(.int (0)),(.int (0))]) (.inr ⟨_,_,_,kc0_h4,rfl,rfl,(show 3 <= sizeLine by decide),(.cons ⟨_,rfl⟩ (.cons ⟨_,rfl⟩ (.cons ⟨_,rfl⟩ .nil)))⟩) (.cons (.int (-1)) (.cons (.int (0)) (.cons (.int (0)) .nil)))) (.cons (.tuple (xs:=[(.int (0)),(.int (-1)),(.int (0))]) (.inr ⟨_,_,_,kc0_h11,rfl,rfl,(show 3 <= sizeLine by decide),(.cons ⟨_,rfl⟩ (.cons ⟨_,rfl⟩ (.cons ⟨_,rfl⟩ .nil)))⟩) (.cons (.int (0)) (.cons (.int (-1)) (.cons (.int (0)) .nil)))) (.cons (.tuple (xs:=[(.int (0)),(.int (0)),(.int (-1))]) (.inr ⟨_,_,_,kc0_h18,rfl,rfl,(show 3 <= sizeLine by decide),(.cons ⟨_,rfl⟩ (.cons ⟨_,rfl⟩ (.cons ⟨_,rfl⟩ .nil)))⟩) (.cons (.int (0)) (.cons (.int (0)) (.cons (.int (-1)) .nil)))) (.cons (.tuple (xs:=[(.int (0)),(.int (0)),(.int (1))]) (.inr ⟨_,_,_,kc0_h25,rfl,rfl,(show 3 <= sizeLine by decide),(.cons ⟨_,rfl⟩ (.cons ⟨_,rfl⟩ (.cons ⟨_,rfl⟩ .nil)))⟩) (.cons (.int (0)) (.cons (.int (0)) (.cons (.int (1)) .nil)))) (.cons (.tuple (xs:=[(.int (0)),(.int (1)),(.int (0))]) (.inr ⟨_,_,_,kc0_h32,rfl,rfl,(show 3 <= sizeLine by decide),(.cons ⟨_,rfl⟩ (.cons ⟨_,rfl⟩ (.cons ⟨_,rfl⟩ .nil)))⟩) (.cons (.int (0)) (.cons (.int (1)) (.cons (.int (0)) .nil)))) (.cons (.tuple (xs:=[(.int (1)),(.int (0)),(.int (0))]) (.inr ⟨_,_,_,kc0_h39,rfl,rfl,(show 3 <= sizeLine by decide),(.cons ⟨_,rfl⟩ (.cons ⟨_,rfl⟩ (.cons ⟨_,rfl⟩ .nil)))⟩) (.cons (.int (1)) (.cons (.int (0)) (.cons (.int (0)) .nil)))) .nil)))))))⟩
 have C_CROWD:JF K mg "CROWD" Jf:=⟨(.int (4)),(.int (4) kc1_t0),PySem.W.mg_of X G kc1,⟨_,rfl⟩,fun H S=>(.int (4))⟩
 refine ⟨PySem.W.fnOf "law" "law" (qH T27) (qz T27) (qb T27) .none kV27 dc27 pm27 an27 cd27 ct27,fun s v=>.of_eq rfl,fun base _ _=>?_⟩
 have b27:=F27.binds (ps:=["_law_script"]) fun _ _ _ _ _ _ us hl=>match us,hl with | [_],_=>rfl
 have K_numbers_of:=W9 (P:=l.prog) (w:=w) (base:=base) F0 (PySem.W.mg_of X G a0) b0 z_dict z_enumerate
 have K_added:=qhw (P:=l.prog) (w:=w) (base:=base) F1 (PySem.W.mg_of X G a1) b1
 have K_negated:=qd0 (P:=l.prog) (w:=w) (base:=base) F2 (PySem.W.mg_of X G a2) b2
 have K_axis_of:=qdX (P:=l.prog) (w:=w) (base:=base) F3 (PySem.W.mg_of X G a3) b3
 have K_around:=qfJ (P:=l.prog) (w:=w) (base:=base) F4 (PySem.W.mg_of X G a4) b4 K_added z_sorted C_UNITS
 have K_edges_of:=qcc (P:=l.prog) (w:=w) (base:=base) F5 (PySem.W.mg_of X G a5) b5 K_around K_axis_of
 have K_squares_at:=qab (P:=l.prog) (w:=w) (base:=base) F6 (PySem.W.mg_of X G a6) b6 K_around
 have K_middle_of:=qa6 (P:=l.prog) (w:=w) (base:=base) F7 (PySem.W.mg_of X G a7) b7
 have K_cube_of:=qdZ (P:=l.prog) (w:=w) (base:=base) F8 (PySem.W.mg_of X G a8) b8
 have K_cubes_at:=qcb (P:=l.prog) (w:=w) (base:=base) F9 (PySem.W.mg_of X G a9) b9 K_axis_of K_cube_of z_enumerate
 have K_skin_of:=qd1 (P:=l.prog) (w:=w) (base:=base) F10 (PySem.W.mg_of X G a10) b10 K_added K_middle_of z_sorted C_UNITS
 have K_edge_counts:=ww (P:=l.prog) (w:=w) (base:=base) F11 (PySem.W.mg_of X G a11) b11 K_edges_of
 have K_outward_from:=Yx (P:=l.prog) (w:=w) (base:=base) F12 (PySem.W.mg_of X G a12) b12 K_cubes_at K_added K_negated K_middle_of
 have K_crowded:=qdY (P:=l.prog) (w:=w) (base:=base) F13 (PySem.W.mg_of X G a13) b13 K_edge_counts K_skin_of z_min C_CROWD
 have K_bend_over:=qa5 (P:=l.prog) (w:=w) (base:=base) F14 (PySem.W.mg_of X G a14) b14 K_added K_negated K_outward_from
 have K__law_cell_at:=Yw (P:=l.prog) (w:=w) (base:=base) F15 (PySem.W.mg_of X G a15) b15 z_len
 have K__law_whole:=W8 (P:=l.prog) (w:=w) (base:=base) F16 (PySem.W.mg_of X G a16) b16 z_isinstance z_int z_bool
 have K__law_spots:=W7 (P:=l.prog) (w:=w) (base:=base) F17 (PySem.W.mg_of X G a17) b17 K__law_whole z_isinstance z_list z_tuple z_len
 have K__law_base:=qa2 (P:=l.prog) (w:=w) (base:=base) F18 (PySem.W.mg_of X G a18) b18
 have K__law_solid:=W6 (P:=l.prog) (w:=w) (base:=base) F19 (PySem.W.mg_of X G a19) b19 z_tuple z_range z_list z_len z_sorted
 have K__law_skin:=qa4 (P:=l.prog) (w:=w) (base:=base) F20 (PySem.W.mg_of X G a20) b20 z_list z_tuple z_range z_sorted
 have K__law_near:=qa3 (P:=l.prog) (w:=w) (base:=base) F21 (PySem.W.mg_of X G a21) b21 z_list z_tuple z_sorted
 have K__law_met:=qca (P:=l.prog) (w:=w) (base:=base) F22 (PySem.W.mg_of X G a22) b22 K__law_near z_range z_len
 have K__law_round:=W5 (P:=l.prog) (w:=w) (base:=base) F23 (PySem.W.mg_of X G a23) b23 z_range z_list z_tuple
 have K__law_due:=qb9 (P:=l.prog) (w:=w) (base:=base) F24 (PySem.W.mg_of X G a24) b24 K__law_round K__law_met K__law_skin z_sorted
 have K__law_plain:=W4 (P:=l.prog) (w:=w) (base:=base) F25 (PySem.W.mg_of X G a25) b25 K__law_solid K__law_met K__law_skin z_len z_range z_tuple
 have K_skin_joins:=qaa (P:=l.prog) (w:=w) (base:=base) F26 (PySem.W.mg_of X G a26) b26 K_crowded K_skin_of K_numbers_of K_squares_at K_bend_over K_edge_counts z_sorted
 exact qfO (qjM (P:=l.prog) (w:=w) (base:=base) F27 K__law_base K__law_cell_at K__law_plain K_skin_joins K__law_due K__law_spots z_list) qd2
end SF
open PySem PySem.W PyProof.Rows
set_option maxRecDepth 100000 in
set_option maxHeartbeats 0 in
theorem PySem.Challenge.cw_sheetfold_k24_joins_of_a_skin_holds : PySem.Challenge.rw_sheetfold_k24_joins_of_a_skin.Holds := by
 w_on;o_law;k_head;(case hw=>w_witness2)
 k_fill
 refine L2.qer (l:=PySem.Challenge.rw_sheetfold_k24_joins_of_a_skin) (n:=63) (k:=7) (x := "_law_script") rfl (by decide) rfl ⟨rfl,by decide,by decide⟩ (fun w h Y=>PySem.W.kIn_of Y) ?F
 case F =>
  intro w mg fa h KX G hmg
  refine' SF.qi8 KX G hmg ?a0 ?l0 ?c0 ?k0 ?a1 ?l1 ?c1 ?k1 ?a2 ?l2 ?c2 ?k2 ?a3 ?l3 ?c3 ?k3 ?a4 ?l4 ?c4 ?k4 ?a5 ?l5 ?c5 ?k5 ?a6 ?l6 ?c6 ?k6 ?a7 ?l7 ?c7 ?k7 ?a8 ?l8 ?c8 ?k8 ?a9 ?l9 ?c9 ?k9 ?a10 ?l10 ?c10 ?k10 ?a11 ?l11 ?c11 ?k11 ?a12 ?l12 ?c12 ?k12 ?a13 ?l13 ?c13 ?k13 ?a14 ?l14 ?c14 ?k14 ?a15 ?l15 ?c15 ?k15 ?a16 ?l16 ?c16 ?k16 ?a17 ?l17 ?c17 ?k17 ?a18 ?l18 ?c18 ?k18 ?a19 ?l19 ?c19 ?k19 ?a20 ?l20 ?c20 ?k20 ?a21 ?l21 ?c21 ?k21 ?a22 ?l22 ?c22 ?k22 ?a23 ?l23 ?c23 ?k23 ?a24 ?l24 ?c24 ?k24 ?a25 ?l25 ?c25 ?k25 ?a26 ?l26 ?c26 ?k26 ?a27 ?l27 ?c27 ?k27 ?z0 ?z1 ?z2 ?z3 ?z4 ?z5 ?z6 ?z7 ?z8 ?z9 ?z10 ?kc0 ?kc0_h0 ?kc0_h4 ?kc0_h11 ?kc0_h18 ?kc0_h25 ?kc0_h32 ?kc0_h39 ?kc1
  (case a0=>k_is);(case l0=>k_is);(case c0=>k_is);(case k0=>k_is)
  (case a1=>k_is);(case l1=>k_is);(case c1=>k_is);(case k1=>k_is)
  (case a2=>k_is);(case l2=>k_is);(case c2=>k_is);(case k2=>k_is)
  (case a3=>k_is);(case l3=>k_is);(case c3=>k_is);(case k3=>k_is)
  (case a4=>k_is);(case l4=>k_is);(case c4=>k_is);(case k4=>k_is)
  (case a5=>k_is);(case l5=>k_is);(case c5=>k_is);(case k5=>k_is)
  (case a6=>k_is);(case l6=>k_is);(case c6=>k_is);(case k6=>k_is)
  (case a7=>k_is);(case l7=>k_is);(case c7=>k_is);(case k7=>k_is)
  (case a8=>k_is);(case l8=>k_is);(case c8=>k_is);(case k8=>k_is)
  (case a9=>k_is);(case l9=>k_is);(case c9=>k_is);(case k9=>k_is)
  (case a10=>k_is);(case l10=>k_is);(case c10=>k_is);(case k10=>k_is)
  (case a11=>k_is);(case l11=>k_is);(case c11=>k_is);(case k11=>k_is)
  (case a12=>k_is);(case l12=>k_is);(case c12=>k_is);(case k12=>k_is)
  (case a13=>k_is);(case l13=>k_is);(case c13=>k_is);(case k13=>k_is)
  (case a14=>k_is);(case l14=>k_is);(case c14=>k_is);(case k14=>k_is)
  (case a15=>k_is);(case l15=>k_is);(case c15=>k_is);(case k15=>k_is)
  (case a16=>k_is);(case l16=>k_is);(case c16=>k_is);(case k16=>k_is)
  (case a17=>k_is);(case l17=>k_is);(case c17=>k_is);(case k17=>k_is)
  (case a18=>k_is);(case l18=>k_is);(case c18=>k_is);(case k18=>k_is)
  (case a19=>k_is);(case l19=>k_is);(case c19=>k_is);(case k19=>k_is)
  (case a20=>k_is);(case l20=>k_is);(case c20=>k_is);(case k20=>k_is)
  (case a21=>k_is);(case l21=>k_is);(case c21=>k_is);(case k21=>k_is)
  (case a22=>k_is);(case l22=>k_is);(case c22=>k_is);(case k22=>k_is)
  (case a23=>k_is);(case l23=>k_is);(case c23=>k_is);(case k23=>k_is)
  (case a24=>k_is);(case l24=>k_is);(case c24=>k_is);(case k24=>k_is)
  (case a25=>k_is);(case l25=>k_is);(case c25=>k_is);(case k25=>k_is)
  (case a26=>k_is);(case l26=>k_is);(case c26=>k_is);(case k26=>k_is)
  (case a27=>k_is);(case l27=>k_is);(case c27=>k_is);(case k27=>k_is)
  (case z0=>k_is)
  (case z1=>k_is)
  (case z2=>k_is)
  (case z3=>k_is)
  (case z4=>k_is)
  (case z5=>k_is)
  (case z6=>k_is)
  (case z7=>k_is)
  (case z8=>k_is)
  (case z9=>k_is)
  (case z10=>k_is)
  (case kc0=>k_is)
  (case kc0_h0=>k_is)
  (case kc0_h4=>k_is)
  (case kc0_h11=>k_is)
  (case kc0_h18=>k_is)
  (case kc0_h25=>k_is)
  (case kc0_h32=>k_is)
  (case kc0_h39=>k_is)
  (case kc1=>k_is)
