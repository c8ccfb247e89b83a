import PyProof.Rows.All
import KE.IntBitsLaws
import KE.KIsAll
import KE.KSortTup
import Lean
import PyProof.EqAt
import PyProof.EqKinds
import PyProof.TupleCall
import PySem.Challenge.RW_sheetfold_k42_trees_counted
set_option genSizeOf false
set_option genInjectivity false
set_option compiler.extract_closed false
set_option Elab.async false
set_option linter.all false
set_option maxRecDepth 100000
open PySem renaming PyData→Ka,Value→Kc,Addr→Kd,Shared→Ke,wpAny_bind→Kf,wpAny_pure→Ko,Expr→Kp,Program→Kw,World→KB,Heap→KC,Around→KG,Scope→K1,Stmt→Va,codeAny_builtin→Vd,FuncData→Vs,plainId_quiet→Vv,wpAny_newObj_type→VA,mem_of_lookup→VB,wpAny_Call_Name_kw→VL,wpAny_mono→VO,wpAny_truthy_bool→VQ,wpAny_tryCatch→VY,wpAny_passesOwn→V3,boot_len→Uk,wpAny_updateSeq→Ur,wpAny_letGo→Ut,wpAny_seqItems→Ux,codeAny_mono→UD,wpAny_pyIter_tuple→UI,Paired→UP,richCompare_meets_room→UR,wpAny_holding→UU,OsState→U1,Params→U7,wpAny_execs_nil→U8,codeAny_call_builtin→Xc,IntMulOk→Xn,Builtin→XA,NameKind→XC,concat_meets→XD,noFill_tuple_add→XE,DictEntry→XU,pushCells_keeps→X1,sizeLine_eq→X4,seqIndex_of→X6
open PySem.W renaming Frag→Kb,kia_one→KJ,nsIn→K6,mg_none_of→Vj,findIn→Vx,kitOne→Vy,fnOf→VP,keepIn→VW,mroIn→Uo,codeIn→Uw,methodObj→Xr,specialIn→Xs,kitx_list→Xt,kitx_dict→Xu,OpenLaw→Xv,plainGet→XB,instObj→XW,takesIn→XY,cellsFrom_some→X5,lookIn→Na,kitx_tuple→Nk,hasDictIn→Nq,plainOver→Nr,kitx_none→Nt,kitx_bool→Nu
open PySem.Heap renaming get?_push_of_some→Kg,lt_size→Ks,get?_update_other→Ku,get?_push_size→Kx,size_push→Vz,get?_update_self→V4
open List renaming length_map→Kh,range→Ki,length_cons→Kk,size_toArray→Km,replicate→Kn,length_append→Kq,mem_cons→Kr,mem_of_getElem?→Kz,mem_append_right→KF,getElem?_eq_getElem→KI,lookup_cons→KM,length_range→KN,getElem?_eq_some_iff→KQ,mem_cons_of_mem→KW,getElem?_set_self→KY,mem_cons_self→K0,length_singleton→K4,getElem?_append_left→K7,mem_singleton→K9,length_replicate→Vh,all_eq_true→Vk,drop_eq_getElem_cons→Vl,map_cons→Vm,mem_append→Vo,length_set→Vp,replicate_succ→VC,append_nil→VD,getElem?_map→VG,getElem?_append_right→VJ,map_append→VN,getElem?_replicate→VR,filter_cons_of_neg→VS,filter_cons_of_pos→VT,map_congr_left→VV,length_nil→V5,getD_eq_getElem?_getD→V7,flatten_cons→V8,mem_append_left→Uc,getElem?_set_ne→Ud,mem_range→Uj,length_drop→Ul,take_of_length_le→Uu,mem_map→Uz,map_map→UH,zip_cons_cons→UJ,append_assoc→UN,getElem?_nil→UO,drop_eq_nil_of_le→US,range_succ_eq_map→UT,length_take→UW,not_mem_nil→UY,getElem?_toArray→U4,length_filter_le→U5,nodup_cons→U9,nil_append→Xb,filterMap_cons→Xm,lookup→Xp,drop_length→XG,ext_getElem→XJ,getElem_map→XM,cons_append→XN,mem_filter→XX,of_mem_zip→XZ,foldl_cons→X0,drop_of_length_le→X9,set_append_right→Nc,perm_append_comm→Nd,take_append_drop→Nf
open PySem.PyData renaming int→Kj,canLayAll0→Ky,depthAll→KS,canLay0→Vb,list→VH,depth→V1,eqv→Uh
open Nat renaming le_refl→Kl,ne_of_lt→KA,lt_of_lt_of_le→KD,le_trans→KO,lt_succ_of_lt→K5,lt_irrefl→Vt,le_of_lt→Vu,zero_le→Us,ne_of_gt→Uv,lt_of_le_of_lt→UG,zero_add→UK,lt_succ_self→UX,min_eq_right→UZ,pow_le_pow_right→Xk,min_eq_left→Xl,add_comm→XF,add_zero→XQ,succ_mul→Nl,lt_trans→Nm
open Bool renaming and_eq_true→Kt,false_ne_true→Vq,false_eq_true→VM,or_eq_true→Xd,eq_false_iff→Xw,and_eq_true_iff→Nh
open PySem.SeqAt renaming canLay_of_shaped→Kv,shaped→Vn
open PySem.NameKind renaming free→KL,cell→Vc
open Ne renaming symm→KP
open PyProof.Rows renaming step_dedup→KR,callWith_type1→Vr,slot_tuple_getitem→V0,AllBare→U2,callWith_builtin1→Xa
open PySem.Str renaming ofString→KU
open PySem.Around renaming under_plainId→KZ
open Option.some renaming inj→K3
open PySem.Value renaming ref→K8,type→Ua,bool→Ub,builtin→UA,int→UC,none→UL,str→U0,notImplemented→Xe
open Array renaming length_toList→Ve,getElem_toList→Xf,toArray_toList→Xh,getElem?_eq_getElem→Xy,getElem?_eq_none→X7,mk→Ng
open PySem.W.Fast renaming te10110043849684766642→Vf,te14364793385576792824→Vg,te4187177175401517315→VI
open Int renaming toNat_natCast→Vi,mul_left_comm→V9,one_mul→Ui,mul_comm→Uy,mul_assoc→UV,pow_zero→Xi,pow_succ→Xj,eq_of_mul_eq_mul_left→Xz,zero_mul→XO,natCast_add→X2,neg_mul→X8,mul_zero→Nn,add_zero→Np
open Option renaming none→Vw,isSome_iff_exists→UE,some→Xo,map_eq_some_iff→X3
open PySem.Builtin.Tuple renaming tupleExact→VE,tupleCompareSizes→U6,tupleHashOf→Xx
open PySem.F renaming called_set→VF,plain_min_loop→VX,plain_max_loop→VZ,args_tuple_add_2→UF,entry_tuple_add→UM,slot_tuple_add→UQ,typeOf_object_class→U3,called_tuple→Xg,entry_min_loop→XH,entry_max_loop→XI,plain_list_iadd→XR,plain_tuple_new→XT,slot_list_append→Nb,slot_gs_get→Ni
open PySem.Builtin.Int renaming intBits→VU
open PySem.Builtin.Builtins renaming bindParams→V2
open PySem.PassesOwn renaming never→V6
open False renaming elim→Ue
open PySem.Builtin.Slice renaming slicePlaces→Ug,sliceAdjust→UB,sliceApplied→Xq
open PySem.Builtin.Range renaming rangeSize→Um,small→Nj
open True renaming intro→Up
open ForInStep renaming yield→Uq
noncomputable section
namespace HD
open PySem PySem.W PySem.Calls PyProof.Rows
noncomputable def vw:Kw:=view PySem.Challenge.pw_sheetfold_k42_trees_counted [1,2,3,5,6,7,8,9,10,11]
noncomputable def tp (i:Nat):Va:=PySem.Challenge.pw_sheetfold_k42_trees_counted.main.body.getD i (.Pass ⟨0,0,0,0⟩)
noncomputable def dA:Va->Arguments
 | .FunctionDef _ a _ _ _ _ _ _ _ _=>a
 | _=>default
noncomputable def dB:Va->List Va
 | .FunctionDef _ _ b _ _ _ _ _ _ _=>b
 | _=>[]
noncomputable def dS:Va->K1
 | .FunctionDef _ _ _ _ _ _ s _ _ _=>s
 | _=>default
noncomputable abbrev de (P:U7)(x:String)(t:Nat)(v:Kc):XU:=DictEntry.mk (PyData.keyHash P (KU x)) (U0 (KU x) t) v
noncomputable abbrev S (x:String)(t:Nat):Kc:=U0 (KU x) t
noncomputable abbrev I (n:Int)(t:Nat):Kc:=UC n t
noncomputable abbrev R (a:Kd):Kc:=K8 a
abbrev Y (x:String):Kc:=Ua x
noncomputable abbrev N:Kc:=UL
noncomputable abbrev tu (a:Array Kc):Obj:=Obj.mk (Ua "tuple") Vw (Data.seq a) #[]
abbrev cc (x:String)(t1 t2 t3:Nat)(l n:Int)(a1:Kd)(k:Int)(a2:Kd)(u v:Kc)(a3:Kd)(t4:Int)(t5:Nat):Obj:=Obj.mk (Ua "code") Vw (Data.fields #[S x t1,S x t2,S "/claim/cut.py" t3,I l 0,I n 0,I 0 0,I 0 0,I 3 0,R a1,Ub Bool.true,I k 0,R a2,N,u,v,R a3,I t4 0,I l 0,S "/claim/cut.py" t5]) #[]
abbrev xc (x:String)(e a d b:Kd)(t u:Nat):Obj:=Obj.mk (Y "type") Vw (Data.cls (ClassData.mk (KU x) [R e] [R a,R e,Y "ValueError", Y "Exception", Y "BaseException", Y "object"] d (KU x) Bool.true [] [] Bool.false Vw Bool.false)) #[Xo (R b),Vw,Xo (S x t),Xo (S x u),Xo (UA "ValueError.__new__"),Xo (Ub Bool.true)]
abbrev xd (P:U7)(t1 t2 t3:Nat)(l:Int)(t4 t5:Nat)(a:Kd)(t6:Nat):Obj:=Obj.mk (Y "dict") Vw (Data.dict #[de P "__module__" t1 (S "sheetfold.errors" t2),de P "__firstlineno__" t3 (I l t4),de P "__static_attributes__" t5 (R a),de P "__doc__" t6 N] 2) #[]
abbrev fu (x:String)(i:Nat)(m:String)(t:Nat)(c:Kd):Obj:=Obj.mk (Ua "function") Vw (Data.func (FuncData.mk (KU x) (KU x) (dA (tp i)) (FuncBody.stmts (dB (tp i))) (dS (tp i)) 3 [] N N N (S m t) Vw (R c) N 0)) #[]
set_option maxHeartbeats 0 in
noncomputable def KH:U7->Kb:=fun P =>
(nat_lit 2,Obj.mk N Vw (Data.dict #[]) #[]) ::
(nat_lit 3,Obj.mk (Y "dict") Vw (Data.dict #[de P "__name__" 165 (S "law_sheetfold_k42_trees_counted" 209),de P "__doc__" 166 N,de P "__package__" 167 N,de P "__loader__" 168 (UA "__main__.__loader__#opaque"),de P "__spec__" 169 N,de P "__annotations__" 170 (R 6),de P "__builtins__" 171 (R 4),de P "__file__" 173 (S "/claim/cut.py" 172),de P "__cached__" 174 N,de P "count_trees" 196 (R 21),de P "table_of" 202 (R 26),de P "measure_of" 208 (R 31),de P "_law_cell_at" 218 (R 38),de P "_law_whole" 225 (R 45),de P "_law_tied" 231 (R 50),de P "_law_due" 237 (R 55),de P "_law_told" 247 (R 62),de P "_law_made_one" 259 (R 69),de P "law" 265 (R 74)] 19) #[]) ::
(nat_lit 6,Obj.mk (Y "dict") Vw (Data.dict #[]) #[]) ::
(nat_lit 15,tu #[]) ::
(nat_lit 17,tu #[S "n" 192,S "pairs" 193]) ::
(nat_lit 18,tu #[]) ::
(nat_lit 20,cc "count_trees" 189 190 191 2 2 15 181 16 (R 17) (R 18) 19 194 195) ::
(nat_lit 21,fu "count_trees" 1 "sheetfold.trees" 187 20) ::
(nat_lit 22,tu #[]) ::
(nat_lit 25,cc "table_of" 197 198 199 4 2 22 181 23 N N 24 200 201) ::
(nat_lit 26,fu "table_of" 2 "sheetfold.trees" 187 25) ::
(nat_lit 27,tu #[]) ::
(nat_lit 30,cc "measure_of" 203 204 205 13 1 27 181 28 N N 29 206 207) ::
(nat_lit 31,fu "measure_of" 3 "sheetfold.trees" 187 30) ::
(nat_lit 32,tu #[]) ::
(nat_lit 34,tu #[S "_law_script" 214,S "_law_k" 215]) ::
(nat_lit 35,tu #[]) ::
(nat_lit 37,cc "_law_cell_at" 211 212 213 23 2 32 181 33 (R 34) (R 35) 36 216 217) ::
(nat_lit 38,fu "_law_cell_at" 5 "law_sheetfold_k42_trees_counted" 209 37) ::
(nat_lit 39,tu #[]) ::
(nat_lit 41,tu #[S "_law_found" 222]) ::
(nat_lit 42,tu #[]) ::
(nat_lit 44,cc "_law_whole" 219 220 221 27 1 39 181 40 (R 41) (R 42) 43 223 224) ::
(nat_lit 45,fu "_law_whole" 6 "law_sheetfold_k42_trees_counted" 209 44) ::
(nat_lit 46,tu #[]) ::
(nat_lit 49,cc "_law_tied" 226 227 228 29 2 46 181 47 N N 48 229 230) ::
(nat_lit 50,fu "_law_tied" 7 "law_sheetfold_k42_trees_counted" 209 49) ::
(nat_lit 51,tu #[]) ::
(nat_lit 54,cc "_law_due" 232 233 234 31 2 51 181 52 N N 53 235 236) ::
(nat_lit 55,fu "_law_due" 8 "law_sheetfold_k42_trees_counted" 209 54) ::
(nat_lit 56,tu #[]) ::
(nat_lit 58,tu #[S "_law_n" 241,S "_law_pairs" 242,S "_law_mine" 243,S "_law_found" 244]) ::
(nat_lit 59,tu #[]) ::
(nat_lit 61,cc "_law_told" 238 239 240 40 2 56 181 57 (R 58) (R 59) 60 245 246) ::
(nat_lit 62,fu "_law_told" 9 "law_sheetfold_k42_trees_counted" 209 61) ::
(nat_lit 63,tu #[]) ::
(nat_lit 65,tu #[S "_law_pairs" 251,S "_law_one" 252,S "_law_other" 253,S "_law_made" 254,S "_law_i" 255,S "_law_j" 256]) ::
(nat_lit 66,tu #[]) ::
(nat_lit 68,cc "_law_made_one" 248 249 250 46 3 63 181 64 (R 65) (R 66) 67 257 258) ::
(nat_lit 69,fu "_law_made_one" 10 "law_sheetfold_k42_trees_counted" 209 68) ::
(nat_lit 70,tu #[]) ::
(nat_lit 73,cc "law" 260 261 262 60 1 70 181 71 N N 72 263 264) ::
(nat_lit 74,fu "law" 11 "law_sheetfold_k42_trees_counted" 209 73)::[]
noncomputable def kA:List Kd:=[2,3,6,15,17,18,20,21,22,25,26,27,30,31,32,34,35,37,38,39,41,42,44,45,46,49,50,51,54,55,56,58,59,61,62,63,65,66,68,69,70,73,74]
theorem kE (P:U7):kA=(KH P).map (·.1):=by kernel_rfl
noncomputable abbrev hk:Hook:=kHook KH kA kE
noncomputable def mkT:List Obj->Nat->BT->BT
 | [],_,t=>t
 | o::os,n,t=>mkT os (n+1) (t.ins n o)
noncomputable abbrev bH (P:U7):KC:=boot_heap P
noncomputable def bT (P:U7):BT:=mkT (bH P).objs.toList 0 .nil
theorem bA (P:U7):absHeap (bT P) (bH P).objs.size (bH P).life=bH P:=by kernel_rfl
theorem qcm (t:Thread):through t=(endAt 0 t).isSome:=by
 obtain ⟨u,c,p,k⟩:=t
 cases k with
 | cons a k=>rfl
 | nil =>
  cases u with
  | pure f=>cases f<;>rfl
  | _=>rfl
theorem seg0 {tb:String->Option XA}{p:Kw}{w:KB}{m:Nat}{an:Option Kc}{f:Flow}{s':Ke}{c:Code}{q:Pos}:∀ {n:Nat} {s:Ke} {t:Thread},segRun tb p w m an 0 n s t=some (f,s',c,q)->topRun tb p w m an n s t=some s':=by
 intro n
 induction n with
 | zero=>exact fun h=>nomatch h
 | succ n ih =>
  intro s t h
  rw [segRun] at h
  rw [topRun,qcm]
  cases e:endAt 0 t with
  | some g=>rw [e] at h;cases h;rfl
  | none =>
   rw [e] at h
   dsimp only at h ⊢
   cases k:stepOk m an t with
   | false=>rw [k] at h;cases h
   | true =>
    rw [k] at h
    cases g:step (denote tb) p w s t with
    | halt a b=>rw [g] at h;cases h
    | go s2 t2=>rw [g] at h;exact ih h
noncomputable def toK {β:Type}(t:BT):Nat->List Obj->(List Obj->β)->β
 | 0,l,k=>k l
 | n+1,l,k=>match t.get n with
  | some ⟨a,b,c,d⟩=>toK t n (⟨a,b,c,d⟩::l) k
  | none=>toK t n (default::l) k
theorem qd0 {β:Type}(t:BT)(k:List Obj->β):∀ (n:Nat) (l:List Obj),toK t n l k=k (t.list n++l):=by
 intro n
 induction n with
 | zero=>exact fun l=>rfl
 | succ n ih =>
  intro l
  have e:t.list (n+1)++l=t.list n++((t.get n).getD default::l):=by
   unfold BT.list
   rw [List.range_succ,VN,UN]
   rfl
  rw [e,toK]
  cases t.get n with
  | none=>exact ih _
  | some o=>exact ih _
def fz {β:Type}(s:SharedT)(k:Ke->β):β:=toK s.tree s.n [] fun l=>k ⟨⟨l.toArray,s.life⟩,s.gens,s.drawn,s.toks,s.os⟩
theorem qcq {β:Type}(s:SharedT)(k:Ke->β):fz s k=k s.abs:=by
 unfold fz
 rw [qd0,VD]
 rfl
noncomputable abbrev sn (s:Ke):=openSeen vw [] (importedModules PySem.Challenge.pw_sheetfold_k42_trees_counted.main.body) (fun s=>xlAt vw [] s&&recOk (RowW.records (OpenRow.toRowW (OpenLaw.row PySem.Challenge.rw_sheetfold_k42_trees_counted))) s) true s
noncomputable abbrev ck (h:KC)(u:Ke):Bool:=staticsOk (importedModules PySem.Challenge.pw_sheetfold_k42_trees_counted.main.body) h u.heap&&namesBound PySem.Challenge.pw_sheetfold_k42_trees_counted u.heap&&gensDone u&&laidKept h u.heap
noncomputable abbrev bS (w:KB)(os:U1):SharedT:=⟨bT w.params,(bH w.params).objs.size,(bH w.params).life,Ng [],boot_drawn,boot_toks,os⟩
def n1 {A B:Type}:A×B->A|(a,_)=>a
noncomputable def n2 {A B C D:Type}:A×B×C×D->B×C|(_,b,c,_)=>(b,c)
noncomputable def n4 {A B C D E F:Type}:A×B×C×D×E×F->D×E|(_,_,_,d,e,_)=>(d,e)
noncomputable def n6 {A B C D E F G:Type}:A×B×C×D×E×F×G->F|(_,_,_,_,_,f,_)=>f
noncomputable def n7 {A B C D E F G:Type}:A×B×C×D×E×F×G->G|(_,_,_,_,_,_,g)=>g
theorem seven {A B C D E F G:Type}{z x:A×B×C×D×E×F×G}(h1:n1 z=x.1)(h2:n2 z=(x.2.1,x.2.2.1))(h4:n4 z=(x.2.2.2.1,x.2.2.2.2.1))(h6:n6 z=x.2.2.2.2.2.1)(h7:n7 z=x.2.2.2.2.2.2):z=x:=by
 obtain ⟨a,b,c,d,e,i,j⟩:=z
 obtain ⟨a',b',c',d',e',i',j'⟩:=x
 simp only [n1,n2,n4,n6,n7,Prod.mk.injEq] at h1 h2 h4 h6 h7
 obtain ⟨h2,h3⟩:=h2
 obtain ⟨h4,h5⟩:=h4
 subst h1 h2 h3 h4 h5 h6 h7
 rfl
noncomputable abbrev sr (w:KB)(os:U1):=segRunT treeTable PySem.Challenge.pw_sheetfold_k42_trees_counted w (bH w.params).objs.size ((bH w.params).nsMap mainGlobals "__annotations__") 0 880 (bS w os) (topStub PySem.Challenge.pw_sheetfold_k42_trees_counted)
set_option maxHeartbeats 0 in
theorem rc (w:KB)(os:U1):(sr w os).map (fun r=>fz r.2.1 fun u=>ck (bH w.params) u)=some true:=by
 unfold sr
 rw [Vf,Vg]
 kernel_rfl
set_option maxHeartbeats 0 in
theorem rY (w:KB)(os:U1):(sr w os).map (fun r=>fz r.2.1 fun u=>Hook.obs hk u)=some (Hook.val hk w):=by
 unfold sr
 rw [Vf,Vg]
 kernel_rfl
set_option maxHeartbeats 0 in
theorem r1 (w:KB)(os:U1):(sr w os).map (fun r=>fz r.2.1 fun u=>n1 (sn u))=some (openGood vw []).1:=by
 unfold sr sn
 rw [Vf,Vg,VI]
 kernel_rfl
set_option maxHeartbeats 0 in
theorem r2 (w:KB)(os:U1):(sr w os).map (fun r=>fz r.2.1 fun u=>n2 (sn u))=some ((openGood vw []).2.1,(openGood vw []).2.2.1):=by
 unfold sr sn
 rw [Vf,Vg,VI]
 kernel_rfl
set_option maxHeartbeats 0 in
theorem r4 (w:KB)(os:U1):(sr w os).map (fun r=>fz r.2.1 fun u=>n4 (sn u))=some ((openGood vw []).2.2.2.1,(openGood vw []).2.2.2.2.1):=by
 unfold sr sn
 rw [Vf,Vg,VI]
 kernel_rfl
set_option maxHeartbeats 0 in
theorem r6 (w:KB)(os:U1):(sr w os).map (fun r=>fz r.2.1 fun u=>n6 (sn u))=some (openGood vw []).2.2.2.2.2.1:=by
 unfold sr sn
 rw [Vf,Vg,VI]
 kernel_rfl
set_option maxHeartbeats 0 in
theorem r7 (w:KB)(os:U1):(sr w os).map (fun r=>fz r.2.1 fun u=>n7 (sn u))=some (openGood vw []).2.2.2.2.2.2:=by
 unfold sr sn
 rw [Vf,Vg,VI]
 kernel_rfl
theorem pq {A B:Type}{a c:A}{b d:B}(h:a=c)(g:b=d):(a,b)=(c,d):=by rw [h,g]
theorem qbp {p:Kw}{w:KB}{N:Nat}{s s':Ke}(e:fencedOpening treeTable p w N=some s)(tf:topFrom treeTable p w N s=some s'){β:Type}{F:Ke->β}{v:β}(h:F s'=v):(openEnds treeTable p w N).map F=some v:=by
 unfold openEnds
 rw [e]
 show (topFrom treeTable p w N s).map F=some v
 rw [tf,← h]
 rfl
set_option maxHeartbeats 0 in
theorem said:OpenLaw.wellSaid PySem.Challenge.rw_sheetfold_k42_trees_counted=true:=by
 rw [Fast.te9446332074065402090]
 kernel_rfl
theorem left:LeftO PySem.Challenge.pw_sheetfold_k42_trees_counted vw [] (fun s=>xlAt vw [] s&&recOk (RowW.records (OpenRow.toRowW (OpenLaw.row PySem.Challenge.rw_sheetfold_k42_trees_counted))) s) (Hook.obs hk) (Hook.val hk) 880:=fun w=>by
 obtain ⟨s,e,e'⟩:=X3.mp (boot_open (p:=PySem.Challenge.pw_sheetfold_k42_trees_counted) (N:=880) (by kernel_rfl) (by kernel_rfl) (fun s=>by kernel_rfl) w)
 obtain ⟨h,gs,d,k,os⟩:=s
 cases e'
 obtain ⟨⟨f,s',c,q⟩,e1,e2⟩:=X3.mp (rc w os)
 have say:∀ {β:Type} {g:Ke->β} {v:β},(sr w os).map (fun r=>fz r.2.1 g)=some v->g s'.abs=v:=fun {β g v} z=>by
  rw [e1] at z
  exact (qcq s' g).symm.trans (K3 z)
 have e2:=(qcq s' _).symm.trans e2
 have e3:=seven (say (r1 w os)) (say (r2 w os)) (say (r4 w os)) (say (r6 w os)) (say (r7 w os))
 have e4:=say (rY w os)
 have e1:=segRun_of e1
 have ab:(bS w os).abs=⟨bH w.params,Ng [],boot_drawn,boot_toks,os⟩:=congrArg (fun z=>(⟨z,Ng [],boot_drawn,boot_toks,os⟩:Ke)) (bA w.params)
 rw [ab] at e1
 have z:((bH w.params).isNs mainGlobals&&(Ng []:Array GenState).size==0)=true:=by kernel_rfl
 have tf:topFrom treeTable PySem.Challenge.pw_sheetfold_k42_trees_counted w 880 ⟨bH w.params,Ng [],boot_drawn,boot_toks,os⟩=some s'.abs:=by
  unfold topFrom
  dsimp only
  rw [z,seg0 e1]
  show (match ck (bH w.params) s'.abs with | true=>some s'.abs|false=>none)=_
  rw [e2]
 exact qbp e tf (pq e3 e4)
end HD
namespace L2
open PySem PySem.Spec PyProof.Rows
theorem on1 {α:Type}{P:List α->Prop}(h:∀ a0,P [a0]):∀ us:List α,us.length=1->P us:=by
 intro us hl
 cases us with
 |nil=>cases hl
 |cons x0 r0=>
 cases r0 with
 |nil=>exact h _
 |cons=>cases hl
theorem on2 {α:Type}{P:List α->Prop}(h:∀ a0 a1,P [a0,a1]):∀ us:List α,us.length=2->P us:=by
 intro us hl
 cases us with
 |nil=>cases hl
 |cons x0 r0=>
 cases r0 with
 |nil=>cases hl
 |cons x1 r1=>
 cases r1 with
 |nil=>exact h _ _
 |cons=>cases hl
theorem on3 {α:Type}{P:List α->Prop}(h:∀ a0 a1 a2,P [a0,a1,a2]):∀ us:List α,us.length=3->P us:=by
 intro us hl
 cases us with
 |nil=>cases hl
 |cons x0 r0=>
 cases r0 with
 |nil=>cases hl
 |cons x1 r1=>
 cases r1 with
 |nil=>cases hl
 |cons x2 r2=>
 cases r2 with
 |nil=>exact h _ _ _
 |cons=>cases hl
noncomputable abbrev Key:=Sum Int Str
abbrev bc:=List Va
abbrev ba:=Nat->KC->Prop
abbrev aY:=Result->Ke->Prop
noncomputable abbrev aX:=List Env
abbrev aU:=Nat×Nat
abbrev aT:=List (Str×Value)
abbrev aS:=Option Kd
noncomputable abbrev aR:=List Int
abbrev aQ:=List (Nat->Nat)
noncomputable abbrev aP:=Int->Int->Int
noncomputable abbrev aO:=Option Int
noncomputable abbrev aM:=Nat->Nat->Bool
noncomputable abbrev aL:=Option (List Ka)
noncomputable abbrev aK:=Array Kc
abbrev aI:=Kc->Kc->Sem Kc
noncomputable abbrev aH:=Nat->Int
noncomputable abbrev aG:=List Kp
abbrev aF:=Array (Option Kc)
abbrev aE:=List (Str×Addr)
noncomputable abbrev aD:=Ka->Ka->Option Ka
noncomputable abbrev aA:=Nat->Nat
noncomputable abbrev az:=List Str
noncomputable abbrev ay:=List Kd
noncomputable abbrev ax:=Option Ka
noncomputable abbrev aw:=List Kc
noncomputable abbrev av:=List Ka->Option Ka
noncomputable abbrev au:=List Nat
noncomputable abbrev ar:=Str->Option Kc
noncomputable abbrev ao:=List Ka
abbrev ak:=Kc->Ke->Prop
noncomputable abbrev aj:=Nat->Nat->Int
noncomputable abbrev ai:=List (Nat×Nat)
noncomputable abbrev af:=List (Kd×Obj)
def qct:Key->Kc->Bool
 | .inl k,v=>Value.isInt k v
 | .inr x,v=>Value.isStrOf x v
def keyH (w:KB):Key->Int
 | .inl k=>hashInt k
 | .inr x=>hashStr w x
theorem qM:∀ {k:Key} {v:Kc},qct k v=true->(∃ i t,k=Sum.inl i/\v=UC i t)\/(∃ x t,k=Sum.inr x/\v=U0 x t)
 | .inl i,v,h=>by
  obtain ⟨t,e⟩:=Value.isInt_shape (k:=i) (v:=v) h
  exact .inl ⟨i,t,rfl,e⟩
 | .inr x,v,h=>by
  obtain ⟨t,e⟩:=Value.isStrOf_shape (x:=x) (v:=v) h
  exact .inr ⟨x,t,rfl,e⟩
theorem qc0 (a b:Int):decide ((Sum.inl a:Key)=Sum.inl b)=(a==b):=by
 by_cases e:a=b
 ·subst e;simp
 ·have h:¬ (Sum.inl a:Key)=Sum.inl b:=fun q=>e (Sum.inl.inj q)
  rw [decide_eq_false h]
  exact (beq_eq_false_iff_ne.mpr e).symm
theorem qc3 (a b:Str):decide ((Sum.inr a:Key)=Sum.inr b)=decide (a=b):=by
 by_cases e:a=b
 ·subst e;simp
 ·have h:¬ (Sum.inr a:Key)=Sum.inr b:=fun q=>e (Sum.inr.inj q)
  rw [decide_eq_false h,decide_eq_false e]
theorem qc1 (a:Int)(b:Str):decide ((Sum.inl a:Key)=Sum.inr b)=false:=decide_eq_false (fun q=>nomatch q)
theorem qc2 (a:Str)(b:Int):decide ((Sum.inr a:Key)=Sum.inl b)=false:=decide_eq_false (fun q=>nomatch q)
def Ju (prog:Kw)(w:KB):PySem.KeyKind prog w Key where
 is:=qct
 hash:=keyH w
 inj:=fun v a b ha hb=>by
  rcases qM ha with ⟨i,t,rfl,rfl⟩|⟨x,t,rfl,rfl⟩
  ·rcases qM hb with ⟨j,u,rfl,e⟩|⟨y,u,rfl,e⟩
   ·injection e with e1 _;rw [e1]
   ·exact nomatch e
  ·rcases qM hb with ⟨j,u,rfl,e⟩|⟨y,u,rfl,e⟩
   ·exact nomatch e
   ·injection e with e1 _;rw [e1]
 byValue:=fun k v h=>by
  rcases qM h with ⟨i,t,rfl,rfl⟩|⟨x,t,rfl,rfl⟩<;>rfl
 pyHash:=fun hv h=>by
  rcases qM hv with ⟨i,t,rfl,rfl⟩|⟨x,t,rfl,rfl⟩
  ·exact wpAny_pyHash_int h
  ·exact wpAny_pyHash_str h
 eqBool:=fun hu hv h=>by
  rcases qM hu with ⟨i,t,rfl,rfl⟩|⟨x,t,rfl,rfl⟩
  ·rcases qM hv with ⟨j,u,rfl,rfl⟩|⟨y,u,rfl,rfl⟩
   ·rw [qc0] at h;exact wpAny_eqBool_int h
   ·rw [qc1] at h;exact SeqAt.EqAt.int_str i t y u _ _ _ _ h
  ·rcases qM hv with ⟨j,u,rfl,rfl⟩|⟨y,u,rfl,rfl⟩
   ·rw [qc2] at h;exact SeqAt.EqAt.str_int x t j u _ _ _ _ h
   ·rw [qc3] at h;exact wpAny_eqBool_str h
 «strs»:=fun k x t v h=>by
  rcases qM h with ⟨i,u,rfl,e⟩|⟨y,u,rfl,e⟩
  ·exact nomatch e
  ·injection e with e1 _
   subst e1
   cases v<;>rfl
inductive V where
 | non|bl (b:Bool)|int (i:Int)|str (x:Str)|byt (b:Array UInt8)|flt (b:UInt64)|ref (a:Kd)|ty (n:String)
 deriving DecidableEq
def RelV:V->Kc->Prop
 | .non,u=>u=UL
 | .bl b,u=>u=Ub b
 | .int i,u=>∃ t,u=UC i t
 | .str x,u=>∃ t,u=U0 x t
 | .byt b,u=>∃ t,u=Value.bytes b t
 | .flt b,u=>∃ t,u=Value.float b t
 | .ref a,u=>u=K8 a
 | .ty n,u=>u=Ua n
abbrev Vals:List V->List Kc->Prop:=UP RelV
theorem Vals.length {xs:List V}{us:aw}(r:Vals xs us):xs.length=us.length:=Paired.length r
theorem Vals.get:∀ {xs:List V} {us:aw} {i:Nat} {x:V},Vals xs us->xs[i]?=some x->∃ u,us[i]?=some u/\RelV x u
 | _,_,_,_,.nil,e=>by simp at e
 | _,_,0,_,.cons r _,e=>by simp at e;subst e;exact ⟨_,rfl,r⟩
 | _,_,i+1,x,.cons _ t,e=>by
  obtain ⟨u,h1,h2⟩:=Vals.get (i:=i) (x:=x) t (by simpa using e)
  exact ⟨u,by simpa using h1,h2⟩
theorem Vals.set {x:V}{u:Kc}(r:RelV x u):∀ {xs:List V} {us:aw} (i:Nat),Vals xs us->Vals (xs.set i x) (us.set i u)
 | _,_,_,.nil=>.nil
 | _,_,0,.cons _ t=>.cons r t
 | _,_,i+1,.cons q t=>.cons q (Vals.set r i t)
theorem Vals.append {xs ys:List V}{us ws:aw}(h:Vals xs us)(s:Vals ys ws):Vals (xs++ys) (us++ws):=by
 induction h with
 | nil=>exact s
 | cons r _ ih=>exact .cons r ih
theorem Vals.take:∀ {xs:List V} {us:aw} (n:Nat),Vals xs us->Vals (xs.take n) (us.take n)
 | _,_,0,_=>.nil
 | _,_,_+1,.nil=>.nil
 | _,_,n+1,.cons r t=>.cons r (Vals.take n t)
theorem Vals.drop:∀ {xs:List V} {us:aw} (n:Nat),Vals xs us->Vals (xs.drop n) (us.drop n)
 | _,_,0,r=>r
 | _,_,_+1,.nil=>.nil
 | _,_,n+1,.cons _ t=>Vals.drop n t
def RelO:Option V->Option Kc->Prop
 | some v,some u=>RelV v u
 | none,none=>True
 | _,_=>False
def KV {κ:Type}:List (κ×V)->List (κ×Value)->Prop:=UP fun (p:κ×V) (q:κ×Value)=>p.1=q.1/\RelV p.2 q.2
def kV:Key->V
 | .inl i=>.int i
 | .inr x=>.str x
inductive HO where
 | lst (xs:List V)
 | tup (xs:List V)
 | dK (kvs:List (Key×V))|dT (kvs:List (List Key×V))
 | set (S:Int->Bool) (n:Nat)
 | ins (C dx:Kd) (fs:List (Str×V))
 | own (x:Kd)
 | xd (fs:List (Str×V))
 | met (f x:Kd)
 | rng (lo hi:Int)
 | frz (o:Obj) (u:HO)
 | tbl (ps:aK)
 | ext (φ:KC->Prop)
noncomputable abbrev Hp:=Kd->Option HO
def upd (H:Hp)(a:Kd)(o:HO):Hp:=fun b=>if b=a then some o else H b
theorem qF {H:Hp}{a:Kd}{o:HO}:upd H a o a=some o:=by unfold upd;rw [if_pos rfl]
theorem qg {H:Hp}{a b:Kd}{o:HO}(h:b≠a):upd H a o b=H b:=by unfold upd;rw [if_neg h]
theorem zj {H:Hp}{a b:Kd}{o:HO}(h:H a=some o)(h':H b=none):a≠b:=by
 intro e;subst e;rw [h] at h';cases h'
section
variable (P:Kw)(w:KB)
def q8 (H:Hp)(h:KC)(a:Kd):HO->Prop
 | .lst xs=>xs.length<=sizeLine/\∃ (its:aw) (n:Nat),Vals xs its/\h.get? a=some { cls:=.type "list", data:=.seq its.toArray n }
 | .tup xs=>xs.length<=sizeLine/\∃ its:List Kc,Vals xs its/\IsTup h a its.toArray
 | .dK kvs=>kvs.length<=sizeLine/\(a==sysModules)=false/\∃ vs,KV kvs vs/\h.DictOf (Ju P w) a vs
 | .dT kvs=>kvs.length<=sizeLine/\(a==sysModules)=false/\∃ xs:List (List Key×Addr×Value),
   UP (fun (p:List Key×V) (q:List Key×Addr×Value)=>p.1=q.1/\H q.2.1=some (.tup (p.1.map kV))/\RelV p.2 q.2.2) kvs xs/\
   ∃ o es ep,h.get? a=some o/\o.ExactDict/\o.data=.dict es ep/\es.toList=xs.map (entryOfKey (tupleKind (Ju P w)))/\(xs.map (·.1)).Nodup
 | .set S n=>h.SetOf (intKind P w) a S n
 | .ins C dx fs=>H dx=some (.own a)/\fs.length<=1000/\dx≠a/\h.get? a=some (XW C dx)/\
   ∃ mA,h.Ns1 dx mA/\(∀ f,RelO (fs.lookup f) (mA f))/\PySem.Within mA (fs.map (·.1))
 | .own _=>∃ o,h.get? a=some o
 | .xd fs=>∃ mA,h.Ns1 a mA/\∀ f,RelO (fs.lookup f) (mA f)
 | .rng lo hi=>∃ t u v,h.get? a=some { cls:=.type "range", data:=.fields #[.int lo t,.int hi u,.int 1 v] }
 | .frz o u=>h.get? a=some o/\q8 H h a u
 | .tbl ps=>h.get? a=some { cls:=.none,data:=.fields ps }
 | .met f x=>h.get? a=some (Xr (.ref f) (.ref x))
 | .ext φ=>φ h/\(∃ o,h.get? a=some o)/\∀ h1 h2:KC,φ h1->(∀ o,h1.get? a=some o->h2.get? a=some o)->φ h2
def HOk (H:Hp)(h:KC):Prop:=∀ a o,H a=some o->q8 P w H h a o
end
section
variable {P:Kw}{w:KB}{H H':Hp}{h h':KC}{a:Kd}{o:HO}
theorem q8.lt (x:q8 P w H h a o):a<h.objs.size:=by
 cases o with
 | lst xs=>obtain ⟨_,_,_,_,e⟩:=x;exact Ks e
 | tup xs=>obtain ⟨_,_,_,p⟩:=x;exact p.lt
 | dK kvs=>obtain ⟨_,_,_,_,o,_,_,e,_⟩:=x;exact Ks e
 | dT kvs=>obtain ⟨_,_,_,_,o,_,_,e,_⟩:=x;exact Ks e
 | set S n=>obtain ⟨o,_,_,_,e,_⟩:=x;exact Ks e
 | ins C dx fs=>obtain ⟨_,_,_,e,_⟩:=x;exact Ks e
 | own y=>obtain ⟨_,e⟩:=x;exact Ks e
 | xd fs=>obtain ⟨_,⟨_,_,_,e,_⟩,_⟩:=x;exact Ks e
 | rng lo hi=>obtain ⟨_,_,_,e⟩:=x;exact Ks e
 | frz ob u=>obtain ⟨e,_⟩:=x;exact Ks e
 | tbl ps=>exact Ks (show h.get? a=some _ from x)
 | met f y=>exact Ks (show h.get? a=some _ from x)
 | ext φ=>obtain ⟨_,⟨_,e⟩,_⟩:=x;exact Ks e
theorem Paired.mapP {α β:Type}{F G:α->β->Prop}:∀ {l₁:List α} {l₂:List β},UP F l₁ l₂->(∀ a b,F a b->G a b)->UP G l₁ l₂
 | _,_,.nil,_=>.nil
 | _,_,.cons r t,f=>.cons (f _ _ r) (Paired.mapP t f)
theorem q8.stay (x:q8 P w H h a o)(k:∀ b u,(b=a\/H b=some (.own a))->h.get? b=some u->h'.get? b=some u)
  (ho:∀ b,H b=some (.own a)->H' b=some (.own a)) (ht:∀ b xs,H b=some (.tup xs)->H' b=some (.tup xs)):q8 P w H' h' a o:=by
 induction o with
 | lst xs=>obtain ⟨z,its,n,r,e⟩:=x;exact ⟨z,its,n,r,k _ _ (.inl rfl) e⟩
 | tup xs=>obtain ⟨z,its,r,ob,e,c⟩:=x;exact ⟨z,its,r,ob,k _ _ (.inl rfl) e,c⟩
 | dK kvs=>obtain ⟨z,y,vs,r,ob,es,ep,e,c⟩:=x;exact ⟨z,y,vs,r,ob,es,ep,k _ _ (.inl rfl) e,c⟩
 | dT kvs =>
  obtain ⟨z,y,xs,r,ob,es,ep,e,c⟩:=x
  exact ⟨z,y,xs,Paired.mapP r fun p q z=>⟨z.1,ht _ _ z.2.1,z.2.2⟩,ob,es,ep,k _ _ (.inl rfl) e,c⟩
 | set S n=>obtain ⟨ob,es,ep,t,e,c⟩:=x;exact ⟨ob,es,ep,t,k _ _ (.inl rfl) e,c⟩
 | ins C dx fs =>
  obtain ⟨d,z,ne,e,mA,⟨od,es,ep,e2,c⟩,r⟩:=x
  exact ⟨ho _ d,z,ne,k _ _ (.inl rfl) e,mA,⟨od,es,ep,k _ _ (.inr d) e2,c⟩,r⟩
 | own y=>obtain ⟨ob,e⟩:=x;exact ⟨ob,k _ _ (.inl rfl) e⟩
 | xd fs=>obtain ⟨mA,⟨od,es,ep,e,c⟩,r⟩:=x;exact ⟨mA,⟨od,es,ep,k _ _ (.inl rfl) e,c⟩,r⟩
 | rng lo hi=>obtain ⟨t,u,v,e⟩:=x;exact ⟨t,u,v,k _ _ (.inl rfl) e⟩
 | frz ob u ih=>obtain ⟨e,q⟩:=x;exact ⟨k _ _ (.inl rfl) e,ih q⟩
 | tbl ps =>
  have e:h.get? a=some { cls:=.none,data:=.fields ps }:=x
  show h'.get? a=some { cls:=.none,data:=.fields ps }
  exact k a _ (.inl rfl) e
 | met f y =>
  have e:h.get? a=some (Xr (.ref f) (.ref y)):=x
  show h'.get? a=some (Xr (.ref f) (.ref y))
  exact k a _ (.inl rfl) e
 | ext φ=>obtain ⟨p,⟨o,e⟩,st⟩:=x;exact ⟨st _ _ p fun o q=>k _ _ (.inl rfl) q,⟨o,k _ _ (.inl rfl) e⟩,st⟩
theorem HOk.lt (x:HOk P w H h)(e:H a=some o):a<h.objs.size:=(x a o e).lt
theorem HOk.fresh (x:HOk P w H h)(e:h.objs.size<=a):H a=none:=by
 cases q:H a with
 | none=>rfl
 | some u=>exact absurd (KD (x.lt q) e) (Vt _)
theorem HOk.kept (x:HOk P w H h)(k:∀ b u,h.get? b=some u->h'.get? b=some u):HOk P w H h':=fun a o e =>
 (x a o e).stay (fun b u _ q=>k b u q) (fun _ q=>q) fun _ _ q=>q
theorem HOk.laid (x:HOk P w H h)(k:∀ b u,h.get? b=some u->h'.get? b=some u)(hp:h.objs.size<=a)(new:q8 P w (upd H a o) h' a o):HOk P w (upd H a o) h':=fun b u e=>by
 have hn:=x.fresh hp
 by_cases hb:b=a
 ·subst hb;rw [qF] at e;cases e;exact new
 ·rw [qg hb] at e
  exact (x b u e).stay (fun c v _ q=>k c v q) (fun c q=>by rw [qg (zj q hn)];exact q) fun c xs q=>by rw [qg (zj q hn)];exact q
end
def Rd (H:Hp)(a:Kd)(u:HO):Prop:=H a=some u\/∃ o,H a=some (.frz o u)
theorem Rd.ok {P:Kw}{w:KB}{H:Hp}{h:KC}{a:Kd}{u:HO}(r:Rd H a u)(x:HOk P w H h):q8 P w H h a u:=by
 rcases r with r|⟨o,r⟩
 ·exact x a u r
 ·obtain ⟨_,q⟩:=x a _ r
  exact q
def Mut:Option HO->Prop
 | some (.lst _)=>True
 | some (.dK _)=>True
 | some (.dT _)=>True
 | some (.set _ _)=>True
 | some (.ins _ _ _)=>True
 | some (.ext _)=>True
 | _=>False
section
variable {P:Kw}{w:KB}{H:Hp}{h h':KC}{x e:Kd}{o':HO}
theorem HOk.write (ok:HOk P w H h)(mu:Mut (H x))(he:e=x\/H e=some (.own x))(k:∀ b u,b≠e->h.get? b=some u->h'.get? b=some u)(heo:∃ u,h'.get? e=some u)
  (new:q8 P w (upd H x o') h' x o'):HOk P w (upd H x o') h':=fun b u q=>by
 have nown:∀ c y,H c=some (.own y)->c≠x:=fun c y r z=>by subst z;rw [r] at mu;exact mu
 have ntup:∀ c xs,H c=some (.tup xs)->c≠x:=fun c xs r z=>by subst z;rw [r] at mu;exact mu
 by_cases hb:b=x
 ·subst hb;rw [qF] at q;cases q;exact new
 ·rw [qg hb] at q
  by_cases hbe:b=e
  ·have q':H b=some (.own x):=by
    rcases he with z|z
    ·exact absurd (hbe.trans z) hb
    ·rw [hbe];exact z
   rw [q] at q';cases q'
   obtain ⟨v,hv⟩:=heo
   exact ⟨v,by rw [hbe];exact hv⟩
  ·refine (ok b u q).stay (fun c v hc r=>k c v ?_ r) (fun c r=>by rw [qg (nown c b r)];exact r) fun c xs r=>by rw [qg (ntup c xs r)];exact r
   rcases hc with rfl|hc
   ·exact hbe
   ·rintro rfl
    rcases he with z|z
    ·exact nown c b hc z
    ·rw [hc] at z;cases z;exact hb rfl
end
structure Un (fs ex:ay)(H H':Hp)(h h':KC):Prop where
 keep:∀ b o,h.get? b=some o->H b=none->b∉fs->b∉ex->h'.get? b=some o
 slot:∀ b o,h.get? b=some o->H b=none->b∈fs->b∉ex->∃ sl,h'.get? b=some { o with slots:=sl }
 free:∀ b o,h.get? b=some o->H b=none->b∉ex->H' b=none
 there:∀ b o,h.get? b=some o->b∉ex->∃ o',h'.get? b=some o'
 tups:∀ b xs,H b=some (.tup xs)->H' b=some (.tup xs)
 frzs:∀ b o u,H b=some (.frz o u)->H' b=some (.frz o u)
 tbls:∀ b ps,H b=some (.tbl ps)->∃ more,H' b=some (.tbl (ps++more))
section
variable {fs fs' ex ex':ay}{H H1 H2:Hp}{h h1 h2 h':KC}{a x e:Kd}{o:HO}
theorem Un.any (u:Un fs ex H H1 h h1){b:Kd}{ob:Obj}(q:h.get? b=some ob)(n:H b=none)(hx:b∉ex):∃ sl,h1.get? b=some { ob with slots:=sl }:=by
 by_cases hb:b∈fs
 ·exact u.slot b ob q n hb hx
 ·exact ⟨ob.slots,u.keep b ob q n hb hx⟩
theorem Un.kept (k:∀ b u,h.get? b=some u->h'.get? b=some u):Un fs ex H H h h' :=
 ⟨fun b ob q _ _ _=>k b ob q,fun b ob q _ _ _=>⟨ob.slots,k b ob q⟩,fun _ _ _ n _=>n,fun b ob q _=>⟨ob,k b ob q⟩,fun _ _ q=>q,fun _ _ _ q=>q,fun _ ps q=>⟨#[],by rw [q];simp⟩⟩
theorem Un.refl:Un fs ex H H h h:=Un.kept fun _ _ q=>q
theorem Un.laid (k:∀ b u,h.get? b=some u->h'.get? b=some u)(hp:h.objs.size<=a)(hn:H a=none):Un fs ex H (upd H a o) h h' where
 keep:=fun b u q _ _ _=>k b u q
 slot:=fun b u q _ _ _=>⟨u.slots,k b u q⟩
 free:=fun b u q n _=>by rw [qg (KA (KD (Ks q) hp))];exact n
 there:=fun b u q _=>⟨u,k b u q⟩
 tups:=fun b xs q=>by rw [qg (zj q hn)];exact q
 frzs:=fun b u xs q=>by rw [qg (zj q hn)];exact q
 tbls:=fun b ps q=>⟨#[],by rw [qg (zj q hn),q];simp⟩
theorem Un.write (mu:Mut (H x))(he:e=x\/H e=some (.own x))(k:∀ b u,b≠e->h.get? b=some u->h'.get? b=some u)(heo:∃ u,h'.get? e=some u):Un fs ex H (upd H x o) h h':=by
 have hx:∀ b,H b=none->b≠x:=fun b n z=>by subst z;rw [n] at mu;exact mu
 have hb:∀ b,H b=none->b≠e:=fun b n z=>by
  subst z
  rcases he with r|r
  ·exact hx b n r
  ·rw [n] at r;cases r
 have hm:∀ b u,H b=some u->¬ Mut (some u)->b≠x:=fun b u q nm z=>by subst z;rw [q] at mu;exact nm mu
 refine ⟨fun b u q n _ _=>k b u (hb b n) q,fun b u q n _ _=>⟨u.slots,k b u (hb b n) q⟩,fun b u q n _=>by rw [qg (hx b n)];exact n,fun b u q _=>?_,
  fun b xs q=>by rw [qg (hm b _ q fun z=>z)];exact q,fun b u xs q=>by rw [qg (hm b _ q fun z=>z)];exact q,fun b ps q=>⟨#[],by rw [qg (hm b _ q fun z=>z),q];simp⟩⟩
 by_cases hbe:b=e
 ·subst hbe;exact heo
 ·exact ⟨u,k b u hbe q⟩
end
def trk (h:KC)(H:Hp):List Kd:=(Ki h.objs.size).filter fun a=>(H a).isSome
def hidT (h:KC)(H:Hp):KC:=PySem.W.hideAll h (trk h H)
theorem wK (h:KC)(H:Hp):(hidT h H).objs.size=h.objs.size:=PySem.W.hideAll_size _ _
theorem qac {h:KC}{H:Hp}{b:Kd}{o:Obj}(e:h.get? b=some o)(n:H b=none):(hidT h H).get? b=some o :=
 PySem.W.hideAll_get _ e fun hm=>by
  have q:(H b).isSome=true:=(XX.mp hm).2
  rw [n] at q;simp at q
theorem qbI {h:KC}{H:Hp}{b:Kd}{o:Obj}(e:(hidT h H).get? b=some o):h.get? b=some o/\H b=none:=by
 have e':h.get? b=some o:=PySem.W.of_hideAll (trk h H) e
 refine ⟨e',?_⟩
 cases q:H b with
 | none=>rfl
 | some x =>
  have hm:b∈trk h H:=XX.mpr ⟨Uj.mpr (Ks e'),by simp [q]⟩
  have z:(hidT h H).get? b=none:=PySem.W.hideAll_none (trk h H) hm
  rw [z] at e;cases e
structure Mod (K:Kb)(mg:ar)(base:KC):Prop where
 kin:K.In base
 glob:base.Ns mainGlobals mg
 blt:∃ mb,base.Ns builtinsNs mb/\∀ x:Str,x ≠ "__name__"->mb x=bootBuiltins x
 nolimit:base.NoLimit
structure Cx where
 prog:Kw
 w:KB
 K:Kb
 mg:Str->Option Kc
 base:KC
 A:KG
 N:List Str
 s₀:Ke
 H₀:Hp
 env:Env
 outer:List Env
 stack:List Env
 ex:List Kd
 fn:Str->Bool
 calm:Bool
 pn:List (Kd×Obj)
 xe:Kc->Ke->Prop
def frs (l:aX):List Kd:=l.filterMap (·.frame)
abbrev Cx.fs (X:Cx):List Kd:=frs X.outer
def Vis (sc:K1)(x:Str):Prop:=sc.names.lookup x=some .local\/sc.names.lookup x=some .cell\/sc.names.lookup x=some .free
def Loc (sc:K1)(x:Str):Prop:=sc.names.lookup x=some .local\/sc.names.lookup x=some .cell
def Look (env:Env)(h:KC)(m:ar)(x:Str)(u:Kc):Prop :=
 (env.kindOf x=some .local/\m x=some u)\/((env.kindOf x=some .cell\/env.kindOf x=some .free)/\∃ c,env.cells.lookup x=some c/\h.IsCell c (some u))
structure Cx.Ok (X:Cx):Prop where
 mod:Mod X.K X.mg X.base
 kind:X.env.scope.kind=.function
 glob:X.env.globals=mainGlobals
 blt:X.env.builtins=builtinsNs
 above:X.s₀.heap.objs.size<=X.env.locals
 inj:∀ x y c,X.env.cells.lookup x=some c->X.env.cells.lookup y=some c->x=y
 has:∀ x,(X.env.kindOf x=some .cell\/X.env.kindOf x=some .free)->∃ c,X.env.cells.lookup x=some c
 cab:∀ x c,X.fn x=true->X.env.cells.lookup x=some c->X.s₀.heap.objs.size<=c
 hd:X.calm=true->X.A.handled=none
 frames:X.A.frames=some X.stack
 stk:X.stack=X.outer\/(X.stack=X.env::X.outer/\X.env.frame=some X.env.locals)
 exf:∀ b∈X.ex,b≠X.env.locals/\∀ x c,X.env.cells.lookup x=some c->c≠b
 bs:∀ b o,X.base.get? b=some o->X.s₀.heap.get? b=some o/\X.H₀ b=none
 bsz:X.base.objs.size<=X.s₀.heap.objs.size
 noex:∀ b o,X.base.get? b=some o->b∉X.ex
 exfs:∀ b∈X.ex,b∉X.fs
 funs:X.s₀.heap.FunFrames X.base X.outer
 frf:∀ b∈X.fs,X.H₀ b=none
structure Inv (X:Cx)(pins:af)(σ:List (Option V))(H:Hp)(s:Ke):Prop where
 ok:X.Ok
 os:s.os=X.s₀.os
 bare:U2 s.gens
 base:Un X.fs X.ex X.H₀ H X.s₀.heap s.heap
 loc:∃ m,s.heap.Ns X.env.locals m/\∀ (i:Nat) (x:Str) (v:V),X.N[i]?=some x->σ[i]?=some (some v)->Vis X.env.scope x->∃ u,RelV v u/\Look X.env s.heap m x u
 cell:∀ x c,X.env.cells.lookup x=some c->∃ v,s.heap.IsCell c v
 free:H X.env.locals=none
 freeC:∀ x c,X.env.cells.lookup x=some c->H c=none
 pin:∀ p∈X.pn++pins,s.heap.get? p.1=some p.2/\H p.1=none/\p.1≠X.env.locals/\p.1∉X.fs/\∀ v,p.2.data≠.cell v
 hok:HOk X.prog X.w H s.heap
 len:σ.length=X.N.length
section
variable {X:Cx}{pins:af}{σ:List (Option V)}{H H':Hp}{s:Ke}{h':KC}
theorem Cx.Ok.nofr (ok:X.Ok){b:Kd}{o:Obj}(e:X.base.get? b=some o):b∉X.fs:=fun hb=>by
 have:=(ok.funs.mem hb).1
 rw [e] at this;cases this
theorem Inv.bs (I:Inv X pins σ H s):∀ b o,X.base.get? b=some o->s.heap.get? b=some o/\H b=none:=fun b o e =>
 ⟨I.base.keep b o (I.ok.bs b o e).1 (I.ok.bs b o e).2 (I.ok.nofr e) (I.ok.noex b o e),I.base.free b o (I.ok.bs b o e).1 (I.ok.bs b o e).2 (I.ok.noex b o e)⟩
theorem Inv.bk (I:Inv X pins σ H s):∀ b o,X.base.get? b=some o->s.heap.get? b=some o:=fun b o e=>(I.bs b o e).1
theorem Inv.mod (I:Inv X pins σ H s):Mod X.K X.mg X.base:=I.ok.mod
theorem Inv.kIn (I:Inv X pins σ H s):X.K.In s.heap:=I.ok.mod.kin.keeps I.bk
theorem Inv.lt (I:Inv X pins σ H s):X.env.locals<s.heap.objs.size:=let ⟨_,hn,_⟩:=I.loc;hn.lt
theorem Inv.sz (I:Inv X pins σ H s):X.s₀.heap.objs.size<=s.heap.objs.size:=KO I.ok.above (Vu I.lt)
theorem Inv.nofs (I:Inv X pins σ H s){a:Kd}(h:s.heap.objs.size<=a):a∉X.fs:=fun hb=>by
 obtain ⟨_,o,ho,_⟩:=I.ok.funs.mem hb
 exact absurd (KD (Ks ho) (KO I.sz h)) (Vt _)
theorem Inv.cne (I:Inv X pins σ H s):∀ x c,X.env.cells.lookup x=some c->c≠X.env.locals:=fun x c e z=>by
 obtain ⟨v,o,ho,hd⟩:=I.cell x c e
 obtain ⟨m,⟨o',es,ep,ho',hd',_⟩,_⟩:=I.loc
 rw [z,ho'] at ho;cases ho;rw [hd'] at hd;cases hd
theorem Inv.funs (I:Inv X pins σ H s):s.heap.FunFrames X.base X.outer:=by
 have all:∀ (l:aX),(∀ b∈frs l,b∈X.fs)->X.s₀.heap.FunFrames X.base l->s.heap.FunFrames X.base l:=by
  intro l
  induction l with
  | nil=>intro _ _;trivial
  | cons env r ih =>
   intro hs hl
   obtain ⟨hk,⟨L,o,hf,hn,ho,hd⟩,hr⟩:=hl
   have hL:L∈X.fs:=hs L (by unfold frs;rw [Xm,hf];exact K0)
   obtain ⟨sl,e⟩:=I.base.slot L o ho (I.ok.frf L hL) hL fun z=>I.ok.exfs L z hL
   exact ⟨hk,⟨L,_,hf,hn,e,hd⟩,ih (fun b hb=>hs b (by unfold frs;rw [Xm,hf];exact KW _ hb)) hr⟩
 exact all X.outer (fun _ hb=>hb) I.ok.funs
theorem Inv.stack (I:Inv X pins σ H s):s.heap.FunFrames X.base X.stack:=by
 rcases I.ok.stk with e|⟨e,hf⟩
 ·rw [e];exact I.funs
 ·rw [e]
  obtain ⟨m,hn,_⟩:=I.loc
  refine .cons (by rw [I.ok.kind];decide) hf hn ?_ I.funs
  exact Heap.get?_none_of_le (KO I.ok.bsz I.ok.above)
theorem Inv.stkSub (I:Inv X pins σ H s):∀ b∈frs X.stack,b∈X.env.locals::X.fs:=fun b hb=>by
 rcases I.ok.stk with e|⟨e,hf⟩
 ·rw [e] at hb;exact KW _ hb
 ·rw [e] at hb
  unfold frs at hb
  rw [Xm,hf] at hb
  exact hb
theorem Inv.stkFree (I:Inv X pins σ H s):∀ b∈frs X.stack,H b=none:=fun b hb=>by
 rcases Kr.mp (I.stkSub b hb) with e|hb
 ·rw [e];exact I.free
 ·obtain ⟨_,o,ho,_⟩:=I.ok.funs.mem hb
  exact I.base.free b o ho (I.ok.frf b hb) fun z=>I.ok.exfs b z hb
theorem Inv.step {g':Array GenState}{t':Nat}{d':Drawn}{ch:ay}(I:Inv X pins σ H s)
  (hch:∀ b∈ch,(b∈X.ex\/X.s₀.heap.objs.size<=b)/\b≠X.env.locals/\(∀ x c,X.env.cells.lookup x=some c->c≠b)/\∀ p∈X.pn++pins,p.1≠b)
  (keep:∀ b o,b≠X.env.locals->b∉X.fs->b∉ch->s.heap.get? b=some o->H b=none->h'.get? b=some o)
  (slot:∀ b o,b≠X.env.locals->b∈X.fs->b∉ch->s.heap.get? b=some o->H b=none->∃ sl,h'.get? b=some { o with slots:=sl }) (free:∀ b o,b∉ch->s.heap.get? b=some o->H b=none->H' b=none)
  (there:∀ b o,b∉ch->s.heap.get? b=some o->∃ o',h'.get? b=some o')
  (tups:∀ b xs,H b=some (.tup xs)->H' b=some (.tup xs)) (frzs:∀ b o u,H b=some (.frz o u)->H' b=some (.frz o u)) (tbls:∀ b ps,H b=some (.tbl ps)->∃ more,H' b=some (.tbl (ps++more)))
  (ns:∀ m,s.heap.Ns X.env.locals m->h'.Ns X.env.locals m) (hok:HOk X.prog X.w H' h') (hg:U2 g') :
  Inv X pins σ H' { s with heap:=h',gens:=g',drawn:=d',toks:=t' }:=by
 have neL:∀ b o,X.s₀.heap.get? b=some o->b≠X.env.locals:=fun b o e=>KA (KD (Ks e) I.ok.above)
 have neC:∀ b o,X.s₀.heap.get? b=some o->b∉X.ex->b∉ch:=fun b o e hx hb=>by
  rcases (hch b hb).1 with z|z
  ·exact hx z
  ·exact absurd (KD (Ks e) z) (Vt _)
 have cellK:∀ x c,X.env.cells.lookup x=some c->∀ v,s.heap.IsCell c v->h'.IsCell c v:=fun x c e v ⟨o,ho,hd⟩=>by
  have nch:c∉ch:=fun z=>(hch c z).2.2.1 x c e rfl
  by_cases hc:c∈X.fs
  ·obtain ⟨sl,q⟩:=slot c o (I.cne x c e) hc nch ho (I.freeC x c e)
   exact ⟨_,q,hd⟩
  ·exact ⟨o,keep c o (I.cne x c e) hc nch ho (I.freeC x c e),hd⟩
 refine ⟨I.ok,I.os,hg,⟨fun b o e n hb hx=>?_,fun b o e n hb hx=>?_,fun b o e n hx=>?_,fun b o e hx=>?_,fun b xs e=>tups b xs (I.base.tups b xs e),fun b o xs e=>frzs b o xs (I.base.frzs b o xs e),fun b ps e=>?_⟩,?_,fun x c e=>?_,?_,fun x c e=>?_,fun p hp=>?_,hok,I.len⟩
 ·exact keep b o (neL b o e) hb (neC b o e hx) (I.base.keep b o e n hb hx) (I.base.free b o e n hx)
 ·obtain ⟨sl,e1⟩:=I.base.slot b o e n hb hx
  obtain ⟨sl',e2⟩:=slot b _ (neL b o e) hb (neC b o e hx) e1 (I.base.free b o e n hx)
  exact ⟨sl',e2⟩
 ·obtain ⟨o',e1⟩:=I.base.there b o e hx
  exact free b o' (neC b o e hx) e1 (I.base.free b o e n hx)
 ·obtain ⟨o',e1⟩:=I.base.there b o e hx
  exact there b o' (neC b o e hx) e1
 ·obtain ⟨m1,e1⟩:=I.base.tbls b ps e
  obtain ⟨m2,e2⟩:=tbls b _ e1
  exact ⟨m1++m2,by rw [e2,Array.append_assoc]⟩
 ·obtain ⟨m,hn,hl⟩:=I.loc
  refine ⟨m,ns m hn,fun i x v e1 e2 e3=>?_⟩
  obtain ⟨u,r,l⟩:=hl i x v e1 e2 e3
  refine ⟨u,r,?_⟩
  rcases l with l|⟨k,c,e,z⟩
  ·exact .inl l
  ·exact .inr ⟨k,c,e,cellK x c e _ z⟩
 ·obtain ⟨v,z⟩:=I.cell x c e
  exact ⟨v,cellK x c e v z⟩
 ·obtain ⟨m,⟨o,_,_,ho,_⟩,_⟩:=I.loc
  exact free _ o (fun z=>(hch _ z).2.1 rfl) ho I.free
 ·obtain ⟨v,o,ho,hd⟩:=I.cell x c e
  exact free c o (fun z=>(hch c z).2.2.1 x c e rfl) ho (I.freeC x c e)
 ·obtain ⟨e,n,ne,nf,d⟩:=I.pin p hp
  have nch:p.1∉ch:=fun z=>(hch p.1 z).2.2.2 p hp rfl
  exact ⟨keep p.1 p.2 ne nf nch e n,free p.1 p.2 nch e n,ne,nf,d⟩
theorem Inv.un {t':Nat}(I:Inv X pins σ H s)(u:Un X.fs [] H H' s.heap h')(hok:HOk X.prog X.w H' h'):Inv X pins σ H' { s with heap:=h',toks:=t' }:=by
 obtain ⟨m,⟨o,es,ep,ho,r⟩,_⟩:=id I.loc
 obtain ⟨sl,hL⟩:=u.any ho I.free (by simp)
 exact I.step (g':=s.gens) (d':=s.drawn) (ch:=[]) (fun _ z=>nomatch z) (fun b o _ hb _ e n=>u.keep b o e n hb (by simp)) (fun b o _ hb _ e n=>u.slot b o e n hb (by simp)) (fun b o _ e n=>u.free b o e n (by simp)) (fun b o _ e=>u.there b o e (by simp)) u.tups u.frzs u.tbls (fun m' hm=>by
  obtain ⟨o',es',ep',ho',r'⟩:=hm
  rw [ho] at ho';cases ho'
  exact ⟨_,es',ep',hL,r'⟩) hok I.bare
theorem Inv.call {g':Array GenState}{t':Nat}{d':Drawn}{ch:ay}(I:Inv X pins σ H s)(u:Un (frs X.stack) ch H H' s.heap h')(hok:HOk X.prog X.w H' h')(hg:U2 g')
  (hch:∀ b∈ch,(b∈X.ex\/X.s₀.heap.objs.size<=b)/\b≠X.env.locals/\(∀ x c,X.env.cells.lookup x=some c->c≠b)/\∀ p∈X.pn++pins,p.1≠b) :
  Inv X pins σ H' { s with heap:=h',gens:=g',drawn:=d',toks:=t' }:=by
 obtain ⟨m,⟨o,es,ep,ho,r⟩,_⟩:=id I.loc
 obtain ⟨sl,hL⟩:=u.any ho I.free fun z=>(hch _ z).2.1 rfl
 exact I.step (ch:=ch) hch (fun b o hL hb hc e n=>u.keep b o e n (fun z=>(Kr.mp (I.stkSub b z)).elim hL hb) hc) (fun b o _ _ hc e n=>u.any e n hc) (fun b o hc e n=>u.free b o e n hc) (fun b o hc e=>u.there b o e hc) u.tups u.frzs u.tbls (fun m' hm=>by
  obtain ⟨o',es',ep',ho',r'⟩:=hm
  rw [ho] at ho';cases ho'
  exact ⟨_,es',ep',hL,r'⟩) hok hg
theorem Inv.turned {t':Nat}{it:Kd}(I:Inv X pins σ H s)(k:∀ b o,b≠it->s.heap.get? b=some o->h'.get? b=some o)(hn:H it=none)(hL:it≠X.env.locals)
  (h1:it∈X.ex\/X.s₀.heap.objs.size<=it) (h2:∀ x c,X.env.cells.lookup x=some c->c≠it) (h3:∀ p∈X.pn++pins,p.1≠it):Inv X pins σ H { s with heap:=h',toks:=t' }:=by
 have nit:∀ b u,H b=some u->b≠it:=fun b u e z=>by rw [z,hn] at e;cases e
 refine I.step (g':=s.gens) (d':=s.drawn) (ch:=[it]) (fun b hb=>?_) (fun b o _ _ hc e _=>k b o (fun z=>hc (by simp [z])) e) (fun b o _ _ hc e _=>⟨o.slots,k b o (fun z=>hc (by simp [z])) e⟩) (fun _ _ _ _ n=>n)
  (fun b o hc e=>⟨o,k b o (fun z=>hc (by simp [z])) e⟩) (fun _ _ e=>e) (fun _ _ _ e=>e) (fun b ps e=>⟨#[],by rw [e];simp⟩) (fun m hm=>?_) (fun b u e=>?_) I.bare
 ·have e:b=it:=by simpa using hb
  subst e
  exact ⟨h1,hL,h2,h3⟩
 ·obtain ⟨o,es,ep,ho,r⟩:=hm
  exact ⟨o,es,ep,k _ o (KP hL) ho,r⟩
 ·refine (I.hok b u e).stay (fun c v hc q=>k c v ?_ q) (fun _ q=>q) fun _ _ q=>q
  rcases hc with z|z
  ·rw [z];exact nit b u e
  ·exact nit c _ z
theorem Inv.tok (I:Inv X pins σ H s)(t:Nat):Inv X pins σ H { s with toks:=t }:=I.un (h':=s.heap) (t':=t) Un.refl I.hok
theorem Inv.kept {t':Nat}(I:Inv X pins σ H s)(k:∀ b u,s.heap.get? b=some u->h'.get? b=some u):Inv X pins σ H { s with heap:=h',toks:=t' }:=I.un (Un.kept k) (I.hok.kept k)
theorem Inv.laid {a:Kd}{o:HO}{t':Nat}(I:Inv X pins σ H s)(k:∀ b u,s.heap.get? b=some u->h'.get? b=some u)(hp:s.heap.objs.size<=a)(new:q8 X.prog X.w (upd H a o) h' a o) :
  Inv X pins σ (upd H a o) { s with heap:=h',toks:=t' }:=I.un (Un.laid k hp (I.hok.fresh hp)) (I.hok.laid k hp new)
theorem Inv.write {x e:Kd}{o:HO}{t':Nat}(I:Inv X pins σ H s)(mu:Mut (H x))(he:e=x\/H e=some (.own x))(k:∀ b u,b≠e->s.heap.get? b=some u->h'.get? b=some u)(heo:∃ u,h'.get? e=some u)
  (new:q8 X.prog X.w (upd H x o) h' x o):Inv X pins σ (upd H x o) { s with heap:=h',toks:=t' }:=I.un (Un.write mu he k heo) (I.hok.write mu he k heo new)
theorem Inv.pins_of {pins':af}(I:Inv X pins σ H s)(h:∀ p∈pins',s.heap.get? p.1=some p.2/\H p.1=none/\p.1≠X.env.locals/\p.1∉X.fs/\∀ v,p.2.data≠.cell v):Inv X pins' σ H s :=
 ⟨I.ok,I.os,I.bare,I.base,I.loc,I.cell,I.free,I.freeC,fun p hp=>(Vo.mp hp).elim (fun z=>I.pin p (Uc _ z)) (h p),I.hok,I.len⟩
theorem yf {N:az}(hN:N.Nodup){i j:Nat}{x:Str}(a:N[i]?=some x)(b:N[j]?=some x):i=j:=by
 obtain ⟨h1,e1⟩:=KQ.mp a
 obtain ⟨h2,e2⟩:=KQ.mp b
 exact (List.getElem_inj hN).mp (e1.trans e2.symm)
theorem j9 {M:Model}{A:KG}{E:ak}{i:Nat}{x:Str}{v:V}{u:Kc}{Q:Unit->Ke->Prop}(I:Inv X pins σ H s)(hN:X.N.Nodup)(hi:X.N[i]?=some x)(hx:Loc X.env.scope x)(r:RelV v u)
  (h:∀ s',Inv X pins (σ.set i (some v)) H s'->(∃ a,Heap.SameBut a s.heap s'.heap/\(a=X.env.locals\/X.env.cells.lookup x=some a))->Q () s') (hf:X.fn x=true\/X.env.scope.names.lookup x=some .local:=by first|exact .inl rfl|exact .inr rfl|assumption):wpAny M A (storeName X.env x u) Q E s:=by
 obtain ⟨m,hn,hl⟩:=id I.loc
 have hcls:(X.env.scope.kind==.class||(X.env.scope.kind==.module&&X.env.locals != X.env.globals))=false:=by rw [I.ok.kind];rfl
 have hiσ:i<σ.length:=by rw [I.len];exact (KQ.mp hi).1
 have cne:=I.cne
 have tracked:∀ {a:Kd} {h':KC},(∃ o,s.heap.get? a=some o/\H a=none)->Heap.SameBut a s.heap h'->HOk X.prog X.w H h':=fun {a h'} ha hs b ob e=>by
  obtain ⟨_,_,hfree⟩:=ha
  refine (I.hok b ob e).stay (fun c w' hc q=>(hs.2 c ?_).trans q) (fun _ q=>q) fun _ _ q=>q
  rintro rfl
  rcases hc with rfl|hc
  ·rw [hfree] at e;cases e
  ·rw [hfree] at hc;cases hc
 rcases hx with hk|hk
 ·refine wpAny_storeName_local hk hn (fun h' hn' hs=>?_) hcls
  obtain ⟨oL,_,_,hoL,_⟩:=id hn
  refine h _ ⟨I.ok,I.os,I.bare,⟨fun b o e n hb hx=>?_,fun b o e n hb hx=>?_,I.base.free,fun b o e hx=>?_,I.base.tups,I.base.frzs,I.base.tbls⟩,⟨_,hn',fun j y v' e1 e2 e3=>?_⟩,fun y c e=>?_,I.free,I.freeC,fun p hp=>?_,tracked ⟨oL,hoL,I.free⟩ hs,by simpa using I.len⟩ ⟨_,hs,.inl rfl⟩
  ·exact (hs.2 b (KA (KD (Ks e) I.ok.above))).trans (I.base.keep b o e n hb hx)
  ·obtain ⟨sl,e1⟩:=I.base.slot b o e n hb hx
   exact ⟨sl,(hs.2 b (KA (KD (Ks e) I.ok.above))).trans e1⟩
  ·obtain ⟨o',e1⟩:=I.base.there b o e hx
   exact ⟨o',(hs.2 b (KA (KD (Ks e) I.ok.above))).trans e1⟩
  ·by_cases hj:j=i
   ·subst hj
    rw [hi] at e1;cases e1
    rw [KY hiσ] at e2
    cases e2
    exact ⟨u,r,.inl ⟨hk,by simp⟩⟩
   ·rw [Ud (KP hj)] at e2
    obtain ⟨u',r',q⟩:=hl j y v' e1 e2 e3
    refine ⟨u',r',?_⟩
    rcases q with ⟨k,e⟩|⟨k,c,e,z⟩
    ·refine .inl ⟨k,?_⟩
     have:y≠x:=fun e=>hj (yf hN e1 (e ▸ hi))
     simp [this,e]
    ·exact .inr ⟨k,c,e,z.sameBut hs (cne y c e)⟩
  ·obtain ⟨w',z⟩:=I.cell y c e
   exact ⟨w',z.sameBut hs (cne y c e)⟩
  ·obtain ⟨e,n,ne,nf,d⟩:=I.pin p hp
   exact ⟨(hs.2 p.1 ne).trans e,n,ne,nf,d⟩
 ·have hfn:X.fn x=true:=by
   rcases hf with z|z
   ·exact z
   ·rw [z] at hk;cases hk
  obtain ⟨c,hc⟩:=I.ok.has x (.inl hk)
  obtain ⟨w',z⟩:=I.cell x c hc
  refine wpAny_storeName_cell I.ok.kind hk hc z (fun h' hc' hs=>?_)
  obtain ⟨oc,hoc,hocd⟩:=id z
  refine h { s with heap:=h' } ⟨I.ok,I.os,I.bare,⟨fun b o e n hb hx=>?_,fun b o e n hb hx=>?_,I.base.free,fun b o e hx=>?_,I.base.tups,I.base.frzs,I.base.tbls⟩,⟨m,hn.sameBut hs (KP (cne x c hc)),fun j y v' e1 e2 e3=>?_⟩,fun y c' e=>?_,I.free,I.freeC,fun p hp=>?_,tracked ⟨oc,hoc,I.freeC x c hc⟩ hs,by simpa using I.len⟩ ⟨c,hs,.inr hc⟩
  ·exact (hs.2 b (KA (KD (Ks e) (I.ok.cab x c hfn hc)))).trans (I.base.keep b o e n hb hx)
  ·obtain ⟨sl,e1⟩:=I.base.slot b o e n hb hx
   exact ⟨sl,(hs.2 b (KA (KD (Ks e) (I.ok.cab x c hfn hc)))).trans e1⟩
  ·obtain ⟨o',e1⟩:=I.base.there b o e hx
   exact ⟨o',(hs.2 b (KA (KD (Ks e) (I.ok.cab x c hfn hc)))).trans e1⟩
  ·by_cases hj:j=i
   ·subst hj
    rw [hi] at e1;cases e1
    rw [KY hiσ] at e2
    cases e2
    exact ⟨u,r,.inr ⟨.inl hk,c,hc,hc'⟩⟩
   ·rw [Ud (KP hj)] at e2
    obtain ⟨u',r',q⟩:=hl j y v' e1 e2 e3
    refine ⟨u',r',?_⟩
    rcases q with q|⟨k,c',e,z'⟩
    ·exact .inl q
    ·refine .inr ⟨k,c',e,z'.sameBut hs ?_⟩
     rintro rfl
     exact hj (yf hN e1 (I.ok.inj _ _ _ e hc ▸ hi))
  ·by_cases hcc:c'=c
   ·subst hcc;exact ⟨_,hc'⟩
   ·obtain ⟨w2,z2⟩:=I.cell y c' e
    exact ⟨w2,z2.sameBut hs hcc⟩
  ·obtain ⟨e,n,ne,nf,d⟩:=I.pin p hp
   refine ⟨(hs.2 p.1 ?_).trans e,n,ne,nf,d⟩
   intro q
   rw [q,hoc] at e
   have q':oc=p.2:=K3 e
   exact d w' (by rw [← q'];exact hocd)
theorem yx {M:Model}{A:KG}{E:ak}{i:Nat}{x:Str}{v:V}{u:Kc}{Q:Unit->Ke->Prop}(I:Inv X pins σ H s)(hN:X.N.Nodup)(hi:X.N[i]?=some x)(hx:Loc X.env.scope x)(r:RelV v u)
  (h:∀ s',Inv X pins (σ.set i (some v)) H s'->Q () s') (hf:X.fn x=true\/X.env.scope.names.lookup x=some .local:=by first|exact .inl rfl|exact .inr rfl|assumption):wpAny M A (storeName X.env x u) Q E s :=
 j9 I hN hi hx r (fun s' I' _=>h s' I') hf
theorem Inv.call' {s':Ke}{ch:ay}(I:Inv X pins σ H s)(ho:s'.os=s.os)(u:Un (frs X.stack) ch H H' s.heap s'.heap)(hok:HOk X.prog X.w H' s'.heap)(hg:U2 s'.gens)
  (hch:∀ b∈ch,(b∈X.ex\/X.s₀.heap.objs.size<=b)/\b≠X.env.locals/\(∀ x c,X.env.cells.lookup x=some c->c≠b)/\∀ p∈X.pn++pins,p.1≠b):Inv X pins σ H' s':=by
 obtain ⟨h',g',d',t',o'⟩:=s'
 have e:o'=s.os:=ho
 subst e
 exact I.call (g':=g') (t':=t') (d':=d') u hok hg hch
end
abbrev XK:=Kc->Option Kd->Hp->Prop
noncomputable abbrev St:=List (Option V)
abbrev VK:=V->Hp->Prop
abbrev aZ:=List V->Hp->VK->Prop
abbrev aW:=V->List V->Hp->VK->Prop
abbrev aJ:=V->Option Int->Option Int->Hp->VK->Prop
abbrev TE:=St->Hp->VK->Prop
abbrev TT:=St->Hp->(Bool->Hp->Prop)->Prop
abbrev TA:=St->Hp->(List V->Hp->Prop)->Prop
structure Ends where
 nx:St->Hp->Prop
 rt:VK
 bk:St->Hp->Prop:=fun _ _=>False
 ct:St->Hp->Prop:=fun _ _=>False
abbrev TS:=Ends->St->Hp->Prop
def EP (X:Cx)(pins:af)(σ:St)(Q:VK)(u:Kc)(s':Ke):Prop:=∃ v H',Inv X pins σ H' s'/\RelV v u/\Q v H'
def TP (X:Cx)(pins:af)(σ:St)(Q:Bool->Hp->Prop)(b:Bool)(s':Ke):Prop:=∃ H',Inv X pins σ H' s'/\Q b H'
def AP (X:Cx)(pins:af)(σ:St)(Q:List V->Hp->Prop)(us:aw)(s':Ke):Prop:=∃ vs H',Inv X pins σ H' s'/\Vals vs us/\Q vs H'
def SP (X:Cx)(pins:af)(D:Ends)(f:Flow)(s':Ke):Prop :=
 match f with
 | .next=>∃ σ' H',Inv X pins σ' H' s'/\D.nx σ' H'
 | .brk=>∃ σ' H',Inv X pins σ' H' s'/\D.bk σ' H'
 | .cont=>∃ σ' H',Inv X pins σ' H' s'/\D.ct σ' H'
 | .ret u=>∃ v σ' H',Inv X pins σ' H' s'/\RelV v u/\D.rt v H'
def PE (X:Cx)(e:Kp)(t:TE):Prop :=
 ∀ (pins:af) (s:Ke) (σ:St) (H:Hp) (Q:VK),Inv X pins σ H s->t σ H Q->wpAny (model X.prog X.w) X.A (eval e X.env) (EP X pins σ Q) X.xe s
def PT (X:Cx)(e:Kp)(t:TT):Prop :=
 ∀ (pins:af) (s:Ke) (σ:St) (H:Hp) (Q:Bool->Hp->Prop),Inv X pins σ H s->t σ H Q->wpAny (model X.prog X.w) X.A (isTrue e X.env (eval e X.env)) (TP X pins σ Q) X.xe s
def PW (X:Cx)(e:Kp)(t:TT):Prop :=
 ∀ (whole:Sem Kc) (pins:af) (s:Ke) (σ:St) (H:Hp) (Q:Bool->Hp->Prop),Inv X pins σ H s->t σ H Q->wpAny (model X.prog X.w) X.A (isTrue e X.env whole) (TP X pins σ Q) X.xe s
theorem PW.pt {X:Cx}{e:Kp}{t:TT}(h:PW X e t):PT X e t:=h _
def PA (X:Cx)(es:aG)(t:TA):Prop :=
 ∀ (pos:Pos) (pins:af) (s:Ke) (σ:St) (H:Hp) (Q:List V->Hp->Prop),Inv X pins σ H s->t σ H Q->wpAny (model X.prog X.w) X.A (spliced (backTo pos (starEach es X.env))) (AP X pins σ Q) X.xe s
def PS (X:Cx)(st:Va)(t:TS):Prop :=
 ∀ (pins:af) (s:Ke) (σ:St) (H:Hp) (D:Ends),Inv X pins σ H s->t D σ H->wpAny (model X.prog X.w) X.A (exec st X.env) (SP X pins D) X.xe s
def PSs (X:Cx)(st:bc)(t:TS):Prop :=
 ∀ (pins:af) (s:Ke) (σ:St) (H:Hp) (D:Ends),Inv X pins σ H s->t D σ H->wpAny (model X.prog X.w) X.A (execs st X.env) (SP X pins D) X.xe s
theorem thn {α:Type}{t:Sem α}{Q Q':α->Ke->Prop}{M:Model}{A:KG}{E:ak}{s:Ke}(h:wpAny M A t Q E s)(hQ:∀ a s,Q a s->Q' a s):wpAny M A t Q' E s:=VO h hQ fun _ _ x=>x
section
variable {X:Cx}
def tVar (i:Nat):TE:=fun σ H Q=>∃ v,σ[i]?=some (some v)/\Q v H
def tC (v:V):TE:=fun _ H Q=>Q v H
theorem qaF {i:Nat}{x:Str}{pos:Pos}(hN:X.N[i]?=some x)(hv:Vis X.env.scope x)(hd:(x==("__debug__" : Str))=false:=by decide)(hcd:(x==("__classdict__" : Str))=false:=by decide):PE X (.Name x pos) (tVar i):=by
 intro pins s σ H Q I h
 obtain ⟨v,e,h⟩:=h
 obtain ⟨m,hn,hl⟩:=I.loc
 obtain ⟨u,r,l⟩:=hl i x v hN e hv
 have fin:EP X pins σ Q u s:=⟨v,H,I,r,h⟩
 rcases l with ⟨hk,hm⟩|⟨hk,c,hc,hcell⟩
 ·exact wpAny_Name (wpAny_loadName_local I.ok.kind hk hn hm fin) hd
 ·rcases hk with hk|hk
  ·exact wpAny_Name (wpAny_loadName_cell I.ok.kind hk hc hcell fin) hd
  ·exact wpAny_Name (wpAny_loadName_free I.ok.kind hk hc hcell fin hcd) hd
theorem qdr {i j pos}:PE X (.Constant (.int i) j pos) (tC (.int i)):=fun _ _ _ H _ I h=>wpAny_Constant_int ⟨.int i,H,I.tok _,⟨_,rfl⟩,h⟩
theorem pe_bl {b j pos}:PE X (.Constant (.bool b) j pos) (tC (.bl b)):=fun _ _ _ H _ I h=>Constant_bool ⟨.bl b,H,I,rfl,h⟩
def Gl (X:Cx)(x:Str):Prop:=X.env.kindOf x=some .globalImplicit
theorem qbA {E:ak}{pins:af}{s:Ke}{σ:St}{H:Hp}{x:Str}{u:Kc}{pos:Pos}{Q:ak}(I:Inv X pins σ H s)(hg:Gl X x)(hm:X.mg x=some u)(h:Q u s)
  (hd:(x==("__debug__" : Str))=false:=by decide):wpAny (model X.prog X.w) X.A (eval (.Name x pos) X.env) Q E s :=
 Calls.Name_function_global I.ok.kind hg (Calls.loadGlobal_global (by rw [I.ok.glob];exact I.mod.glob.keeps I.bk) hm h) hd
theorem Qq {E:ak}{pins:af}{s:Ke}{σ:St}{H:Hp}{x:Str}{u:Kc}{pos:Pos}{Q:ak}(I:Inv X pins σ H s)(hg:Gl X x)(hm:X.mg x=none)(hv:bootBuiltins x=some u)(h:Q u s)
  (hn:x ≠ "__name__" := by decide) (hd:(x==("__debug__" : Str))=false:=by decide):wpAny (model X.prog X.w) X.A (eval (.Name x pos) X.env) Q E s:=by
 obtain ⟨mb,h1,h2⟩:=I.mod.blt
 exact Calls.Name_function_global I.ok.kind hg (Calls.loadGlobal_builtin (by rw [I.ok.glob];exact I.mod.glob.keeps I.bk) hm (by rw [I.ok.blt];exact h1.keeps I.bk) ((h2 x hn).trans hv) h) hd
theorem qbX {x:Str}{v:V}{u:Kc}{pos:Pos}(hg:Gl X x)(hm:X.mg x=none)(hv:bootBuiltins x=some u)(r:RelV v u)(hn:x ≠ "__name__" := by decide)(hd:(x==("__debug__" : Str))=false:=by decide):PE X (.Name x pos) (tC v) :=
 fun _ _ _ H _ I h=>Qq I hg hm hv ⟨v,H,I,r,h⟩ hn hd
variable {a b:Kp}{ta tb:TE}{pos:Pos}
def tB (t:TE):TT:=fun σ H Q=>t σ H fun x H1=>∃ c,x=.bl c/\Q c H1
theorem qdC {e:Kp}{t:TE}(h:PE X e t)(he:∀ whole,isTrue e X.env whole=(do let v ← whole;standAt e.pos;holding [v] (truthy v)):=by intro _;rfl):PT X e (tB t):=by
 intro pins s σ H Q I hw
 refine isTrue_plain (thn (h pins s σ H _ I hw) fun v s1 ⟨x,H1,I1,r1,q1⟩=>?_) (he _)
 obtain ⟨d,rfl,q⟩:=q1
 cases r1
 exact VQ ⟨H1,I1,q⟩
variable {tA tB':TT}{rest:aG}
def tAnd (t u:TT):TT:=fun σ H Q=>t σ H fun c H1=>if c=true then u σ H1 Q else Q false H1
def tOr (t u:TT):TT:=fun σ H Q=>t σ H fun c H1=>if c=true then Q true H1 else u σ H1 Q
def tNot (t:TT):TT:=fun σ H Q=>t σ H fun c H1=>Q (!c) H1
theorem qcc (ha:PT X a tA):PW X (.BoolOp .And [a] pos) tA:=by
 intro wh pins s σ H Q I h
 refine isTrue_and (thn (ha pins s σ H Q I h) fun c s1 e=>?_)
 cases c with
 | true=>exact isTrue_and_nil e
 | false=>exact e
theorem qdE (ha:PT X a tA):PW X (.BoolOp .Or [a] pos) tA:=by
 intro wh pins s σ H Q I h
 refine isTrue_or (thn (ha pins s σ H Q I h) fun c s1 e=>?_)
 cases c with
 | false=>exact isTrue_or_nil e
 | true=>exact e
theorem qdD (ha:PT X a tA)(hb:PW X (.BoolOp .And (b::rest) pos) tB'):PW X (.BoolOp .And (a::b::rest) pos) (tAnd tA tB'):=by
 intro wh pins s σ H Q I h
 refine isTrue_and (thn (ha pins s σ H _ I h) fun c s1 ⟨H1,I1,q1⟩=>?_)
 cases c with
 | true=>exact hb wh pins s1 σ H1 Q I1 q1
 | false=>exact ⟨H1,I1,q1⟩
theorem pw_or (ha:PT X a tA)(hb:PW X (.BoolOp .Or (b::rest) pos) tB'):PW X (.BoolOp .Or (a::b::rest) pos) (tOr tA tB'):=by
 intro wh pins s σ H Q I h
 refine isTrue_or (thn (ha pins s σ H _ I h) fun c s1 ⟨H1,I1,q1⟩=>?_)
 cases c with
 | true=>exact ⟨H1,I1,q1⟩
 | false=>exact hb wh pins s1 σ H1 Q I1 q1
theorem qdB (ha:PT X a tA):PT X (.UnaryOp .Not a pos) (tNot tA):=by
 intro pins s σ H Q I h
 exact isTrue_not (ha pins s σ H (fun c H1=>Q (!c) H1) I h)
def tAndV (ta tb:TE):TE:=fun σ H Q=>ta σ H fun x H1=>∃ c,x=.bl c/\if c=true then tb σ H1 Q else Q (.bl false) H1
def tNotV (ta:TE):TE:=fun σ H Q=>ta σ H fun x H1=>∃ c,x=.bl c/\Q (.bl (!c)) H1
theorem qdt {op}{t:TE}(h:PE X a t):PE X (.BoolOp op [a] pos) t:=fun pins s σ H Q I hw=>BoolOp_one (h pins s σ H Q I hw)
theorem qdq (ha:PE X a ta)(hb:PE X (.BoolOp .And (b::rest) pos) tb):PE X (.BoolOp .And (a::b::rest) pos) (tAndV ta tb):=by
 intro pins s σ H Q I h
 refine BoolOp_and (thn (ha pins s σ H _ I h) fun v s1 ⟨x,H1,I1,r1,q1⟩=>?_)
 obtain ⟨c,rfl,q1⟩:=q1
 cases r1
 refine VQ ?_
 cases c with
 | true=>exact hb pins s1 σ H1 Q I1 q1
 | false=>exact ⟨.bl false,H1,I1,rfl,q1⟩
theorem qds (ha:PE X a ta):PE X (.UnaryOp .Not a pos) (tNotV ta):=by
 intro pins s σ H Q I h
 refine UnaryOp_ (thn (ha pins s σ H _ I h) fun v s1 ⟨x,H1,I1,r1,q1⟩=>?_)
 obtain ⟨c,rfl,q1⟩:=q1
 cases r1
 exact not_of (VQ ⟨.bl (!c),H1,I1,rfl,q1⟩)
def tIf (t:TT)(ta tb:TE):TE:=fun σ H Q=>t σ H fun c H1=>if c=true then ta σ H1 Q else tb σ H1 Q
theorem qaA {c:Kp}(hc:PT X c tA)(ha:PE X a ta)(hb:PE X b tb):PE X (.IfExp c a b pos) (tIf tA ta tb):=by
 intro pins s σ H Q I h
 refine wpAny_IfExp (thn (hc pins s σ H _ I h) fun d s1 ⟨H1,I1,q1⟩=>?_)
 cases d with
 | true=>exact ha pins s1 σ H1 Q I1 q1
 | false=>exact hb pins s1 σ H1 Q I1 q1
end
def SqL (K:Kb)(H:Hp)(a:Kd)(xs:List V):Prop :=
 Rd H a (.lst xs)\/
  ∃ (o:Obj) (its:aK) (n:Nat),K.lookup a=some o/\o.cls=.type "list"/\o.dict=none/\o.data=.seq its n/\its.size<=sizeLine/\Vals xs its.toList
def SqT (K:Kb)(H:Hp)(a:Kd)(xs:List V):Prop :=
 Rd H a (.tup xs)\/
  ∃ (o:Obj) (its:aK) (n:Nat),K.lookup a=some o/\o.cls=.type "tuple"/\o.data=.seq its n/\its.size<=sizeLine/\Vals xs its.toList
noncomputable def absV:Kc->Option V
 | .none=>some .non
 | .bool b=>some (.bl b)
 | .int i _=>some (.int i)
 | .str x _=>some (.str x)
 | .bytes b _=>some (.byt b)
 | .float b _=>some (.flt b)
 | .ref a=>some (.ref a)
 | .type n=>some (.ty n)
 | _=>none
theorem RelV.abs {x:V}{u:Kc}(r:RelV x u):absV u=some x:=by
 cases x with
 | non=>cases r;rfl
 | bl _=>cases r;rfl
 | int _=>obtain ⟨t,rfl⟩:=r;rfl
 | str _=>obtain ⟨t,rfl⟩:=r;rfl
 | byt _=>obtain ⟨t,rfl⟩:=r;rfl
 | flt _=>obtain ⟨t,rfl⟩:=r;rfl
 | ref _=>cases r;rfl
 | ty _=>cases r;rfl
theorem RelV.inj {x y:V}{u:Kc}(r:RelV x u)(q:RelV y u):x=y:=K3 (r.abs.symm.trans q.abs)
theorem Vals.inj {xs ys:List V}{us:aw}(h:Vals xs us)(g:Vals ys us):xs=ys:=by
 induction h generalizing ys with
 | nil=>cases g;rfl
 | cons r _ ih =>
  cases g with
  | cons r' t'=>rw [r.inj r',ih t']
section
variable {X:Cx}{pins:af}{σ:St}{H:Hp}{s:Ke}{a:Kd}{xs ys:List V}
theorem SqL.of {K:Kb}(h:H a=some (.lst xs)):SqL K H a xs:=.inl (.inl h)
theorem SqT.of {K:Kb}(h:H a=some (.tup xs)):SqT K H a xs:=.inl (.inl h)
theorem Inv.list (I:Inv X pins σ H s)(h:SqL X.K H a xs):∃ its:List Kc,Vals xs its/\PlainL s.heap a its.toArray/\xs.length<=sizeLine:=by
 rcases h with h|⟨o,its,n,hk,hc,hd,hs,hz,r⟩
 ·obtain ⟨z,its,n,r,e⟩:=h.ok I.hok
  exact ⟨its,r,⟨_,n,e,rfl,rfl,rfl⟩,z⟩
 ·refine ⟨its.toList,r,⟨o,n,I.kIn a o hk,hc,hd,by simpa using hs⟩,?_⟩
  have e:=r.length
  simp only [Ve] at e
  omega
theorem Inv.tuple (I:Inv X pins σ H s)(h:SqT X.K H a xs):∃ its:List Kc,Vals xs its/\IsTup s.heap a its.toArray/\xs.length<=sizeLine:=by
 rcases h with h|⟨o,its,n,hk,hc,hs,hz,r⟩
 ·obtain ⟨z,its,r,p⟩:=h.ok I.hok
  exact ⟨its,r,p,z⟩
 ·refine ⟨its.toList,r,⟨o,I.kIn a o hk,hc,n,by simpa using hs⟩,?_⟩
  have e:=r.length
  simp only [Ve] at e
  omega
theorem Inv.list_inj (I:Inv X pins σ H s)(h:SqL X.K H a xs)(h':SqL X.K H a ys):xs=ys:=by
 obtain ⟨its,r,⟨o,n,e,_,_,d⟩,_⟩:=I.list h
 obtain ⟨its',r',⟨o',n',e',_,_,d'⟩,_⟩:=I.list h'
 rw [e] at e';cases e'
 rw [d] at d'
 injection d' with d1 _
 have:its=its':=by simpa using congrArg Array.toList d1
 subst this
 exact r.inj r'
theorem Inv.tuple_inj (I:Inv X pins σ H s)(h:SqT X.K H a xs)(h':SqT X.K H a ys):xs=ys:=by
 obtain ⟨its,r,⟨o,e,_,n,d⟩,_⟩:=I.tuple h
 obtain ⟨its',r',⟨o',e',_,n',d'⟩,_⟩:=I.tuple h'
 rw [e] at e';cases e'
 rw [d] at d'
 injection d' with d1 _
 have:its=its':=by simpa using congrArg Array.toList d1
 subst this
 exact r.inj r'
end
noncomputable abbrev Cx.wish (X:Cx)(E:ak):Cx:={ X with xe:=E }
abbrev Cx.nox (X:Cx):Cx:=X.wish fun _ _=>False
theorem Cx.Ok.wish {X:Cx}(ok:X.Ok)(E:ak):(X.wish E).Ok :=
 ⟨ok.mod,ok.kind,ok.glob,ok.blt,ok.above,ok.inj,ok.has,ok.cab,ok.hd,ok.frames,ok.stk,ok.exf,ok.bs,ok.bsz,ok.noex,ok.exfs,ok.funs,ok.frf⟩
theorem Cx.Ok.unwish {X:Cx}{E:ak}(ok:(X.wish E).Ok):X.Ok :=
 ⟨ok.mod,ok.kind,ok.glob,ok.blt,ok.above,ok.inj,ok.has,ok.cab,ok.hd,ok.frames,ok.stk,ok.exf,ok.bs,ok.bsz,ok.noex,ok.exfs,ok.funs,ok.frf⟩
section
variable {X:Cx}{pins:af}{σ:St}{H:Hp}{s:Ke}{E:ak}
theorem Inv.wish (I:Inv X pins σ H s)(E:ak):Inv (X.wish E) pins σ H s:=⟨I.ok.wish E,I.os,I.bare,I.base,I.loc,I.cell,I.free,I.freeC,I.pin,I.hok,I.len⟩
theorem Inv.unwish (I:Inv (X.wish E) pins σ H s):Inv X pins σ H s:=⟨I.ok.unwish,I.os,I.bare,I.base,I.loc,I.cell,I.free,I.freeC,I.pin,I.hok,I.len⟩
theorem SP.unwish {D:Ends}{f:Flow}{s':Ke}(h:SP (X.wish E) pins D f s'):SP X pins D f s':=by
 cases f with
 | next=>obtain ⟨σ',H',I,q⟩:=h;exact ⟨σ',H',I.unwish,q⟩
 | brk=>obtain ⟨σ',H',I,q⟩:=h;exact ⟨σ',H',I.unwish,q⟩
 | cont=>obtain ⟨σ',H',I,q⟩:=h;exact ⟨σ',H',I.unwish,q⟩
 | ret u=>obtain ⟨v,σ',H',I,r,q⟩:=h;exact ⟨v,σ',H',I.unwish,r,q⟩
theorem PSs.nox {st:bc}{t:TS}(h:PSs X.nox st t):PSs X st t:=fun pins s σ H D I hw =>
 VO (h pins s σ H D (I.wish _) hw) (fun _ _ q=>q.unwish) fun _ _ z=>Ue z
end
section
variable {X:Cx}{st:Va}{rest:bc}{t u:TS}{e:Kp}{te:TE}{pos:Pos}
def tNext:TS:=fun D σ H=>D.nx σ H
def tSeq (t u:TS):TS:=fun D σ H=>t { D with nx:=u D } σ H
theorem qb7:PSs X [] tNext:=fun _ _ σ H _ I h=>U8 ⟨σ,H,I,h⟩
theorem qaK (h1:PS X st t)(h2:PSs X rest u):PSs X (st::rest) (tSeq t u):=by
 intro pins s σ H D I h
 refine wpAny_execs_cons (thn (h1 pins s σ H { D with nx:=u D } I h) fun f s1 q=>?_)
 cases f with
 | next =>
  obtain ⟨σ',H',I',q⟩:=q
  exact h2 pins s1 σ' H' D I' q
 | ret v=>exact q
 | brk=>exact q
 | cont=>exact q
theorem qb8 (h1:PS X st t):PSs X [st] t:=by
 intro pins s σ H D I h
 refine wpAny_execs_cons (thn (h1 pins s σ H D I h) fun f s1 q=>?_)
 cases f with
 | next=>exact U8 q
 | ret v=>exact q
 | brk=>exact q
 | cont=>exact q
theorem Inv.quiet {pins:af}{σ:St}{H:Hp}{s:Ke}(I:Inv X pins σ H s):interactive X.env=false:=by simp [interactive,I.ok.kind]
def tDrop (te:TE):TS:=fun D σ H=>te σ H fun _ H1=>D.nx σ H1
theorem qb6 (he:PE X e te)(hs:swapsWith e none pos.line X.env=pure false:=by rfl):PS X (.Expr e pos) (tDrop te):=by
 intro pins s σ H D I h
 exact wpAny_Expr_any (thn (he pins s σ H _ I h) fun v s1 ⟨x,H1,I1,r1,q1⟩=>⟨σ,H1,I1,q1⟩) I.quiet hs
def tRet (te:TE):TS:=fun D σ H=>te σ H D.rt
theorem qdA (he:PE X e te):PS X (.Return (some e) pos) (tRet te):=by
 intro pins s σ H D I h
 exact wpAny_Return_some (thn (he pins s σ H _ I h) fun v s1 ⟨x,H1,I1,r1,q1⟩=>⟨x,σ,H1,I1,r1,q1⟩)
def tIfS (c:TT)(t u:TS):TS:=fun D σ H=>c σ H fun b H1=>if b=true then t D σ H1 else u D σ H1
theorem ps_if {c:Kp}{a b:bc}{tc:TT}(hc:PT X c tc)(ha:PSs X a t)(hb:PSs X b u):PS X (.If c a b pos) (tIfS tc t u):=by
 intro pins s σ H D I h
 refine wpAny_If (thn (hc pins s σ H _ I h) fun d s1 ⟨H1,I1,q1⟩=>?_)
 cases d with
 | true=>exact ha pins s1 σ H1 D I1 q1
 | false=>exact hb pins s1 σ H1 D I1 q1
end
abbrev TG:=V->St->Hp->(St->Hp->Prop)->Prop
abbrev TGs:=List V->St->Hp->(St->Hp->Prop)->Prop
def PG (X:Cx)(target:Kp)(t:TG):Prop :=
 ∀ (pins:af) (s:Ke) (σ:St) (H:Hp) (v:V) (u:Kc) (Q:St->Hp->Prop),Inv X pins σ H s->RelV v u->t v σ H Q->
  wpAny (model X.prog X.w) X.A (assign target X.env u) (fun _ s'=>∃ σ' H',Inv X pins σ' H' s'/\Q σ' H') X.xe s
def PGs (X:Cx)(ts:aG)(t:TGs):Prop :=
 ∀ (pins:af) (s:Ke) (σ:St) (H:Hp) (vs:List V) (us:aw) (Q:St->Hp->Prop),Inv X pins σ H s->Vals vs us->t vs σ H Q->
  wpAny (model X.prog X.w) X.A (assignInOrder ((assignEach ts X.env).map (·.2)) us) (fun _ s'=>∃ σ' H',Inv X pins σ' H' s'/\Q σ' H') X.xe s
abbrev TSet:=V->V->V->Hp->(Hp->Prop)->Prop
def PSet (X:Cx)(t:TSet):Prop :=
 ∀ (pins:af) (s:Ke) (σ:St) (H:Hp) (o i v:V) (ov iv u:Kc) (Q:Hp->Prop),Inv X pins σ H s->RelV o ov->RelV i iv->RelV v u->t o i v H Q->
  wpAny (model X.prog X.w) X.A (setItem ov iv u) (fun _ s'=>∃ H',Inv X pins σ H' s'/\Q H') X.xe s
abbrev TIp:=V->V->Hp->VK->Prop
def PIp (X:Cx)(op:Operator)(t:TIp):Prop :=
 ∀ (pins:af) (s:Ke) (σ:St) (H:Hp) (x y:V) (v u:Kc) (Q:VK),Inv X pins σ H s->RelV x v->RelV y u->t x y H Q->
  wpAny (model X.prog X.w) X.A (inplaceOp op v u) (EP X pins σ Q) X.xe s
section
variable {X:Cx}{pos:Pos}
def YM (i:Nat):TG:=fun v σ H Q=>Q (σ.set i (some v)) H
theorem Y4 {i:Nat}{x:Str}(hN:X.N.Nodup)(hi:X.N[i]?=some x)(hx:Loc X.env.scope x)(hf:X.fn x=true\/X.env.scope.names.lookup x=some .local:=by first|exact .inl rfl|exact .inr rfl|assumption):PG X (.Name x pos) (YM i):=by
 intro pins s σ H v u Q I r h
 exact wpAny_assign_Name (yx I hN hi hx r (fun s' I'=>⟨_,H,I',h⟩) hf)
def gNil:TGs:=fun vs σ H Q=>vs=[]/\Q σ H
def gCons (t:TG)(u:TGs):TGs:=fun vs σ H Q=>∃ v r,vs=v::r/\t v σ H fun σ' H'=>u r σ' H' Q
theorem qb2:PGs X [] gNil:=by
 intro pins s σ H vs us Q I r h
 obtain ⟨e,h⟩:=h
 subst e
 cases r
 exact assignInOrder_nil ⟨σ,H,I,h⟩
theorem qaG {e:Kp}{es:aG}{t:TG}{u:TGs}(h1:PG X e t)(h2:PGs X es u)
  (hs:(assignEach (e::es) X.env).map (·.2)=assign e X.env::(assignEach es X.env).map (·.2):=by rfl):PGs X (e::es) (gCons t u):=by
 intro pins s σ H vs us Q I r h
 obtain ⟨v,vr,e1,h⟩:=h
 subst e1
 cases r with
 | cons r rr =>
  rw [hs]
  refine assignInOrder_cons (thn (h1 pins s σ H _ _ _ I r h) fun _ s1 ⟨σ1,H1,I1,q1⟩=>?_)
  exact h2 pins s1 σ1 H1 _ _ Q I1 rr q1
def gTup (K:Kb)(n:Nat)(t:TGs):TG:=fun v σ H Q=>∃ a xs,v=.ref a/\SqT K H a xs/\xs.length=n/\t xs σ H Q
theorem qdw {es:aG}{k:Nat}{t:TGs}{n:Nat}(hc:X.calm=true)(h:PGs X es t)
  (hn:(assignEach es X.env).length=n:=by rfl) (hst:(assignEach es X.env).findIdx? (·.1)=none:=by rfl):PG X (.Tuple es k pos) (gTup X.K n t):=by
 intro pins s σ H v u Q I r hw
 obtain ⟨a,xs,e1,hq,hl,hw⟩:=hw
 subst e1
 cases r
 obtain ⟨its,rv,ht,hz⟩:=I.tuple hq
 refine assign_Tuple_tuple (I.ok.hd hc) ht (by simp [hn,← hl,rv.length]) hst fun h' hx=>?_
 have I1:Inv X pins σ H { s with heap:=h' }:=I.kept (t':=s.toks) fun b o e=>hx b o (KA (Ks e)) e
 exact h pins _ σ H xs _ Q I1 (by simpa using rv) hw
def tAsg (te:TE)(g:TG):TS:=fun D σ H=>te σ H fun x H1=>g x σ H1 D.nx
theorem Yc {i:Nat}{x:Str}{e:Kp}{te:TE}{pos':Pos}(hN:X.N.Nodup)(hi:X.N[i]?=some x)(hx:Loc X.env.scope x)(he:PE X e te)(hs:swapsWith e (some (.Name x pos')) pos.line X.env=pure false:=by rfl)(hf:X.fn x=true\/X.env.scope.names.lookup x=some .local:=by first|exact .inl rfl|exact .inr rfl|assumption) :
  PS X (.Assign [.Name x pos'] e pos) (tAsg te (YM i)):=by
 intro pins s σ H D I h
 refine wpAny_Assign_Name (thn (he pins s σ H _ I h) fun v s1 ⟨y,H1,I1,r1,q1⟩=>?_) hs
 exact yx I1 hN hi hx r1 (fun s2 I2=>⟨_,H1,I2,q1⟩) hf
def tAugS (to ti te:TE)(tget:V->V->Hp->VK->Prop)(tip:TIp)(tset:TSet):TS:=fun D σ H=>to σ H fun o H1=>ti σ H1 fun i H2=>tget o i H2 fun x H3=>te σ H3 fun y H4=>tip x y H4 fun z H5=>tset o i z H5 fun H6=>D.nx σ H6
def PGet (X:Cx)(t:V->V->Hp->VK->Prop):Prop :=
 ∀ (pins:af) (s:Ke) (σ:St) (H:Hp) (o i:V) (ov iv:Kc) (Q:VK),Inv X pins σ H s->RelV o ov->RelV i iv->t o i H Q->
  wpAny (model X.prog X.w) X.A (getItem ov iv) (EP X pins σ Q) X.xe s
theorem qb5 {o i e:Kp}{to ti te:TE}{tget:V->V->Hp->VK->Prop}{tip:TIp}{tset:TSet}{op:Operator}{tpos:Pos}(ho:PE X o to)(hi:PE X i ti)(hg:PGet X tget)(he:PE X e te)(hp:PIp X op tip)(hs:PSet X tset)
  (ha:∀ ov iv new,augStore i ov iv new=(do holding [new,ov,iv] (setItem ov iv new);release [new,ov,iv] [];pure .next):=by intros;rfl):PS X (.AugAssign (.Subscript o i tpos) op e pos) (tAugS to ti te tget tip tset):=by
 intro pins s σ H D I h
 refine wpAny_AugAssign_SubscriptAny (thn (ho pins s σ H _ I h) fun ov s1 ⟨x1,H1,I1,r1,q1⟩=>?_) ha
 refine thn (hi pins s1 σ H1 _ I1 q1) fun iv s2 ⟨x2,H2,I2,r2,q2⟩=>?_
 refine thn (hg pins s2 σ H2 x1 x2 ov iv _ I2 r1 r2 q2) fun old s3 ⟨x3,H3,I3,r3,q3⟩=>?_
 refine thn (he pins s3 σ H3 _ I3 q3) fun v s4 ⟨x4,H4,I4,r4,q4⟩=>?_
 refine thn (hp pins s4 σ H4 x3 x4 old v _ I4 r3 r4 q4) fun new s5 ⟨x5,H5,I5,r5,q5⟩=>?_
 exact thn (hs pins s5 σ H5 x1 x2 x5 ov iv new _ I5 r1 r2 r5 q5) fun _ s6 ⟨H6,I6,q6⟩=>⟨σ,H6,I6,q6⟩
def ipI (f:aP):TIp:=fun x y H Q=>∃ i j,x=.int i/\y=.int j/\Q (.int (f i j)) H
theorem qcR:PIp X .Add (ipI fun i j=>i+j):=by
 intro pins s σ H x y v u Q I r1 r2 h
 obtain ⟨i,j,e1,e2,q⟩:=h
 subst e1;subst e2
 obtain ⟨t,rfl⟩:=r1
 obtain ⟨t',rfl⟩:=r2
 exact iadd_int ⟨.int _,H,I.tok _,⟨_,rfl⟩,q⟩
theorem qcS:PIp X .Sub (ipI fun i j=>i-j):=by
 intro pins s σ H x y v u Q I r1 r2 h
 obtain ⟨i,j,e1,e2,q⟩:=h
 subst e1;subst e2
 obtain ⟨t,rfl⟩:=r1
 obtain ⟨t',rfl⟩:=r2
 exact isub_int ⟨.int _,H,I.tok _,⟨_,rfl⟩,q⟩
end
section
variable {X:Cx}{pos:Pos}
def qdX (c:TT)(tb:TS):TS:=fun D σ H=>∃ W:Nat->St->Hp->Prop,(∃ m,W m σ H)/\∀ m σ H,W m σ H->
 c σ H fun b H1=>if b=true then ∃ N:St->Hp->Prop,(∀ σ' H',N σ' H'->∃ m',m'<m/\W m' σ' H')/\tb { D with nx:=N,ct:=N,bk:=D.nx } σ H1 else D.nx σ H1
theorem qaJ {c:Kp}{body:bc}{tc:TT}{tb:TS}(hp:PassesOwn (model X.prog X.w) X.A X.env X.xe)(hc:PT X c tc)(hb:PSs X body tb):PS X (.While c body [] pos) (qdX tc tb):=by
 intro pins s σ H D I h
 obtain ⟨W,⟨m0,w0⟩,turn⟩:=h
 refine wpAny_While (codeAny_whileLoop (fun n s'=>∃ σ' H',Inv X pins σ' H' s'/\W n σ' H') ?_ m0 ⟨σ,H,I,w0⟩)
 rintro n s1 ⟨σ1,H1,I1,w1⟩
 refine V3 hp (thn (hc pins s1 σ1 H1 _ I1 (turn n σ1 H1 w1)) fun b s2 ⟨H2,I2,q2⟩=>?_)
 cases b with
 | true =>
  obtain ⟨N,hN,q2⟩:=q2
  rw [if_pos rfl]
  refine V3 hp (thn (hb pins s2 σ1 H2 _ I2 q2) fun f s3 q3=>?_)
  cases f with
  | next =>
   obtain ⟨σ3,H3,I3,n3⟩:=q3
   obtain ⟨m',hm,w3⟩:=hN σ3 H3 n3
   exact ⟨m',hm,σ3,H3,I3,w3⟩
  | cont =>
   obtain ⟨σ3,H3,I3,n3⟩:=q3
   obtain ⟨m',hm,w3⟩:=hN σ3 H3 n3
   exact ⟨m',hm,σ3,H3,I3,w3⟩
  | brk=>exact q3
  | ret v=>exact q3
 | false =>
  rw [if_neg Vq]
  exact U8 ⟨σ1,H2,I2,q2⟩
end
structure It where
 go:Nat->Hp->Prop
 yld:Nat->Hp->V->Hp->Prop
 stop:Nat->Hp->Prop
def FpOk (X:Cx)(pins:af)(H:Hp)(b:Kd):Prop :=
 H b=none/\b≠X.env.locals/\b∉X.fs/\(b∈X.ex\/X.s₀.heap.objs.size<=b)/\(∀ x c,X.env.cells.lookup x=some c->c≠b)/\∀ p∈X.pn++pins,p.1≠b
theorem Inv.fpOk {X:Cx}{pins:af}{σ:St}{H H':Hp}{s:Ke}{b:Kd}(I:Inv X pins σ H s)(hb:s.heap.objs.size<=b)(hn:H' b=none):FpOk X pins H' b:=by
 refine ⟨hn,Uv (KD I.lt hb),I.nofs hb,.inr (KO I.sz hb),fun x c e z=>?_,fun p hp z=>?_⟩
 ·obtain ⟨v,q⟩:=I.cell x c e
  exact absurd (KD q.lt (by rw [z];exact hb)) (Vt _)
 ·exact absurd (KD (Ks (I.pin p hp).1) (by rw [z];exact hb)) (Vt _)
structure Turn (P:Kw)(w:KB)(K:Kb)(tg:Kp)(J:It)(fp:ay)(it:Kd)(tn:ba):Prop where
 mem:it∈fp
 obj:∀ i h,tn i h->∀ b∈fp,∃ o,h.get? b=some o/\∀ v,o.data≠.cell v
 keep:∀ i h h',tn i h->(∀ b∈fp,∀ o,h.get? b=some o->h'.get? b=some o)->tn i h'
 item:∀ (X:Cx),X.prog=P->X.w=w->X.K=K->X.calm=true->∀ (i:Nat) (pins:af) (s:Ke) (σ:St) (H:Hp) (E:ak),Inv X pins σ H s->(∀ b∈fp,FpOk X pins H b)->tn i s.heap->J.go i H->
  wpAny (model P w) X.A (pyNext (.ref it)) (fun r s1=>∃ u,r=some u/\
   wpAny (model P w) X.A (letOwnedTupleGo tg (.ref it) u) (fun _ s2=>∃ x H',Inv X pins σ H' s2/\RelV x u/\J.yld i H x H'/\tn (i+1) s2.heap/\∀ b∈fp,H' b=none) E s1) E s
 done:∀ (X:Cx),X.prog=P->X.w=w->X.K=K->X.calm=true->∀ (i:Nat) (pins:af) (s:Ke) (σ:St) (H:Hp) (E:ak),Inv X pins σ H s->(∀ b∈fp,FpOk X pins H b)->tn i s.heap->J.stop i H->
  wpAny (model P w) X.A (pyNext (.ref it)) (fun r s1=>r=none/\Inv X pins σ H s1) E s
 self:∀ (A:KG) (i:Nat) (s:Ke) (Q:ak) (E:ak),tn i s.heap->Q (.ref it) s->wpAny (model P w) A (pyIter (.ref it)) Q E s
abbrev TI:=St->Hp->(It->Hp->Prop)->Prop
def PIE (X:Cx)(pins:af)(σ:St)(tg:Kp)(R:It->Hp->Prop)(itv:Kc)(s2:Ke):Prop :=
 ∃ (it:Kd) (fp:ay) (tn:ba) (J:It) (H':Hp),itv=.ref it/\Inv X pins σ H' s2/\Turn X.prog X.w X.K tg J fp it tn/\tn 0 s2.heap/\(∀ b∈fp,FpOk X pins H' b)/\R J H'
def PI (X:Cx)(tg iter:Kp)(wi:TI):Prop :=
 ∀ (pins:af) (s:Ke) (σ:St) (H:Hp) (R:It->Hp->Prop),Inv X pins σ H s->wi σ H R->
  wpAny (model X.prog X.w) X.A (eval iter X.env) (fun v s1=>wpAny (model X.prog X.w) X.A (pyIter v) (PIE X pins σ tg R) X.xe s1) X.xe s
theorem qaa {M:Model}{A:KG}{E:ak}{s:Ke}{tg:Kp}{it:Kd}{u:Kc}{o:Obj}{n:String}{vs:aK}{Q:Unit->Ke->Prop}(ho:s.heap.get? it=some o)(hc:o.cls=.type n)(hd:o.data=.fields vs)
  (hn:["enumerate", "zip", "dict_itemiterator", "dict_reverseitemiterator", "odict_iterator", "itertools.zip_longest", "itertools.pairwise"].contains n=false) (hQ:Q () s):wpAny M A (letOwnedTupleGo tg (.ref it) u) Q E s:=by
 unfold letOwnedTupleGo
 cases tg<;>first
  | exact Ko hQ
  | (cases u<;>first
    | exact Ko hQ
    | (
      refine Kf (wpAny_load ho ?_)
      rw [hc,hd]
      show wpAny M A (if (["enumerate", "zip", "dict_itemiterator", "dict_reverseitemiterator", "odict_iterator", "itertools.zip_longest", "itertools.pairwise"].contains n&&vs[0]?==some (rawInt _))=true then _ else _) Q E s
      rw [if_neg (by intro h;rw [hn,Bool.false_and] at h;cases h)]
      exact Ko hQ))
def Itl (K:Kb)(a:Kd):It :=
 ⟨fun i H=>∃ xs x,SqL K H a xs/\xs[i]?=some x,fun i H x H'=>H'=H/\∀ xs,SqL K H a xs->xs[i]?=some x,fun i H=>∃ xs,SqL K H a xs/\xs.length<=i⟩
def Itt (K:Kb)(a:Kd):It :=
 ⟨fun i H=>∃ xs x,SqT K H a xs/\xs[i]?=some x,fun i H x H'=>H'=H/\∀ xs,SqT K H a xs->xs[i]?=some x,fun i H=>∃ xs,SqT K H a xs/\xs.length<=i⟩
noncomputable def Itr (lo:Int)(n:Nat):It:=⟨fun i _=>i<n,fun i H x H'=>H'=H/\x=.int (lo+i),fun i _=>n<=i⟩
theorem Ww {P:Kw}{w:KB}{K:Kb}{tg:Kp}(a it:Kd):Turn P w K tg (Itl K a) [it] it (fun i h=>h.IsListIter it a i) where
 mem:=by simp
 obj:=fun i h st b hb=>by
  have e:b=it:=by simpa using hb
  subst e
  obtain ⟨o,e,c,d⟩:=st
  exact ⟨o,e,fun v z=>by rw [d] at z;cases z⟩
 keep:=fun i h h' st k=>st.at fun o e=>k it (by simp) o e
 item:=by
  intro X hP hw hK hc i pins s σ H E I hf st hg
  subst hP hw hK
  obtain ⟨xs,x,hq,hx⟩:=hg
  obtain ⟨its,rv,p,hz⟩:=I.list hq
  obtain ⟨u,hu,ru⟩:=rv.get hx
  obtain ⟨f0,f1,f2,f3,f4,f5⟩:=hf it (by simp)
  refine wpAny_pyNext_list_item st p.isList (x:=u) (by simpa using hu) fun h' st' sb=>?_
  have I1:Inv X pins σ H { s with heap:=h' }:=I.turned (t':=s.toks) (fun b o hb e=>(sb.2 b hb).trans e) f0 f1 f3 f4 f5
  obtain ⟨o,e,c,d⟩:=id st'
  exact ⟨u,rfl,qaa (s:={ s with heap:=h' }) e c d (by decide) ⟨x,H,I1,ru,⟨rfl,fun ys hy=>by rw [I.list_inj hy hq];exact hx⟩,st',fun b hb=>(hf b hb).1⟩⟩
 done:=by
  intro X hP hw hK hc i pins s σ H E I hf st hg
  subst hP hw hK
  obtain ⟨xs,hq,hx⟩:=hg
  obtain ⟨its,rv,p,hz⟩:=I.list hq
  obtain ⟨f0,f1,f2,f3,f4,f5⟩:=hf it (by simp)
  have hl:=rv.length
  exact wpAny_pyNext_list_end (I.ok.hd hc) st p.isList (by simp;omega) fun h' eb=>⟨rfl,I.turned (t':=s.toks) (fun b o hb e=>eb b o hb e) f0 f1 f3 f4 f5⟩
 self:=fun _ _ _ _ _ st h=>wpAny_pyIter_listiter st h
theorem Yn {P:Kw}{w:KB}{K:Kb}{tg:Kp}(a it:Kd):Turn P w K tg (Itt K a) [it] it (fun i h=>h.IsTupleIter it a i) where
 mem:=by simp
 obj:=fun i h st b hb=>by
  have e:b=it:=by simpa using hb
  subst e
  obtain ⟨o,e,c,d⟩:=st
  exact ⟨o,e,fun v z=>by rw [d] at z;cases z⟩
 keep:=fun i h h' st k=>st.at fun o e=>k it (by simp) o e
 item:=by
  intro X hP hw hK hc i pins s σ H E I hf st hg
  subst hP hw hK
  obtain ⟨xs,x,hq,hx⟩:=hg
  obtain ⟨its,rv,p,hz⟩:=I.tuple hq
  obtain ⟨u,hu,ru⟩:=rv.get hx
  obtain ⟨f0,f1,f2,f3,f4,f5⟩:=hf it (by simp)
  refine wpAny_pyNext_tuple_item st (show s.heap.IsTuple a its.toArray from p) (x:=u) (by simpa using hu) fun h' st' sb=>?_
  have I1:Inv X pins σ H { s with heap:=h' }:=I.turned (t':=s.toks) (fun b o hb e=>(sb.2 b hb).trans e) f0 f1 f3 f4 f5
  obtain ⟨o,e,c,d⟩:=id st'
  exact ⟨u,rfl,qaa (s:={ s with heap:=h' }) e c d (by decide) ⟨x,H,I1,ru,⟨rfl,fun ys hy=>by rw [I.tuple_inj hy hq];exact hx⟩,st',fun b hb=>(hf b hb).1⟩⟩
 done:=by
  intro X hP hw hK hc i pins s σ H E I hf st hg
  subst hP hw hK
  obtain ⟨xs,hq,hx⟩:=hg
  obtain ⟨its,rv,p,hz⟩:=I.tuple hq
  obtain ⟨f0,f1,f2,f3,f4,f5⟩:=hf it (by simp)
  have hl:=rv.length
  exact wpAny_pyNext_tuple_end (I.ok.hd hc) st (show s.heap.IsTuple a its.toArray from p) (by simp;omega) fun h' eb=>⟨rfl,I.turned (t':=s.toks) (fun b o hb e=>eb b o hb e) f0 f1 f3 f4 f5⟩
 self:=fun _ _ _ _ _ st h=>wpAny_pyIter_tupleiter st h
theorem Ym {P:Kw}{w:KB}{K:Kb}{tg:Kp}(it:Kd)(lo:Int)(n:Nat):Turn P w K tg (Itr lo n) [it] it (fun i h=>IsRangeIter h it (lo+(i:Nat)*1) ((n:Int)-(i:Nat)) 1) where
 mem:=by simp
 obj:=fun i h st b hb=>by
  have e:b=it:=by simpa using hb
  subst e
  exact ⟨_,st,fun v z=>by
   have z':Data.fields _=Data.cell v:=z
   cases z'⟩
 keep:=fun i h h' st k=>k it (by simp) _ st
 item:=by
  intro X hP hw hK hc i pins s σ H E I hf st hg
  subst hP hw hK
  obtain ⟨f0,f1,f2,f3,f4,f5⟩:=hf it (by simp)
  have W:=Walks.range (prog:=X.prog) (w:=X.w) (I.ok.hd hc) it lo 1 n
  refine W.item i s _ _ hg st fun v h' tk hv st' kk=>?_
  obtain ⟨t,rfl⟩:=hv
  have I1:Inv X pins σ H { s with heap:=h',toks:=tk }:=I.turned (fun b o hb e=>kk b o (by simpa using hb) e) f0 f1 f3 f4 f5
  refine ⟨_,rfl,qaa (s:={ s with heap:=h',toks:=tk }) (n := "range_iterator") st' rfl rfl (by decide) ⟨.int (lo+i),H,I1,⟨t,?_⟩,⟨rfl,rfl⟩,st',fun b hb=>(hf b hb).1⟩⟩
  rw [Int.mul_one]
 done:=by
  intro X hP hw hK hc i pins s σ H E I hf st hg
  subst hP hw hK
  obtain ⟨f0,f1,f2,f3,f4,f5⟩:=hf it (by simp)
  exact wpAny_pyNext_range_end (I.ok.hd hc) st (by have:n<=i:=hg;omega) fun h' eb=>⟨rfl,I.turned (t':=s.toks) (fun b o hb e=>eb b o hb e) f0 f1 f3 f4 f5⟩
 self:=fun _ _ _ _ _ st h=>wpAny_pyIter_rangeiter st h
section
variable {X:Cx}{tg:Kp}
theorem yo {pins:af}{σ:St}{H:Hp}{s:Ke}{R:It->Hp->Prop}{E:ak}{lo hi:Int}{t u v:Tok}{tk:Nat}(I:Inv X pins σ H s)(h1:-(2 ^ 62)<=lo)(h2:lo<2 ^ 62)(h3:-(2 ^ 62)<=hi)(h4:hi<2 ^ 62)
  (q:R (Itr lo (hi-lo).toNat) H):wpAny (model X.prog X.w) X.A (pyIter (.ref s.heap.objs.size)) (PIE X pins σ tg R) E { s with heap:=s.heap.push { cls:=.type "range", data:=.fields #[.int lo t,.int hi u,.int 1 v] },toks:=tk }:=by
 refine wpAny_pyIter_range (IsRange.new ..) (small_one h1 h2 h3 h4) ?_
 have I1:Inv X pins σ H { s with heap:=s.heap.push { cls:=.type "range", data:=.fields #[.int lo t,.int hi u,.int 1 v] },toks:=tk }:=I.kept fun b o e=>Kg _ e
 refine ⟨(s.heap.push { cls:=.type "range", data:=.fields #[.int lo t,.int hi u,.int 1 v] }).objs.size,[(s.heap.push { cls:=.type "range", data:=.fields #[.int lo t,.int hi u,.int 1 v] }).objs.size],_,_,H,rfl,
  I1.kept (t':=tk) fun b o e=>Kg _ e,Ym _ lo (hi-lo).toNat,?_,fun b hb=>?_,q⟩
 ·have e1:lo+((0:Nat):Int)*1=lo:=by simp
  have e2:(((hi-lo).toNat:Nat):Int)-((0:Nat):Int)=Um lo hi 1:=by rw [rangeSize_one];split<;>omega
  show IsRangeIter _ _ (lo+((0:Nat):Int)*1) ((((hi-lo).toNat:Nat):Int)-((0:Nat):Int)) 1
  rw [e1,e2]
  exact Kx _ rfl
 ·have e:b=(s.heap.push { cls:=.type "range", data:=.fields #[.int lo t,.int hi u,.int 1 v] }).objs.size:=by simpa using hb
  subst e
  exact I1.fpOk (Kl _) (I1.hok.fresh (Kl _))
def iRng1 (ta:TA):TI:=fun σ H R=>ta σ H fun vs H1=>∃ j:Int,vs=[.int j]/\-(2 ^ 62)<=j/\j<2 ^ 62/\R (Itr 0 j.toNat) H1
def iRng2 (ta:TA):TI:=fun σ H R=>ta σ H fun vs H1=>∃ i j:Int,vs=[.int i,.int j]/\(-(2 ^ 62)<=i/\i<2 ^ 62/\-(2 ^ 62)<=j/\j<2 ^ 62)/\R (Itr i (j-i).toNat) H1
theorem Wf {a:Kp}{ta:TA}{p pos:Pos}(hg:Gl X "range")(hm:X.mg "range" = none)(ha:PA X [a] ta)(hs:starEach [a] X.env=[(false,eval a X.env)]:=by rfl):PI X tg (.Call (.Name "range" p) [a] [] pos) (iRng1 ta):=by
 intro pins s σ H R I h
 refine Call_ (Qq I hg hm boot_range (Vr (thn (ha pos pins s σ H _ I h) fun us s1 ⟨vs,H1,I1,r1,q1⟩=>?_) hs rfl))
 obtain ⟨j,e,q1,q2,q⟩:=q1
 subst e
 cases r1 with
 | cons r rr =>
  cases rr
  obtain ⟨t,rfl⟩:=r
  exact call_range_1 (yo I1 (by omega) (by omega) q1 q2 (by simpa using q))
theorem Wg {a b:Kp}{ta:TA}{p pos:Pos}(hg:Gl X "range")(hm:X.mg "range" = none)(ha:PA X [a,b] ta)(hs:starEach [a,b] X.env=[(false,eval a X.env),(false,eval b X.env)]:=by rfl)(hs2:starEach [b] X.env=[(false,eval b X.env)]:=by rfl) :
  PI X tg (.Call (.Name "range" p) [a,b] [] pos) (iRng2 ta):=by
 intro pins s σ H R I h
 refine Call_ (Qq I hg hm boot_range (Vr (thn (ha pos pins s σ H _ I h) fun us s1 ⟨vs,H1,I1,r1,q1⟩=>?_) (by rw [hs,hs2]) (by rw [hs2];rfl)))
 obtain ⟨i,j,e,⟨q1,q2,q3,q4⟩,q⟩:=q1
 subst e
 cases r1 with
 | cons r rr =>
  cases rr with
  | cons r' rr =>
   cases rr
   obtain ⟨t,rfl⟩:=r
   obtain ⟨t',rfl⟩:=r'
   exact call_range_2 (yo I1 q1 q2 q3 q4 q)
def tFor (wi:TI)(g:TG)(tb:TS):TS:=fun D σ H=>wi σ H fun J H1=>∃ W:Nat->Nat->St->Hp->Prop,(∃ m,W 0 m σ H1)/\∀ i m σ H,W i m σ H->
 (J.stop i H/\D.nx σ H)\/(J.go i H/\∃ N:St->Hp->Prop,(∀ σ' H',N σ' H'->∃ m',m'<m/\W (i+1) m' σ' H')/\∀ x H',J.yld i H x H'->g x σ H' fun σ2 H2=>tb { D with nx:=N,ct:=N,bk:=D.nx } σ2 H2)
def zJ (fp:ay)(h:KC):List (Kd×Obj):=fp.filterMap fun b=>(h.get? b).map fun o=>(b,o)
theorem zB {fp:ay}{h:KC}{b:Kd}{o:Obj}(hb:b∈fp)(e:h.get? b=some o):(b,o)∈zJ fp h:=List.mem_filterMap.mpr ⟨b,hb,by rw [e];rfl⟩
theorem ZC {fp:ay}{h:KC}{p:Kd×Obj}(hp:p∈zJ fp h):p.1∈fp/\h.get? p.1=some p.2:=by
 obtain ⟨b,hb,e⟩:=List.mem_filterMap.mp hp
 cases q:h.get? b with
 | none=>rw [q] at e;cases e
 | some o =>
  rw [q] at e
  have e':(b,o)=p:=K3 e
  subst e'
  exact ⟨hb,q⟩
theorem Inv.pinned {pins:af}{σ:St}{H:Hp}{s:Ke}{fp:ay}(I:Inv X pins σ H s)(hf:∀ b∈fp,FpOk X pins H b)(ho:∀ b∈fp,∃ o,s.heap.get? b=some o/\∀ v,o.data≠.cell v):Inv X (pins++zJ fp s.heap) σ H s :=
 I.pins_of fun p hp=>(Vo.mp hp).elim (fun z=>I.pin p (KF _ z)) fun z=>by
  obtain ⟨hb,e⟩:=ZC z
  obtain ⟨f0,f1,f2,_⟩:=hf p.1 hb
  obtain ⟨o,e',d⟩:=ho p.1 hb
  rw [e] at e';cases e'
  exact ⟨e,f0,f1,f2,d⟩
theorem Inv.unpinned {pins pl:af}{σ:St}{H:Hp}{s:Ke}(I:Inv X (pins++pl) σ H s):Inv X pins σ H s:=I.pins_of fun p hp=>I.pin p (KF _ (Uc _ hp))
theorem qdz {iter:Kp}{body:bc}{wi:TI}{g:TG}{tb:TS}{pos:Pos}(hp:PassesOwn (model X.prog X.w) X.A X.env X.xe)(hc:X.calm=true)(hi:PI X tg iter wi)(hg:PG X tg g)(hb:PSs X body tb)
  (hs:∀ x,foldedSetIterable iter X.env x=pure x:=by intro _;rfl):PS X (.For tg iter body [] pos) (tFor wi g tb):=by
 intro pins s σ H D I h
 refine wpAny_For (thn (hi pins s σ H _ I h) fun v s1 h1=>thn h1 fun itv s2 h2=>?_) hs
 obtain ⟨it,fp,tn,J,H2,e,I2,T,st2,f2,W,⟨m0,w0⟩,turn⟩:=h2
 subst e
 have stat:∀ {H':Hp},(∀ b∈fp,H' b=none)->∀ b∈fp,FpOk X pins H' b:=fun hn b hb=>⟨hn b hb,(f2 b hb).2⟩
 refine codeAny_forLoop_any (fun n s'=>∃ i σ' H',Inv X pins σ' H' s'/\tn i s'.heap/\(∀ b∈fp,H' b=none)/\W i n σ' H') ?_ m0 ⟨0,σ,H2,I2,st2,fun b hb=>(f2 b hb).1,w0⟩
 rintro n s3 ⟨i,σ3,H3,I3,st3,fr3,w3⟩
 rcases turn i n σ3 H3 w3 with ⟨stop,qn⟩|⟨go,N,hN,step⟩
 ·refine V3 hp (thn (T.done X rfl rfl rfl hc i pins s3 σ3 H3 X.xe I3 (stat fr3) st3 stop) fun r s4 ⟨hr,I4⟩=>?_)
  subst hr
  exact U8 ⟨σ3,H3,I4,qn⟩
 ·refine V3 hp (thn (T.item X rfl rfl rfl hc i pins s3 σ3 H3 X.xe I3 (stat fr3) st3 go) fun r s4 ⟨u,hr,h4⟩=>?_)
  subst hr
  refine V3 hp (thn h4 fun _ s5 ⟨x,H5,I5,r5,y5,st5,fr5⟩=>?_)
  have I5':=I5.pinned (stat fr5) (T.obj _ _ st5)
  refine V3 hp (thn (hg _ s5 σ3 H5 x u _ I5' r5 (step x H5 y5)) fun _ s6 ⟨σ6,H6,I6,q6⟩=>?_)
  refine V3 hp (thn (hb _ s6 σ6 H6 _ I6 q6) fun f s7 q7=>?_)
  have again:∀ {σ7:St} {H7:Hp},Inv X (pins++zJ fp s5.heap) σ7 H7 s7->N σ7 H7->∃ m,m<n/\∃ i σ' H',Inv X pins σ' H' s7/\tn i s7.heap/\(∀ b∈fp,H' b=none)/\W i m σ' H':=fun {σ7 H7} I7 n7=>by
   obtain ⟨m',hm,w7⟩:=hN σ7 H7 n7
   refine ⟨m',hm,i+1,σ7,H7,I7.unpinned,T.keep _ _ _ st5 fun b hb o e=>(I7.pin (b,o) (KF _ (KF _ (zB hb e)))).1,fun b hb=>?_,w7⟩
   obtain ⟨o,e,d⟩:=T.obj _ _ st5 b hb
   exact (I7.pin (b,o) (KF _ (KF _ (zB hb e)))).2.1
  cases f with
  | next=>obtain ⟨σ7,H7,I7,n7⟩:=q7;exact again I7 n7
  | cont=>obtain ⟨σ7,H7,I7,n7⟩:=q7;exact again I7 n7
  | brk=>obtain ⟨σ7,H7,I7,q7⟩:=q7;exact ⟨σ7,H7,I7.unpinned,q7⟩
  | ret v=>obtain ⟨x7,σ7,H7,I7,r7,q7⟩:=q7;exact ⟨x7,σ7,H7,I7.unpinned,r7,q7⟩
end
abbrev R2:=V->V->Hp->VK->Prop
def OpR (X:Cx)(f:aI)(r:R2):Prop :=
 ∀ (pins:af) (s:Ke) (σ:St) (H:Hp) (x y:V) (v u:Kc) (Q:VK),Inv X pins σ H s->RelV x v->RelV y u->r x y H Q->
  wpAny (model X.prog X.w) X.A (f v u) (EP X pins σ Q) X.xe s
def UnR (X:Cx)(f:Kc->Sem Kc)(r:V->Hp->VK->Prop):Prop :=
 ∀ (pins:af) (s:Ke) (σ:St) (H:Hp) (x:V) (v:Kc) (Q:VK),Inv X pins σ H s->RelV x v->r x H Q->
  wpAny (model X.prog X.w) X.A (f v) (EP X pins σ Q) X.xe s
def Qc (X:Cx)(f:Kc)(r:aZ):Prop :=
 ∀ (pins:af) (s:Ke) (σ:St) (H:Hp) (xs:List V) (us:aw) (Q:VK),Inv X pins σ H s->Vals xs us->r xs H Q->
  wpAny (model X.prog X.w) X.A (call f us) (EP X pins σ Q) X.xe s
def TruR (X:Cx)(r:V->Hp->(Bool->Hp->Prop)->Prop):Prop :=
 ∀ (pins:af) (s:Ke) (σ:St) (H:Hp) (x:V) (v:Kc) (Q:Bool->Hp->Prop),Inv X pins σ H s->RelV x v->r x H Q->
  wpAny (model X.prog X.w) X.A (truthy v) (TP X pins σ Q) X.xe s
def tOp (r:R2)(ta tb:TE):TE:=fun σ H Q=>ta σ H fun x H1=>tb σ H1 fun y H2=>r x y H2 Q
def tUn (r:V->Hp->VK->Prop)(ta:TE):TE:=fun σ H Q=>ta σ H fun x H1=>r x H1 Q
def rI (C:Int->Int->Prop)(g:Int->Int->V):R2:=fun x y H Q=>∃ i j,x=.int i/\y=.int j/\C i j/\Q (g i j) H
def rI0 (g:Int->Int->V):R2:=fun x y H Q=>∃ i j,x=.int i/\y=.int j/\Q (g i j) H
def rU (g:Int->V):V->Hp->VK->Prop:=fun x H Q=>∃ i,x=.int i/\Q (g i) H
section
variable {X:Cx}{a b c:Kp}{ta tb tc:TE}{pos:Pos}
theorem binT (ha:PE X a ta)(hb:PE X b tb){pins:af}{s:Ke}{σ:St}{H:Hp}{R:V->V->Hp->Prop}(I:Inv X pins σ H s)
  (h:ta σ H fun x H1=>tb σ H1 fun y H2=>R x y H2) {Q:ak} {f:aI}
  (hf:∀ v u s2 x y H2,Inv X pins σ H2 s2->RelV x v->RelV y u->R x y H2->wpAny (model X.prog X.w) X.A (f v u) Q X.xe s2) :
  wpAny (model X.prog X.w) X.A (eval a X.env) (fun v s₁=>wpAny (model X.prog X.w) X.A (eval b X.env) (fun u s₂=>wpAny (model X.prog X.w) X.A (f v u) Q X.xe s₂) X.xe s₁) X.xe s:=by
 refine thn (ha pins s σ H _ I h) fun v s1 ⟨x,H1,I1,r1,q1⟩=>?_
 refine thn (hb pins s1 σ H1 _ I1 q1) fun u s2 ⟨y,H2,I2,r2,q2⟩=>?_
 exact hf v u s2 x y H2 I2 r1 r2 q2
theorem qaC {op:Operator}{r:R2}(ho:OpR X (binaryOp op) r)(ha:PE X a ta)(hb:PE X b tb):PE X (.BinOp a op b pos) (tOp r ta tb):=by
 intro pins s σ H Q I h
 exact wpAny_BinOp (binT ha hb I h fun v u s2 x y H2 I2 rx ry q=>ho pins s2 σ H2 x y v u Q I2 rx ry q)
theorem pe_un {op:UnaryOp}{r:V->Hp->VK->Prop}(ho:UnR X (unaryOp op) r)(ha:PE X a ta):PE X (.UnaryOp op a pos) (tUn r ta):=by
 intro pins s σ H Q I h
 exact UnaryOp_ (thn (ha pins s σ H _ I h) fun v s1 ⟨x,H1,I1,r1,q1⟩=>ho pins s1 σ H1 x v Q I1 r1 q1)
theorem opI {f:aI}{C:Int->Int->Prop}{g:aP}
  (rule:∀ (i j:Int) (t u:Tok) (s:Ke) (Q:ak) (E:ak),C i j->Q (.int (g i j) s.toks) { s with toks:=s.toks+1 }->wpAny (model X.prog X.w) X.A (f (.int i t) (.int j u)) Q E s) :
  OpR X f (rI C fun i j=>.int (g i j)):=by
 intro pins s σ H x y v u Q I rx ry h
 obtain ⟨i,j,rfl,rfl,hc,q⟩:=h
 obtain ⟨t,rfl⟩:=rx
 obtain ⟨t',rfl⟩:=ry
 exact rule i j t t' s _ _ hc ⟨.int (g i j),H,I.tok _,⟨_,rfl⟩,q⟩
theorem opI0 {f:aI}{g:aP}
  (rule:∀ (i j:Int) (t u:Tok) (s:Ke) (Q:ak) (E:ak),Q (.int (g i j) s.toks) { s with toks:=s.toks+1 }->wpAny (model X.prog X.w) X.A (f (.int i t) (.int j u)) Q E s) :
  OpR X f (rI0 fun i j=>.int (g i j)):=by
 intro pins s σ H x y v u Q I rx ry h
 obtain ⟨i,j,rfl,rfl,q⟩:=h
 obtain ⟨t,rfl⟩:=rx
 obtain ⟨t',rfl⟩:=ry
 exact rule i j t t' s _ _ ⟨.int (g i j),H,I.tok _,⟨_,rfl⟩,q⟩
theorem opB0 {f:aI}{g:Int->Int->Bool}
  (rule:∀ (i j:Int) (t u:Tok) (s:Ke) (Q:ak) (E:ak),Q (.bool (g i j)) s->wpAny (model X.prog X.w) X.A (f (.int i t) (.int j u)) Q E s) :
  OpR X f (rI0 fun i j=>.bl (g i j)):=by
 intro pins s σ H x y v u Q I rx ry h
 obtain ⟨i,j,rfl,rfl,q⟩:=h
 obtain ⟨t,rfl⟩:=rx
 obtain ⟨t',rfl⟩:=ry
 exact rule i j t t' s _ _ ⟨.bl (g i j),H,I,rfl,q⟩
def CDiv (i j:Int):Prop:=0<j/\j<1073741824
def CPow (i j:Int):Prop:=0<=j/\j<=1000000/\i.natAbs<2 ^ 64
theorem qdd:OpR X (binaryOp .Add) (rI0 fun i j=>.int (i+j)):=opI0 fun _ _ _ _ _ _ _ q=>add_int q
theorem qdi:OpR X (binaryOp .Sub) (rI0 fun i j=>.int (i-j)):=opI0 fun _ _ _ _ _ _ _ q=>sub_int q
theorem qbM:OpR X (binaryOp .FloorDiv) (rI CDiv fun i j=>.int (i / j)):=opI fun i j _ _ _ _ _ hc q=>by
 have h1:(0:Int)<j:=hc.1
 have h2:j<1073741824:=hc.2
 exact floordiv_int (by omega) (by rw [Int.fdiv_eq_ediv_of_nonneg i (by omega)];exact q) (.inl (PyProof.noPylong_small (by omega)))
theorem qdf:OpR X (binaryOp .Mod) (rI (fun _ j=>0<j) fun i j=>.int (i % j)):=opI fun i j _ _ _ _ _ hc q=>by
 have h1:(0:Int)<j:=hc
 exact mod_int' (by omega) (by rw [Int.fmod_eq_emod_of_nonneg i (by omega)];exact q)
theorem unI {f:Kc->Sem Kc}{g:Int->Int}
  (rule:∀ (i:Int) (t:Tok) (s:Ke) (Q:ak) (E:ak),Q (.int (g i) s.toks) { s with toks:=s.toks+1 }->wpAny (model X.prog X.w) X.A (f (.int i t)) Q E s) :
  UnR X f (rU fun i=>.int (g i)):=by
 intro pins s σ H x v Q I rx h
 obtain ⟨i,rfl,q⟩:=h
 obtain ⟨t,rfl⟩:=rx
 exact rule i t s _ _ ⟨.int (g i),H,I.tok _,⟨_,rfl⟩,q⟩
theorem qd4:UnR X (unaryOp .USub) (rU fun i=>.int (-i)):=unI fun _ _ _ _ _ q=>neg_int q
end
section
variable {X:Cx}{a b c:Kp}{ta tb tc:TE}{pos:Pos}
theorem yK {pins:af}{σ:St}{H:Hp}{s:Ke}{Q:VK}{k k':Bool}(I:Inv X pins σ H s)(q:Q (.bl k) H)(e:k=k'):EP X pins σ Q (.bool k') s:=by
 subst e
 exact ⟨.bl k,H,I,rfl,q⟩
theorem op_gt:OpR X (compareOp .Gt) (rI0 fun i j=>.bl (decide (j<i))):=opB0 fun _ _ _ _ _ _ _ q=>gt_int q
theorem op_ge:OpR X (compareOp .GtE) (rI0 fun i j=>.bl (decide (j<=i))):=opB0 fun _ _ _ _ _ _ _ q=>ge_int q
theorem OpR.or {f:aI}{r r':R2}(h:OpR X f r)(h':OpR X f r'):OpR X f (fun x y H Q=>r x y H Q\/r' x y H Q):=by
 intro pins s σ H x y v u Q I rx ry q
 rcases q with q|q
 ·exact h pins s σ H x y v u Q I rx ry q
 ·exact h' pins s σ H x y v u Q I rx ry q
theorem qW (b:Kp){op:CmpOp}(h:op≠.In:=by decide)(h2:op≠.NotIn:=by decide):behindInMarks op b=false:=by
 have e1:(op==CmpOp.In)=false:=by cases op<;>first|rfl|exact absurd rfl h
 have e2:(op==CmpOp.NotIn)=false:=by cases op<;>first|rfl|exact absurd rfl h2
 cases b<;>simp [behindInMarks,e1,e2]
theorem qbZ {op:CmpOp}{r:R2}(ho:OpR X (compareOp op) r)(ha:PE X a ta)(hb:PE X b tb)(hm:behindInMarks op b=false):PE X (.Compare a [op] [b] pos) (tOp r ta tb):=by
 intro pins s σ H Q I h
 exact wpAny_Compare1 (binT ha hb I h fun v u s2 x y H2 I2 rx ry q=>ho pins s2 σ H2 x y v u Q I2 rx ry q) hm
def tTest (t:TE):TT:=fun σ H Q=>t σ H fun x H'=>∃ k,x=.bl k/\Q k H'
theorem qb9 {op:CmpOp}{r:R2}(ho:OpR X (compareOp op) r)(ha:PE X a ta)(hb:PE X b tb)(hm:behindInMarks op b=false):PT X (.Compare a [op] [b] pos) (tTest (tOp r ta tb)):=by
 intro pins s σ H Q I h
 refine wpAny_isTrue_Compare1 (thn (ha pins s σ H _ I h) fun v s1 ⟨x,H1,I1,r1,q1⟩=>thn (hb pins s1 σ H1 _ I1 q1) fun u s2 ⟨y,H2,I2,r2,q2⟩ =>
  thn (ho pins s2 σ H2 x y v u _ I2 r1 r2 q2) fun c s3 ⟨z,H3,I3,r3,k,e,q3⟩=>?_) hm
 subst e
 cases r3
 exact VQ ⟨H3,I3,q3⟩
def TruV (K:Kb)(x:V)(H:Hp)(k:Bool):Prop :=
 match x with
 | .non=>k=false
 | .bl b=>k=b
 | .int i=>k=(i != 0)
 | .str y=>y.length<=sizeLine/\k=((y.length:Int) != 0)
 | .byt y=>y.size<=sizeLine/\k=((y.size:Int) != 0)
 | .ref p=>(∃ xs,SqL K H p xs/\k=!xs.isEmpty)\/(∃ xs,SqT K H p xs/\k=!xs.isEmpty)\/∃ kvs,H p=some (.dK kvs)/\k=!kvs.isEmpty
 | _=>False
theorem yM {κ:Type}{kvs:List (κ×V)}{vs:List (κ×Value)}(r:KV kvs vs):(!vs.isEmpty)=!kvs.isEmpty:=by
 cases r<;>rfl
theorem jj {xs:List V}{its:aw}(r:Vals xs its):(!its.toArray.isEmpty)=!xs.isEmpty:=by
 cases r<;>simp
theorem Zy:(sizeLine:Nat)<2 ^ 63:=by rw [X4];decide
theorem qd1:TruR X (fun x H Q=>∃ k,TruV X.K x H k/\Q k H):=by
 intro pins s σ H x v Q I rx h
 obtain ⟨k,e,q⟩:=h
 have hl:=Zy
 have hs:sizeLine=16777216:=X4
 cases x with
 | non =>
  cases rx
  have e':k=false:=e
  subst e'
  exact truthy_none ⟨H,I,q⟩
 | bl b =>
  cases rx
  have e':k=b:=e
  subst e'
  exact VQ ⟨H,I,q⟩
 | int i =>
  obtain ⟨t,rfl⟩:=rx
  have e':k=(i != 0):=e
  subst e'
  exact PySem.P.truthy_int ⟨H,I,q⟩
 | str y =>
  obtain ⟨t,rfl⟩:=rx
  obtain ⟨hy,e'⟩:y.length<=sizeLine/\k=((y.length:Int) != 0):=e
  subst e'
  exact PySem.P.truthy_str (by omega) ⟨H,I.tok _,q⟩
 | byt y =>
  obtain ⟨t,rfl⟩:=rx
  obtain ⟨hy,e'⟩:y.size<=sizeLine/\k=((y.size:Int) != 0):=e
  subst e'
  exact PySem.W.truthy_bytes (by omega) ⟨H,I.tok _,q⟩
 | ref p =>
  cases rx
  have e':(∃ xs,SqL X.K H p xs/\k=!xs.isEmpty)\/(∃ xs,SqT X.K H p xs/\k=!xs.isEmpty)\/∃ kvs,H p=some (.dK kvs)/\k=!kvs.isEmpty:=e
  rcases e' with ⟨xs,hx,e'⟩|⟨xs,hx,e'⟩|⟨kvs,hx,e'⟩
  ·subst e'
   obtain ⟨its,r,pl,hz⟩:=I.list hx
   have hlen:=r.length
   exact wpAny_truthy_list pl.isList (by simp only [Km];omega) ⟨H,I.tok _,by rw [jj r];exact q⟩
  ·subst e'
   obtain ⟨its,r,pl,hz⟩:=I.tuple hx
   have hlen:=r.length
   exact truthy_tuple pl (by simp only [Km];omega) ⟨H,I.tok _,by rw [jj r];exact q⟩
  ·subst e'
   obtain ⟨hz,hS,vs,r,m⟩:kvs.length<=sizeLine/\(p==sysModules)=false/\∃ vs,KV kvs vs/\s.heap.DictOf (Ju X.prog X.w) p vs:=I.hok p _ hx
   have hlen:kvs.length=vs.length:=Paired.length r
   exact wpAny_truthy_dict hS m (by omega) ⟨H,I.tok _,by rw [yM r];exact q⟩
 | _=>exact (show False from e).elim
theorem qaL (ha:PE X a ta)(he:∀ whole,isTrue a X.env whole=(do let v ← whole;standAt a.pos;holding [v] (truthy v))) :
  PT X a (fun σ H Q=>ta σ H fun x H'=>∃ k,TruV X.K x H' k/\Q k H'):=by
 intro pins s σ H Q I h
 exact isTrue_plain (thn (ha pins s σ H _ I h) fun v s1 ⟨x,H1,I1,r1,q1⟩=>qd1 pins s1 σ H1 x v Q I1 r1 q1) (he _)
theorem vals1 {x:V}{us:aw}(r:Vals [x] us):∃ u,us=[u]/\RelV x u:=by
 cases r with
 | cons r1 r2=>cases r2;exact ⟨_,rfl,r1⟩
end
structure ObjM (h:KC)(x dx C:Kd)(mA:ar):Prop where
 obj:h.get? x=some (XW C dx)
 ns:h.Ns1 dx mA
 ne:dx≠x
theorem wU {h:KC}{dx:Kd}{mA:ar}(n:h.Ns1 dx mA):∃ od,h.get? dx=some od/\∀ name,Na name od=some (mA name):=by
 obtain ⟨o,es,ep,ho,hd,hk,_,hm⟩:=n
 refine ⟨o,ho,fun name=>?_⟩
 have e:=hm name
 unfold nsFind findBy at e
 rw [← Array.find?_toList] at e
 unfold Na
 rw [hd]
 dsimp only
 split
 ·rename_i y q
  rw [q] at e
  exact congrArg some e
 ·rename_i q
  rw [q] at e
  have a:es.toList.any (·.refKey)=false:=by
   rw [List.any_eq_false]
   intro y hy
   obtain ⟨z,t,hkey⟩:=hk y (Array.mem_toList_iff.mp hy)
   simp [DictEntry.refKey,hkey]
  have a':¬ es.toList.any (·.refKey)=true:=by rw [a];exact Vq
  rw [if_neg a']
  exact congrArg some e
theorem ObjM.look {h:KC}{x dx C:Kd}{mA:ar}(I:ObjM h x dx C mA):∃ od,PySem.W.InstAt h x (XW C dx) C (some od)/\∀ name,Na name od=some (mA name) :=
 let ⟨od,ho,hl⟩:=wU I.ns
 ⟨od,⟨I.obj,rfl,rfl,ho⟩,hl⟩
section
variable {P:Kw}{w:KB}{H H':Hp}{h h':KC}{a C dx:Kd}{fs fs':List (Str×V)}
theorem qbx (hok:HOk P w H h)(e:H a=some (.ins C dx fs)):∃ mA,ObjM h a dx C mA/\(∀ f,RelO (fs.lookup f) (mA f))/\PySem.Within mA (fs.map (·.1))/\fs.length<=1000/\H dx=some (.own a):=by
 obtain ⟨d,z,ne,ob,mA,n,r,q⟩:=(show q8 P w H h a (.ins C dx fs) from hok a _ e)
 exact ⟨mA,⟨ob,n,ne⟩,r,q,z,d⟩
end
structure Cls (K:Kb)(C:Kd):Prop where
 pg:XB K C Str.empty=true
 hd:Nq K C=true
 po:Nr K C=true
 sa:Vx K (.ref C) "__setattr__" = some (some (.builtin "object.__setattr__"))
theorem Cls.get {K:Kb}{C:Kd}(c:Cls K C)(f:Str):XB K C f=true:=c.pg
section
variable {X:Cx}{pins:af}{σ:St}{H:Hp}{s:Ke}{A:KG}{E:ak}{Q:ak}{c:Kc}{b:Bool}
inductive TyOf (K:Kb)(H:Hp):V->Kc->Prop where
 | non:TyOf K H .non (.type "NoneType")
 | bl (x:Bool):TyOf K H (.bl x) (.type "bool")
 | int (i:Int):TyOf K H (.int i) (.type "int")
 | str (x:Str):TyOf K H (.str x) (.type "str")
 | flt (x:UInt64):TyOf K H (.flt x) (.type "float")
 | lst {a:Kd} {xs:List V} (e:H a=some (.lst xs)):TyOf K H (.ref a) (.type "list")
 | frz {a:Kd} {o:Obj} {xs:List V} (e:H a=some (.frz o (.lst xs))):TyOf K H (.ref a) (.type "list")
 | tup {a:Kd} {xs:List V} (e:H a=some (.tup xs)):TyOf K H (.ref a) (.type "tuple")
 | dK {a:Kd} {kvs:List (Key×V)} (e:H a=some (.dK kvs)):TyOf K H (.ref a) (.type "dict")
 | dT {a:Kd} {kvs:List (List Key×V)} (e:H a=some (.dT kvs)):TyOf K H (.ref a) (.type "dict")
 | ins {a C dx:Kd} {fs:List (Str×V)} (e:H a=some (.ins C dx fs)) (cl:Cls K C) (ha:Vx K (.ref C) "__class__" = some (some (.builtin "object.__class__")))
   (hn:Xs K (.builtin "object.__class__") "__get__" = some (some (.builtin "getset_descriptor.__get__"))) (htk:XY K (.builtin "object.__class__")=some true)
   (hm:Uo K C (.type "object")=some true):TyOf K H (.ref a) (.ref C)
theorem wN {x:V}{u t:Kc}(I:Inv X pins σ H s)(rx:RelV x u)(ty:TyOf X.K H x t)(e:Vy X.K t c=some b)(h:∀ tk,Q (.bool b) { s with toks:=tk }) :
  wpAny (model X.prog X.w) A (call (.builtin "isinstance") [u,c]) Q E s:=by
 cases ty with
 | non=>cases (show u=UL from rx);exact KJ Nt I.kIn Up e (fun z=>nomatch z) h
 | bl y=>cases (show u=Ub y from rx);exact KJ Nu I.kIn Up e (fun z=>nomatch z) h
 | int i=>obtain ⟨t,q⟩:=(show ∃ t,u=UC i t from rx);cases q;exact KJ PySem.W.kitx_int I.kIn Up e (fun z=>nomatch z) h
 | str y=>obtain ⟨t,q⟩:=(show ∃ t,u=U0 y t from rx);cases q;exact KJ PySem.W.kitx_str I.kIn Up e (fun z=>nomatch z) h
 | flt y=>obtain ⟨t,q⟩:=(show ∃ t,u=Value.float y t from rx);cases q;exact KJ PySem.W.kitx_float I.kIn Up e (fun z=>nomatch z) h
 | @lst a xs ea =>
  cases (show u=K8 a from rx)
  obtain ⟨_,_,n,_,h1⟩:=(show q8 X.prog X.w H s.heap a (.lst xs) from I.hok a _ ea)
  exact KJ Xt I.kIn ⟨_,h1,rfl⟩ e (fun z=>nomatch z) h
 | @frz a ob xs ea =>
  cases (show u=K8 a from rx)
  obtain ⟨_,_,_,n,_,h1⟩:=(show q8 X.prog X.w H s.heap a (.frz ob (.lst xs)) from I.hok a _ ea)
  exact KJ Xt I.kIn ⟨_,h1,rfl⟩ e (fun z=>nomatch z) h
 | @tup a xs ea =>
  cases (show u=K8 a from rx)
  obtain ⟨_,_,_,p⟩:=(show q8 X.prog X.w H s.heap a (.tup xs) from I.hok a _ ea)
  obtain ⟨o,h1,h2,_⟩:=p
  exact KJ Nk I.kIn ⟨o,h1,h2⟩ e (fun z=>nomatch z) h
 | @dK a kvs ea =>
  cases (show u=K8 a from rx)
  obtain ⟨_,_,vs,_,p⟩:=(show q8 X.prog X.w H s.heap a (.dK kvs) from I.hok a _ ea)
  obtain ⟨o,es,ep,h1,h2,_⟩:=p
  exact KJ Xu I.kIn ⟨o,h1,h2.1⟩ e (fun z=>nomatch z) h
 | @dT a kvs ea =>
  cases (show u=K8 a from rx)
  obtain ⟨_,_,xs,_,o,es,ep,h1,h2,_⟩:=(show q8 X.prog X.w H s.heap a (.dT kvs) from I.hok a _ ea)
  exact KJ Xu I.kIn ⟨o,h1,h2.1⟩ e (fun z=>nomatch z) h
 | @ins a C dx fs ea cl ha hn htk hm =>
  cases (show u=K8 a from rx)
  obtain ⟨mA,O,_⟩:=qbx I.hok ea
  obtain ⟨od,J,_⟩:=O.look
  exact KJ (PySem.W.kitx_own (cl.get _) cl.hd ha hn htk hm) I.kIn J e (fun z=>nomatch z) h
end
structure Room (k:Nat)(A:KG):Prop where
 hd:A.handled=none
 dp:A.depth+3*k+5<recursionLimit
 un:A.units+16*k+200<cLine
 gd:A.guards=some []
theorem Room.mono {j k:Nat}{A:KG}(r:Room k A)(h:j<=k):Room j A:=⟨r.hd,by have:=r.dp;omega,by have:=r.un;omega,r.gd⟩
theorem Room.deeper {k:Nat}{A:KG}(r:Room (k+1) A)(env:Env):Room k (A.deeper env) :=
 ⟨r.hd,by have:=r.dp;show A.depth+1+3*k+5<_;omega,by have:=r.un;show A.units+3+16*k+200<_;omega,r.gd⟩
theorem Room.depth {k:Nat}{A:KG}(r:Room k A):A.depth<recursionLimit:=by have:=r.dp;omega
theorem Room.units {k:Nat}{A:KG}(r:Room k A):A.units+64<cLine:=by have:=r.un;omega
def tNil:TA:=fun _ H Q=>Q [] H
def tCons (ta:TE)(tr:TA):TA:=fun σ H Q=>ta σ H fun x H1=>tr σ H1 fun xs H2=>Q (x::xs) H2
section
variable {X:Cx}{e:Kp}{es:aG}{te:TE}{t:TA}{pos:Pos}
theorem qap:PA X [] tNil:=fun _ _ _ _ H Q I h=>Calls.spliced_nil ⟨[],H,I,.nil,h⟩
theorem Jw (ha:PE X e te)(hr:PA X es t)(hs:starEach (e::es) X.env=(false,eval e X.env)::starEach es X.env:=by rfl):PA X (e::es) (tCons te t):=by
 intro pos pins s σ H Q I h
 rw [hs]
 show wpAny _ _ (spliced ((false,eval e X.env)::backTo pos (starEach es X.env))) _ _ s
 refine Calls.spliced_cons (thn (ha pins s σ H _ I h) fun u s1 ⟨x,H1,I1,r1,q1⟩=>?_)
 exact thn (hr pos pins s1 σ H1 _ I1 q1) fun us s2 ⟨xs,H2,I2,r2,q2⟩=>⟨x::xs,H2,I2,.cons r1 r2,q2⟩
def tTup (t:TA):TE:=fun σ H Q=>t σ H fun xs H1=>xs.length<=sizeLine/\∀ p,H1 p=none->Q (.ref p) (upd H1 p (.tup xs))
def tLst (t:TA):TE:=fun σ H Q=>t σ H fun xs H1=>xs.length<=sizeLine/\∀ p,H1 p=none->Q (.ref p) (upd H1 p (.lst xs))
theorem qdu {x1}(h:PA X es t):PE X (.Tuple es x1 pos) (tTup t):=by
 intro pins s σ H Q I hq
 refine wpAny_Tuple_spliced (thn (h pos pins s σ H _ I hq) fun us s1 ⟨xs,H1,I1,r,z,q⟩=>⟨by rw [← r.length];exact z,?_⟩)
 have hf:H1 s1.heap.objs.size=none:=I1.hok.fresh (Kl _)
 refine ⟨.ref s1.heap.objs.size,upd H1 s1.heap.objs.size (.tup xs),I1.laid (t':=s1.toks) (fun b u e=>Kg _ e) (Kl _) ?_,rfl,q _ hf⟩
 exact ⟨z,us,r,⟨_,Kx _ rfl,rfl,_,rfl⟩⟩
theorem qaB (h:PA X es t):PE X (.List es pos) (tLst t):=by
 intro pins s σ H Q I hq
 refine wpAny_List_spliced (thn (h pos pins s σ H _ I hq) fun us s1 ⟨xs,H1,I1,r,z,q⟩=>⟨by rw [← r.length];exact z,?_⟩)
 have hf:H1 s1.heap.objs.size=none:=I1.hok.fresh (Kl _)
 refine ⟨.ref s1.heap.objs.size,upd H1 s1.heap.objs.size (.lst xs),I1.laid (t':=s1.toks) (fun b u e=>Kg _ e) (Kl _) ?_,rfl,q _ hf⟩
 exact ⟨z,us,0,r,Kx _ rfl⟩
end
abbrev Sp:=List V->Hp->VK->XK->Prop
abbrev CXT:=List Env->Hp->Ke->XK->Kc->Ke->Prop
structure Env0 (P:Kw)(w:KB)(K:Kb)(mg:ar)(base:KC)(A:KG)(outer:aX)(s:Ke)(H:Hp):Prop where
 frames:A.frames=some outer
 mod:Mod K mg base
 bs:∀ b o,base.get? b=some o->s.heap.get? b=some o/\H b=none
 bsz:base.objs.size<=s.heap.objs.size
 funs:s.heap.FunFrames base outer
 frf:∀ b∈frs outer,H b=none
 hok:HOk P w H s.heap
 bare:U2 s.gens
def CE (outer:aX)(P:Kw)(w:KB)(H:Hp)(s:Ke)(Q:VK)(u:Kc)(s':Ke):Prop :=
 ∃ v H',s'.os=s.os/\U2 s'.gens/\Un (frs outer) [] H H' s.heap s'.heap/\HOk P w H' s'.heap/\RelV v u/\Q v H'
def CR (CX:CXT)(outer:aX)(P:Kw)(w:KB)(H:Hp)(s:Ke)(Q:VK)(E:XK)(r:Result)(s':Ke):Prop :=
 match r with
 | .ok (.ret u)=>CE outer P w H s Q u s'
 | .ok _=>False
 | .error e=>CX outer H s E e s'
structure FnOk (P:Kw)(w:KB)(K:Kb)(mg:ar)(base:KC)(CX:CXT)(k:Nat)(f:Kd)(fd:Vs)(ps:az)(sp:Sp):Prop where
 len:∀ vs H Q E,sp vs H Q E->vs.length=ps.length
 run:∀ (A:KG) (outer:aX) (s:Ke) (H:Hp) (args:Args) (us:aw) (vs:List V) (Q:VK) (E:XK),Room k A->Env0 P w K mg base A outer s H->BindsTo s fd args (ps.zip us)->Vals vs us->sp vs H Q E->
  codeAny (model P w) A (.call (.ref f) args) (CR CX outer P w H s Q E) s
theorem FnOk.imp {P:Kw}{w:KB}{K:Kb}{mg:ar}{base:KC}{CX:CXT}{k:Nat}{f:Kd}{fd:Vs}{ps:az}{sp sp':Sp}(F:FnOk P w K mg base CX k f fd ps sp)
  (h:∀ vs H Q E,sp' vs H Q E->sp vs H Q E):FnOk P w K mg base CX k f fd ps sp' :=
 ⟨fun vs H Q E q=>F.len vs H Q E (h _ _ _ _ q),fun A outer s H args us vs Q E hr he hb hv hs=>F.run A outer s H args us vs Q E hr he hb hv (h _ _ _ _ hs)⟩
section
variable {X:Cx}{pins:af}{σ:St}{H:Hp}{s s':Ke}
theorem Inv.env0 (I:Inv X pins σ H s):Env0 X.prog X.w X.K X.mg X.base X.A X.stack s H :=
 ⟨I.ok.frames,I.ok.mod,I.bs,KO I.ok.bsz I.sz,I.stack,I.stkFree,I.hok,I.bare⟩
theorem Inv.after {Q:VK}{u:Kc}(I:Inv X pins σ H s)(h:CE X.stack X.prog X.w H s Q u s'):EP X pins σ Q u s':=by
 obtain ⟨v,H',os,bare,un,hok,r,q⟩:=h
 obtain ⟨hh,g,d,t,os'⟩:=s'
 obtain rfl:os'=s.os:=os
 exact ⟨v,H',I.call (h':=hh) (g':=g) (d':=d) (t':=t) (ch:=[]) un hok bare (fun b z=>absurd z (by simp)),r,q⟩
end
def tCall (sp:Sp)(dvs:List V)(E:XK)(t:TA):TE:=fun σ H Q=>t σ H fun vs H1=>sp (vs++dvs) H1 Q E
def Binds (K:Kb)(fd:Vs)(ps:az)(ds:aw):Prop :=
 ∀ (s:Ke) (us:aw),K.In s.heap->(us++ds).length=ps.length->BindsTo s fd ⟨us,[]⟩ (ps.zip (us++ds))
theorem Binds.all {K:Kb}{fd:Vs}{ps:az}(h:∀ us:List Kc,us.length=ps.length->bindArgs fd ⟨us,[]⟩=pure (ps.zip us)):Binds K fd ps []:=fun s us _ hl=>by
 rw [VD] at hl ⊢
 exact .of_eq (h us hl)
def Jd (CX:CXT)(X:Cx)(E:XK):Prop:=∀ (pins:af) (σ:St) (H:Hp) (s:Ke) (e:Kc) (s':Ke),Inv X pins σ H s->CX X.stack H s E e s'->X.xe e s'
section
variable {X:Cx}{CX:CXT}{k:Nat}{f C:Kd}{fd:Vs}{ps:az}{sp:Sp}{dvs:List V}{ds:aw}{E:XK}{x m:Str}{p pos apos:Pos}{e o:Kp}{es:aG}{ta:TE}{t:TA}
theorem qdG {pins:af}{σ:St}{H:Hp}{s:Ke}{Q:VK}{us:aw}{vs:List V}(F:FnOk X.prog X.w X.K X.mg X.base CX k f fd ps sp)(hr:Room k X.A)(hb:Binds X.K fd ps ds)(hd:Vals dvs ds)(hx:Jd CX X E)
  (I:Inv X pins σ H s) (r:Vals vs us) (h:sp (vs++dvs) H Q E):wpAny (model X.prog X.w) X.A (call (.ref f) us) (EP X pins σ Q) X.xe s:=by
 have r2:Vals (vs++dvs) (us++ds):=r.append hd
 have hl:(us++ds).length=ps.length:=by rw [← r2.length];exact F.len _ _ _ _ h
 refine wpAny_call (UD (F.run X.A X.stack s H ⟨us,[]⟩ (us++ds) (vs++dvs) Q E hr I.env0 (hb s us I.kIn hl) r2 h) fun r s' hq=>?_)
 cases r with
 | error e=>exact hx pins σ H s e s' I hq
 | ok fl =>
  cases fl with
  | ret u=>exact I.after hq
  | next=>exact Ue hq
  | brk=>exact Ue hq
  | cont=>exact Ue hq
theorem qbY (F:FnOk X.prog X.w X.K X.mg X.base CX k f fd ps sp)(hr:Room k X.A)(hg:Gl X x)(hm:X.mg x=some (.ref f))(hk:VW X.K (.ref f)=true)(hb:Binds X.K fd ps ds)(hd:Vals dvs ds)(hx:Jd CX X E)
  (ha:PA X (e::es) t) (hdb:(x==("__debug__" : Str))=false:=by decide) (he:starEach (e::es) X.env=(false,eval e X.env)::starEach es X.env:=by rfl) (hpl:(backTo pos (starEach es X.env)).any (·.1)=false:=by rfl) :
  PE X (.Call (.Name x p) (e::es) [] pos) (tCall sp dvs E t):=by
 intro pins s σ H Q I h
 refine VL (qbA I hg hm ?_ hdb)
 refine PySem.W.callWith_K (h₀:=X.base) I.ok.mod.kin hk (thn (ha pos pins s σ H _ I h) fun us s1 ⟨vs,H1,I1,r,q⟩=>⟨I1.kIn,?_⟩) he hpl
 exact qdG F hr hb hd hx I1 r q
end
structure FnScope (N P:az)(sc:K1):Prop where
 kind:sc.kind=.function
 co:sc.isCoroutine=false
 gen:sc.isGenerator=false
 nd:N.Nodup
 pre:N.take P.length=P
 par:∀ x∈P,sc.names.lookup x=some .local\/sc.names.lookup x=some .cell
 nofree:∀ y∈sc.names,y.2≠.free
theorem jR {kindOf:Str->Option XC}{x:Str}:∀ {binds:aT} {m:ar},(∀ v,(x,v)∉binds)->bindL kindOf binds m x=m x
 | [],_,_=>rfl
 | (n,v)::r,m,h=>by
  unfold bindL
  rw [jR fun w hw=>h w (KW _ hw)]
  split
  ·have:x≠n:=by rintro rfl;exact h v K0
   simp [this]
  ·rfl
theorem jP {kindOf:Str->Option XC}{x:Str}:∀ {binds:aT} {m:ar},(∀ v,(x,v)∉binds)->bindC kindOf binds m x=m x
 | [],_,_=>rfl
 | (n,v)::r,m,h=>by
  unfold bindC
  rw [jP fun w hw=>h w (KW _ hw)]
  split
  ·rfl
  ·have:x≠n:=by rintro rfl;exact h v K0
   simp [this]
theorem jQ {kindOf:Str->Option XC}{x:Str}{v:Kc}:∀ {P:az} {vs:aw} {i:Nat} {m:ar},P.Nodup->P[i]?=some x->vs[i]?=some v->kindOf x=some .local->
  bindL kindOf (P.zip vs) m x=some v
 | [],_,_,_,_,h,_,_=>by simp at h
 | _::_,[],_,_,_,_,h,_=>by simp at h
 | p::P,w::vs,0,m,nd,h1,h2,hk=>by
  simp at h1 h2;subst h1;subst h2
  show bindL kindOf ((p,w)::P.zip vs) m p=_
  unfold bindL
  rw [jR fun v hv=>(U9.mp nd).1 (XZ hv).1,if_pos hk]
  simp
 | p::P,w::vs,i+1,m,nd,h1,h2,hk=>by
  show bindL kindOf ((p,w)::P.zip vs) m x=_
  unfold bindL
  exact jQ (i:=i) (U9.mp nd).2 (by simpa using h1) (by simpa using h2) hk
theorem jO {kindOf:Str->Option XC}{x:Str}{v:Kc}:∀ {P:az} {vs:aw} {i:Nat} {m:ar},P.Nodup->P[i]?=some x->vs[i]?=some v->kindOf x≠some .local->
  bindC kindOf (P.zip vs) m x=some v
 | [],_,_,_,_,h,_,_=>by simp at h
 | _::_,[],_,_,_,_,h,_=>by simp at h
 | p::P,w::vs,0,m,nd,h1,h2,hk=>by
  simp at h1 h2;subst h1;subst h2
  show bindC kindOf ((p,w)::P.zip vs) m p=_
  unfold bindC
  rw [jP fun v hv=>(U9.mp nd).1 (XZ hv).1,if_neg hk]
  simp
 | p::P,w::vs,i+1,m,nd,h1,h2,hk=>by
  show bindC kindOf ((p,w)::P.zip vs) m x=_
  unfold bindC
  exact jO (i:=i) (U9.mp nd).2 (by simpa using h1) (by simpa using h2) hk
def start (N:az)(vs:List V):St:=vs.map some++Kn (N.length-vs.length) none
def cxOf (CX:CXT)(P:Kw)(w:KB)(K:Kb)(mg:ar)(base:KC)(N:az)(qual:Str)(scope:K1)(f:Kd)(cd:Kc)(A:KG)(outer:aX)(s:Ke)(H:Hp)(E:XK):Cx where
 prog:=P
 w:=w
 K:=K
 mg:=mg
 base:=base
 A:=A.deeper (envOfC qual scope s.heap.objs.size f cd)
 N:=N
 s₀:=s
 H₀:=H
 env:=envOfC qual scope s.heap.objs.size f cd
 outer:=outer
 stack:=envOfC qual scope s.heap.objs.size f cd::outer
 ex:=[]
 calm:=true
 fn:=fun _=>true
 pn:=[]
 xe:=fun e s'=>wpAny (model P w) (A.deeper (envOfC qual scope s.heap.objs.size f cd)) (leaving (envOfC qual scope s.heap.objs.size f cd) e) (fun _ s''=>CX outer H s E e s'') (fun e' s''=>CX outer H s E e' s'') s'
theorem JS {sc:K1}{n:Nat}{x:Str}(h:sc.names.lookup x=some .cell):∃ c,(cellsFrom n sc.names []).lookup x=some c:=by
 have q:=X5 sc.names n [] (.inl h)
 exact UE.mp q
theorem wM {CX:CXT}{P:Kw}{w:KB}{K:Kb}{mg:ar}{base:KC}{N ps:az}{qual:Str}{scope:K1}{f:Kd}{cd:Kc}{A:KG}{outer:aX}{s s1:Ke}{H:Hp}{E:XK}{us:aw}{vs:List V}
  (S:FnScope N ps scope) (hd:A.handled=none) (e0:Env0 P w K mg base A outer s H) (hl:vs.length=ps.length) (r:Vals vs us)
  (x:InCallC s s.heap.objs.size (bindL (envOfC qual scope s.heap.objs.size f cd).kindOf (ps.zip us) fun _=>none) (cellsFrom (s.heap.objs.size+1) scope.names []) (bindC (envOfC qual scope s.heap.objs.size f cd).kindOf (ps.zip us) fun _=>none) s1) :
  Inv (cxOf CX P w K mg base N qual scope f cd A outer s H E) [] (start N vs) H s1:=by
 have hpl:ps.length<=N.length:=by have:=congrArg List.length S.pre;rw [UW] at this;omega
 obtain ⟨h1,tk,rfl,hk⟩:=x.done
 have noA:∀ b:Kd,b∉(cxOf CX P w K mg base N qual scope f cd A outer s H E).ex:=fun b z=>absurd (show b∈([]:List Kd) from z) (by simp)
 refine ⟨⟨e0.mod,S.kind,rfl,rfl,Kl _,fun y z c h1 h2=>?_,fun y hy=>?_,fun y c _ h=>?_,fun _=>hd,Around.frames_deeper e0.frames,.inr ⟨rfl,rfl⟩,fun b z=>absurd z (noA b),e0.bs,e0.bsz,fun b _ _=>noA b,fun b z=>absurd z (noA b),e0.funs,e0.frf⟩,
  rfl,e0.bare,Un.kept hk,⟨_,x.toInCall.ns,fun i y v h1 h2 h3=>?_⟩,fun y c h=>⟨_,x.cell y c h⟩,e0.hok.fresh (Kl _),fun y c h=>?_,fun p hp=>absurd (show p∈([]:List (Kd×Obj)) from hp) (by simp),e0.hok.kept hk,?_⟩
 ·exact name_of_addr x.apart (VB h1) (VB h2)
 ·have hy:scope.names.lookup y=some .cell\/scope.names.lookup y=some .free:=hy
  rcases hy with hy|hy
  ·exact JS hy
  ·exact absurd rfl (S.nofree _ (VB hy))
 ·exact Vu (x.above y c (VB h))
 ·have hi:i<vs.length:=by
   unfold start at h2
   by_cases hi:i<vs.length
   ·exact hi
   ·rw [VJ (by simpa using hi)] at h2
    rw [VR] at h2
    split at h2<;>cases h2
  have ha:vs[i]?=some v:=by
   unfold start at h2
   rw [K7 (by simpa using hi),VG] at h2
   cases e:vs[i]? with
   | none=>rw [e] at h2;cases h2
   | some a=>rw [e] at h2;cases h2;rfl
  obtain ⟨u,hu,rv⟩:=r.get ha
  have hp:ps[i]?=some y:=by
   rw [← S.pre,List.getElem?_take_of_lt (by omega)];exact h1
  have ndP:ps.Nodup:=by rw [← S.pre];exact S.nd.sublist (List.take_sublist _ _)
  refine ⟨u,rv,?_⟩
  rcases S.par y (Kz hp) with k|k
  ·exact .inl ⟨k,jQ ndP hp hu k⟩
  ·obtain ⟨c,e⟩:=JS (n:=s.heap.objs.size+1) k
   refine .inr ⟨.inl k,c,e,?_⟩
   have q:=x.cell y c e
   rw [jO ndP hp hu (by show scope.names.lookup y≠_;rw [k];decide)] at q
   exact q
 ·exact e0.hok.fresh (Vu (x.above y c (VB h)))
 ·unfold start
  show _=N.length
  rw [Kq,Kh,Vh]
  omega
theorem fn_of {CX:CXT}{P:Kw}{w:KB}{K:Kb}{mg:ar}{base:KC}{k:Nat}{f:Kd}{name qual:Str}{params:Arguments}{body:bc}{scope:K1}{dV kV doc pm cdv ct oc:Kc}{an od:aS}
  {osl:aF} {N ps:az} {sp:Sp} (lk:K.lookup f=some ⟨oc,od,.func (VP name qual params body scope dV kV doc pm an cdv ct),osl⟩) (hcd:Uw K cdv qual=true) (S:FnScope N ps scope)
  (len:∀ vs H Q E,sp vs H Q E->vs.length=ps.length)
  (hbody:∀ (A:KG) (outer:aX) (s:Ke) (H:Hp) (vs:List V) (Q:VK) (E:XK),Room k (A.deeper (envOfC qual scope s.heap.objs.size f cdv))->sp vs H Q E->
   ∃ t,PSs (cxOf CX P w K mg base N qual scope f cdv A outer s H E) body t/\t { nx:=fun _ H'=>Q .non H',rt:=Q } (start N vs) H) :
  FnOk P w K mg base CX (k+1) f (VP name qual params body scope dV kV doc pm an cdv ct) ps sp:=by
 refine ⟨len,fun A outer s H args us vs Q E hr e0 hb r hsp=>?_⟩
 have hl:=len _ _ _ _ hsp
 have KX:K.In s.heap:=e0.mod.kin.keeps fun b o e=>(e0.bs b o e).1
 have lim:s.heap.NoLimit:=e0.mod.nolimit.keeps fun b o e=>(e0.bs b o e).1
 have hkind:∀ y∈ps.zip us,scope.names.lookup y.1=some .local\/(scope.names.lookup y.1=some .cell/\((cellsFrom (s.heap.objs.size+1) scope.names []).lookup y.1).isSome=true):=fun ⟨n,v⟩ hy=>by
  rcases S.par n (XZ hy).1 with q|q
  ·exact .inl q
  ·exact .inr ⟨q,X5 _ _ _ (.inl q)⟩
 refine codeAny_call_function hr.depth (KX _ _ lk) rfl S.co S.gen rfl (PySem.W.codeRec_of KX hcd) (hb _ _ _ _ ?_)
 refine wpAny_newFunctionEnv_cells S.kind hkind fun env he s1 x=>?_
 subst he
 refine ⟨lim.keeps x.toInCall.keep,codeAny_func ?_⟩
 obtain ⟨t,ht,hq⟩:=hbody A outer s H vs Q E (hr.deeper _) hsp
 have I:Inv (cxOf CX P w K mg base N qual scope f cdv A outer s H E) [] (start N vs) H s1:=wM S hr.hd e0 hl r x
 refine VO (ht [] s1 (start N vs) H _ I hq) (fun fl s' hs=>?_) fun e s' hs=>hs
 have fin:∀ {σ':St} {H':Hp} {v:V} {u:Kc},Inv (cxOf CX P w K mg base N qual scope f cdv A outer s H E) [] σ' H' s'->RelV v u->Q v H'->CE outer P w H s Q u s' :=
  fun {σ' H' v u} J rv q=>⟨v,H',J.os,J.bare,J.base,J.hok,rv,q⟩
 cases fl with
 | ret u =>
  obtain ⟨v,σ',H',J,rv,q⟩:=hs
  exact fin J rv q
 | next =>
  obtain ⟨σ',H',J,q⟩:=hs
  exact fin (v:=V.non) (u:=UL) J rfl q
 | brk =>
  obtain ⟨_,_,_,q⟩:=hs
  exact Ue q
 | cont =>
  obtain ⟨_,_,_,q⟩:=hs
  exact Ue q
section
variable {X:Cx}{x:Str}{p pos:Pos}{e:Kp}{es:aG}{t:TA}{id T:String}{r:aZ}
def tCB (r:aZ)(t:TA):TE:=fun σ H Q=>t σ H fun vs H1=>r vs H1 Q
theorem yl (hc:Qc X (.builtin id) r)(hg:Gl X x)(hm:X.mg x=none)(hv:bootBuiltins x=some (.builtin id))(ha:PA X (e::es) t)(hn:x ≠ "__name__" := by decide)(hdb:(x==("__debug__" : Str))=false:=by decide)
  (he:starEach (e::es) X.env=(false,eval e X.env)::starEach es X.env:=by rfl) (hpl:(backTo pos (starEach es X.env)).any (·.1)=false:=by rfl):PE X (.Call (.Name x p) (e::es) [] pos) (tCB r t):=by
 intro pins s σ H Q I h
 refine VL (Qq I hg hm hv ?_ hn hdb)
 exact Xa (thn (ha pos pins s σ H _ I h) fun us s1 ⟨vs,H1,I1,r1,q1⟩=>hc pins s1 σ H1 vs us Q I1 r1 q1) he hpl
theorem We (hc:Qc X (.type T) r)(hg:Gl X x)(hm:X.mg x=none)(hv:bootBuiltins x=some (.type T))(ha:PA X (e::es) t)(hn:x ≠ "__name__" := by decide)(hdb:(x==("__debug__" : Str))=false:=by decide)
  (he:starEach (e::es) X.env=(false,eval e X.env)::starEach es X.env:=by rfl) (hpl:(backTo pos (starEach es X.env)).any (·.1)=false:=by rfl):PE X (.Call (.Name x p) (e::es) [] pos) (tCB r t):=by
 intro pins s σ H Q I h
 refine VL (Qq I hg hm hv ?_ hn hdb)
 exact Vr (thn (ha pos pins s σ H _ I h) fun us s1 ⟨vs,H1,I1,r1,q1⟩=>hc pins s1 σ H1 vs us Q I1 r1 q1) he hpl
end
end L2
namespace HT
open PySem PyProof.Rows
theorem yq (A:KG)(s:Ke)(a:Int)(t:Tok)(c:Int)(u:Tok)(prog:Kw)(w:KB)(E:Kc->Ke->Prop)(Q:Kc->Ke->Prop)(h:Q (.bool (decide (a<c))) s) :
  wpAny (model prog w) A (richCompare .Lt (.int a t) (.int c u)) Q E s :=
 (PyProof.Rows.lt_int h:wpAny (model prog w) A (compareOp .Lt (.int a t) (.int c u)) Q E s)
section
open PySem.SeqAt
open PySem.AutoSeq1 (wpAny_loadPart')
open PySem.MeetsSeq PySem.MeetsSeq2 PySem.MeetsSeq3
end
section
variable {prog:Kw}{w:KB}{A:KG}{E:Kc->Ke->Prop}{s:Ke}
theorem qbd {t b:Kd}{vs ws:List Kc}{Q:Kc->Ke->Prop}(ht:IsTup s.heap t vs.toArray)(hb:IsTup s.heap b ws.toArray)(hv:vs≠[])
  (h1:ws=[]->Q (.ref t) s) (h2:ws≠[]->Q (.ref s.heap.objs.size) { s with heap:=s.heap.push { cls:=.type "tuple", data:=.seq (vs++ws).toArray } })
  (hsz:vs.length+ws.length<=sizeLine):wpAny (model prog w) A (binaryOp .Add (.ref t) (.ref b)) Q E s:=by
 obtain ⟨⟨cls,dd,data,sl⟩,ho,hc,n,hd⟩:=id ht
 obtain ⟨⟨cls2,dd2,data2,sl2⟩,ho2,hc2,n2,hd2⟩:=id hb
 simp only at hc hd hc2 hd2
 subst hc hd hc2 hd2
 have e:vs.toArray++ws.toArray=(vs++ws).toArray:=by simp
 by_cases hw:ws=[]
 ·exact XD ⟨_,ho,rfl⟩ ⟨_,ho2,rfl⟩ XE seq_tuple_add UQ UM (UF _ _)
   (tuple_addW1 t b vs.toArray ws.toArray n n2 dd dd2 sl sl2 (by simpa using hv) (by simp [hw])) ⟨ho,ho2,h1 hw⟩
 ·refine XD ⟨_,ho,rfl⟩ ⟨_,ho2,rfl⟩ XE seq_tuple_add UQ UM (UF _ _)
   (tuple_addW2 t b vs.toArray ws.toArray n n2 dd dd2 sl sl2 (by simpa using hv) (by simpa using hw) (by rw [Km,Km];exact hsz)) ⟨ho,ho2,?_⟩
  rw [e]
  exact h2 hw
noncomputable def sIx (n d:Nat):Option Int->Nat
 | none=>d
 | some v=>if v<0 then (v+(n:Int)).toNat else min v.toNat n
theorem jy (n d:Nat):sIx n d none=d:=rfl
theorem Zr (n d k:Nat):sIx n d (some (k:Int))=min k n:=by
 show (if (k:Int)<0 then ((k:Int)+(n:Int)).toNat else min (k:Int).toNat n)=min k n
 rw [if_neg (by omega),Vi]
theorem qdJ (n d:Nat)(hd:d<=n)(o:Option Int):sIx n d o<=n:=by
 cases o with
 | none=>exact hd
 | some v =>
  show (if v<0 then (v+(n:Int)).toNat else min v.toNat n)<=n
  by_cases hv:v<0
  ·rw [if_pos hv];omega
  ·rw [if_neg hv];exact Nat.min_le_right _ _
theorem Yt (v:Int)(n d:Nat):(if v<0 then max (v+(n:Int)) 0 else min v (n:Int))=((sIx n d (some v):Nat):Int):=by
 show (if v<0 then max (v+(n:Int)) 0 else min v (n:Int))=(((if v<0 then (v+(n:Int)).toNat else min v.toNat n):Nat):Int)
 by_cases hv:v<0
 ·simp only [if_pos hv];omega
 ·simp only [if_neg hv];omega
theorem yG (lo hi:Option Int)(n:Nat):UB lo hi 1 (n:Int)=(((sIx n 0 lo:Nat):Int),((sIx n n hi:Nat):Int)):=by
 have h1:¬ ((1:Int)<0):=by omega
 unfold UB
 simp only [h1,if_false]
 refine Prod.ext ?_ ?_
 ·cases lo with
  | none=>rfl
  | some v=>exact Yt v n 0
 ·cases hi with
  | none=>rfl
  | some v=>exact Yt v n n
theorem Yb (i j:Nat):Ug (i:Int) (j:Int) 1=j-i:=by
 unfold Ug
 have h1:(1:Int) > 0:=by omega
 simp only [h1,if_true,Int.ediv_one]
 split<;>omega
theorem jA {v:Kc}{o:Option Int}{Q:Option Int->Ke->Prop}(p:IsPart v o)(h:Q o s):wpAny (model prog w) A (Builtin.Slice.slicePartIndex v) Q E s:=by
 cases p with
 | none=>exact slicePart_none h
 | int i t=>exact slicePart_int h
theorem ZG {sl:Kd}{vl vu:Kc}{lo hi:Option Int}{n:Nat}{Q:Int×Int×Nat->Ke->Prop}(hs:s.heap.IsSliceOf sl vl vu .none)(pl:IsPart vl lo)(pu:IsPart vu hi)
  (h:Q (((sIx n 0 lo:Nat):Int),1,sIx n n hi-sIx n 0 lo) s):wpAny (model prog w) A (Xq (.ref sl) (pure (n:Int))) Q E s:=by
 obtain ⟨os,hos,hcs,hds⟩:=id hs
 unfold Xq Builtin.Slice.sliceFields
 refine Kf (Kf (wpAny_field hos hds (x:=vl) rfl (Kf (wpAny_field hos hds (x:=vu) rfl (Kf (wpAny_field hos hds (x:=.none) rfl (Ko ?_)))))))
 refine Kf (slicePart_none ?_)
 show wpAny _ _ (if ((1:Int)==0)=true then _ else _) _ _ s
 rw [if_neg (by decide)]
 refine Kf (jA pl (Kf (jA pu (Kf (Ko ?_)))))
 show wpAny _ _ (match UB lo hi 1 (n:Int) with | (lo,hi)=>pure (lo,(1:Int),Ug lo hi 1)) _ _ s
 rw [yG lo hi n]
 show wpAny _ _ (pure (((sIx n 0 lo:Nat):Int),(1:Int),Ug ((sIx n 0 lo:Nat):Int) ((sIx n n hi:Nat):Int) 1)) _ _ s
 rw [Yb]
 exact Ko h
theorem qaH (xs:Array Kc)(i k:Nat):((Ki k).filterMap fun (m:Nat)=>xs[((i:Int)+(m:Int)*1).toNat]?).toArray=((xs.toList.drop i).take k).toArray:=by
 have e:(fun (m:Nat)=>xs[((i:Int)+(m:Int)*1).toNat]?)=fun m=>xs[i+m]?:=by
  funext m
  have:((i:Int)+(m:Int)*1).toNat=i+m:=by omega
  rw [this]
 rw [e]
 have:=pick_run xs i k
 rw [List.filterMap_map] at this
 have e2:((fun x=>xs[x]?) ∘ fun x=>i+x)=fun m=>xs[i+m]?:=rfl
 rw [e2] at this
 rw [this]
theorem Zj {t sl:Kd}{items:Array Kc}{vl vu:Kc}{lo hi:Option Int}{Q:Kc->Ke->Prop}(ht:IsTup s.heap t items)(hs:s.heap.IsSliceOf sl vl vu .none)(pl:IsPart vl lo)(pu:IsPart vu hi)
  (hw:¬ (sIx items.size 0 lo=0/\sIx items.size items.size hi=items.size))
  (h:Q (.ref s.heap.objs.size) { s with heap:=s.heap.push { cls:=.type "tuple", data:=.seq ((items.toList.drop (sIx items.size 0 lo)).take (sIx items.size items.size hi-sIx items.size 0 lo)).toArray } })
  (hsz:items.size<=sizeLine):wpAny (model prog w) A (getItem (.ref t) (.ref sl)) Q E s:=by
 have htake:sizeOk (.seq ((items.toList.drop (sIx items.size 0 lo)).take (sIx items.size items.size hi-sIx items.size 0 lo)).toArray):=by
  show ((items.toList.drop (sIx items.size 0 lo)).take (sIx items.size items.size hi-sIx items.size 0 lo)).toArray.size<=sizeLine
  rw [Km,UW,Ul,Ve]
  omega
 have hj:sIx items.size items.size hi<=items.size:=qdJ _ _ (Kl _) hi
 obtain ⟨os,hos,hcs,hds⟩:=id hs
 have hTs:s.TypeIs (.ref sl) "slice" := ⟨os,hos,hcs⟩
 unfold getItem
 try with_reducible refine UU ?_
 first|refine Kf (Ko ?_)|skip
 refine Kf (wpAny_sequenceKey ht.typeIs (by decide) ?_)
 refine Kf (wpAny_callSpecial?_slot (name:=KU "__getitem__") ht.typeIs V0
  (wpAny_call_entry V0 ht.typeIs entry_tuple_getitem ?_ (args_tuple_getitem _ _)))
 show wpAny _ _ (Builtin.Tuple.tupleItemsOf (.ref t) >>= _) _ _ s
 refine Kf (tupleItemsOf_ ht ?_)
 refine Kf (wpAny_typeOf hTs ?_)
 rw [if_pos (by decide)]
 refine Kf (ZG hs pl pu ?_)
 have hno:¬ ((((sIx items.size 0 lo:Nat):Int)==0&&(1:Int)==1&&(sIx items.size items.size hi-sIx items.size 0 lo)==items.size)=true):=by
  intro q
  rw [Kt,Kt] at q
  have q1:((sIx items.size 0 lo:Nat):Int)=0:=eq_of_beq q.1.1
  have q2:sIx items.size items.size hi-sIx items.size 0 lo=items.size:=eq_of_beq q.2
  exact hw ⟨by omega,by omega⟩
 show wpAny _ _ (if (((sIx items.size 0 lo:Nat):Int)==0&&(1:Int)==1&&(sIx items.size items.size hi-sIx items.size 0 lo)==items.size)=true then _ else _) _ _ s
 rw [if_neg hno,qaH]
 first
  | exact Kf (m:=VE _) (VA (Ko ⟨_,rfl,Ko h⟩) htake)
  | exact Kf (m:=VE _) (VA (Kf (Ko (Ko ⟨_,rfl,Ko h⟩))) htake)
  | exact Kf (Kf (m:=VE _) (VA (Ko (Ko ⟨_,rfl,Ko h⟩)) htake))
  | exact Kf (Kf (m:=VE _) (VA (Ko ⟨_,rfl,Ko h⟩) htake))
end
end HT
namespace L2
open PySem PySem.Spec PyProof.Rows
abbrev TO:=St->Hp->(Option Int->Hp->Prop)->Prop
def PO (X:Cx)(e:Option Kp)(t:TO):Prop :=
 ∀ (pins:af) (s:Ke) (σ:St) (H:Hp) (Q:Option Int->Hp->Prop),Inv X pins σ H s->t σ H Q->
  wpAny (model X.prog X.w) X.A (evalPart e X.env) (fun u s'=>∃ o H',Inv X pins σ H' s'/\IsPart u o/\Q o H') X.xe s
def qci:TO:=fun _ H Q=>Q none H
def tPart (t:TE):TO:=fun σ H Q=>t σ H fun x H1=>∃ i,x=.int i/\Q (some i) H1
section
variable {X:Cx}{e:Kp}{te:TE}{lo hi:Option Kp}{tl th:TO}{pos p2:Pos}
theorem qb3:PO X none qci:=by
 intro pins s σ H Q I h
 rw [evalPart_none]
 exact Ko ⟨none,H,I,.none,h⟩
theorem qb4 (h:PE X e te):PO X (some e) (tPart te):=by
 intro pins s σ H Q I hw
 rw [evalPart_some]
 refine thn (h pins s σ H _ I hw) fun u s1 ⟨x,H1,I1,r1,q1⟩=>?_
 obtain ⟨i,rfl,q⟩:=q1
 obtain ⟨t,rfl⟩:=r1
 exact ⟨some i,H1,I1,.int i t,q⟩
def SlR (X:Cx)(r:aJ):Prop :=
 ∀ (pins:af) (s:Ke) (σ:St) (H:Hp) (x:V) (v vl vu:Kc) (lo hi:aO) (sl:Kd) (Q:VK),Inv X pins σ H s->RelV x v->s.heap.IsSliceOf sl vl vu .none->IsPart vl lo->IsPart vu hi->r x lo hi H Q->
  ∃ T id,typeLookup (.type T) "__getitem__" = pure (some (.builtin id))/\s.TypeIs v T/\wpAny (model X.prog X.w) X.A (getItem v (.ref sl)) (EP X pins σ Q) X.xe s
theorem SlR.or {r r':aJ}(h:SlR X r)(h':SlR X r'):SlR X (fun x lo hi H Q=>r x lo hi H Q\/r' x lo hi H Q):=by
 intro pins s σ H x v vl vu lo hi sl Q I rx hs pl pu q
 rcases q with q|q
 ·exact h pins s σ H x v vl vu lo hi sl Q I rx hs pl pu q
 ·exact h' pins s σ H x v vl vu lo hi sl Q I rx hs pl pu q
def tSl (r:aJ)(te:TE)(tl th:TO):TE:=fun σ H Q=>te σ H fun x H1=>tl σ H1 fun l H2=>th σ H2 fun u H3=>r x l u H3 Q
theorem qaE {r:aJ}(hr:SlR X r)(he:PE X e te)(hl:PO X lo tl)(hu:PO X hi th):PE X (.Subscript e (.Slice lo hi none p2) pos) (tSl r te tl th):=by
 intro pins s σ H Q I h
 refine Subscript_ (thn (he pins s σ H _ I h) fun v s1 ⟨x,H1,I1,r1,q1⟩=>?_)
 refine wpAny_Slice (thn (hl pins s1 σ H1 _ I1 q1) fun vl s2 ⟨l,H2,I2,pl,q2⟩=>thn (hu pins s2 σ H2 _ I2 q2) fun vu s3 ⟨u,H3,I3,pu,q3⟩=>?_)
 rw [evalPart_none]
 refine Ko ?_
 have I4:Inv X pins σ H3 { s3 with heap:=s3.heap.push { cls:=.type "slice", data:=.fields #[vl,vu,.none] } }:=I3.kept (t':=s3.toks) fun b ob q=>Kg _ q
 obtain ⟨T,id,hT,ht,hg⟩:=hr pins { s3 with heap:=s3.heap.push { cls:=.type "slice", data:=.fields #[vl,vu,.none] } } σ H3 x v vl vu l u s3.heap.objs.size Q I4 r1 (Heap.IsSliceOf.new ..) pl pu q3
 show wpAny (model X.prog X.w) X.A (subscriptTail e (.Slice lo hi none p2) v (.ref s3.heap.objs.size)) (EP X pins σ Q) X.xe { s3 with heap:=s3.heap.push { cls:=.type "slice", data:=.fields #[vl,vu,.none] } }
 exact tail_any (ops:=[.ref s3.heap.objs.size,v]) ht hT hg (by with_unfolding_all rfl)
def cutV (xs:List V)(lo hi:aO):List V:=(xs.drop (HT.sIx xs.length 0 lo)).take (HT.sIx xs.length xs.length hi-HT.sIx xs.length 0 lo)
theorem ZQ (xs:List V)(lo hi:aO):(cutV xs lo hi).length<=xs.length:=by
 unfold cutV
 rw [UW,Ul]
 omega
def rSlT (K:Kb):V->Option Int->Option Int->Hp->VK->Prop:=fun x lo hi H Q=>∃ a xs,x=.ref a/\SqT K H a xs/\
 ¬ (HT.sIx xs.length 0 lo=0/\HT.sIx xs.length xs.length hi=xs.length)/\∀ p,H p=none->Q (.ref p) (upd H p (.tup (cutV xs lo hi)))
theorem qdR:SlR X (rSlT X.K):=by
 intro pins s σ H x v vl vu lo hi sl Q I rx hs pl pu h
 obtain ⟨a,xs,rfl,hx,hw,q⟩:=h
 cases rx
 obtain ⟨its,r,ht,hz⟩:=I.tuple hx
 have hlen:its.toArray.size=xs.length:=by rw [Km];exact r.length.symm
 refine ⟨"tuple", _,V0.lookup,ht.typeIs,?_⟩
 refine HT.Zj ht hs pl pu (by rw [hlen];exact hw) ?_ (by rw [hlen];exact hz)
 rw [hlen]
 refine ⟨.ref s.heap.objs.size,_,I.laid (t':=s.toks) (o:=.tup (cutV xs lo hi)) (fun b ob q=>Kg _ q) (Kl _) ?_,rfl,q _ (I.hok.fresh (Kl _))⟩
 exact ⟨KO (ZQ xs lo hi) hz,_,(r.drop (HT.sIx xs.length 0 lo)).take (HT.sIx xs.length xs.length hi-HT.sIx xs.length 0 lo),IsTup.new _ _⟩
def qcv (K:Kb):R2:=fun x y H Q=>∃ a b xs ys,x=.ref a/\y=.ref b/\SqT K H a xs/\SqT K H b ys/\xs≠[]/\xs.length+ys.length<=sizeLine/\
 (ys=[]->Q (.ref a) H)/\(ys≠[]->∀ p,H p=none->Q (.ref p) (upd H p (.tup (xs++ys))))
theorem Vals.nil_iff {xs:List V}{us:aw}(r:Vals xs us):us=[]↔xs=[]:=by
 cases r with
 | nil=>simp
 | cons _ _=>simp
theorem qbL:OpR X (binaryOp .Add) (qcv X.K):=by
 intro pins s σ H x y v u Q I rx ry h
 obtain ⟨a,b,xs,ys,rfl,rfl,ha,hb,hx,hz,q1,q2⟩:=h
 cases rx
 cases ry
 obtain ⟨its,r1,p1,_⟩:=I.tuple ha
 obtain ⟨its2,r2,p2,_⟩:=I.tuple hb
 refine HT.qbd p1 p2 (fun z=>hx (r1.nil_iff.mp z)) (fun z=>⟨.ref a,H,I,rfl,q1 (r2.nil_iff.mp z)⟩) (fun z=>?_) (by rw [← r1.length,← r2.length];exact hz)
 refine ⟨.ref s.heap.objs.size,_,I.laid (t':=s.toks) (o:=.tup (xs++ys)) (fun b ob q=>Kg _ q) (Kl _) ?_,rfl,q2 (fun w=>z (r2.nil_iff.mpr w)) _ (I.hok.fresh (Kl _))⟩
 exact ⟨by rw [Kq];exact hz,_,r1.append r2,IsTup.new _ _⟩
end
noncomputable def ixN (n:Nat)(i:Int):Option Nat:=if 0<=i then (if i<n then some i.toNat else none) else if -(n:Int)<=i then some (i+n).toNat else none
def atI {α:Type}(xs:List α)(i:Int):Option α:=(ixN xs.length i).bind fun j=>xs[j]?
theorem YQ {n:Nat}{i:Int}{j:Nat}(h:ixN n i=some j):seqIndex? i n=some j/\j<n/\-(n:Int)<=i/\i<n:=by
 unfold ixN at h
 by_cases h0:0<=i
 ·rw [if_pos h0] at h
  by_cases h1:i<n
  ·rw [if_pos h1] at h
   have e:i.toNat=j:=K3 h
   exact ⟨by rw [X6 h0 h1,e],by omega,by omega,h1⟩
  ·rw [if_neg h1] at h;cases h
 ·rw [if_neg h0] at h
  by_cases h1:-(n:Int)<=i
  ·rw [if_pos h1] at h
   have e:(i+n).toNat=j:=K3 h
   exact ⟨by rw [seqIndex_neg (by omega) h1,e],by omega,h1,by omega⟩
  ·rw [if_neg h1] at h;cases h
theorem Jf {α:Type}{xs:List α}{i:Int}{v:α}(h:atI xs i=some v):∃ j,seqIndex? i xs.length=some j/\xs[j]?=some v/\j<xs.length/\-(xs.length:Int)<=i/\i<xs.length:=by
 unfold atI at h
 cases e:ixN xs.length i with
 | none=>rw [e] at h;cases h
 | some j =>
  rw [e] at h
  obtain ⟨h1,h2,h3,h4⟩:=YQ e
  exact ⟨j,h1,h,h2,h3,h4⟩
theorem qa8 {α:Type}{xs:List α}{j:Nat}{v:α}(h:xs[j]?=some v):atI xs (j:Int)=some v:=by
 have hj:j<xs.length:=(KQ.mp h).1
 have e:ixN xs.length (j:Int)=some j:=by
  unfold ixN
  rw [if_pos (by omega),if_pos (by omega)];simp
 unfold atI;rw [e];exact h
def Je (b:Kp):Prop:=∀ o i,subscripted b false o i=operate [o,i] (getItem o i)
def IxR (X:Cx)(r:R2):Prop :=
 ∀ (value slice:Kp) (pins:af) (s:Ke) (σ:St) (H:Hp) (x y:V) (v u:Kc) (Q:VK),Inv X pins σ H s->RelV x v->RelV y u->r x y H Q->
  subscripted slice false v u=operate [v,u] (getItem v u)->wpAny (model X.prog X.w) X.A (subscriptTail value slice v u) (EP X pins σ Q) X.xe s
def MtR (X:Cx)(id:String)(r:aW):Prop :=
 ∀ (pins:af) (s:Ke) (σ:St) (H:Hp) (x:V) (xs:List V) (v:Kc) (us:aw) (Q:VK),Inv X pins σ H s->RelV x v->Vals xs us->r x xs H Q->
  wpAny (model X.prog X.w) X.A (call (.builtin id) (v::us)) (EP X pins σ Q) X.xe s
section
variable {X:Cx}{a b:Kp}{ta tb:TE}{pos:Pos}
theorem IxR.or {r r':R2}(h:IxR X r)(h':IxR X r'):IxR X (fun x y H Q=>r x y H Q\/r' x y H Q):=by
 intro value slice pins s σ H x y v u Q I rx ry q hs
 rcases q with q|q
 ·exact h value slice pins s σ H x y v u Q I rx ry q hs
 ·exact h' value slice pins s σ H x y v u Q I rx ry q hs
theorem qcu {r:R2}(hr:IxR X r)(ha:PE X a ta)(hb:PE X b tb)(hs:Je b):PE X (.Subscript a b pos) (tOp r ta tb):=by
 intro pins s σ H Q I h
 exact Subscript_ (binT ha hb I h fun v u s2 x y H2 I2 rx ry q=>hr a b pins s2 σ H2 x y v u Q I2 rx ry q (hs _ _))
def rIxL (K:Kb):R2:=fun x y H Q=>∃ p xs i v,x=.ref p/\y=.int i/\SqL K H p xs/\atI xs i=some v/\Q v H
def rIxT (K:Kb):R2:=fun x y H Q=>∃ p xs i v,x=.ref p/\y=.int i/\SqT K H p xs/\atI xs i=some v/\Q v H
theorem YS:IxR X (rIxL X.K):=by
 intro value slice pins s σ H x y v u Q I rx ry h hs
 obtain ⟨p,xs,i,z,rfl,rfl,hq,he,q⟩:=h
 cases rx
 obtain ⟨t,rfl⟩:=ry
 obtain ⟨its,r,pl,hz⟩:=I.list hq
 obtain ⟨j,h1,h2,h3,h4,h5⟩:=Jf he
 obtain ⟨w,ew,rw'⟩:=r.get h2
 have hl:=r.length
 have hn:=Zy
 have fin:EP X pins σ Q w s:=⟨z,H,I,rw',q⟩
 by_cases h0:0<=i
 ·have hj:i.toNat=j:=by
   rw [X6 h0 h5] at h1
   exact K3 h1
  exact item_listR pl.isList h0 (by omega) (by rw [hj];simpa using ew) fin hs
 ·have hj:(i+(its.toArray.size:Int)).toNat=j:=by
   rw [seqIndex_neg (by omega) h4] at h1
   rw [Km,← hl]
   exact K3 h1
  exact subscriptTail_builtinR (x:=w) pl.isList.typeIs slot_list_getitem.lookup
   (wpAny_getItem_list_neg (Q:=fun r s'=>r=w/\EP X pins σ Q r s') pl.isList (by omega) (by rw [Km]<;>omega) (by omega) (by rw [hj];simpa using ew) ⟨rfl,fin⟩) hs
theorem qae:IxR X (rIxT X.K):=by
 intro value slice pins s σ H x y v u Q I rx ry h hs
 obtain ⟨p,xs,i,z,rfl,rfl,hq,he,q⟩:=h
 cases rx
 obtain ⟨t,rfl⟩:=ry
 obtain ⟨its,r,pl,hz⟩:=I.tuple hq
 obtain ⟨j,h1,h2,h3,h4,h5⟩:=Jf he
 obtain ⟨w,ew,rw'⟩:=r.get h2
 have hl:=r.length
 have hn:=Zy
 have fin:EP X pins σ Q w s:=⟨z,H,I,rw',q⟩
 exact subscriptTail_builtinR (x:=w) pl.typeIs V0.lookup
  (getItem_tuple (j:=j) (Q:=fun r s'=>r=w/\EP X pins σ Q r s') pl (by omega) (by omega) (by rw [Km,← hl];exact h1) (by simpa using ew) ⟨rfl,fin⟩) hs
theorem yW (its:aw)(n j:Nat)(u:Kc):Obj.mapSeq (·.setIfInBounds j u) { cls:=.type "list", data:=.seq its.toArray n }={ cls:=.type "list", data:=.seq (its.set j u).toArray n }:=by
 simp [Obj.mapSeq]
theorem Inv.lst {pins:af}{σ:St}{H:Hp}{s:Ke}{p:Kd}{xs:List V}(I:Inv X pins σ H s)(h:H p=some (.lst xs)) :
  ∃ (its:aw) (n:Nat),Vals xs its/\s.heap.get? p=some { cls:=.type "list", data:=.seq its.toArray n }/\xs.length<=sizeLine:=by
 obtain ⟨z,its,n,r,e⟩:=I.hok p _ h
 exact ⟨its,n,r,e,z⟩
theorem Inv.lstUpd {pins:af}{σ:St}{H:Hp}{s:Ke}{p:Kd}{xs ys:List V}{its its':aw}{n n':Nat}{f:Obj->Obj}(I:Inv X pins σ H s)(h:H p=some (.lst xs))
  (ho:s.heap.get? p=some { cls:=.type "list", data:=.seq its.toArray n }) (hf:f { cls:=.type "list", data:=.seq its.toArray n }={ cls:=.type "list", data:=.seq its'.toArray n' }) (r:Vals ys its') (hz:ys.length<=sizeLine) (t:Nat) :
  Inv X pins σ (upd H p (.lst ys)) { s with heap:=s.heap.update p f,toks:=t }:=by
 have e:(s.heap.update p f).get? p=some { cls:=.type "list", data:=.seq its'.toArray n' }:=by
  rw [V4 f ho (by rw [hf]<;>rfl),hf]
 refine I.write (x:=p) (e:=p) (by rw [h];trivial) (.inl rfl) (fun b u hb q=>(Ku _ _ (KP hb)).trans q) ⟨_,e⟩ ?_
 exact ⟨hz,its',n',r,e⟩
def rSetL:V->V->V->Hp->(Hp->Prop)->Prop:=fun o i v H Q=>∃ p xs k j,o=.ref p/\i=.int k/\H p=some (.lst xs)/\ixN xs.length k=some j/\Q (upd H p (.lst (xs.set j v)))
theorem set_list:PSet X rSetL:=by
 intro pins s σ H o i v ov iv u Q I ro ri rv h
 obtain ⟨p,xs,k,j,rfl,rfl,hp,hj,q⟩:=h
 cases ro
 obtain ⟨t,rfl⟩:=ri
 obtain ⟨its,n,r,ho,hz⟩:=I.lst hp
 obtain ⟨h1,h2,h3,h4⟩:=YQ hj
 have hl:=r.length
 have hn:=Zy
 have I':Inv X pins σ (upd H p (.lst (xs.set j v))) { s with heap:=s.heap.update p (Obj.mapSeq (·.setIfInBounds j u)) } :=
  I.lstUpd hp ho (yW its n j u) (r.set rv j) (by rw [Vp];exact hz) s.toks
 by_cases h0:0<=k
 ·have hk:k.toNat=j:=by
   rw [X6 h0 h4] at h1
   exact K3 h1
  exact PySem.W.ki_setAt ho h0 (by omega) (by rw [Km,← hl];exact h4) (by rw [hk];exact ⟨_,I',q⟩)
 ·have hk:(k+(its.toArray.size:Int)).toNat=j:=by
   rw [seqIndex_neg (by omega) h3] at h1
   rw [Km,← hl]
   exact K3 h1
  exact PySem.W.ki_setBack ho (by omega) (by rw [Km,← hl];exact h3) (by omega) (by rw [hk];exact ⟨_,I',q⟩)
theorem JD (lo hi:aO)(n:Nat):(sliceBounds lo hi none n).1=((HT.sIx n 0 lo:Nat):Int)/\(sliceBounds lo hi none n).2.1=((HT.sIx n n hi:Nat):Int)/\(sliceBounds lo hi none n).2.2=1:=by
 refine ⟨?_,?_,rfl⟩
 ·cases lo with
  | none=>simp [sliceBounds,HT.sIx]
  | some i =>
   simp only [sliceBounds,HT.sIx,Option.getD_none,show (1:Int) > 0 by decide,if_true]
   by_cases h:i<0
   ·simp only [h,if_true]<;>omega
   ·simp only [h,if_false]<;>omega
 ·cases hi with
  | none=>simp [sliceBounds,HT.sIx]
  | some i =>
   simp only [sliceBounds,HT.sIx,Option.getD_none,show (1:Int) > 0 by decide,if_true]
   by_cases h:i<0
   ·simp only [h,if_true]<;>omega
   ·simp only [h,if_false]<;>omega
theorem jH (its:aw)(lo hi:aO):slicePick its.toArray lo hi none=((its.drop (HT.sIx its.length 0 lo)).take (HT.sIx its.length its.length hi-HT.sIx its.length 0 lo)).toArray:=by
 obtain ⟨h1,h2,h3⟩:=JD lo hi its.toArray.size
 unfold slicePick
 rw [h1,h2,h3]
 simp only [sliceRange_one,pick_run,Km]<;>rfl
def rSlL (K:Kb):V->Option Int->Option Int->Hp->VK->Prop:=fun x lo hi H Q=>∃ a xs,x=.ref a/\SqL K H a xs/\∀ p,H p=none->Q (.ref p) (upd H p (.lst (cutV xs lo hi)))
theorem qch:SlR X (rSlL X.K):=by
 intro pins s σ H x v vl vu lo hi sl Q I rx hs pl pu h
 obtain ⟨a,xs,rfl,hx,q⟩:=h
 cases rx
 obtain ⟨its,r,ht,hz⟩:=I.list hx
 have hlen:=r.length
 refine ⟨"list", _,slot_list_getitem.lookup,ht.isList.typeIs,?_⟩
 refine wpAny_getItem_list_slice ht.isList hs pl pu .none (by simp) ?_ (by rw [Km]<;>omega)
 rw [jH,← hlen]
 refine ⟨.ref s.heap.objs.size,_,I.laid (t':=s.toks) (o:=.lst (cutV xs lo hi)) (fun b ob q=>Kg _ q) (Kl _) ?_,rfl,q _ (I.hok.fresh (Kl _))⟩
 exact ⟨KO (ZQ xs lo hi) hz,_,0,(r.drop (HT.sIx xs.length 0 lo)).take (HT.sIx xs.length xs.length hi-HT.sIx xs.length 0 lo),Kx _ rfl⟩
theorem Ji:Qc X (.builtin "len") (fun xs H Q=>∃ p ys,xs=[.ref p]/\(SqL X.K H p ys\/SqT X.K H p ys)/\Q (.int ys.length) H):=by
 intro pins s σ H xs us Q I r h
 obtain ⟨p,ys,rfl,hq,q⟩:=h
 obtain ⟨u,rfl,rx⟩:=vals1 r
 cases rx
 have hn:=Zy
 rcases hq with hq|hq
 ·obtain ⟨its,r',pl,hz⟩:=I.list hq
  have hlen:=r'.length
  exact Calls.call_len_list pl.isList (by simp only [Km]<;>omega) ⟨.int ys.length,H,I.tok _,⟨s.toks+1,by rw [Km,hlen]⟩,q⟩
 ·obtain ⟨its,r',pl,hz⟩:=I.tuple hq
  have hlen:=r'.length
  exact len_tuple pl (by simp only [Km]<;>omega) ⟨.int ys.length,H,I.tok _,⟨s.toks+1,by rw [Km,hlen]⟩,q⟩
theorem Qc.or {f:Kc}{r r':aZ}(h:Qc X f r)(h':Qc X f r'):Qc X f (fun xs H Q=>r xs H Q\/r' xs H Q):=by
 intro pins s σ H xs us Q I rs q
 rcases q with q|q
 ·exact h pins s σ H xs us Q I rs q
 ·exact h' pins s σ H xs us Q I rs q
theorem Jj:Qc X (.type "list") (fun xs H Q=>∃ p ys,xs=[.ref p]/\(SqL X.K H p ys\/SqT X.K H p ys)/\∀ l,H l=none->Q (.ref l) (upd H l (.lst ys))):=by
 intro pins s σ H xs us Q I r h
 obtain ⟨p,ys,rfl,hq,q⟩:=h
 obtain ⟨u,rfl,rx⟩:=vals1 r
 cases rx
 have fin:∀ (its:aw),Vals ys its->ys.length<=sizeLine->∀ (h':KC) (c':Nat),(∀ b o',s.heap.get? b=some o'->h'.get? b=some o')->
   h'.get? s.heap.objs.size=some { cls:=.type "list", dict:=none,data:=.seq its.toArray c',slots:=#[] }->EP X pins σ Q (.ref s.heap.objs.size) { s with heap:=h' }:=fun its r' hz h' c' kp e =>
  ⟨.ref s.heap.objs.size,_,I.laid (t':=s.toks) kp (Kl _) (show q8 X.prog X.w _ h' _ (.lst ys) from ⟨hz,its,c',r',e⟩),rfl,q _ (I.hok.fresh (Kl _))⟩
 rcases hq with hq|hq
 ·obtain ⟨its,r',pl,hz⟩:=I.list hq
  have hlen:=r'.length
  obtain ⟨o,ho,hc,n,hd⟩:=pl.isList
  exact call_list_seq p (.inl rfl) ho hc hd (fun h' c' kp e=>fin its r' hz h' c' kp e) (by simp only [Km]<;>omega)
 ·obtain ⟨its,r',pl,hz⟩:=I.tuple hq
  have hlen:=r'.length
  obtain ⟨o,ho,hc,n,hd⟩:=pl
  exact call_list_seq p (.inr rfl) ho hc hd (fun h' c' kp e=>fin its r' hz h' c' kp e) (by simp only [Km]<;>omega)
theorem jE:Qc X (.type "tuple") (fun xs H Q=>∃ p ys,xs=[.ref p]/\((SqL X.K H p ys/\∀ l,H l=none->Q (.ref l) (upd H l (.tup ys)))\/(SqT X.K H p ys/\Q (.ref p) H))):=by
 intro pins s σ H xs us Q I r h
 obtain ⟨p,ys,rfl,h⟩:=h
 obtain ⟨u,rfl,rx⟩:=vals1 r
 cases rx
 rcases h with ⟨hq,q⟩|⟨hq,q⟩
 ·obtain ⟨its,r',pl,hz⟩:=I.list hq
  have hlen:=r'.length
  refine call_tuple_list pl.isList (fun h' kp=>?_) (by simp only [Km]<;>omega)
  have I1:Inv X pins σ H { s with heap:=h' }:=I.kept (t':=s.toks) kp
  have I2:Inv X pins σ (upd H h'.objs.size (.tup ys)) { s with heap:=h'.push { cls:=.type "tuple", data:=.seq its.toArray } } :=
   I1.laid (t':=s.toks) (fun b o e=>Kg _ e) (Kl _) (show q8 X.prog X.w _ _ _ (.tup ys) from ⟨hz,its,r',IsTup.new _ _⟩)
  exact ⟨.ref h'.objs.size,_,I2,rfl,q _ (I1.hok.fresh (Kl _))⟩
 ·obtain ⟨its,r',pl,hz⟩:=I.tuple hq
  exact call_tuple_same pl ⟨.ref p,H,I,rfl,q⟩
def tyV (K:Kb)(T:String)(x:V)(H:Hp):Prop:=match x with
 | .str _=>T = "str"
 | .int _=>T = "int"
 | .ref p=>(T = "list"/\∃ xs,SqL K H p xs)\/(T = "tuple"/\∃ o,K.lookup p=some o/\o.cls=.type "tuple"/\o.dict=none)\/
   (T = "dict"/\((∃ kvs,H p=some (.dK kvs))\/∃ kvs,H p=some (.dT kvs)))\/(T = "set"/\∃ S n,H p=some (.set S n))
 | _=>False
theorem qd3 {pins:af}{σ:St}{H:Hp}{s:Ke}{T:String}{x:V}{v:Kc}(I:Inv X pins σ H s)(r:RelV x v)(ty:tyV X.K T x H) :
  s.TypeIs v T/\∀ a,v=.ref a->∃ ob,s.heap.get? a=some ob/\ob.dict=none:=by
 cases x with
 | str z =>
  obtain ⟨t,rfl⟩:=r
  cases (show T = "str" from ty)
  exact ⟨typeIs_str s z t,fun _ e=>nomatch e⟩
 | int i =>
  obtain ⟨t,rfl⟩:=r
  cases (show T = "int" from ty)
  exact ⟨typeIs_int s i t,fun _ e=>nomatch e⟩
 | ref p =>
  cases r
  rcases ty with ⟨rfl,xs,hq⟩|⟨rfl,o,hk,hc,hd⟩|⟨rfl,hk⟩|⟨rfl,S,n,hk⟩
  ·obtain ⟨its,_,pl,_⟩:=I.list hq
   refine ⟨pl.isList.typeIs,fun a e=>?_⟩
   cases e
   obtain ⟨o,n,e,c,hd,_⟩:=pl
   exact ⟨o,e,hd⟩
  ·refine ⟨⟨o,I.kIn p o hk,hc⟩,fun a e=>?_⟩
   cases e
   exact ⟨o,I.kIn _ o hk,hd⟩
  ·have z:∃ o,s.heap.get? p=some o/\o.ExactDict:=by
    rcases hk with ⟨kvs,hk⟩|⟨kvs,hk⟩
    ·obtain ⟨_,_,_,_,o,_,_,e,ex,_⟩:=I.hok p _ hk
     exact ⟨o,e,ex⟩
    ·obtain ⟨_,_,_,_,o,_,_,e,ex,_⟩:=I.hok p _ hk
     exact ⟨o,e,ex⟩
   obtain ⟨o,e,ex⟩:=z
   refine ⟨⟨o,e,ex.1⟩,fun a e2=>?_⟩
   cases e2
   exact ⟨o,e,ex.2.1⟩
  ·obtain ⟨o,_,_,_,e,ex,_⟩:=I.hok p _ hk
   refine ⟨⟨o,e,ex.1⟩,fun a e2=>?_⟩
   cases e2
   exact ⟨o,e,ex.2.1⟩
 | _=>exact Ue ty
def tBM (K:Kb)(T:String)(r:aW)(to:TE)(t:TA):TE:=fun σ H Q=>to σ H fun x H1=>tyV K T x H1/\t σ H1 fun xs H2=>r x xs H2 Q
variable {o e:Kp}{es:aG}{to:TE}{t:TA}{name:Str}{apos cpos:Pos}{T id:String}{r:aW}
theorem pe_bm (pa:PlainAttrs T)(slot:Slot T name id)(hty:typeOf (.builtin id)=pure (.type "method_descriptor"))(hm:MtR X id r)(ho:PE X o to)(ha:PA X (e::es) t)
  (hbase:attributeBase o name X.env (eval o X.env)=eval o X.env:=by rfl)
  (hfew:((backTo cpos (starEach (e::es) X.env)).all (fun x=>!x.1)&&(backToKw cpos (keywordEach [] X.env)).all (fun x=>x.1.isSome)
   && decide ((e::es).length+([]:List Keyword).length+(if ([]:List Keyword).isEmpty then 0 else 1)<30))=true:=by rfl)
  (hline:(apos.endLine==cpos.line)=true:=by rfl) (hs:starEach (e::es) X.env=(false,eval e X.env)::starEach es X.env:=by rfl) (hplain:(backTo cpos (starEach es X.env)).any (·.1)=false:=by rfl) :
  PE X (.Call (.Attribute o name apos) (e::es) [] cpos) (tBM X.K T r to t):=by
 intro pins s σ H Q I h
 refine wpAny_Call_method_late hbase hfew hline rfl (thn (ho pins s σ H _ I h) fun v s1 ⟨x,H1,I1,r1,ty,q1⟩=>?_)
 obtain ⟨h1,h2⟩:=qd3 I1 r1 ty
 refine ⟨T,id,pa,slot,hty,h1,h2,?_⟩
 have hA:=ha cpos pins s1 σ H1 _ I1 q1
 rw [hs] at hA ⊢
 refine Calls.callWith_builtin (by show (false||(backTo cpos (starEach es X.env)).any (·.1))=false;rw [hplain]<;>rfl) (Calls.evalArgs_plain ?_)
 exact thn hA fun us s2 ⟨vs,H2,I2,r2,q2⟩=>hm pins s2 σ H2 x vs v us Q I2 r1 r2 q2
end
def MtM (X:Cx)(id:String)(r:aW):Prop :=
 ∀ (pins:af) (s:Ke) (σ:St) (H:Hp) (x:V) (xs:List V) (v:Kc) (us:aw) (Q:VK),Inv X pins σ H s->RelV x v->Vals xs us->r x xs H Q->
  wpAny (model X.prog X.w) X.A (call (.builtin id) (v::us)) (EP X pins σ Q) X.xe s
theorem Vals.one {x:V}{us:aw}(h:Vals [x] us):∃ u,us=[u]/\RelV x u:=by
 cases h with
 | cons r t=>cases t;exact ⟨_,rfl,r⟩
theorem Vals.two {x y:V}{us:aw}(h:Vals [x,y] us):∃ u v,us=[u,v]/\RelV x u/\RelV y v:=by
 cases h with
 | cons r t =>
  obtain ⟨v,rfl,q⟩:=Vals.one t
  exact ⟨_,_,rfl,r,q⟩
theorem Vals.eraseIdx:∀ {xs:List V} {us:aw} (i:Nat),Vals xs us->Vals (xs.eraseIdx i) (us.eraseIdx i)
 | _,_,_,.nil=>.nil
 | _,_,0,.cons _ t=>t
 | _,_,i+1,.cons r t=>.cons r (Vals.eraseIdx i t)
theorem Vals.rep {xs:List V}{us:aw}(h:Vals xs us):∀ k:Nat,Vals (Kn k xs).flatten (Kn k us).flatten
 | 0=>.nil
 | k+1=>by
  rw [VC,VC,V8,V8]
  exact Vals.append h (Vals.rep h k)
theorem foldl_rep (its:aw):∀ (k:Nat) (acc:aw),
  List.foldl (fun x1 x2=>x1++x2) acc.toArray (Kn k its.toArray)=(acc++(Kn k its).flatten).toArray
 | 0,acc=>by simp
 | k+1,acc=>by
  have e:acc.toArray++its.toArray=(acc++its).toArray:=by simp
  have e2:(acc++its)++(Kn k its).flatten=acc++(Kn (k+1) its).flatten:=by
   rw [VC,V8,UN]
  rw [← e2,← foldl_rep its k (acc++its),← e,VC,X0]
section
variable {X:Cx}{pins:af}{σ:St}{H:Hp}{s:Ke}{l b:Kd}{xs ys zs:List V}
theorem Inv.lset {its its':aw}{n:Nat}{f:Array Kc->Array Kc}{t':Nat}(I:Inv X pins σ H s)(hH:H l=some (.lst xs))
  (e:s.heap.get? l=some { cls:=.type "list", data:=.seq its.toArray n }) (hf:f its.toArray=its'.toArray) (hv:Vals ys its') (hz:ys.length<=sizeLine) :
  Inv X pins σ (upd H l (.lst ys)) { s with heap:=s.heap.update l (Obj.mapSeq f),toks:=t' }:=by
 have q:=PySem.IsL.update e f
 rw [hf] at q
 refine I.write (x:=l) (e:=l) (by rw [hH];exact trivial) (.inl rfl) (fun b' u hb hu=>(Ku s.heap (Obj.mapSeq f) (KP hb)).trans hu) ⟨_,q⟩ ?_
 exact ⟨hz,its',_,hv,q⟩
theorem Inv.lnew {its:aw}{t':Nat}(I:Inv X pins σ H s)(hv:Vals ys its)(hz:ys.length<=sizeLine) :
  Inv X pins σ (upd H s.heap.objs.size (.lst ys)) { s with heap:=s.heap.push { cls:=.type "list", data:=.seq its.toArray },toks:=t' } :=
 I.laid (fun _ _ q=>Kg _ q) (Kl _) ⟨hz,its,0,hv,Kx _ rfl⟩
theorem Inv.fresh (I:Inv X pins σ H s):H s.heap.objs.size=none:=I.hok.fresh (Kl _)
theorem Inv.lstM (I:Inv X pins σ H s)(hH:H l=some (.lst xs)):xs.length<=sizeLine/\∃ (its:aw) (n:Nat),Vals xs its/\xs.length=its.length/\s.heap.get? l=some { cls:=.type "list", data:=.seq its.toArray n }:=by
 obtain ⟨z,its,n,r,e⟩:=I.hok l _ hH
 exact ⟨z,its,n,r,r.length,e⟩
theorem qan {n:Nat}(h:n<=sizeLine):Builtin.List.listTooLong n=false:=by
 unfold Builtin.List.listTooLong
 exact decide_eq_false (by omega)
end
section
variable {X:Cx}
def qcd:V->List V->Hp->VK->Prop:=fun x vs H Q=>∃ l xs y,x=.ref l/\vs=[y]/\H l=some (.lst xs)/\xs.length<sizeLine/\Q .non (upd H l (.lst (xs++[y])))
theorem wY:MtM X "list.append" qcd:=by
 intro pins s σ H x vs v us Q I rx rv h
 obtain ⟨l,xs,y,rfl,rfl,hH,hz,q⟩:=h
 cases rx
 obtain ⟨u,rfl,ru⟩:=rv.one
 obtain ⟨z,its,n,r,hl,e⟩:=I.lstM hH
 refine call_meets Nb ⟨_,e,rfl⟩ F.entry_list_append (F.args_list_append_2 _ _) (PySem.list_append l its.toArray n u (by rw [Km];omega)) ⟨e,?_⟩
 refine ⟨.non,_,I.lset (its':=its++[u]) hH e (by simp) (r.append (.cons ru .nil)) ?_,rfl,q⟩
 rw [Kq,K4]
 omega
def rRep:R2:=fun x y H Q=>∃ l k xs,x=.ref l/\y=.int k/\H l=some (.lst xs)/\-(2 ^ 63)<=k/\k<2 ^ 63/\xs.length*k.toNat<=sizeLine/\
 ∀ p,H p=none->Q (.ref p) (upd H p (.lst (Kn k.toNat xs).flatten))
theorem len_rep {α:Type}(xs:List α)(k:Nat):(Kn k xs).flatten.length=k*xs.length:=by
 induction k with
 | zero=>simp
 | succ k ih=>rw [VC,V8,Kq,ih,Nl,XF]
theorem qdh:OpR X (binaryOp .Mult) rRep:=by
 intro pins s σ H x y v u Q I rx ry h
 obtain ⟨l,k,xs,rfl,rfl,hH,h1,h2,hz,q⟩:=h
 cases rx
 obtain ⟨t,rfl⟩:=ry
 obtain ⟨z,its,n,r,hl,e⟩:=I.lstM hH
 have hlen:its.toArray.size*k.toNat<=sizeLine:=by rw [Km,← hl];exact hz
 have hcap:¬ its.toArray.size*k.toNat > (2 ^ 63-1) / 8:=by
  have:(sizeLine:Nat)<=(2 ^ 63-1) / 8:=by decide
  omega
 have hfit:¬ (!Builtin.List.listFitsIndex k)=true:=by
  rw [fitsIndex_both h1 h2]
  exact Vq
 have hlong:¬ Builtin.List.listTooLong (its.toArray.size*k.toNat)=true:=by
  rw [qan hlen]
  exact Vq
 have hnew:List.foldl (fun x1 x2=>x1++x2) #[] (Kn (if its.toArray.isEmpty=true then 0 else k.toNat) its.toArray)=(Kn k.toNat its).flatten.toArray:=by
  have f0:∀ m:Nat,List.foldl (fun x1 x2=>x1++x2) #[] (Kn m its.toArray)=(Kn m its).flatten.toArray:=fun m=>by
   have:=foldl_rep its m []
   rw [Xb] at this
   exact this
  rw [f0]
  cases its with
  | nil=>simp
  | cons a r'=>rw [if_neg (by simp)]
 refine wpAny_binaryOp_repeat_ref (T := "list") (U := "int") (by decide) ⟨_,e,rfl⟩ (fun s'=>typeIs_int s' k t) noFill_list_mul F.fills_int_mul F.slot_int_rmul repeat_list F.slot_int_index.lookup
  (call_meets F.slot_int_rmul (typeIs_int s k t) F.entry_int_rmul (F.args_int_rmul_2 _ _) (int___rmul___int_list k t l its.toArray n)
   ⟨e,rfl,⟨_,e,rfl⟩,call_meets F.slot_list_mul ⟨_,e,rfl⟩ F.entry_list_mul (F.args_list_mul_2 _ _) (AutoListH.list___mul___list_int_3 l its.toArray n k t hfit hcap hlong) ⟨e,?_⟩⟩)
 rw [hnew]
 exact ⟨.ref _,_,I.lnew (t':=s.toks) (r.rep k.toNat) (by rw [len_rep,Nat.mul_comm];exact hz),rfl,q _ I.fresh⟩
end
section
variable {prog:Kw}{w:KB}{A:KG}{E:ak}{s:Ke}
set_option maxRecDepth 100000 in
end
end L2
namespace Att
open PySem PySem.W PySem.Calls PyProof.Rows
theorem ZZ {P:U7}{h:KC}:∀ (ns:List Int) (vs:List Kc),WellAll P h vs (ns.map WData.int)->IntsAre vs ns:=by
 intro ns
 induction ns with
 | nil =>
  intro vs w
  rw [List.map_nil] at w
  cases w
  exact .nil
 | cons n ns ih =>
  intro vs w
  rw [Vm] at w
  cases w with
  | cons a b =>
   cases a
   exact .cons _ _ (ih _ b)
theorem Wm {l:Xv}{n:Nat}(hn:l.most=some n){P:U7}{h:KC}{args:List WData}{vals:List Kc}
  (hpre:l.row.toRowW.claim.pre args=true) (hwl:WellAll P h vals args) :
  ∃ a vs ns,vals=[K8 a]/\args=[WData.list (ns.map WData.int)]/\h.get? a=some { cls:=.type "list", data:=.seq vs.toArray }/\IntsAre vs ns/\ns.length<=n:=by
 have hsh:WShape.hasAll [] args [.list .int]=true:=(pre_splitW hpre).1
 have hc:l.pre.holds [] { args:=args }=true:=(pre_splitW hpre).2
 obtain ⟨d,r,rfl,h1,h2⟩:=hasAllW_cons hsh
 obtain rfl:=hasAllW_nil h2
 obtain ⟨xs,rfl,h3⟩:=hasW_list h1
 obtain ⟨ns,rfl⟩:=items_int h3
 have hlen:ns.length<=n:=by
  unfold OpenLaw.pre at hc
  have h4:(WTm.not (.lt (.lit (.int (n:Int))) (.len (.arg 0)))).holds [] { args:=[.list (ns.map .int)] }=true:=by
   have h4:=(holds_andW hc).1
   rw [hn] at h4
   exact h4
  have h5:=condW_of h4 (w_not (w_lt w_lit (w_len_list (w_arg rfl))))
  rw [Kh] at h5
  refine Nat.le_of_not_lt fun q=>?_
  have q':(n:Int)<((ns.length:Nat):Int):=by omega
  first
   | (rw [decide_eq_true q'] at h5;exact absurd h5 (by decide))
   | (simp at h5;omega)
 cases hwl with
 | cons w1 w2 =>
  cases w2
  cases w1 with
  | list ho hall=>exact ⟨_,_,ns,rfl,rfl,ho,ZZ ns _ hall,hlen⟩
theorem Wh (l:Xv)(args:List WData):l.row.toRowW.claim.post args (.bool true) args=true :=
 postW_of (r:=l.row.toRowW) (X:=(true==true))
  (show WShape.has [] (.bool true) .bool=true by first|rfl|decide|simp [WShape.has,WShape.arms,WShape.armsAll])
  (show (WTm.eq .res (.lit (.bool true))).value [] { args:=args,res:=some (.bool true),after:=args }=some (.bool (true==true)) from w_eq_bool (w_res rfl) w_lit) rfl
end Att
namespace L2
open PySem PySem.Spec PyProof.Rows
theorem Jc:∀ {vs:aw} {ns:aR},IntsAre vs ns->Vals (ns.map V.int) vs
 | _,_,.nil=>.nil
 | _,_,.cons n t h=>.cons ⟨t,rfl⟩ (Jc h)
def Only (H:Hp):Prop:=∀ b,H b=none\/∃ o xs,H b=some (.frz o (.lst xs))
theorem qah {P:Kw}{w:KB}{K:Kb}{mg mb:ar}{CX:CXT}{k:Nat}{fa a:Kd}{fd:Vs}{x:Str}{sp:Sp}{s₁:Ke}{vs:aw}{ns:aR}
  (KX:K.In s₁.heap) (hns:s₁.heap.Ns mainGlobals mg) (hb:s₁.heap.Ns builtinsNs mb) (hbb:∀ x:Str,x ≠ "__name__"->mb x=bootBuiltins x) (hlim:s₁.heap.NoLimit) (hg:s₁.gens=#[])
  (ha:s₁.heap.get? a=some { cls:=.type "list", data:=.seq vs.toArray }) (hi:IntsAre vs ns) (hl:ns.length<=sizeLine) (hr:Room k callerA)
  (F:∀ base:KC,K.In base->base.Ns mainGlobals mg->FnOk P w K mg base CX k fa fd [x] sp) (hbind:∀ (s:Ke) (u:Kc),BindsTo s fd ⟨[u],[]⟩ [(x,u)])
  (hsp:∀ H:Hp,Only H->SqL K H a (ns.map V.int)->sp [.ref a] H (fun v _=>v=.bl true) fun _ _ _=>False)
  (hCX:∀ H e s',CX [] H s₁ (fun _ _ _=>False) e s'->False) :
  codeAny (model P w) callerA (.call (.ref fa) ⟨[.ref a],[]⟩) (fun r s'=>r=.ok (.ret (.bool true))/\OldK s₁.heap s'.heap/\s'.os=s₁.os/\U2 s'.gens) s₁:=by
 have rv:=Jc hi
 have lenV:=hi.length
 have core:∀ H:Hp,Only H->SqL K H a (ns.map V.int)->HOk P w H s₁.heap->(∀ b,H b≠none->b=a)->(H a≠none->K.lookup a=none)->
   codeAny (model P w) callerA (.call (.ref fa) ⟨[.ref a],[]⟩) (fun r s'=>r=.ok (.ret (.bool true))/\OldK s₁.heap s'.heap/\s'.os=s₁.os/\U2 s'.gens) s₁:=by
  intro H hO hS hok hA hK
  have base_of:∀ {b:Kd} {o:Obj},s₁.heap.get? b=some o->H b=none->(hidT s₁.heap H).get? b=some o:=fun e n=>qac e n
  have noA:∀ {b:Kd} {o:Obj} {es:Array XU} {ep:Nat},s₁.heap.get? b=some o->o.data=.dict es ep->H b=none:=fun {b o es ep} e d=>by
   cases q:H b with
   | none=>rfl
   | some u =>
    have e':b=a:=hA b (by rw [q];simp)
    subst e'
    rw [ha] at e;cases e
    have d':Data.seq vs.toArray _=Data.dict es ep:=d
    cases d'
  have nsK:∀ {b:Kd} {m:ar},s₁.heap.Ns b m->(hidT s₁.heap H).Ns b m:=fun {b m} ⟨o,es,ep,e,d,r⟩=>⟨o,es,ep,base_of e (noA e d),d,r⟩
  have hKb:K.In (hidT s₁.heap H):=fun b o e=>base_of (KX b o e) (by
   cases q:H b with
   | none=>rfl
   | some u =>
    have e':b=a:=hA b (by rw [q];simp)
    subst e'
    rw [hK (by rw [q];simp)] at e;cases e)
  have hM:Mod K mg (hidT s₁.heap H):=⟨hKb,nsK hns,⟨mb,nsK hb,hbb⟩,let ⟨mc,h1,h2⟩:=hlim;⟨mc,nsK h1,h2⟩⟩
  have e0:Env0 P w K mg (hidT s₁.heap H) callerA [] s₁ H:=⟨rfl,hM,fun b o e=>qbI e,Nat.le_of_eq (wK _ _),trivial,fun b hb=>absurd (show b∈([]:List Kd) from hb) (by simp),hok,.of_eq hg⟩
  refine UD ((F _ hKb (nsK hns)).run callerA [] s₁ H ⟨[.ref a],[]⟩ [.ref a] [.ref a] _ _ hr e0 (hbind s₁ (.ref a)) (.cons rfl .nil) (hsp H hO hS)) fun r s' h=>?_
  cases r with
  | error e=>exact (hCX H e s' h).elim
  | ok fl =>
   cases fl with
   | next=>exact Ue h
   | brk=>exact Ue h
   | cont=>exact Ue h
   | ret u =>
    obtain ⟨v,H',os,bare,un,hok',r',q⟩:=h
    have q':v=.bl true:=q
    subst q'
    obtain rfl:u=Ub true:=r'
    refine ⟨rfl,OldK.of_keep fun b o e=>?_,os,bare⟩
    cases q:H b with
    | none=>exact un.keep b o e q (by intro z;exact absurd (show b∈([]:List Kd) from z) (by simp)) (by simp)
    | some u =>
     rcases hO b with z|⟨ob,xs,z⟩
     ·rw [q] at z;cases z
     ·have z2:=un.frzs b ob _ z
      obtain ⟨e1,_⟩:=hok b _ z
      obtain ⟨e2,_⟩:=hok' b _ z2
      rw [e] at e1;cases e1
      exact e2
 cases hk:K.lookup a with
 | some o =>
  have e:=KX a o hk
  rw [ha] at e
  cases e
  refine core (fun _=>none) (fun _=>.inl rfl) (.inr ⟨_,vs.toArray,_,hk,rfl,rfl,rfl,by rw [Km,lenV];exact hl,by simpa using rv⟩) (fun b u z=>by have z':(none:Option HO)=some u:=z;cases z') (fun b z=>absurd rfl z) fun z=>absurd rfl z
 | none =>
  refine core (fun b=>if b=a then some (.frz { cls:=.type "list", data:=.seq vs.toArray } (.lst (ns.map V.int))) else none) (fun b=>?_) (.inl (.inr ⟨{ cls:=.type "list", data:=.seq vs.toArray },if_pos rfl⟩)) (fun b u z=>?_) (fun b z=>?_) fun _=>hk
  ·by_cases hb:b=a
   ·exact .inr ⟨_,_,if_pos hb⟩
   ·exact .inl (if_neg hb)
  ·by_cases hb:b=a
   ·have z':=(if_pos hb).symm.trans z
    cases z'
    subst hb
    exact ⟨ha,by rw [Kh];exact hl,vs,_,rv,ha⟩
   ·have z':=(if_neg hb).symm.trans z
    cases z'
  ·by_cases hb:b=a
   ·exact hb
   ·exact absurd (if_neg hb) z
noncomputable def zW (s:Va):Arguments:=match s with
 | .FunctionDef _ a _ _ _ _ _ _ _ _=>a
 | _=>{ posonlyargs:=[],args:=[],vararg:=none,kwonlyargs:=[],kw_defaults:=[],kwarg:=none,defaults:=[] }
noncomputable def zr (s:Va):List Va:=match s with
 | .FunctionDef _ _ b _ _ _ _ _ _ _=>b
 | _=>[]
noncomputable def qp (s:Va):K1:=match s with
 | .FunctionDef _ _ _ _ _ _ sc _ _ _=>sc
 | _=>{ kind:=.function,names:=[],isGenerator:=false,isCoroutine:=false }
abbrev CX0:CXT:=fun _ _ _ _ _ _=>False
abbrev E0:XK:=fun _ _ _=>False
theorem pass0 {X:Cx}:Jd CX0 X E0:=fun _ _ _ _ _ _ _ h=>h.elim
structure Fun (K:Kb)(x qual:Str)(st:Va)(f:Kd)(fd:Vs):Prop where
 ex:∃ (oc:Kc) (od:aS) (kV doc pm:Kc) (an:aS) (cdv ct:Kc) (osl:aF),
  fd=VP x qual (zW st) (zr st) (qp st) .none kV doc pm an cdv ct/\K.lookup f=some ⟨oc,od,.func fd,osl⟩/\Uw K cdv qual=true
 kp:VW K (.ref f)=true
section
variable {P:Kw}{w:KB}{K:Kb}{mg:ar}{base:KC}
theorem Fun.binds {x qual:Str}{st:Va}{f:Kd}{fd:Vs}{ps:az}(F:Fun K x qual st f fd)
  (h:∀ (kV doc pm:Kc) (an:aS) (cdv ct:Kc) (us:aw),us.length=ps.length->bindArgs (VP x qual (zW st) (zr st) (qp st) .none kV doc pm an cdv ct) ⟨us,[]⟩=pure (ps.zip us)):Binds K fd ps []:=by
 obtain ⟨oc,od,kV,doc,pm,an,cdv,ct,osl,rfl,lk,hcd⟩:=F.ex
 exact .all (h kV doc pm an cdv ct)
theorem W8 {x qual:Str}{st:Va}{f:Kd}{oc:Kc}{od an:aS}{osl:aF}{kV doc pm cdv ct:Kc}(l:K.lookup f=some ⟨oc,od,.func (VP x qual (zW st) (zr st) (qp st) .none kV doc pm an cdv ct),osl⟩)
  (c:Uw K cdv qual=true) (k:VW K (.ref f)=true):Fun K x qual st f (VP x qual (zW st) (zr st) (qp st) .none kV doc pm an cdv ct):=⟨⟨oc,od,kV,doc,pm,an,cdv,ct,osl,rfl,l,c⟩,k⟩
end
theorem qZ {n:Nat}(h:n<=1000):n<sizeLine:=UG h (by decide)
theorem iteF {A B:Prop}(h:B):if false=true then A else B:=by
 rw [if_neg Vq]
 exact h
theorem iteT {A B:Prop}(h:A):if true=true then A else B:=by
 rw [if_pos rfl]
 exact h
def Same (H H':Hp):Prop:=∀ b o,H b=some o->H' b=some o
theorem Same.refl (H:Hp):Same H H:=fun _ _ h=>h
theorem Same.trans {H H1 H2:Hp}(a:Same H H1)(b:Same H1 H2):Same H H2:=fun c o h=>b c o (a c o h)
theorem Same.free {H H':Hp}(e:Same H H'){l:Kd}(h:H' l=Vw):H l=Vw:=by
 cases q:H l with
 | none=>rfl
 | some o =>
  rw [e l o q] at h
  cases h
theorem Same.seq {K:Kb}{H H':Hp}{a:Kd}{xs:List V}(e:Same H H')(h:SqL K H a xs):SqL K H' a xs:=by
 rcases h with (h|⟨o,h⟩)|h
 ·exact .inl (.inl (e _ _ h))
 ·exact .inl (.inr ⟨o,e _ _ h⟩)
 ·exact .inr h
end L2
set_option maxHeartbeats 4000000
namespace L2
open PySem PySem.Spec PyProof.Rows
theorem JT {env:Env}(body:(Str×NameKind)->List (Str×Addr)->Sem (ForInStep (List (Str×Addr))))
  (hf:∀ n k acc c,k=KL->env.cells.lookup n=some c->body (n,k) acc=pure (.yield ((n,c)::acc)))
  (hn:∀ n k acc,k≠KL->body (n,k) acc=pure (.yield acc)) :
  ∀ (names:List (Str×NameKind)) (acc:aE),(∀ y∈names,y.2=.free->∃ c,env.cells.lookup y.1=some c)->
   (∀ y c,acc.lookup y=some c->env.cells.lookup y=some c)->
   ∃ cl,forIn names acc body=pure cl/\(∀ y c,cl.lookup y=some c->env.cells.lookup y=some c)/\(∀ y,(∃ c,acc.lookup y=some c)->∃ c,cl.lookup y=some c)/\∀ y,(y,KL)∈names->∃ c,cl.lookup y=some c:=by
 intro names
 induction names with
 | nil=>exact fun acc _ ha=>⟨acc,rfl,ha,fun _ h=>h,fun _ h=>by cases h⟩
 | cons p r ih =>
  obtain ⟨n,k⟩:=p
  intro acc h ha
  by_cases hk:k=KL
  ·obtain ⟨c,hc⟩:=h (n,k) K0 hk
   obtain ⟨cl,e,h1,h2,h3⟩:=ih ((n,c)::acc) (fun y hy=>h y (KW _ hy)) (fun y c' e=>by
    rw [KM] at e
    split at e
    ·rename_i q
     have q':y=n:=by simpa using q
     subst q';cases e;exact hc
    ·exact ha y c' e)
   refine ⟨cl,?_,h1,fun y hy=>h2 y ?_,fun y hy=>?_⟩
   ·rw [List.forIn_cons,hf n k acc c hk hc]
    exact e
   ·obtain ⟨c',e'⟩:=hy
    rw [KM]
    split
    ·exact ⟨_,rfl⟩
    ·exact ⟨_,e'⟩
   ·rcases Kr.mp hy with q|q
    ·cases q
     exact h2 _ ⟨c,by rw [KM];simp⟩
    ·exact h3 y q
  ·obtain ⟨cl,e,h1,h2,h3⟩:=ih acc (fun y hy=>h y (KW _ hy)) ha
   refine ⟨cl,?_,h1,h2,fun y hy=>?_⟩
   ·rw [List.forIn_cons,hn n k acc hk]
    exact e
   ·rcases Kr.mp hy with q|q
    ·cases q;exact absurd rfl hk
    ·exact h3 y q
theorem Z9 {sc:K1}{env:Env}(h:∀ y∈sc.names,y.2=.free->∃ c,env.cells.lookup y.1=some c) :
  ∃ cl,closureFor sc env=pure cl/\(∀ y c,cl.lookup y=some c->env.cells.lookup y=some c)/\∀ y,(y,KL)∈sc.names->∃ c,cl.lookup y=some c:=by
 simp only [closureFor]
 obtain ⟨cl,e,h1,_,h3⟩:=JT (env:=env) (fun x cs=>if (x.2==KL)=true then (do let a ← cellOf env x.1;pure (Uq ((x.1,a)::cs))) else pure (Uq cs)) (fun n k acc c hk hc=>by
   subst hk
   simp only [cellOf,hc,beq_self_eq_true,if_true];rfl) (fun n k acc hk=>by
   have:(k==KL)=false:=by simpa using hk
   simp only [this,VM,if_false]) sc.names [] h (fun y c e=>by cases e)
 refine ⟨cl,?_,h1,h3⟩
 exact (congrArg (· >>= fun r=>pure r) e).trans rfl
def qu (X:Cx)(N':az)(sc:K1)(cl:aE)(C:Kd)(fp:ay)(pins:af)(s:Ke)(H:Hp):Cx where
 prog:=X.prog
 w:=X.w
 K:=X.K
 mg:=X.mg
 base:=X.base
 A:=X.A
 N:=N'
 s₀:=s
 H₀:=H
 env:=compEnvC sc cl C X.env
 outer:=X.stack
 stack:=X.stack
 ex:=fp
 fn:=fun x=>decide (sc.names.lookup x=some .cell)
 calm:=X.calm
 pn:=X.pn++pins
 xe:=fun _ _=>False
def PTs (X:Cx)(ifs:aG)(t:TT):Prop :=
 ∀ (pins:af) (s:Ke) (σ:St) (H:Hp) (Q:Bool->Hp->Prop),Inv X pins σ H s->t σ H Q->
  wpAny (model X.prog X.w) X.A (forIn ifs true fun c r=>if r=true then do let ok ← isTrue c X.env (eval c X.env);pure (Uq ok) else pure (Uq r)) (TP X pins σ Q) X.xe s
def tTru:TT:=fun _ H Q=>Q true H
theorem qca {X:Cx}:PTs X [] tTru:=fun _ _ _ H _ I h=>wpAny_tests_nil ⟨H,I,h⟩
theorem qcb {X:Cx}{c:Kp}{t:TT}(h:PT X c t):PTs X [c] t:=fun pins s σ H Q I q=>wpAny_tests_one (h pins s σ H Q I q)
theorem thF {α:Type}{t:Sem α}{Q Q':α->Ke->Prop}{M:Model}{A:KG}{E:ak}{s:Ke}(h:wpAny M A t Q (fun _ _=>False) s)(hQ:∀ a s,Q a s->Q' a s):wpAny M A t Q' E s:=VO h hQ fun _ _ x=>x.elim
theorem yU {prog:Kw}{w:KB}{A:KG}{R:aY}{s:Ke}{elt target iter:Kp}{ifs:aG}{scope:K1}{pos:Pos}{it acc:Kc}{env:Env}(I:Nat->Ke->Prop)
  (turn:∀ n s,I n s->wpAny (model prog w) A (pyNext it) (fun r s₁=>match r with
   | none=>R (.ok .next) s₁
   | some v=>wpAny (model prog w) A (letOwnedTupleGo target it v) (fun _ s₁=>wpAny (model prog w) A (assign target env v) (fun _ s₂ =>
     wpAny (model prog w) A (forIn ifs true fun c r=>if r=true then do let ok ← isTrue c env (eval c env);pure (Uq ok) else pure (Uq r)) (fun ok s₃ =>
      if ok=true then wpAny (model prog w) A (eval elt env) (fun x s₄ =>
       wpAny (model prog w) A (call (.builtin "list.append") [acc,x]) (fun _ s₅=>∃ m,m<n/\I m s₅) (notedBy (model prog w) A env fun e s'=>R (.error e) s') s₄) (notedBy (model prog w) A env fun e s'=>R (.error e) s') s₃
      else ∃ m,m<n/\I m s₃) (notedBy (model prog w) A env fun e s'=>R (.error e) s') s₂) (notedBy (model prog w) A env fun e s'=>R (.error e) s') s₁) (notedBy (model prog w) A env fun e s'=>R (.error e) s') s₁) (notedBy (model prog w) A env fun e s'=>R (.error e) s') s)
  (n:Nat) (h:I n s) :
  codeAny (model prog w) A (.compLoop (.ListComp elt [⟨target,iter,ifs,0⟩] scope pos) 0 it acc env) R s:=by
 refine codeAny_loop rfl I (fun n s hI=>?_) n h
 show wpAny _ A ((compTurn (.ListComp elt [⟨target,iter,ifs,0⟩] scope pos) 0 it acc env).onRaise (fun x=>do noteFrame x env;theTreesLotGoes x)) _ _ s
 refine wpAny_noted ?_
 rw [compTurn_list]
 refine Kf (wpAny_standAt (Kf (VO (turn n s hI) (fun r s₁ h₁=>?_) fun _ _ h'=>h')))
 cases r with
 | none=>exact Ko h₁
 | some v =>
  refine Kf (VO h₁ (fun _ s₁' h₁'=>?_) fun _ _ h'=>h')
  refine Kf (VO h₁' (fun _ s₂ h₂=>Kf (VO h₂ (fun ok s₃ h₃=>?_) fun _ _ h'=>h')) fun _ _ h'=>h')
  cases ok with
  | false=>exact Ko ⟨rfl,h₃⟩
  | true =>
   exact Kf (Kf (VO h₃ (fun x s₄ h₄=>Kf (VO h₄ (fun _ s₅ h₅=>Ko (Ko ⟨rfl,h₅⟩)) fun _ _ h'=>h')) fun _ _ h'=>h'))
structure CompOk (X:Cx)(N':az)(k:Nat)(sc:K1):Prop where
 calm:X.calm=true
 kind:sc.kind=.function
 nd:X.N.Nodup
 nd':N'.Nodup
 len:N'.length=X.N.length+k
 cells:∀ y∈sc.names,y.2=.cell->sc.names.lookup y.1=some .cell
 names:∀ y∈sc.names,y.2=.local->sc.names.lookup y.1=some .local
 old:∀ i y,i<X.N.length->N'[i]?=some y->(X.N[i]?=some y/\sc.names.lookup y≠some .local/\sc.names.lookup y≠some .cell)\/sc.names.lookup y=none
 free:∀ y∈sc.names,y.2=.free->X.env.kindOf y.1=some .cell\/X.env.kindOf y.1=some .free
theorem cf_ok (lo:Nat):∀ (names:List (Str×NameKind)) (h:KC) (acc:aE),lo<=h.objs.size->(∀ y c,acc.lookup y=some c->lo<=c->c<h.objs.size)->(∀ y z c,lo<=c->acc.lookup y=some c->acc.lookup z=some c->y=z)->
  (∀ y c,(cellsFrom h.objs.size names acc).lookup y=some c->acc.lookup y=some c\/(h.objs.size<=c/\(pushCells h names).IsCell c none))/\(∀ y,(∃ c,acc.lookup y=some c)->∃ c,(cellsFrom h.objs.size names acc).lookup y=some c)/\
  (∀ y,(y,Vc)∈names->∃ c,(cellsFrom h.objs.size names acc).lookup y=some c/\h.objs.size<=c)/\(∀ y,(y,Vc)∉names->(cellsFrom h.objs.size names acc).lookup y=acc.lookup y)/\
  ∀ y z c,lo<=c->(cellsFrom h.objs.size names acc).lookup y=some c->(cellsFrom h.objs.size names acc).lookup z=some c->y=z:=by
 intro names
 induction names with
 | nil=>exact fun h acc _ _ inj=>⟨fun _ _ e=>.inl e,fun _ e=>e,(fun _ e=>by cases e),fun _ _=>rfl,inj⟩
 | cons p r ih =>
  obtain ⟨name,kind⟩:=p
  intro h acc hl hb inj
  by_cases hk:kind=.cell
  ·subst hk
   have sz:(h.push { cls:=.type "cell", data:=.cell none }).objs.size=h.objs.size+1:=Vz ..
   have lk:∀ y,Xp y ((name,h.objs.size)::acc)=if y=name then some h.objs.size else acc.lookup y:=fun y=>by
    rw [KM]
    by_cases q:y=name
    ·rw [if_pos q,beq_iff_eq.mpr q]
    ·rw [if_neg q,beq_eq_false_iff_ne.mpr q]
   obtain ⟨a1,a2,a3,a4,a5⟩:=ih (h.push { cls:=.type "cell", data:=.cell none }) ((name,h.objs.size)::acc) (by omega) (fun y c e q=>by
     rw [lk] at e
     rw [sz]
     split at e
     ·cases e;exact UX _
     ·exact K5 (hb y c e q)) (fun y z c q e1 e2=>by
     rw [lk] at e1 e2
     split at e1<;>split at e2
     ·rename_i u v;rw [u,v]
     ·cases e1;exact absurd (hb z _ e2 q) (Vt _)
     ·cases e2;exact absurd (hb y _ e1 q) (Vt _)
     ·exact inj y z c q e1 e2)
   rw [sz] at a1 a2 a3 a4 a5
   have e0:cellsFrom h.objs.size ((name,Vc)::r) acc=cellsFrom (h.objs.size+1) r ((name,h.objs.size)::acc):=rfl
   have e1:pushCells h ((name,Vc)::r)=pushCells (h.push { cls:=.type "cell", data:=.cell none }) r:=rfl
   rw [e0,e1]
   have b1:∀ y c,(cellsFrom (h.objs.size+1) r ((name,h.objs.size)::acc)).lookup y=some c->acc.lookup y=some c\/(h.objs.size<=c/\(pushCells (h.push { cls:=.type "cell", data:=.cell none }) r).IsCell c none):=fun y c e=>by
    rcases a1 y c e with q|⟨q1,q2⟩
    ·rw [lk] at q
     split at q
     ·cases q
      exact .inr ⟨Kl _,_,X1 r _ _ _ (Kx _ rfl),rfl⟩
     ·exact .inl q
    ·exact .inr ⟨by omega,q2⟩
   refine ⟨b1,fun y e=>a2 y ?_,fun y e=>?_,fun y e=>?_,a5⟩
   ·obtain ⟨c,e⟩:=e
    rw [lk]
    split
    ·exact ⟨_,rfl⟩
    ·exact ⟨_,e⟩
   ·rcases Kr.mp e with q|q
    ·cases q
     obtain ⟨c,q⟩:=a2 name ⟨h.objs.size,by rw [lk,if_pos rfl]⟩
     refine ⟨c,q,?_⟩
     rcases a1 name c q with z|z
     ·rw [lk,if_pos rfl] at z;cases z;exact Kl _
     ·omega
    ·obtain ⟨c,q1,q2⟩:=a3 y q
     exact ⟨c,q1,by omega⟩
   ·rw [a4 y fun z=>e (KW _ z),lk,if_neg fun z=>e (by rw [z];exact K0)]
  ·have hb':(kind==Vc)=false:=beq_eq_false_iff_ne.mpr hk
   have e0:cellsFrom h.objs.size ((name,kind)::r) acc=cellsFrom h.objs.size r acc:=by rw [cellsFrom,hb'];rfl
   have e1:pushCells h ((name,kind)::r)=pushCells h r:=by rw [pushCells,hb'];rfl
   rw [e0,e1]
   obtain ⟨a1,a2,a3,a4,a5⟩:=ih h acc hl hb inj
   refine ⟨a1,a2,fun y e=>?_,fun y e=>a4 y fun z=>e (KW _ z),a5⟩
   rcases Kr.mp e with q|q
   ·cases q;exact absurd rfl hk
   ·exact a3 y q
theorem qbH {M:Model}{A:KG}{E:ak}{s:Ke}{sc:K1}{gl:Kd}{cl:aE}{qual:Str}{func:aS}{code:Kc}{env:Env}{bl:Kd}{Q:Env->Ke->Prop}
  (hQ:Q (newEnv sc s.heap.objs.size gl (cellsFrom (s.heap.objs.size+1) sc.names cl) qual func code (some env) bl) { s with heap:=pushCells (s.heap.push { cls:=.type "dict", data:=.dict #[] }) sc.names }) :
  wpAny M A (newFunctionEnv sc gl cl [] qual func code (some env) bl) Q E s:=by
 simp only [newFunctionEnv,Option.isSome_some,if_true]
 refine Kf (wpAny_alloc (Kf (wpAny_layCells _ (fun name kind cells=>by cases hkc:kind==Vc<;>simp [hkc]) _ _ _ _ ?_)))
 rw [show ({ s with heap:=s.heap.push { cls:=.type "dict", data:=.dict #[] } }:Ke).heap.objs.size=s.heap.objs.size+1 from Vz ..]
 rw [List.forIn_nil]
 exact Kf (Ko (Ko hQ))
structure ClOk (X:Cx)(sc:K1)(cl:aE)(n:Nat)(h:KC):Prop where
 old:∀ y c,cl.lookup y=some c->X.env.cells.lookup y=some c\/(n<c/\∃ v,h.IsCell c v)
 free:∀ y,sc.names.lookup y=some .free->∃ c,cl.lookup y=some c/\X.env.cells.lookup y=some c
 cell:∀ y,sc.names.lookup y=some .cell->∃ c,cl.lookup y=some c/\n<c
 inj:∀ y z c,cl.lookup y=some c->cl.lookup z=some c->y=z
def qaU (J:It)(wg:TG)(tt:TT)(te:TE)(W:Nat->Nat->List V->St->Hp->Prop)(i m:Nat)(ys:List V)(σ:St)(H:Hp):Prop :=
 ∀ x H2,J.yld i H x H2->wg x σ H2 fun σ3 H3=>tt σ3 H3 fun b H4=>if b=true then te σ3 H4 fun v H5=>ys.length<sizeLine/\∃ m',m'<m/\W (i+1) m' (ys++[v]) σ3 H5
  else ∃ m',m'<m/\W (i+1) m' ys σ3 H4
def qaV (k:Nat)(J:It)(wg:TG)(tt:TT)(te:TE)(σ:St)(H:Hp)(Q:VK):Prop :=
 ∃ W:Nat->Nat->List V->St->Hp->Prop,(∃ m,W 0 m [] (σ++Kn k none) H)/\∀ i m ys σ' H',W i m ys σ' H'->
  (J.stop i H'/\∀ D,H' D=none->Q (.ref D) (upd H' D (.lst ys)))\/(J.go i H'/\qaU J wg tt te W i m ys σ' H')
def Ja (k:Nat)(wi:TI)(wg:TG)(tt:TT)(te:TE):TE:=fun σ H Q=>wi σ H fun J H1=>qaV k J wg tt te σ H1 Q
theorem zz {env:Env}:∀ {names:List (Str×NameKind)} {x:Str} {k:XC},
  (names.map fun (n,k)=>if (k==KL&&env.scope.kind==.function&&env.kindOf n==some .cell) then (n,Vc) else (n,k)).lookup x=some k->
   (names.lookup x=some k)\/(k=.cell/\names.lookup x=some .free):=by
 intro names x k
 induction names with
 | nil=>intro h;cases h
 | cons q r ih =>
  intro h
  obtain ⟨n,k'⟩:=q
  have h':Xp x ((if (k'==KL&&env.scope.kind==.function&&env.kindOf n==some .cell)=true then (n,Vc) else (n,k'))::(r.map fun (n,k)=>if (k==KL&&env.scope.kind==.function&&env.kindOf n==some .cell) then (n,Vc) else (n,k)))=some k:=h
  cases hx:x==n with
  | true =>
   by_cases hc:(k'==KL&&env.scope.kind==.function&&env.kindOf n==some .cell)=true
   ·rw [if_pos hc] at h'
    simp only [KM,hx] at h' ⊢
    cases h'
    have:k'=.free:=by
     rw [Kt,Kt] at hc
     simpa using hc.1.1
    subst this
    exact .inr ⟨rfl,rfl⟩
   ·rw [if_neg hc] at h'
    simp only [KM,hx] at h' ⊢
    exact .inl h'
  | false =>
   by_cases hc:(k'==KL&&env.scope.kind==.function&&env.kindOf n==some .cell)=true
   ·rw [if_pos hc] at h'
    simp only [KM,hx] at h' ⊢
    exact ih h'
   ·rw [if_neg hc] at h'
    simp only [KM,hx] at h' ⊢
    exact ih h'
section
variable {X:Cx}{elt iter:Kp}{ifs:aG}{tg:Kp}{N':az}{sc:K1}{pos:Pos}{wi:TI}{wg:TG}{tt:TT}{te:TE}{k:Nat}
theorem WW {pins:af}{σ:St}{H:Hp}{s s':Ke}{cl:aE}{fp:ay}{m:ar}(O:CompOk X N' k sc)(I:Inv X pins σ H s)(cK:ClOk X sc cl s.heap.objs.size s'.heap)
  (hf:∀ b∈fp,FpOk X pins H b) (hlt:∀ b∈fp,b<s.heap.objs.size) (hos:s'.os=s.os) (hg:s'.gens=s.gens) (hk:∀ b o,s.heap.get? b=some o->s'.heap.get? b=some o) (hns:s'.heap.Ns s.heap.objs.size m) :
  Inv (qu X N' sc cl s.heap.objs.size fp pins s H) [] (σ++Kn k none) H s':=by
 have stk:∀ b,b≠X.env.locals->b∉X.fs->b∉frs X.stack:=fun b h1 h2 hb=>by
  rcases Kr.mp (I.stkSub b hb) with z|z
  ·exact h1 z
  ·exact h2 z
 have hr:∀ {y:Str},(relabel sc X.env).names.lookup y=some .cell\/(relabel sc X.env).names.lookup y=some .free->sc.names.lookup y=some .free\/sc.names.lookup y=some .cell:=fun {y} h=>by
  rcases h with h|h
  ·rcases zz h with q|q
   ·exact .inr q
   ·exact .inl q.2
  ·rcases zz h with q|q
   ·exact .inl q
   ·exact .inl q.2
 refine ⟨⟨I.ok.mod,O.kind,I.ok.glob,I.ok.blt,Kl _,cK.inj,fun y hy=>?_,fun y c z e=>?_,I.ok.hd,I.ok.frames,.inl rfl,fun b hb=>?_,I.bs,KO I.ok.bsz I.sz,fun b o e hb=>?_,fun b hb=>?_,I.stack,I.stkFree⟩,
  hos,?_,Un.kept hk,⟨m,hns,fun i y v h1 h2 h3=>?_⟩,fun y c h=>?_,I.hok.fresh (Kl _),fun y c h=>(cK.old y c h).elim (I.freeC y c) fun z=>I.hok.fresh (Vu z.1),fun p hp=>?_,I.hok.kept hk,?_⟩
 ·rcases hr hy with q|q
  ·obtain ⟨c,e,_⟩:=cK.free y q;exact ⟨c,e⟩
  ·obtain ⟨c,e,_⟩:=cK.cell y q;exact ⟨c,e⟩
 ·obtain ⟨c',e',q⟩:=cK.cell y (of_decide_eq_true z)
  have e:cl.lookup y=some c:=e
  rw [e'] at e;cases e
  exact Vu q
 ·have q:=hf b hb
  exact ⟨KA (hlt b hb),fun z c e=>(cK.old z c e).elim (q.2.2.2.2.1 z c) fun w=>Uv (Nm (hlt b hb) w.1)⟩
 ·have hb':b∈fp:=hb
  rcases (hf b hb').2.2.2.1 with z|z
  ·exact I.ok.noex b o e z
  ·exact absurd (KD (Ks (I.ok.bs b o e).1) z) (Vt _)
 ·exact stk b (hf b hb).2.1 (hf b hb).2.2.1
 ·rw [hg];exact I.bare
 ·have hl:=I.len
  have hi:i<X.N.length:=by
   by_cases hi:i<X.N.length
   ·exact hi
   ·rw [VJ (by omega)] at h2
    have:=VR (a:=(none:Option V)) (n:=k) (i:=i-σ.length)
    rw [this] at h2
    split at h2<;>cases h2
  have h1':X.N[i]?=some y/\sc.names.lookup y≠some .local/\sc.names.lookup y≠some .cell:=by
   rcases O.old i y hi h1 with q|q
   ·exact q
   ·have no:∀ kk,(relabel sc X.env).names.lookup y≠some kk:=fun kk z=>by
     rcases zz z with w|w
     ·rw [q] at w;cases w
     ·rw [q] at w;cases w.2
    rcases h3 with h3|h3|h3
    ·exact absurd h3 (no _)
    ·exact absurd h3 (no _)
    ·exact absurd h3 (no _)
  obtain ⟨h1',h1n,h1c⟩:=h1'
  have h2':σ[i]?=some (some v):=by
   rw [K7 (by omega)] at h2
   exact h2
  have key:sc.names.lookup y=some .free/\((relabel sc X.env).names.lookup y=some .cell\/(relabel sc X.env).names.lookup y=some .free):=by
   rcases h3 with h3|h3|h3
   ·rcases zz h3 with q|q
    ·exact absurd q h1n
    ·cases q.1
   ·exact ⟨(hr (.inl h3)).resolve_right h1c,.inl h3⟩
   ·exact ⟨(hr (.inr h3)).resolve_right h1c,.inr h3⟩
  obtain ⟨q,kd⟩:=key
  have mem:=VB q
  have kx:=O.free _ mem rfl
  obtain ⟨m0,hn,hl'⟩:=I.loc
  obtain ⟨u,r,l⟩:=hl' i y v h1' h2' (by rcases kx with z|z;exact .inr (.inl z);exact .inr (.inr z))
  rcases l with ⟨l,_⟩|⟨_,c,e,z⟩
  ·rcases kx with z|z
   ·rw [l] at z;cases z
   ·rw [l] at z;cases z
  ·obtain ⟨c',e',e2⟩:=cK.free y q
   rw [e] at e2;cases e2
   obtain ⟨o,ho,hd⟩:=z
   exact ⟨u,r,.inr ⟨kd,c,e',o,hk _ _ ho,hd⟩⟩
 ·rcases cK.old y c h with z|z
  ·obtain ⟨v,o,ho,hd⟩:=I.cell y c z
   exact ⟨v,o,hk _ _ ho,hd⟩
  ·exact z.2
 ·have hp':p∈X.pn++pins:=by
   rcases Vo.mp hp with z|z
   ·exact z
   ·cases z
  obtain ⟨e,n,ne,nf,d⟩:=I.pin p hp'
  exact ⟨hk _ _ e,n,KA (Ks e),stk p.1 ne nf,d⟩
 ·show (σ++Kn k none).length=N'.length
  rw [Kq,Vh,I.len,O.len]
theorem comp_back {pins:af}{σ σ':St}{H H':Hp}{s s1:Ke}{cl:aE}{fp:ay}{C:Kd}(I:Inv X pins σ H s)(hf:∀ b∈fp,FpOk X pins H b)
  (J:Inv (qu X N' sc cl C fp pins s H) [] σ' H' s1):Inv X pins σ H' s1 :=
 I.call' (ch:=fp) J.os J.base J.hok J.bare fun b hb=>⟨(hf b hb).2.2.2.1,(hf b hb).2.1,(hf b hb).2.2.2.2.1,(hf b hb).2.2.2.2.2⟩
theorem Inv.track {pins:af}{σ:St}{H:Hp}{s:Ke}{D:Kd}{o:HO}(I:Inv X pins σ H s)(hn:H D=none)(hL:D≠X.env.locals)(h1:D∈X.ex\/X.s₀.heap.objs.size<=D)(h2:∀ x c,X.env.cells.lookup x=some c->c≠D)(h3:∀ p∈X.pn++pins,p.1≠D)
  (ok:q8 X.prog X.w (upd H D o) s.heap D o):Inv X pins σ (upd H D o) s:=by
 have ne:∀ b u,H b=some u->b≠D:=fun b u e=>zj e hn
 exact I.step (g':=s.gens) (d':=s.drawn) (t':=s.toks) (ch:=[D]) (h':=s.heap) (fun b hb=>by
   have e:b=D:=by simpa using hb
   subst e
   exact ⟨h1,hL,h2,h3⟩) (fun b o _ _ _ e _=>e) (fun b o _ _ _ e _=>⟨o.slots,e⟩) (fun b o hc e n=>by rw [qg (fun z=>hc (by simp [z]))];exact n) (fun b o _ e=>⟨o,e⟩)
  (fun b xs e=>by rw [qg (ne b _ e)];exact e) (fun b o u e=>by rw [qg (ne b _ e)];exact e) (fun b ps e=>⟨#[],by rw [qg (ne b _ e),e];simp⟩) (fun m hm=>hm) (fun b u e=>by
   by_cases hb:b=D
   ·subst hb;rw [qF] at e;cases e;exact ok
   ·rw [qg hb] at e
    exact (I.hok b u e).stay (fun c v _ q=>q) (fun c q=>by rw [qg (ne c _ q)];exact q) fun c xs q=>by rw [qg (ne c _ q)];exact q) I.bare
theorem wF {pins:af}{σ:St}{H:Hp}{s s':Ke}{cl:aE}{fp:ay}{m:ar}{it D:Kd}{tn:ba}{J:It}{R:aY}{Qd:List V->Hp->Prop}(O:CompOk X N' k sc)
  (I:Inv X pins σ H s) (cK:ClOk X sc cl s.heap.objs.size s'.heap) (hf:∀ b∈D::fp,FpOk X pins H b) (hlt:∀ b∈D::fp,b<s.heap.objs.size)
  (hos:s'.os=s.os) (hg:s'.gens=s.gens) (hk:∀ b o,s.heap.get? b=some o->s'.heap.get? b=some o) (hns:s'.heap.Ns s.heap.objs.size m)
  (T:Turn X.prog X.w X.K tg J fp it tn) (hDf:D∉fp) (st:tn 0 s'.heap) (hD:s'.heap.PlainList D #[])
  (pg:PG (qu X N' sc cl s.heap.objs.size (D::fp) pins s H) tg wg) (hq:PTs (qu X N' sc cl s.heap.objs.size (D::fp) pins s H) ifs tt) (he:PE (qu X N' sc cl s.heap.objs.size (D::fp) pins s H) elt te)
  (W:Nat->Nat->List V->St->Hp->Prop) (m0:Nat) (w0:W 0 m0 [] (σ++Kn k none) H) (turn:∀ i m ys σ' H',W i m ys σ' H'->(J.stop i H'/\Qd ys H')\/(J.go i H'/\qaU J wg tt te W i m ys σ' H'))
  (fin:∀ s1 H1 σ1 (ys:List V) (its:aw),Inv (qu X N' sc cl s.heap.objs.size (D::fp) pins s H) [] σ1 H1 s1->H1 D=none->s1.heap.PlainList D its.toArray->Vals ys its->ys.length<=sizeLine->Qd ys H1->R (.ok .next) s1) :
  codeAny (model X.prog X.w) X.A (.compLoop (.ListComp elt [⟨tg,iter,ifs,0⟩] sc pos) 0 (.ref it) (.ref D) (compEnvC sc cl s.heap.objs.size X.env)) R s':=by
 have I0:Inv (qu X N' sc cl s.heap.objs.size (D::fp) pins s H) [] (σ++Kn k none) H s':=WW O I cK hf hlt hos hg hk hns
 have stk:∀ b,b≠X.env.locals->b∉X.fs->b∉frs X.stack:=fun b h1 h2 hb=>by
  rcases Kr.mp (I.stkSub b hb) with z|z
  ·exact h1 z
  ·exact h2 z
 have stat:∀ {H':Hp},(∀ b∈D::fp,H' b=none)->∀ b∈D::fp,FpOk (qu X N' sc cl s.heap.objs.size (D::fp) pins s H) [] H' b:=fun hn b hb =>
  ⟨hn b hb,KA (hlt b hb),stk b (hf b hb).2.1 (hf b hb).2.2.1,.inl hb,fun z c e=>(cK.old z c e).elim ((hf b hb).2.2.2.2.1 z c) fun w=>Uv (Nm (hlt b hb) w.1),fun p hp=>by
   have hp':p∈X.pn++pins:=by
    rcases Vo.mp hp with z|z
    ·exact z
    ·cases z
   exact (hf b hb).2.2.2.2.2 p hp'⟩
 have statF:∀ {H':Hp},(∀ b∈D::fp,H' b=none)->∀ b∈fp,FpOk (qu X N' sc cl s.heap.objs.size (D::fp) pins s H) [] H' b:=fun hn b hb=>stat hn b (KW _ hb)
 refine yU (fun kk s1=>∃ i ys its σ' H',Inv (qu X N' sc cl s.heap.objs.size (D::fp) pins s H) [] σ' H' s1/\tn i s1.heap/\(∀ b∈D::fp,H' b=none)/\s1.heap.PlainList D its.toArray/\Vals ys its/\ys.length<=sizeLine/\W i kk ys σ' H') ?_ m0 ⟨0,[],[],σ++Kn k none,H,I0,st,fun b hb=>(hf b hb).1,hD,.nil,Us _,w0⟩
 rintro kk s3 ⟨i,ys,its,σ3,H3,I3,st3,fr3,pl3,rv3,hz3,w3⟩
 rcases turn i kk ys σ3 H3 w3 with ⟨stop,qn⟩|⟨go,step⟩
 ·have J3:=I3.pinned (fp:=[D]) (fun b hb=>by
   have e:b=D:=by simpa using hb
   subst e
   exact stat fr3 b K0) (fun b hb=>by
   have e:b=D:=by simpa using hb
   subst e
   obtain ⟨n,e⟩:=pl3
   exact ⟨_,e,fun v z=>by cases z⟩)
  have fpo:∀ b∈fp,FpOk (qu X N' sc cl s.heap.objs.size (D::fp) pins s H) ([]++zJ [D] s3.heap) H3 b:=fun b hb=>by
   obtain ⟨a1,a2,a3,a4,a5,a6⟩:=statF fr3 b hb
   refine ⟨a1,a2,a3,a4,a5,fun p hp=>?_⟩
   rcases Vo.mp hp with z|z
   ·exact a6 p (Uc _ z)
   ·have z':p∈zJ [D] s3.heap:=by simpa using z
    have:=(ZC z').1
    have e:p.1=D:=by simpa using this
    rw [e]
    intro z2
    subst z2
    exact hDf hb
  refine thn (T.done (qu X N' sc cl s.heap.objs.size (D::fp) pins s H) rfl rfl rfl O.calm i _ s3 σ3 H3 _ J3 fpo st3 stop) fun r s4 ⟨hr,I4⟩=>?_
  subst hr
  obtain ⟨n,e⟩:=pl3
  have e4:=(I4.pin (D,_) (KF _ (KF _ (zB (by simp) e)))).1
  exact fin s4 H3 σ3 ys its I4.unpinned (fr3 D K0) ⟨n,e4⟩ rv3 hz3 qn
 ·have J3:=I3.pinned (fp:=[D]) (fun b hb=>by
   have e:b=D:=by simpa using hb
   subst e
   exact stat fr3 b K0) (fun b hb=>by
   have e:b=D:=by simpa using hb
   subst e
   obtain ⟨n,e⟩:=pl3
   exact ⟨_,e,fun v z=>by cases z⟩)
  have fpo:∀ {H':Hp},(∀ b∈fp,H' b=none)->∀ b∈fp,FpOk (qu X N' sc cl s.heap.objs.size (D::fp) pins s H) ([]++zJ [D] s3.heap) H' b:=fun {H'} hn b hb=>by
   obtain ⟨_,a2,a3,a4,a5,a6⟩:=statF fr3 b hb
   refine ⟨hn b hb,a2,a3,a4,a5,fun p hp=>?_⟩
   rcases Vo.mp hp with z|z
   ·exact a6 p (Uc _ z)
   ·have z':p∈zJ [D] s3.heap:=by simpa using z
    have:=(ZC z').1
    have e:p.1=D:=by simpa using this
    rw [e]
    intro z2
    subst z2
    exact hDf hb
  refine thn (T.item (qu X N' sc cl s.heap.objs.size (D::fp) pins s H) rfl rfl rfl O.calm i _ s3 σ3 H3 _ J3 (fpo fun b hb=>fr3 b (KW _ hb)) st3 go) fun r s4 ⟨u,hr,h4⟩=>?_
  subst hr
  refine thn h4 fun _ s5 ⟨y,H5,I5,r5,y5,st5,fr5⟩=>?_
  have I5':=I5.pinned (fpo fr5) (T.obj _ _ st5)
  have step':=step y H5 y5
  obtain ⟨n3,e3⟩:=pl3
  have dpin:∀ {σ7:St} {H7:Hp} {s7:Ke},Inv (qu X N' sc cl s.heap.objs.size (D::fp) pins s H) ([]++zJ [D] s3.heap++zJ fp s5.heap) σ7 H7 s7->s7.heap.get? D=some { cls:=.type "list", data:=.seq its.toArray n3 }/\H7 D=none:=fun {σ7 H7 s7} I7=>by
   have q:=I7.pin (D,_) (KF _ (Uc _ (KF _ (zB (by simp) e3))))
   exact ⟨q.1,q.2.1⟩
  have tkeep:∀ {σ7:St} {H7:Hp} {s7:Ke},Inv (qu X N' sc cl s.heap.objs.size (D::fp) pins s H) ([]++zJ [D] s3.heap++zJ fp s5.heap) σ7 H7 s7->tn (i+1) s7.heap/\∀ b∈D::fp,H7 b=none:=fun {σ7 H7 s7} I7=>by
   refine ⟨T.keep _ _ _ st5 fun b hb o e=>(I7.pin (b,o) (KF _ (KF _ (zB hb e)))).1,fun b hb=>?_⟩
   rcases Kr.mp hb with rfl|hb
   ·exact (dpin I7).2
   ·obtain ⟨o,e,d⟩:=T.obj _ _ st5 b hb
    exact (I7.pin (b,o) (KF _ (KF _ (zB hb e)))).2.1
  refine thF (pg _ s5 σ3 H5 y u _ I5' r5 step') fun _ s6 ⟨σ6,H6,I6,step6⟩=>?_
  refine thF (hq _ s6 _ H6 _ I6 step6) fun b s7 ⟨H7,I7,q7⟩=>?_
  cases b with
  | false =>
   simp only [VM,if_false] at q7 ⊢
   obtain ⟨m',hm,w8⟩:=q7
   obtain ⟨t8,f8⟩:=tkeep I7
   exact ⟨m',hm,i+1,ys,its,_,H7,I7.unpinned.unpinned,t8,f8,⟨n3,(dpin I7).1⟩,rv3,hz3,w8⟩
  | true =>
   simp only [if_true] at q7 ⊢
   refine thF (he _ s7 _ H7 _ I7 q7) fun v s8 ⟨vv,H8,I8,r8,hz,m',hm,w8⟩=>?_
   have hlen:=rv3.length
   refine wpAny_list_append_plain ⟨n3,(dpin I8).1⟩ (fun h9 pl9 sb9=>?_) (by rw [Km];omega)
   obtain ⟨t8,f8⟩:=tkeep I8
   have st8:=stat f8 D K0
   have I9:Inv (qu X N' sc cl s.heap.objs.size (D::fp) pins s H) [] σ6 H8 { s8 with heap:=h9 } :=
    I8.unpinned.unpinned.turned (t':=s8.toks) (fun b o hb e=>(sb9.2 b hb).trans e) st8.1 st8.2.1 st8.2.2.2.1 st8.2.2.2.2.1 st8.2.2.2.2.2
   refine ⟨m',hm,i+1,ys++[vv],its++[v],_,H8,I9,T.keep _ _ _ t8 fun b hb o e=>(sb9.2 b (fun z=>hDf (z ▸ hb))).trans e,f8,by simpa using pl9,rv3.append (.cons r8 .nil),?_,w8⟩
   rw [Kq,K4]
   omega
theorem jd {E:ak}{pins:af}{σ:St}{H:Hp}{s:Ke}{cl:aE}{fp:ay}{it:Kd}{tn:ba}{J:It}{RR:Kc->Kd->Result->Ke->Prop}{Qd:V->Hp->Prop}(O:CompOk X N' k sc)
  (I:Inv X pins σ H s) (hcl1:∀ y c,cl.lookup y=some c->X.env.cells.lookup y=some c) (hcl2:∀ y,(y,KL)∈sc.names->∃ c,cl.lookup y=some c) (hf:∀ b∈fp,FpOk X pins H b)
  (T:Turn X.prog X.w X.K tg J fp it tn) (st:tn 0 s.heap)
  (hg:∀ cl C fp pins s H,PG (qu X N' sc cl C fp pins s H) tg wg) (hq:∀ cl C fp pins s H,PTs (qu X N' sc cl C fp pins s H) ifs tt) (he:∀ cl C fp pins s H,PE (qu X N' sc cl C fp pins s H) elt te)
  (turn:qaV k J wg tt te σ H Qd)
  (fin:∀ D C s1 H1 m,Inv X pins σ H1 s1->s1.heap.Ns C m->H1 C=none->C≠X.env.locals->(X.s₀.heap.objs.size<=C)->(∀ z c,X.env.cells.lookup z=some c->c≠C)->(∀ p∈X.pn++pins,p.1≠C)->Qd (.ref D) H1->RR (.ref D) C (.ok .next) s1) :
  wpAny (model X.prog X.w) X.A (newList []) (fun acc s₃=>wpAny (model X.prog X.w) X.A (newFunctionEnv sc X.env.globals cl [] X.env.qual none .none (some X.env)) (fun cenv s₄ =>
   codeAny (model X.prog X.w) X.A (.compStart (.ListComp elt [⟨tg,iter,ifs,0⟩] sc pos) 0 (.ref it) acc { cenv with scope:=relabel sc X.env }) (RR acc cenv.locals) s₄) E s₃) E s:=by
 refine VA (qbH ?_)
 dsimp only
 have hD:=I.hok.fresh (Kl s.heap.objs.size)
 have I3:Inv X pins σ H { s with heap:=s.heap.push { cls:=.type "list", dict:=none,data:=.seq ([]:List Kc).toArray } } :=
  I.kept (t':=s.toks) (fun b u e=>Kg _ e)
 have fpl:∀ b∈fp,b<s.heap.objs.size:=fun b hb=>by
  obtain ⟨o,e,_⟩:=T.obj _ _ st b hb
  exact Ks e
 have fD:FpOk X pins H s.heap.objs.size:=I.fpOk (Kl _) hD
 have hf3:∀ b∈s.heap.objs.size::fp,FpOk X pins H b:=fun b hb=>by
  rcases Kr.mp hb with rfl|hb
  ·exact fD
  ·exact hf b hb
 have eD:(s.heap.push { cls:=.type "list", dict:=none,data:=.seq ([]:List Kc).toArray }).get? s.heap.objs.size=some { cls:=.type "list", dict:=none,data:=.seq ([]:List Kc).toArray }:=Kx _ rfl
 generalize hH2:s.heap.push { cls:=.type "list", dict:=none,data:=.seq ([]:List Kc).toArray }=H2 at I3 eD ⊢
 have hC:H2.objs.size=s.heap.objs.size+1:=by rw [← hH2,Vz]
 have sz2:(H2.push { cls:=.type "dict", data:=.dict #[] }).objs.size=H2.objs.size+1:=Vz ..
 obtain ⟨a1,a2,a3,a4,a5⟩:=cf_ok H2.objs.size sc.names (H2.push { cls:=.type "dict", data:=.dict #[] }) cl (by omega) (fun y c e q=>by
  obtain ⟨v,z⟩:=I3.cell y c (hcl1 y c e)
  exact KD z.lt (by rw [sz2];exact Nat.le_succ _)) (fun y z c q e1 e2=>I3.ok.inj y z c (hcl1 _ _ e1) (hcl1 _ _ e2))
 rw [sz2] at a1 a2 a3 a4 a5
 generalize hcl':cellsFrom (H2.objs.size+1) sc.names cl=cl' at a1 a2 a3 a4 a5 ⊢
 have old3:∀ b o,H2.get? b=some o->(pushCells (H2.push { cls:=.type "dict", data:=.dict #[] }) sc.names).get? b=some o:=fun b o e=>X1 _ _ _ _ (Kg _ e)
 have hns₁:(pushCells (H2.push { cls:=.type "dict", data:=.dict #[] }) sc.names).Ns H2.objs.size (fun _=>none):=(Heap.Ns.new H2 (.type "dict")).keeps (X1 _ _)
 have cK:ClOk X sc cl' H2.objs.size (pushCells (H2.push { cls:=.type "dict", data:=.dict #[] }) sc.names):=by
  have fr:∀ y,sc.names.lookup y=some .free->∃ c,cl'.lookup y=some c/\X.env.cells.lookup y=some c:=fun y e=>by
   obtain ⟨c,q⟩:=hcl2 y (VB e)
   refine ⟨c,?_,hcl1 y c q⟩
   rw [a4 y fun z=>by have:=O.cells _ z rfl;rw [e] at this;cases this]
   exact q
  have ol:∀ y c,cl'.lookup y=some c->X.env.cells.lookup y=some c\/(H2.objs.size<c/\∃ v,(pushCells (H2.push { cls:=.type "dict", data:=.dict #[] }) sc.names).IsCell c v):=fun y c e=>by
   rcases a1 y c e with z|⟨z1,z2⟩
   ·exact .inl (hcl1 y c z)
   ·exact .inr ⟨by omega,none,z2⟩
  refine ⟨ol,fr,fun y e=>?_,fun y z c e1 e2=>?_⟩
  ·obtain ⟨c,q1,q2⟩:=a3 y (VB e)
   exact ⟨c,q1,by omega⟩
  ·by_cases hc:H2.objs.size<=c
   ·exact a5 y z c hc e1 e2
   ·rcases ol y c e1 with q|q
    ·rcases ol z c e2 with r|r
     ·exact I3.ok.inj y z c q r
     ·omega
    ·omega
 generalize pushCells (H2.push { cls:=.type "dict", data:=.dict #[] }) sc.names=h₁ at *
 have old2:∀ b o,s.heap.get? b=some o->H2.get? b=some o:=fun b o e=>hH2 ▸ Kg _ e
 obtain ⟨W,⟨m0,w0⟩,tr⟩:=turn
 have st1:tn 0 h₁:=T.keep _ _ _ st fun b _ o e=>old3 b o (old2 b o e)
 have loop:codeAny (model X.prog X.w) X.A (.compLoop (.ListComp elt [⟨tg,iter,ifs,0⟩] sc pos) 0 (.ref it) (.ref s.heap.objs.size) (compEnvC sc cl' H2.objs.size X.env)) (RR (.ref s.heap.objs.size) H2.objs.size)
   { s with heap:=h₁ }:=by
  refine wF (s:={ s with heap:=H2 }) (s':={ s with heap:=h₁ }) (Qd:=fun ys H'=>∀ D,H' D=none->Qd (.ref D) (upd H' D (.lst ys))) O I3 cK hf3 (fun b hb=>?_) rfl rfl old3 hns₁ T (fun z=>Vt _ (fpl _ z)) st1 ⟨0,old3 _ _ eD⟩ (hg _ _ _ _ _ _) (hq _ _ _ _ _ _) (he _ _ _ _ _ _) W m0 w0 tr ?_
  ·show b<H2.objs.size
   rw [hC]
   rcases Kr.mp hb with hb|hb
   ·rw [hb];exact UX _
   ·exact K5 (fpl b hb)
  intro s1 H1 σ1 ys its J1 hD1 pl1 rv1 hz1 q1
  obtain ⟨m,hn1,_⟩:=J1.loc
  obtain ⟨n1,e1⟩:=pl1
  have I4:=(comp_back I3 hf3 J1).track (D:=s.heap.objs.size) (o:=.lst ys) hD1 fD.2.1 fD.2.2.2.1 fD.2.2.2.2.1 fD.2.2.2.2.2 ⟨hz1,its,n1,rv1,e1⟩
  refine fin _ _ s1 _ m I4 hn1 (by rw [qg (by show H2.objs.size≠s.heap.objs.size;omega)];exact J1.free) (Uv I3.lt) I3.sz (fun z c e h=>?_) (fun p hp h=>?_) (q1 _ hD1)
  ·obtain ⟨v,q⟩:=I3.cell z c e
   have:=q.lt
   rw [h] at this
   exact Vt _ this
  ·have:=Ks (I3.pin p hp).1
   rw [h] at this
   exact Vt _ this
 exact codeAny_compStart_list loop (T.self _ 0 _ _ _ st1 loop)
theorem qb0 (O:CompOk X N' k sc)(hi:PI X tg iter wi)(hg:∀ cl C fp pins s H,PG (qu X N' sc cl C fp pins s H) tg wg)(hq:∀ cl C fp pins s H,PTs (qu X N' sc cl C fp pins s H) ifs tt)(he:∀ cl C fp pins s H,PE (qu X N' sc cl C fp pins s H) elt te)
  (hs:∀ v,foldedSetIterable iter X.env v=pure v:=by intro _;rfl):PE X (.ListComp elt [⟨tg,iter,ifs,0⟩] sc pos) (Ja k wi wg tt te):=by
 intro pins s σ H Q I h
 rw [eval_ListComp]
 obtain ⟨cl,hcl,hcl1,hcl2⟩:=Z9 (sc:=sc) (env:=X.env) (fun y hy hf=>I.ok.has y.1 (O.free y hy hf))
 refine wpAny_comprehension_free (use:=none) rfl hs hcl O.kind O.names ?_
 refine thn (hi pins s σ H _ I h) fun v s1 h1=>thn h1 fun itv s2 h2=>?_
 obtain ⟨it,fp,tn,J,H2,e,I2,T,st2,f2,q⟩:=h2
 subst e
 refine jd (RR:=fun acc C=>compPost (model X.prog X.w) X.A X.xe none (EP X pins σ Q) acc C) (Qd:=Q) O I2 hcl1 hcl2 f2 T st2 hg hq he q ?_
 intro D C s3 H3 m I3 hn3 hC3 hL hsz hcl3 hp3 q3
 exact ⟨m,hn3,fun h' sb=>⟨.ref D,H3,I3.turned (t':=s3.toks) (fun b o hb e=>(sb.2 b hb).trans e) hC3 hL (.inr hsz) hcl3 hp3,rfl,q3⟩⟩
theorem Y5 {j:Nat}{y:Str}{py spos:Pos}(O:CompOk X N' k sc)(hj:X.N[j]?=some y)(hy:X.env.scope.names.lookup y=some .local)(hi:PI X tg iter wi)(hg:∀ cl C fp pins s H,PG (qu X N' sc cl C fp pins s H) tg wg)(hq:∀ cl C fp pins s H,PTs (qu X N' sc cl C fp pins s H) ifs tt)(he:∀ cl C fp pins s H,PE (qu X N' sc cl C fp pins s H) elt te)
  (hsw:swapsWith (.ListComp elt [⟨tg,iter,ifs,0⟩] sc pos) (some (.Name y py)) spos.line X.env=pure true:=by rfl)
  (hs:∀ v,foldedSetIterable iter X.env v=pure v:=by intro _;rfl):PS X (.Assign [.Name y py] (.ListComp elt [⟨tg,iter,ifs,0⟩] sc pos) spos) (tAsg (Ja k wi wg tt te) (YM j)):=by
 intro pins s σ H D I h
 rw [exec_Assign_Name_used _ _ _ _ hsw]
 refine Kf (wpAny_standAt (Kf ?_))
 show wpAny _ X.A (do let _ ← comprehension (.ListComp elt [⟨tg,iter,ifs,0⟩] sc pos) sc X.env _ (newList []) false (eval iter X.env) (some (assign (.Name y py) X.env))) _ _ s
 obtain ⟨cl,hcl,hcl1,hcl2⟩:=Z9 (sc:=sc) (env:=X.env) (fun y hy hf=>I.ok.has y.1 (O.free y hy hf))
 refine Kf (VO (wpAny_comprehension_free (use:=some (assign (.Name y py) X.env)) (Q:=fun _ s'=>SP X pins D .next s') rfl hs hcl O.kind O.names ?_) (fun _ s' hq=>Ko (Ko hq)) fun _ _ e=>e)
 refine thn (hi pins s σ H _ I h) fun v s1 h1=>thn h1 fun itv s2 h2=>?_
 obtain ⟨it,fp,tn,J,H2,e,I2,T,st2,f2,q⟩:=h2
 subst e
 refine jd (RR:=fun acc C=>compPost (model X.prog X.w) X.A X.xe (some (assign (.Name y py) X.env)) (fun _ s'=>SP X pins D .next s') acc C) (Qd:=fun x H1=>YM j x σ H1 D.nx) O I2 hcl1 hcl2 f2 T st2 hg hq he q ?_
 intro B C s3 H3 m I3 hn3 hC3 hL hsz hcl3 hp3 q3
 refine wpAny_assign_Name (j9 I3 O.nd hj (.inl hy) (v:=.ref B) rfl (fun s4 I4 ⟨a,sb,ha⟩=>?_) (.inr hy))
 have hCa:C≠a:=by
  rcases ha with ha|ha
  ·rw [ha];exact hL
  ·exact KP (hcl3 _ _ ha)
 refine ⟨m,hn3.sameBut sb hCa,fun h' sb'=>⟨_,H3,I4.turned (t':=s4.toks) (fun b o hb e=>(sb'.2 b hb).trans e) hC3 hL (.inr hsz) hcl3 hp3,q3⟩⟩
end
noncomputable abbrev K2:=List (Int ⊕ List Int)
noncomputable def k2D (k:Int ⊕ List Int):Ka:=match k with
 | .inl i=>.int i
 | .inr js=>.tuple (js.map .int)
def k2T (ks:K2):Ka:=.tuple (ks.map k2D)
noncomputable def k2H (k:Int ⊕ List Int):Int:=match k with
 | .inl i=>hashInt i
 | .inr js=>reduceHash (Xx (js.map hashInt))
def qcZ (ks:K2):Int:=reduceHash (Xx (ks.map k2H))
abbrev KX:=Int ⊕ K2
def kxD (k:KX):Ka:=match k with
 | .inl i=>.int i
 | .inr ks=>k2T ks
def kxV (k:KX)(b:Kd):V:=match k with
 | .inl i=>.int i
 | .inr _=>.ref b
noncomputable def isIntD:Ka->Bool
 | .int _=>true
 | _=>false
abbrev PkT (p:KX×Addr×V)(q:K2×Addr×Value):Prop:=p.1=.inr q.1/\p.2.1=q.2.1/\RelV p.2.2 q.2.2
abbrev PkI (p:KX×Addr×V)(q:Int×Value):Prop:=p.1=.inl q.1/\RelV p.2.2 q.2
abbrev EnI (e:XU)(q:Int×Value):Prop:=e.hash=hashInt q.1/\(∃ t,e.key=.int q.1 t)/\e.val=q.2
def DctT (a:Kd)(kvs:List (KX×Addr×V))(ep:Nat)(h:KC):Prop :=
 ∃ xs:List (K2×Addr×Value),UP PkT kvs xs/\∃ o es,h.get? a=some o/\o.ExactDict/\o.data=.dict es ep/\es.toList=xs.map (fun x=>(⟨qcZ x.1,.ref x.2.1,x.2.2⟩:XU))/\(xs.map (·.1)).Nodup
def DctI (a:Kd)(kvs:List (KX×Addr×V))(ep:Nat)(h:KC):Prop :=
 ∃ vs:List (Int×Value),UP PkI kvs vs/\∃ o es,h.get? a=some o/\o.ExactDict/\o.data=.dict es ep/\UP EnI es.toList vs/\(vs.map (·.1)).Nodup
def jL (a:Kd)(kvs:List (KX×Addr×V))(ep:Nat)(h:KC):Prop :=
 kvs.length<=sizeLine/\(a==sysModules)=false/\(DctT a kvs ep h\/DctI a kvs ep h)
def DctO (a:Kd)(kvs:List (KX×Addr×V))(ep:Nat):HO:=.ext (jL a kvs ep)
theorem jL.of {P:Kw}{w:KB}{H:Hp}{h:KC}{a:Kd}{kvs:List (KX×Addr×V)}{ep:Nat}(x:q8 P w H h a (DctO a kvs ep)):jL a kvs ep h:=x.1
def dkv (kvs:List (KX×Addr×V))(ds:ao):List (Ka×PyData):=(kvs.map fun p=>kxD p.1).zip ds
theorem qaI {kvs:List (KX×Addr×V)}{xs:List (K2×Addr×Value)}(r:UP PkT kvs xs):Vals (kvs.map fun p=>kxV p.1 p.2.1) (xs.map fun x=>K8 x.2.1)/\Vals (kvs.map (·.2.2)) (xs.map (·.2.2)):=by
 induction r with
 | nil=>exact ⟨.nil,.nil⟩
 | cons h t ih=>exact ⟨.cons (by dsimp only;rw [h.1,h.2.1];rfl) ih.1,.cons h.2.2 ih.2⟩
theorem ym:∀ {kvs:List (KX×Addr×V)} {vs:List (Int×Value)} {es:List XU},UP PkI kvs vs->UP EnI es vs->Vals (kvs.map fun p=>kxV p.1 p.2.1) (es.map (·.key))/\Vals (kvs.map (·.2.2)) (es.map (·.val))
 | _,_,_,.nil,.nil=>⟨.nil,.nil⟩
 | _,_,_,.cons h t,.cons g u=>by
  obtain ⟨i1,i2⟩:=ym t u
  obtain ⟨_,⟨tk,g1⟩,g2⟩:=g
  exact ⟨.cons (by dsimp only;rw [h.1,g1];exact ⟨tk,rfl⟩) i1,.cons (by dsimp only;rw [g2];exact h.2) i2⟩
theorem jL.vals {h:KC}{a:Kd}{kvs:List (KX×Addr×V)}{ep:Nat}(d:jL a kvs ep h):∃ o es,h.get? a=some o/\o.ExactDict/\o.data=.dict es ep/\Vals (kvs.map fun p=>kxV p.1 p.2.1) (es.toList.map (·.key))/\Vals (kvs.map (·.2.2)) (es.toList.map (·.val)):=by
 obtain ⟨_,_,⟨xs,r,o,es,g1,g2,g3,g4,_⟩|⟨vs,r,o,es,g1,g2,g3,g4,_⟩⟩:=d
 ·refine ⟨o,es,g1,g2,g3,?_⟩
  rw [g4,UH,UH]
  exact qaI r
 ·exact ⟨o,es,g1,g2,g3,ym r g4⟩
noncomputable def Zh:List String:=["int", "bool", "tuple", "list", "str"]
def xcB (K:Kb)(C:Kd):Bool :=
 (PySem.W.clsIn K C).isSome&&(Vx K (.ref C) "__getattribute__" == some (some (.builtin "BaseException.__getattribute__")))&&(Vx K (.ref C) "__getattr__" == some none)
 && (Vx K (.ref C) "__class__" == some (some (.builtin "object.__class__")))&&(Uo K C (.type "object")==some true)&&(Uo K C (.type "BaseException")==some true)
 && Zh.all fun T=>Vy K (.ref C) (.type T)==some false
structure XcK (K:Kb)(C:Kd):Prop where
 cls:(PySem.W.clsIn K C).isSome=true
 ga:Vx K (.ref C) "__getattribute__" = some (some (.builtin "BaseException.__getattribute__"))
 gt:Vx K (.ref C) "__getattr__" = some none
 cl:Vx K (.ref C) "__class__" = some (some (.builtin "object.__class__"))
 mo:Uo K C (.type "object")=some true
 mb:Uo K C (.type "BaseException")=some true
 ts:∀ T∈Zh,Vy K (.ref C) (.type T)=some false
theorem qa4 {K:Kb}{C:Kd}(h:xcB K C=true):XcK K C:=by
 unfold xcB at h
 simp only [Kt,beq_iff_eq,Vk] at h
 obtain ⟨⟨⟨⟨⟨⟨h1,h2⟩,h3⟩,h4⟩,h5⟩,h6⟩,h7⟩:=h
 exact ⟨h1,h2,h3,h4,h5,h6,h7⟩
section
variable {prog:Kw}{w:KB}{A:KG}{E:ak}{s:Ke}{K:Kb}{x C:Kd}
def OfC (h:KC)(x C:Kd):Prop:=∃ o,h.get? x=some o/\o.cls=.ref C
theorem OfC.ty {h:KC}{M:Model}(I:OfC h x C):PySem.W.Looks M h (typeOf (.ref x)) (.ref C):=by
 obtain ⟨o,h1,h2⟩:=I
 exact h2 ▸ (PySem.W.Looks.ld h1).andThen .now
open PySem.W in
theorem Jq {M:Model}{nameV:Kc}{Q:Unit->Ke->Prop}(Z:XcK K C)(X:K.In s.heap)(I:OfC s.heap x C)(hq:Q () s) :
  wpAny M A (checkBuiltinCall "BaseException.__getattribute__" ⟨[.ref x,nameV],[]⟩) Q E s:=by
 obtain ⟨hh,g,d,t,os⟩:=s
 have hk:builtinKind "BaseException.__getattribute__" = some .slot:=by decide +kernel
 have hs:splitId "BaseException.__getattribute__" = some ("BaseException", "__getattribute__"):=by decide +kernel
 have L0:=I.ty (M:=M)
 have L1:=looks_mroIn (M:=M) X Z.mb
 have ha:=F.args_bexc_ga (.ref x) nameV
 simp only [checkBuiltinCall,hk,hs]
 refine Kf ?_
 unfold isInstance
 repeat (first|with_reducible refine Looks.at (by assumption) ?_|wp_step)
 exact hq
open PySem.W in
theorem jF {R:aY}(Z:XcK K C)(X:K.In s.heap)(I:OfC s.heap x C)(hq:R (.ok (.ret (.ref C))) s) :
  codeAny (model prog w) A (.call (.builtin "getset_descriptor.__get__") ⟨[.builtin "object.__class__", .ref x,.ref C],[]⟩) R s:=by
 obtain ⟨hh,g,d,t,os⟩:=s
 have hT5:(⟨hh,g,d,t,os⟩:Ke).TypeIs (.builtin "object.__class__") "getset_descriptor" := U3
 have L0:=I.ty (M:=model prog w)
 have L1:Looks (model prog w) hh (isSubtype (.ref C) (.type (".".intercalate ("object.__class__".cutAt '.').dropLast))) true:=by
  rw [F.owner_object_class]
  exact looks_mroIn (M:=model prog w) X Z.mo
 refine Xc Ni.plain F.entry_gs_get (Ni.check _ _ _ _ _ _ _ _ hT5 (F.args_gs_get _ _ _) ?_)
 repeat (any_goals (first|assumption|with_reducible refine Looks.at (by assumption) ?_|wp_step))
 refine ⟨Code.quiet_builtin _ (by decide +kernel),Vd F.entry_object_class ?_⟩
 repeat (any_goals (first|assumption|with_reducible refine Looks.at (by assumption) ?_|wp_step))
open PySem.W in
theorem ZX {tk:Tok}{Q:Fin->Ke->Prop}(Z:XcK K C)(X:K.In s.heap)(I:OfC s.heap x C)(hq:Q (.done (.ret (.ref C))) s) :
  wpAny (model prog w) A (XA.«object.__getattribute__» ⟨[.ref x,.str "__class__" tk],[]⟩) Q E s:=by
 obtain ⟨hh,g,d,t,os⟩:=s
 have hT5:(⟨hh,g,d,t,os⟩:Ke).TypeIs (.builtin "object.__class__") "getset_descriptor" := U3
 have L0:=I.ty (M:=model prog w)
 have L1:=looks_findIn (M:=model prog w) X Z.cl
 have f5:=U3;have f6:=Ni.lookup;have f7:=F.slot_gs_set.lookup
 repeat (any_goals (first|assumption|with_reducible refine Looks.at (by assumption) ?_|wp_step))
 refine jF Z X I ?_
 repeat (any_goals (first|assumption|wp_step))
open PySem.W in
theorem Jp {tk:Tok}{Q:ak}(Z:XcK K C)(X:K.In s.heap)(I:OfC s.heap x C)(hq:Q (.ref C) s) :
  wpAny (model prog w) A (getAttrBy (.ref x) (.str "__class__" tk) false) Q E s:=by
 obtain ⟨hh,g,d,t,os⟩:=s
 have L0:=I.ty (M:=model prog w)
 have L1:=looks_findIn (M:=model prog w) X Z.ga
 have L2:=looks_findIn (M:=model prog w) X Z.gt
 have f3:=F.excAttr_ValueError.ga.bind (.ref x)
 have hx2:(UA "BaseException.__getattribute__" == UA "object.__getattribute__")=false:=by decide +kernel
 have hx1:(onTheHeap (K8 C)&&UA "BaseException.__getattribute__" == UA "object.__getattribute__")=false:=by rw [hx2];exact Bool.and_false _
 repeat (any_goals (first|assumption|with_reducible refine Looks.at (by assumption) ?_|wp_step))
 refine Xc F.excAttr_ValueError.ga.plain F.entry_bexc_ga (Jq Z X I (ZX Z X I ?_))
 repeat (any_goals (first|assumption|wp_step))
open PySem.W in
theorem wJ {Q:Option Kc->Ke->Prop}(Z:XcK K C)(X:K.In s.heap)(I:OfC s.heap x C)(hq:Q (some (.ref C)) { s with toks:=s.toks+1 }) :
  wpAny (model prog w) A (getAttr? (.ref x) "__class__") Q E s:=by
 obtain ⟨hh,g,d,t,os⟩:=s
 unfold getAttr? getAttrBy?
 refine Kf (wpAny_mkText (Kf (wpAny_attempt (Jp (s:=⟨hh,g,d,t+1,os⟩) Z X I ?_))))
 exact Ko hq
end
open PySem.W in
theorem qag {K:Kb}{a C:Kd}(Z:XcK K C):KitX K (.ref a) (.ref C) (fun h=>OfC h a C) where
 ty:=fun _ _ _ I=>I.ty
 it:=fun _ _ X _=>by
  have z:=Z.cls
  unfold clsIn at z
  split at z
  ·rename_i c' d' cd' sl' ho
   intro A' Q' E' s' k q;unfold isType loadHead
   exact Kf (wpAny_loadPart (k _ _ (X _ _ ho)) (Ko q))
  ·cases z
 ne:=fun h tp dd its n sl X htp=>by
  have z:=Z.cls
  refine Xw.mpr fun q=>?_
  have e:C=tp:=Value.ref.inj (beq_iff_eq.mp q)
  subst e;unfold clsIn at z
  split at z
  ·rename_i c' d' cd' sl' ho
   have y:=(X _ _ ho).symm.trans htp
   cases y
  ·cases z
 ca:=fun X I k=>wJ Z X I k
def icB (K:Kb)(C:Kd):Bool :=
 XB K C Str.empty&&Nq K C&&Nr K C&&(Vx K (.ref C) "__setattr__" == some (some (.builtin "object.__setattr__")))
 && (Vx K (.ref C) "__class__" == some (some (.builtin "object.__class__")))&&(Xs K (.builtin "object.__class__") "__get__" == some (some (.builtin "getset_descriptor.__get__")))
 && (XY K (.builtin "object.__class__")==some true)&&(Uo K C (.type "object")==some true)&&Zh.all fun T=>Vy K (.ref C) (.type T)==some false
structure IcK (K:Kb)(C:Kd):Prop where
 cl:Cls K C
 ha:Vx K (.ref C) "__class__" = some (some (.builtin "object.__class__"))
 hn:Xs K (.builtin "object.__class__") "__get__" = some (some (.builtin "getset_descriptor.__get__"))
 tk:XY K (.builtin "object.__class__")=some true
 mo:Uo K C (.type "object")=some true
 ts:∀ T∈Zh,Vy K (.ref C) (.type T)=some false
theorem qad {K:Kb}{C:Kd}(h:icB K C=true):IcK K C:=by
 unfold icB at h
 simp only [Kt,beq_iff_eq,Vk] at h
 obtain ⟨⟨⟨⟨⟨⟨⟨⟨h1,h2⟩,h3⟩,h4⟩,h5⟩,h6⟩,h7⟩,h8⟩,h9⟩:=h
 exact ⟨⟨h1,h2,h3,h4⟩,h5,h6,h7,h8,h9⟩
theorem IcK.ty {K:Kb}{H:Hp}{a C dx:Kd}{fs:List (Str×V)}(Z:IcK K C)(e:H a=some (.ins C dx fs)):TyOf K H (.ref a) (.ref C):=.ins e Z.cl Z.ha Z.hn Z.tk Z.mo
abbrev Av:=Kd->Prop
noncomputable def Qy:HO->Bool
 | .lst _=>true
 | .dK _=>true
 | .dT _=>true
 | .ext _=>true
 | _=>false
def Dm (S:Av)(H:Hp):Prop:=∀ a,S a->∃ o,H a=some o/\Qy o=true
def Off (S:Av)(H H':Hp):Prop:=∀ b o,¬ S b->H b=some o->H' b=some o
def KqL (K:Kb)(a:Kd)(xs:List V):Prop:=∃ (o:Obj) (its:aK) (n:Nat),K.lookup a=some o/\o.cls=.type "list"/\o.dict=none/\o.data=.seq its n/\its.size<=sizeLine/\Vals xs its.toList
def SqLS (K:Kb)(H:Hp)(S:Av)(a:Kd)(xs:List V):Prop:=(Rd H a (.lst xs)/\¬ S a)\/KqL K a xs
def ExcO (K:Kb)(o:Obj)(c:Str):Prop:=∃ C vs,o.cls=.ref C/\o.data=.fields vs/\K6 K mainGlobals c=some (some (.ref C))/\xcB K C=true
noncomputable def excD (c:Str)(d:Ka):Ka:=.dict [(.str c,d),(.int 0,.none)]
noncomputable def objD (c:Str):Ka:=.dict [(.str c,.none),(.int 1,.none)]
mutual
inductive Den (K:Kb)(H:Hp)(S:Av):V->Ka->Prop
 | none:Den K H S .non .none
 | bool (b:Bool):Den K H S (.bl b) (.bool b)
 | int (i:Int):Den K H S (.int i) (.int i)
 | str (x:Str):Den K H S (.str x) (.str x)
 | list {a:Kd} {xs:List V} {ds:ao}:SqLS K H S a xs->DenL K H S xs ds->Den K H S (.ref a) (.list ds)
 | tuple {a:Kd} {xs:List V} {ds:ao}:SqT K H a xs->DenL K H S xs ds->Den K H S (.ref a) (.tuple ds)
 | dict {a:Kd} {kvs:List (KX×Addr×V)} {ep:Nat} {ds:ao}:(H a=some (DctO a kvs ep)/\¬ S a)->DenL K H S (kvs.map fun p=>kxV p.1 p.2.1) (kvs.map fun p=>kxD p.1)->DenL K H S (kvs.map (·.2.2)) ds->Den K H S (.ref a) (.dict (dkv kvs ds))
 | exc0 {a:Kd} {o:Obj} {c:Str}:H a=some (.frz o (.own a))->ExcO K o c->Den K H S (.ref a) (excD c .none)
 | exc1 {a dx:Kd} {o:Obj} {c n:Str} {v:V} {d:Ka}:H a=some (.frz o (.own a))->ExcO K o c->o.dict=some dx->H dx=some (.xd [(n,v)])->Den K H S v d->Den K H S (.ref a) (excD c (.tuple [.str n,d]))
 | ins {a dx C:Kd} {c:Str}:H a=some (.ins C dx [])->(K6 K mainGlobals c=some (some (.ref C))/\icB K C=true)->Den K H S (.ref a) (objD c)
inductive DenL (K:Kb)(H:Hp)(S:Av):List V->List Ka->Prop
 | nil:DenL K H S [] []
 | cons {x:V} {d:Ka} {xs:List V} {ds:ao}:Den K H S x d->DenL K H S xs ds->DenL K H S (x::xs) (d::ds)
end
mutual
def flat:Ka->Bool
 | .none=>true
 | .bool _=>true
 | .int _=>true
 | .str _=>true
 | .list _=>false
 | .tuple ds=>Qg ds
 | .dict _=>false
def Qg:List Ka->Bool
 | []=>true
 | d::ds=>flat d&&Qg ds
end
section
variable {K:Kb}{H H':Hp}{S S':Av}
theorem SqLS.sq {a:Kd}{xs:List V}(h:SqLS K H S a xs):SqL K H a xs:=h.imp (·.1) id
theorem SqLS.new {a:Kd}{xs:List V}(h:H a=some (.lst xs))(n:¬ S a):SqLS K H S a xs:=.inl ⟨.inl h,n⟩
theorem Dm.free {p:Kd}(m:Dm S H)(h:H p=none):¬ S p:=fun q=>by
 obtain ⟨o,e,_⟩:=m p q
 rw [h] at e;cases e
theorem Dm.same (e:Same H H')(m:Dm S H):Dm S H':=fun a q=>by
 obtain ⟨o,h,w⟩:=m a q
 exact ⟨o,e a o h,w⟩
theorem Dm.sub (m:Dm S H)(h:∀ a,S' a->S a):Dm S' H:=fun a q=>m a (h a q)
theorem Dm.tup {a:Kd}{xs:List V}(m:Dm S H)(h:Rd H a (.tup xs)):¬ S a:=fun q=>by
 obtain ⟨o,e,w⟩:=m a q
 rcases h with h|⟨u,h⟩
 ·rw [h] at e;cases e;cases w
 ·rw [h] at e;cases e;cases w
theorem Dm.not {a:Kd}{u:HO}(m:Dm S H)(h:H a=some u)(n:Qy u=false):¬ S a:=fun q=>by
 obtain ⟨o,e,w⟩:=m a q
 rw [h] at e;cases e;rw [n] at w;cases w
theorem Rd.off {a:Kd}{o:HO}(e:Off S H H')(n:¬ S a)(h:Rd H a o):Rd H' a o:=by
 rcases h with h|⟨u,h⟩
 ·exact .inl (e _ _ n h)
 ·exact .inr ⟨u,e _ _ n h⟩
theorem Rd.dom {a:Kd}{o:HO}(h:Rd H a o):H a≠none:=by
 rcases h with h|⟨u,h⟩<;>(rw [h];exact fun z=>nomatch z)
theorem Same.off (e:Same H H'):Off S H H':=fun b o _ h=>e b o h
theorem Same.sqT {a:Kd}{xs:List V}(e:Same H H')(h:SqT K H a xs):SqT K H' a xs:=by
 rcases h with (h|⟨o,h⟩)|h
 ·exact .inl (.inl (e _ _ h))
 ·exact .inl (.inr ⟨o,e _ _ h⟩)
 ·exact .inr h
theorem Same.lay {p:Kd}{o:HO}(hn:H p=none):Same H (L2.upd H p o):=fun b u q=>by rw [qg (zj q hn)];exact q
theorem Same.lay' {H0:Hp}{p:Kd}{o:HO}(e:Same H0 H)(hn:H p=none):Same H0 (L2.upd H p o):=e.trans (Same.lay hn)
theorem Den.off (m:Dm S H)(e:Off S H H'){v:V}{d:Ka}(h:Den K H S v d):Den K H' S v d :=
 Den.rec (motive_1:=fun v d _=>Den K H' S v d) (motive_2:=fun vs ds _=>DenL K H' S vs ds) .none .bool .int .str (fun h _ t=>.list (h.imp (fun q=>⟨q.1.off e q.2,q.2⟩) id) t) (fun h _ t=>.tuple (h.imp (fun q=>q.off e (m.tup q)) id) t)
  (fun h _ _ k t=>.dict ⟨e _ _ h.2 h.1,h.2⟩ k t) (fun h o=>.exc0 (e _ _ (m.not h rfl) h) o) (fun h o x y _ t=>.exc1 (e _ _ (m.not h rfl) h) o x (e _ _ (m.not y rfl) y) t) (fun h o=>.ins (e _ _ (m.not h rfl) h) o) .nil (fun _ _ h t=>.cons h t) h
theorem DenL.byE {K:Kb}{H:Hp}{S:Av}{P:List V->List Ka->Prop}(n:P [] [])(c:∀ {x:V} {d:Ka} {xs:List V} {ds:ao},Den K H S x d->DenL K H S xs ds->P xs ds->P (x::xs) (d::ds)){vs:List V}{ds:ao}(h:DenL K H S vs ds):P vs ds :=
 DenL.rec (motive_1:=fun _ _ _=>True) (motive_2:=fun vs ds _=>P vs ds) trivial (fun _=>trivial) (fun _=>trivial) (fun _=>trivial) (fun _ _ _=>trivial) (fun _ _ _=>trivial) (fun _ _ _ _ _=>trivial) (fun _ _=>trivial) (fun _ _ _ _ _ _=>trivial) (fun _ _=>trivial) n (fun h t _ p=>c h t p) h
theorem DenL.off (m:Dm S H)(e:Off S H H'){vs:List V}{ds:ao}(h:DenL K H S vs ds):DenL K H' S vs ds:=h.byE (P:=fun vs ds=>DenL K H' S vs ds) .nil fun h _ t=>.cons (h.off m e) t
theorem Den.same (e:Same H H'){v:V}{d:Ka}(h:Den K H S v d):Den K H' S v d :=
 Den.rec (motive_1:=fun v d _=>Den K H' S v d) (motive_2:=fun vs ds _=>DenL K H' S vs ds) .none .bool .int .str (fun h _ t=>.list (h.imp (fun q=>⟨q.1.off (S:=S) e.off q.2,q.2⟩) id) t) (fun h _ t=>.tuple (e.sqT h) t)
  (fun h _ _ k t=>.dict ⟨e _ _ h.1,h.2⟩ k t) (fun h o=>.exc0 (e _ _ h) o) (fun h o x y _ t=>.exc1 (e _ _ h) o x (e _ _ y) t) (fun h o=>.ins (e _ _ h) o) .nil (fun _ _ h t=>.cons h t) h
theorem DenL.same (e:Same H H'){vs:List V}{ds:ao}(h:DenL K H S vs ds):DenL K H' S vs ds:=h.byE (P:=fun vs ds=>DenL K H' S vs ds) .nil fun h _ t=>.cons (h.same e) t
theorem Den.sub (e:∀ a,H a≠Vw->S' a->S a){v:V}{d:Ka}(h:Den K H S v d):Den K H S' v d :=
 Den.rec (motive_1:=fun v d _=>Den K H S' v d) (motive_2:=fun vs ds _=>DenL K H S' vs ds) .none .bool .int .str (fun h _ t=>.list (h.imp (fun q=>⟨q.1,fun z=>q.2 (e _ q.1.dom z)⟩) id) t) (fun h _ t=>.tuple h t)
  (fun h _ _ k t=>.dict ⟨h.1,fun z=>h.2 (e _ (by rw [h.1];exact fun y=>nomatch y) z)⟩ k t) (fun h o=>.exc0 h o) (fun h o x y _ t=>.exc1 h o x y t) (fun h o=>.ins h o) .nil (fun _ _ h t=>.cons h t) h
theorem DenL.sub (e:∀ a,H a≠none->S' a->S a){vs:List V}{ds:ao}(h:DenL K H S vs ds):DenL K H S' vs ds:=h.byE (P:=fun vs ds=>DenL K H S' vs ds) .nil fun h _ t=>.cons (h.sub e) t
theorem Den.flat {v:V}{d:Ka}(f:L2.flat d=true)(h:Den K H S v d):Den K H S' v d :=
 Den.rec (motive_1:=fun v d _=>L2.flat d=true->Den K H S' v d) (motive_2:=fun vs ds _=>Qg ds=true->DenL K H S' vs ds) (fun _=>.none) (fun b _=>.bool b) (fun i _=>.int i) (fun x _=>.str x) (fun _ _ _ f=>nomatch f) (fun h _ t f=>.tuple h (t (by rw [L2.flat] at f;exact f)))
  (fun _ _ _ _ _ f=>nomatch f) (fun _ _ f=>nomatch f) (fun _ _ _ _ _ _ f=>nomatch f) (fun _ _ f=>nomatch f) (fun _=>.nil) (fun _ _ h t f=>by rw [Qg,Kt] at f;exact .cons (h f.1) (t f.2)) h f
theorem DenL.flat {vs:List V}{ds:ao}(f:Qg ds=true)(h:DenL K H S vs ds):DenL K H S' vs ds :=
 h.byE (P:=fun vs ds=>Qg ds=true->DenL K H S' vs ds) (fun _=>.nil) (fun h _ t f=>by rw [Qg,Kt] at f;exact .cons (h.flat f.1) (t f.2)) f
theorem DenL.length {vs:List V}{ds:ao}(h:DenL K H S vs ds):vs.length=ds.length:=h.byE (P:=fun vs ds=>vs.length=ds.length) rfl fun _ _ t=>by rw [Kk,Kk,t]
theorem DenL.append {vs ws:List V}{ds es:ao}(h:DenL K H S vs ds)(q:DenL K H S ws es):DenL K H S (vs++ws) (ds++es):=h.byE (P:=fun vs ds=>DenL K H S (vs++ws) (ds++es)) q fun h _ t=>.cons h t
theorem DenL.snoc {vs:List V}{ds:ao}{v:V}{d:Ka}(h:DenL K H S vs ds)(q:Den K H S v d):DenL K H S (vs++[v]) (ds++[d]):=h.append (.cons q .nil)
theorem DenL.get:∀ {vs:List V} {ds:ao} {i:Nat} {d:Ka},DenL K H S vs ds->ds[i]?=some d->∃ v,vs[i]?=some v/\Den K H S v d
 | _,_,_,_,.nil,e=>by simp at e
 | _,_,0,_,.cons h _,e=>by simp at e;subst e;exact ⟨_,rfl,h⟩
 | _,_,i+1,d,.cons _ t,e=>by
  obtain ⟨v,h1,h2⟩:=DenL.get (i:=i) (d:=d) t (by simpa using e)
  exact ⟨v,by simpa using h1,h2⟩
theorem DenL.drop:∀ {vs:List V} {ds:ao} (n:Nat),DenL K H S vs ds->DenL K H S (vs.drop n) (ds.drop n)
 | _,_,0,h=>h
 | _,_,_+1,.nil=>.nil
 | _,_,n+1,.cons _ t=>t.drop n
theorem DenL.take:∀ {vs:List V} {ds:ao} (n:Nat),DenL K H S vs ds->DenL K H S (vs.take n) (ds.take n)
 | _,_,0,_=>.nil
 | _,_,_+1,.nil=>.nil
 | _,_,n+1,.cons h t=>.cons h (t.take n)
theorem DenL.ints:∀ ns:List Int,DenL K H S (ns.map V.int) (ns.map Kj)
 | []=>.nil
 | n::ns=>.cons (.int n) (DenL.ints ns)
theorem Den.int_inv {v:V}{i:Int}(h:Den K H S v (.int i)):v=.int i:=by cases h;rfl
theorem Den.bool_inv {v:V}{b:Bool}(h:Den K H S v (.bool b)):v=.bl b:=by cases h;rfl
theorem Den.list_inv {v:V}{ds:ao}(h:Den K H S v (.list ds)):∃ a xs,v=.ref a/\SqLS K H S a xs/\DenL K H S xs ds:=by
 cases h with
 | list h t=>exact ⟨_,_,rfl,h,t⟩
theorem Den.tuple_inv {v:V}{ds:ao}(h:Den K H S v (.tuple ds)):∃ a xs,v=.ref a/\SqT K H a xs/\DenL K H S xs ds:=by
 cases h with
 | tuple h t=>exact ⟨_,_,rfl,h,t⟩
theorem DenL.inv1 {vs:List V}{d:Ka}(h:DenL K H S vs [d]):∃ v,vs=[v]/\Den K H S v d:=by
 cases h with
 | cons a t=>cases t;exact ⟨_,rfl,a⟩
theorem DenL.inv2 {vs:List V}{d e:Ka}(h:DenL K H S vs [d,e]):∃ v w,vs=[v,w]/\Den K H S v d/\Den K H S w e:=by
 cases h with
 | cons a t=>obtain ⟨w,rfl,b⟩:=t.inv1;exact ⟨_,w,rfl,a,b⟩
end
section
variable {X:Cx}{pins:af}{σ:St}{H:Hp}{s:Ke}{S:Av}
theorem Den.reads (I:Inv X pins σ H s){v:V}{d:Ka}{u:Kc}(h:Den X.K H S v d)(c:d.canLay0=true)(r:RelV v u):∃ as,Reads s.heap u d as :=
 Den.rec (motive_1:=fun v d _=>∀ u,d.canLay0=true->RelV v u->∃ as,Reads s.heap u d as) (motive_2:=fun vs ds _=>∀ us,Ky ds=true->Vals vs us->∃ as,ReadsAll s.heap us ds as)
  (fun u _ r=>by cases (show u=UL from r);exact ⟨_,.none⟩) (fun b u _ r=>by cases (show u=Ub b from r);exact ⟨_,.bool b⟩) (fun i u _ r=>by obtain ⟨t,e⟩:=(show ∃ t,u=UC i t from r);cases e;exact ⟨_,.int i t⟩) (fun x u _ r=>by obtain ⟨t,e⟩:=(show ∃ t,u=U0 x t from r);cases e;exact ⟨_,.str x t⟩)
  (@fun a xs ds h _ t u c0 r=>by
   cases (show u=K8 a from r)
   obtain ⟨its,rv,⟨o,n,e,c,_,d⟩,_⟩:=I.list h.sq
   obtain ⟨as,q⟩:=t its (by rw [Vb] at c0;exact c0) rv
   exact ⟨_,.list e c d (by rw [List.toList_toArray];exact q)⟩)
  (@fun a xs ds h _ t u c0 r=>by
   cases (show u=K8 a from r)
   obtain ⟨its,rv,⟨o,e,c,n,d⟩,_⟩:=I.tuple h
   obtain ⟨as,q⟩:=t its (by rw [Vb] at c0;exact c0) rv
   exact ⟨_,.tuple e c d (by rw [List.toList_toArray];exact q)⟩)
  (fun _ _ _ _ _ _ c0 _=>by rw [Vb] at c0;cases c0) (fun _ _ _ c0 _=>by unfold excD at c0;rw [Vb] at c0;cases c0) (fun _ _ _ _ _ _ _ c0 _=>by unfold excD at c0;rw [Vb] at c0;cases c0) (fun _ _ _ c0 _=>by unfold objD at c0;rw [Vb] at c0;cases c0)
  (fun _ _ r=>by cases r;exact ⟨_,.nil⟩) (fun _ _ h t _ c r=>by
   cases r with
   | cons r rr =>
    rw [Ky,Kt] at c
    obtain ⟨as,q⟩:=h _ c.1 r
    obtain ⟨bs,q'⟩:=t _ c.2 rr
    exact ⟨_,.cons q q'⟩) h u c r
end
section
variable {X:Cx}{pins:af}{σ:St}{H:Hp}{s:Ke}
def rEqD (K:Kb):R2:=fun x y H Q=>∃ S d e,Den K H S x d/\Den K H S y e/\Vn d=true/\Vn e=true/\Q (.bl (Uh d e)) H
def rNeD (K:Kb):R2:=fun x y H Q=>∃ S d e,Den K H S x d/\Den K H S y e/\Vn d=true/\Vn e=true/\Q (.bl (!PyData.eqv d e)) H
theorem qde {k:Nat}(hr:Room k X.A):OpR X (compareOp .Eq) (rEqD X.K):=by
 intro pins s σ H x y v u Q I rx ry h
 obtain ⟨S,d,e,h1,h2,s1,s2,q⟩:=h
 obtain ⟨as,q1⟩:=h1.reads I (Kv s1) rx
 obtain ⟨bs,q2⟩:=h2.reads I (Kv s2) ry
 exact eq_dataH q1 q2 s1 s2 hr.units (yK I q rfl)
theorem qdg {k:Nat}(hr:Room k X.A):OpR X (compareOp .NotEq) (rNeD X.K):=by
 intro pins s σ H x y v u Q I rx ry h
 obtain ⟨S,d,e,h1,h2,s1,s2,q⟩:=h
 obtain ⟨as,q1⟩:=h1.reads I (Kv s1) rx
 obtain ⟨bs,q2⟩:=h2.reads I (Kv s2) ry
 exact ne_dataH q1 q2 s1 s2 hr.units (yK I q rfl)
theorem qbN:OpR X (binaryOp .Mult) (rI Xn fun i j=>.int (i*j)):=opI fun _ _ _ _ _ _ _ hc q=>mul_int q hc
inductive TyD (K:Kb)(H:Hp):V->String->Prop
 | non:TyD K H .non "NoneType"
 | bl (b:Bool):TyD K H (.bl b) "bool"
 | int (i:Int):TyD K H (.int i) "int"
 | str (x:Str):TyD K H (.str x) "str"
 | lst {a:Kd} {xs:List V} (h:SqL K H a xs):TyD K H (.ref a) "list"
 | tup {a:Kd} {xs:List V} (h:SqT K H a xs):TyD K H (.ref a) "tuple"
 | dct {a:Kd} {kvs:List (KX×Addr×V)} {ep:Nat} (h:H a=some (DctO a kvs ep)):TyD K H (.ref a) "dict"
def rIsi (K:Kb):List V->Hp->VK->Prop:=fun vs H Q=>∃ x T t b,vs=[x,.ty T]/\TyD K H x t/\Vy K (.type t) (.type T)=some b/\Q (.bl b) H
theorem WN:Qc X (.builtin "isinstance") (rIsi X.K):=by
 intro pins s σ H xs us Q I r h
 obtain ⟨x,T,t,b,rfl,ty,e,q⟩:=h
 obtain ⟨u,c,rfl,ru,rc⟩:=r.two
 cases (show c=Ua T from rc)
 have fin:∀ tk,EP X pins σ Q (.bool b) { s with toks:=tk }:=fun tk=>⟨.bl b,H,I.tok tk,rfl,q⟩
 cases ty with
 | non=>cases (show u=UL from ru);exact KJ Nt I.kIn Up e (fun z=>nomatch z) fin
 | bl y=>cases (show u=Ub y from ru);exact KJ Nu I.kIn Up e (fun z=>nomatch z) fin
 | int i=>obtain ⟨t,q⟩:=(show ∃ t,u=UC i t from ru);cases q;exact KJ PySem.W.kitx_int I.kIn Up e (fun z=>nomatch z) fin
 | str y=>obtain ⟨t,q⟩:=(show ∃ t,u=U0 y t from ru);cases q;exact KJ PySem.W.kitx_str I.kIn Up e (fun z=>nomatch z) fin
 | @lst a xs ea =>
  cases (show u=K8 a from ru)
  obtain ⟨_,_,⟨o,n,h1,h2,_⟩,_⟩:=I.list ea
  exact KJ Xt I.kIn ⟨o,h1,h2⟩ e (fun z=>nomatch z) fin
 | @tup a xs ea =>
  cases (show u=K8 a from ru)
  obtain ⟨_,_,⟨o,h1,h2,_⟩,_⟩:=I.tuple ea
  exact KJ Nk I.kIn ⟨o,h1,h2⟩ e (fun z=>nomatch z) fin
 | @dct a kvs ep ea =>
  cases (show u=K8 a from ru)
  obtain ⟨o,_,h1,h2,_⟩:=(jL.of (I.hok a _ ea)).vals
  exact KJ Xu I.kIn ⟨o,h1,h2.1⟩ e (fun z=>nomatch z) fin
def ExcH (K:Kb)(H:Hp)(a:Kd)(c:Str):Prop:=∃ o,H a=some (.frz o (.own a))/\ExcO K o c
theorem Inv.excAt {a:Kd}{c:Str}(I:Inv X pins σ H s)(h:ExcH X.K H a c):∃ C,K6 X.K mainGlobals c=some (some (.ref C))/\xcB X.K C=true/\OfC s.heap a C:=by
 obtain ⟨o,ha,C,vs,h1,h2,h3,h4⟩:=h
 exact ⟨C,h3,h4,o,(I.hok a _ ha).1,h1⟩
def qcx (K:Kb):List V->Hp->VK->Prop:=fun vs H Q=>∃ a c T b,vs=[.ref a,.ty T]/\ExcH K H a c/\(∀ C,xcB K C=true->Vy K (.ref C) (.type T)=some b)/\Q (.bl b) H
theorem wC:Qc X (.builtin "isinstance") (qcx X.K):=by
 intro pins s σ H xs us Q I r h
 obtain ⟨a,c,T,b,rfl,hx,e,q⟩:=h
 obtain ⟨u,c',rfl,ru,rc⟩:=r.two
 cases (show c'=Ua T from rc)
 cases (show u=K8 a from ru)
 obtain ⟨C,_,h4,IA⟩:=I.excAt hx
 exact KJ (qag (qa4 h4)) I.kIn IA (e C h4) (fun z=>nomatch z) fun tk=>⟨.bl b,H,I.tok tk,rfl,q⟩
def qcw (K:Kb):List V->Hp->VK->Prop:=fun vs H Q=>∃ a C dx T b,vs=[.ref a,.ty T]/\H a=some (.ins C dx [])/\icB K C=true/\Vy K (.ref C) (.type T)=some b/\Q (.bl b) H
theorem wB:Qc X (.builtin "isinstance") (qcw X.K):=by
 intro pins s σ H xs us Q I r h
 obtain ⟨a,C,dx,T,b,rfl,hx,hc,e,q⟩:=h
 obtain ⟨u,c',rfl,ru,rc⟩:=r.two
 cases (show c'=Ua T from rc)
 exact wN I ru ((qad hc).ty hx) e fun tk=>⟨.bl b,H,I.tok tk,rfl,q⟩
end
noncomputable abbrev Rho:=List (Option Ka)
abbrev aV:=Rho->Option (Option Int)
abbrev aB:=List Ka->Rho->Option Rho
abbrev ah:=Rho->Option Bool
abbrev ag:=Ka->Rho->Option Rho
abbrev ae:=Rho->Option (List Ka)
abbrev aa:=Rho->Option Ka
def DenS (K:Kb)(H:Hp)(S:Av)(M:au)(σ:St)(ρ:Rho):Prop:=Dm S H/\σ.length=ρ.length/\∀ (i:Nat) (d:Ka),i∉M->ρ[i]?=some (some d)->∃ v,σ[i]?=some (some v)/\Den K H S v d
section
variable {K:Kb}{H H':Hp}{S:Av}{M:au}{σ:St}{ρ:Rho}{v:V}{d:Ka}
theorem DenS.same (e:Same H H')(h:DenS K H S M σ ρ):DenS K H' S M σ ρ:=⟨h.1.same e,h.2.1,fun i d n q=>let ⟨v,a,b⟩:=h.2.2 i d n q;⟨v,a,b.same e⟩⟩
theorem DenS.set (h:DenS K H S M σ ρ)(q:Den K H S v d)(i:Nat):DenS K H S M (σ.set i (some v)) (ρ.set i (some d)):=by
 refine ⟨h.1,by rw [Vp,Vp];exact h.2.1,fun j e n he=>?_⟩
 by_cases hj:i=j
 ·subst hj
  by_cases hi:i<ρ.length
  ·rw [KY hi] at he
   cases he
   exact ⟨v,KY (by rw [h.2.1];exact hi),q⟩
  ·rw [List.set_eq_of_length_le (by omega)] at he
   exact absurd (KQ.mp he).1 hi
 ·rw [Ud hj] at he
  obtain ⟨w,a,b⟩:=h.2.2 j e n he
  exact ⟨w,by rw [Ud hj];exact a,b⟩
theorem DenS.start {vs:List V}{ds:ao}(m:Dm S H)(h:DenL K H S vs ds)(N:az):DenS K H S [] (start N vs) (ds.map some++Kn (N.length-ds.length) none):=by
 have hl:=h.length
 refine ⟨m,?_,fun j e _ he=>?_⟩
 ·unfold L2.start
  rw [Kq,Kq,Kh,Kh,Vh,Vh,hl]
 ·by_cases hj:j<ds.length
  ·rw [K7 (by simpa using hj),VG] at he
   cases e1:ds[j]? with
   | none=>rw [e1] at he;cases he
   | some d =>
    rw [e1] at he
    cases he
    obtain ⟨v,a,b⟩:=h.get e1
    refine ⟨v,?_,b⟩
    unfold L2.start
    rw [K7 (by rw [Kh];omega),VG,a]
    rfl
  ·rw [VJ (by simpa using hj),VR] at he
   split at he<;>cases he
end
def tD (K:Kb)(M:au)(f:aa):TE:=fun σ H Q=>∃ S ρ d,DenS K H S M σ ρ/\f ρ=some d/\∀ v H',Same H H'->Den K H' S v d->Q v H'
def tDA (K:Kb)(M:au)(f:ae):TA:=fun σ H Q=>∃ S ρ ds,DenS K H S M σ ρ/\f ρ=some ds/\∀ vs H',Same H H'->DenL K H' S vs ds->Q vs H'
def tDT (K:Kb)(M:au)(f:ah):TT:=fun σ H Q=>∃ S ρ b,DenS K H S M σ ρ/\f ρ=some b/\∀ H',Same H H'->Q b H'
inductive Out where
 | nx (ρ:Rho)|rt (d:Ka)|bk (ρ:Rho)|ct (ρ:Rho)
abbrev aq:=Rho->Option Out
def PD (X:Cx)(M:au)(e:Kp)(f:aa):Prop:=PE X e (tD X.K M f)
def PDA (X:Cx)(M:au)(es:aG)(f:ae):Prop:=PA X es (tDA X.K M f)
def PDT (X:Cx)(M:au)(e:Kp)(f:ah):Prop:=PT X e (tDT X.K M f)
theorem PE.weak {X:Cx}{e:Kp}{t t':TE}(h:PE X e t)(w:∀ σ H Q,t' σ H Q->t σ H Q):PE X e t':=fun pins s σ H Q I q=>h pins s σ H Q I (w σ H Q q)
theorem PT.weak {X:Cx}{e:Kp}{t t':TT}(h:PT X e t)(w:∀ σ H Q,t' σ H Q->t σ H Q):PT X e t':=fun pins s σ H Q I q=>h pins s σ H Q I (w σ H Q q)
theorem PW.weak {X:Cx}{e:Kp}{t t':TT}(h:PW X e t)(w:∀ σ H Q,t' σ H Q->t σ H Q):PW X e t':=fun wh pins s σ H Q I q=>h wh pins s σ H Q I (w σ H Q q)
theorem PA.weak {X:Cx}{e:aG}{t t':TA}(h:PA X e t)(w:∀ σ H Q,t' σ H Q->t σ H Q):PA X e t':=fun pos pins s σ H Q I q=>h pos pins s σ H Q I (w σ H Q q)
theorem PS.weak {X:Cx}{e:Va}{t t':TS}(h:PS X e t)(w:∀ D σ H,t' D σ H->t D σ H):PS X e t':=fun pins s σ H D I q=>h pins s σ H D I (w D σ H q)
theorem PSs.weak {X:Cx}{e:bc}{t t':TS}(h:PSs X e t)(w:∀ D σ H,t' D σ H->t D σ H):PSs X e t':=fun pins s σ H D I q=>h pins s σ H D I (w D σ H q)
noncomputable def ob {α β:Type}(a:Option α)(f:α->Option β):Option β:=match a with | some x=>f x|none=>none
theorem qd {α β:Type}{a:Option α}{f:α->Option β}{y:β}(h:ob a f=some y):∃ x,a=some x/\f x=some y:=by
 cases a with
 | none=>cases h
 | some x=>exact ⟨x,rfl,h⟩
noncomputable def visB (sc:K1)(x:Str):Bool:=decide (sc.names.lookup x=some .local)||decide (sc.names.lookup x=some .cell)||decide (sc.names.lookup x=some .free)
noncomputable def locB (sc:K1)(x:Str):Bool:=decide (sc.names.lookup x=some .local)||decide (sc.names.lookup x=some .cell)
noncomputable def glB (sc:K1)(x:Str):Bool:=decide (sc.names.lookup x=some .globalImplicit)
theorem qa3 {sc:K1}{x:Str}(h:visB sc x=true):Vis sc x:=by
 unfold visB at h
 simp only [Xd,decide_eq_true_eq] at h
 rcases h with (h|h)|h
 ·exact .inl h
 ·exact .inr (.inl h)
 ·exact .inr (.inr h)
theorem qaj {sc:K1}{x:Str}(h:locB sc x=true):Loc sc x:=by
 unfold locB at h
 simp only [Xd,decide_eq_true_eq] at h
 exact h
theorem gl_fn {X:Cx}{x:Str}(sc:K1)(hs:X.env.scope=sc)(h:glB sc x=true):Gl X x:=by
 subst hs
 have h':X.env.scope.names.lookup x=some .globalImplicit:=of_decide_eq_true h
 exact h'
theorem Qt {env:Env}:∀ {names:List (Str×NameKind)} {x:Str} {k:XC},names.lookup x=some k->
  (names.map fun (n,k)=>if (k==KL&&env.scope.kind==.function&&env.kindOf n==some .cell) then (n,Vc) else (n,k)).lookup x=some k\/
  (k=.free/\(names.map fun (n,k)=>if (k==KL&&env.scope.kind==.function&&env.kindOf n==some .cell) then (n,Vc) else (n,k)).lookup x=some .cell):=by
 intro names x k
 induction names with
 | nil=>intro h;cases h
 | cons q r ih =>
  intro h
  obtain ⟨n,k'⟩:=q
  show Xp x ((if (k'==KL&&env.scope.kind==.function&&env.kindOf n==some .cell)=true then (n,Vc) else (n,k'))::_)=_\/(_/\Xp x ((if (k'==KL&&env.scope.kind==.function&&env.kindOf n==some .cell)=true then (n,Vc) else (n,k'))::_)=_)
  cases hx:x==n with
  | true =>
   simp only [KM,hx] at h
   have hk:k'=k:=K3 h
   subst hk
   by_cases hc:(k'==KL&&env.scope.kind==.function&&env.kindOf n==some .cell)=true
   ·rw [if_pos hc]
    rw [Kt,Kt] at hc
    exact .inr ⟨by simpa using hc.1.1,by simp [KM,hx]⟩
   ·rw [if_neg hc]
    exact .inl (by simp [KM,hx])
  | false =>
   simp only [KM,hx] at h
   by_cases hc:(k'==KL&&env.scope.kind==.function&&env.kindOf n==some .cell)=true
   ·rw [if_pos hc]
    simp only [KM,hx]
    exact ih h
   ·rw [if_neg hc]
    simp only [KM,hx]
    exact ih h
section
variable {X:Cx}{x:Str}{N':az}{sc:K1}{cl:aE}{C:Kd}{fp:ay}{pins:af}{s:Ke}{H:Hp}
theorem qz (h:visB sc x=true):Vis (qu X N' sc cl C fp pins s H).env.scope x:=by
 rcases qa3 h with h|h|h
 ·rcases Qt (env:=X.env) h with q|q
  ·exact .inl q
  ·cases q.1
 ·rcases Qt (env:=X.env) h with q|q
  ·exact .inr (.inl q)
  ·cases q.1
 ·rcases Qt (env:=X.env) h with q|q
  ·exact .inr (.inr q)
  ·exact .inr (.inl q.2)
theorem Z2 (h:glB sc x=true):Gl (qu X N' sc cl C fp pins s H) x:=by
 rcases Qt (env:=X.env) (of_decide_eq_true h) with q|q
 ·exact q
 ·cases q.1
end
def vr (i:Nat):Rho->Option Ka:=fun ρ=>(ρ[i]?).join
def kd (d:Ka):Rho->Option Ka:=fun _=>some d
def ev1 (fa:aa)(g:Ka->Option Ka):Rho->Option Ka:=fun ρ=>ob (fa ρ) g
def aN:Rho->Option (List Ka):=fun _=>some []
def aC (fa:aa)(fs:ae):Rho->Option (List Ka):=fun ρ=>ob (fa ρ) fun x=>ob (fs ρ) fun xs=>some (x::xs)
def evA (fs:ae)(h:av):Rho->Option Ka:=fun ρ=>ob (fs ρ) h
def evC (n:Nat)(fs:ae)(h:av):Rho->Option Ka:=fun ρ=>ob (fs ρ) fun ds=>if ds.length=n then h ds else none
def evC0 (h:av):Rho->Option Ka:=fun _=>h []
section
variable {X:Cx}{M:au}{a b c:Kp}{es:aG}{f g fa fb:aa}{pos:Pos}
theorem qJ (i:Nat){x:Str}(hv:Vis X.env.scope x)(hM:i∉M)(hN:X.N[i]?=some x:=by rfl)(hd:(x==("__debug__" : Str))=false:=by decide +kernel)
  (hcd:(x==("__classdict__" : Str))=false:=by decide +kernel):PD X M (.Name x pos) (vr i) :=
 (qaF hN hv hd hcd).weak fun σ H Q ⟨S,ρ,d,hs,e,q⟩=>by
  have e:(ρ[i]?).join=some d:=e
  have e':ρ[i]?=some (some d):=by
   cases h:ρ[i]? with
   | none=>rw [h] at e;cases e
   | some o=>rw [h] at e;exact congrArg some e
  obtain ⟨v,h1,h2⟩:=hs.2.2 i d hM e'
  exact ⟨v,h1,q v H (Same.refl H) h2⟩
theorem qt {i j p}:PD X M (.Constant (.int i) j p) (kd (.int i)):=qdr.weak fun σ H Q ⟨S,_,d,_,e,q⟩=>by cases e;exact q _ H (Same.refl H) (.int i)
theorem qaq {i j p}:PD X M (.Constant (.bool i) j p) (kd (.bool i)):=pe_bl.weak fun σ H Q ⟨S,_,d,_,e,q⟩=>by cases e;exact q _ H (Same.refl H) (.bool i)
def rD2 (K:Kb)(g:aD):R2:=fun x y H Q=>∃ S dx dy d,Dm S H/\Den K H S x dx/\Den K H S y dy/\g dx dy=some d/\∀ v H',Same H H'->Den K H' S v d->Q v H'
def OpD (X:Cx)(f:aI)(g:aD):Prop:=OpR X f (rD2 X.K g)
def UnD (X:Cx)(f:Kc->Sem Kc)(g:Ka->Option Ka):Prop:=UnR X f (fun x H Q=>∃ S dx d,Dm S H/\Den X.K H S x dx/\g dx=some d/\∀ v H',Same H H'->Den X.K H' S v d->Q v H')
def CallD (X:Cx)(f:Kc)(g:av):Prop:=Qc X f (fun vs H Q=>∃ S ds d,Dm S H/\DenL X.K H S vs ds/\g ds=some d/\∀ v H',Same H H'->Den X.K H' S v d->Q v H')
def ev2 (fa fb:aa)(g:aD)(ρ:Rho):Option Ka:=ob (fa ρ) fun x=>ob (fb ρ) fun y=>g x y
theorem tD2 {K:Kb}{g:aD}:∀ σ H Q,tD K M (ev2 fa fb g) σ H Q->tOp (rD2 K g) (tD K M fa) (tD K M fb) σ H Q:=by
 intro σ H Q ⟨S,ρ,d,hs,e,q⟩
 obtain ⟨x,e1,e⟩:=qd e
 obtain ⟨y,e2,e⟩:=qd e
 exact ⟨S,ρ,x,hs,e1,fun v H1 g1 d1=>⟨S,ρ,y,hs.same g1,e2,fun w H2 g2 d2=>⟨S,x,y,d,hs.1.same (g1.trans g2),d1.same g2,d2,e,fun z H3 g3 d3=>q z H3 (g1.trans (g2.trans g3)) d3⟩⟩⟩
theorem qI {op:Operator}{g:aD}(ho:OpD X (binaryOp op) g)(ha:PD X M a fa)(hb:PD X M b fb):PD X M (.BinOp a op b pos) (ev2 fa fb g):=(qaC ho ha hb).weak tD2
theorem qdm {op:CmpOp}{g:aD}(ho:OpD X (compareOp op) g)(ha:PD X M a fa)(hb:PD X M b fb)(hm:behindInMarks op b=false):PD X M (.Compare a [op] [b] pos) (ev2 fa fb g):=(qbZ ho ha hb hm).weak tD2
theorem pd_un {op:UnaryOp}{g:Ka->Option Ka}(ho:UnD X (unaryOp op) g)(ha:PD X M a fa):PD X M (.UnaryOp op a pos) (ev1 fa g) :=
 (pe_un ho ha).weak fun σ H Q ⟨S,ρ,d,hs,e,q⟩=>by
  obtain ⟨x,e1,e⟩:=qd e
  exact ⟨S,ρ,x,hs,e1,fun v H1 g1 d1=>⟨S,x,d,hs.1.same g1,d1,e,fun z H3 g3 d3=>q z H3 (g1.trans g3) d3⟩⟩
def ixD:Ka->Ka->Option Ka
 | .tuple ds,.int i=>atI ds i
 | .list ds,.int i=>atI ds i
 | _,_=>none
theorem DenL.atI {K:Kb}{H:Hp}{S:Av}{vs:List V}{ds:ao}{i:Int}{d:Ka}(h:DenL K H S vs ds)(e:atI ds i=some d):∃ v,L2.atI vs i=some v/\Den K H S v d:=by
 unfold L2.atI at e ⊢
 rw [h.length]
 cases q:ixN ds.length i with
 | none=>rw [q] at e;cases e
 | some j=>rw [q] at e;exact h.get e
theorem zb (ha:PD X M a fa)(hb:PD X M b fb)(hs:Je b:=by intro _ _;rfl):PD X M (.Subscript a b pos) (ev2 fa fb ixD) :=
 (qcu (r:=fun x y H Q=>rIxL X.K x y H Q\/rIxT X.K x y H Q) (YS.or qae) ha hb hs).weak fun σ H Q ⟨S,ρ,d,hs,e,q⟩=>by
  obtain ⟨x,e1,e⟩:=qd e
  obtain ⟨y,e2,e⟩:=qd e
  refine ⟨S,ρ,x,hs,e1,fun v H1 g1 d1=>⟨S,ρ,y,hs.same g1,e2,fun w H2 g2 d2=>?_⟩⟩
  have d1':=d1.same g2
  cases d1' with
  | list h t =>
   cases d2 with
   | int i=>obtain ⟨z,z1,z2⟩:=t.atI e;exact .inl ⟨_,_,_,_,rfl,rfl,h.sq,z1,q z H2 (g1.trans g2) z2⟩
   | _=>cases e
  | tuple h t =>
   cases d2 with
   | int i=>obtain ⟨z,z1,z2⟩:=t.atI e;exact .inr ⟨_,_,_,_,rfl,rfl,h,z1,q z H2 (g1.trans g2) z2⟩
   | _=>cases e
  | _=>cases e
theorem QV:PDA X M [] aN:=qap.weak fun σ H Q ⟨S,_,d,_,e,q⟩=>by cases e;exact q [] H (Same.refl H) .nil
theorem QK {fs:ae}(ha:PD X M a fa)(hr:PDA X M es fs)(hs:starEach (a::es) X.env=(false,eval a X.env)::starEach es X.env:=by rfl):PDA X M (a::es) (aC fa fs) :=
 (Jw ha hr hs).weak fun σ H Q ⟨S,ρ,d,hs,e,q⟩=>by
  obtain ⟨x,e1,e⟩:=qd e
  obtain ⟨xs,e2,e⟩:=qd e
  cases e
  exact ⟨S,ρ,x,hs,e1,fun v H1 g1 d1=>⟨S,ρ,xs,hs.same g1,e2,fun vs H2 g2 d2=>q _ H2 (g1.trans g2) (.cons (d1.same g2) d2)⟩⟩
def tupD (ds:ao):Option Ka:=if ds.length<=1000 then some (.tuple ds) else none
def lstD (ds:ao):Option Ka:=if ds.length<=1000 then some (.list ds) else none
theorem Wv {ds:ao}{d:Ka}(h:tupD ds=some d):ds.length<=1000/\d=.tuple ds:=by
 unfold tupD at h
 split at h
 ·rename_i q;cases h;exact ⟨q,rfl⟩
 ·cases h
theorem j5 {ds:ao}{d:Ka}(h:lstD ds=some d):ds.length<=1000/\d=.list ds:=by
 unfold lstD at h
 split at h
 ·rename_i q;cases h;exact ⟨q,rfl⟩
 ·cases h
theorem Q9 {fs:ae}{x1}(h:PDA X M es fs):PD X M (.Tuple es x1 pos) (evA fs tupD) :=
 (qdu h).weak fun σ H Q ⟨S,ρ,d,hs,e,q⟩=>by
  obtain ⟨xs,e1,e⟩:=qd e
  obtain ⟨hz,rfl⟩:=Wv e
  refine ⟨S,ρ,xs,hs,e1,fun vs H1 g1 d1=>⟨Vu (qZ (by rw [d1.length];exact hz)),fun p hp=>?_⟩⟩
  exact q _ _ (g1.lay' hp) (.tuple (SqT.of qF) (d1.same (Same.lay hp)))
theorem qau {fs:ae}(h:PDA X M es fs):PD X M (.List es pos) (evA fs lstD) :=
 (qaB h).weak fun σ H Q ⟨S,ρ,d,hs,e,q⟩=>by
  obtain ⟨xs,e1,e⟩:=qd e
  obtain ⟨hz,rfl⟩:=j5 e
  refine ⟨S,ρ,xs,hs,e1,fun vs H1 g1 d1=>⟨Vu (qZ (by rw [d1.length];exact hz)),fun p hp=>?_⟩⟩
  exact q _ _ (g1.lay' hp) (.list (SqLS.new qF ((hs.1.same g1).free hp)) (d1.same (Same.lay hp)))
def spF (K:Kb)(n:Nat)(f:av):Sp:=fun vs H Q _=>∃ S ds d,Dm S H/\DenL K H S vs ds/\ds.length=n/\f ds=some d/\∀ v H',Same H H'->Den K H' S v d->Q v H'
theorem qbP {CX:CXT}{k n:Nat}{fn:Kd}{fd:Vs}{ps:az}{h:av}{E:XK}{x:Str}{p:Pos}{fs:ae}(F:FnOk X.prog X.w X.K X.mg X.base CX k fn fd ps (spF X.K n h))(hr:Room k X.A)(hg:Gl X x)(hm:X.mg x=some (.ref fn))(hk:VW X.K (.ref fn)=true)
  (hb:Binds X.K fd ps []) (hx:Jd CX X E) (ha:PDA X M (a::es) fs) (hl:(a::es).length=n) (hdb:(x==("__debug__" : Str))=false:=by decide +kernel) (he:starEach (a::es) X.env=(false,eval a X.env)::starEach es X.env:=by rfl) (hpl:(backTo pos (starEach es X.env)).any (·.1)=false:=by rfl) :
  PD X M (.Call (.Name x p) (a::es) [] pos) (evC n fs h) :=
 (qbY F hr hg hm hk hb .nil hx ha hdb he hpl).weak fun σ H Q ⟨S,ρ,d,hs,e,q⟩=>by
  obtain ⟨ds,e1,e⟩:=qd e
  have e:(if ds.length=n then h ds else none)=some d:=e
  split at e
  ·rename_i hn
   exact ⟨S,ρ,ds,hs,e1,fun vs H1 g1 d1=>⟨S,ds,d,hs.1.same g1,by rw [VD];exact d1,hn,e,fun v H' g2 d2=>q v H' (g1.trans g2) d2⟩⟩
  ·cases e
theorem zG {id:String}{x:Str}{p:Pos}{h:av}{fs:ae}(hc:CallD X (.builtin id) h)(hg:Gl X x)(hm:X.mg x=none)(hv:bootBuiltins x=some (.builtin id))(ha:PDA X M (a::es) fs)(hn:x ≠ "__name__" := by decide +kernel)(hdb:(x==("__debug__" : Str))=false:=by decide +kernel)
  (he:starEach (a::es) X.env=(false,eval a X.env)::starEach es X.env:=by rfl) (hpl:(backTo pos (starEach es X.env)).any (·.1)=false:=by rfl):PD X M (.Call (.Name x p) (a::es) [] pos) (evA fs h) :=
 (yl hc hg hm hv ha hn hdb he hpl).weak fun σ H Q ⟨S,ρ,d,hs,e,q⟩=>by
  obtain ⟨ds,e1,e⟩:=qd e
  exact ⟨S,ρ,ds,hs,e1,fun vs H1 g1 d1=>⟨S,ds,d,hs.1.same g1,d1,e,fun v H' g2 d2=>q v H' (g1.trans g2) d2⟩⟩
theorem j6 {T:String}{x:Str}{p:Pos}{h:av}{fs:ae}(hc:CallD X (.type T) h)(hg:Gl X x)(hm:X.mg x=none)(hv:bootBuiltins x=some (.type T))(ha:PDA X M (a::es) fs)(hn:x ≠ "__name__" := by decide +kernel)(hdb:(x==("__debug__" : Str))=false:=by decide +kernel)
  (he:starEach (a::es) X.env=(false,eval a X.env)::starEach es X.env:=by rfl) (hpl:(backTo pos (starEach es X.env)).any (·.1)=false:=by rfl):PD X M (.Call (.Name x p) (a::es) [] pos) (evA fs h) :=
 (We hc hg hm hv ha hn hdb he hpl).weak fun σ H Q ⟨S,ρ,d,hs,e,q⟩=>by
  obtain ⟨ds,e1,e⟩:=qd e
  exact ⟨S,ρ,ds,hs,e1,fun vs H1 g1 d1=>⟨S,ds,d,hs.1.same g1,d1,e,fun v H' g2 d2=>q v H' (g1.trans g2) d2⟩⟩
noncomputable def tyS:Ka->String
 | .none => "NoneType" | .bool _ => "bool" | .int _ => "int" | .str _ => "str" | .list _ => "list" | .tuple _ => "tuple" | .dict _ => "dict"
noncomputable def isiT (T:String):Ka->Bool
 | .none=>T == "NoneType" || T == "object"
 | .bool _=>T == "bool" || T == "int" || T == "object"
 | .int _=>T == "int" || T == "object"
 | .str _=>T == "str" || T == "object"
 | .list _=>T == "list" || T == "object"
 | .tuple _=>T == "tuple" || T == "object"
 | .dict _=>T == "dict" || T == "object"
def isiD (T:String)(d:Ka):Option Ka:=some (.bool (isiT T d))
def Wy (K:Kb)(T:String):Prop:=∀ d:Ka,Vy K (.type (tyS d)) (.type T)=some (isiT T d)
theorem qbz (K:Kb):Wy K "int" := fun d=>by cases d<;>rfl
theorem qaf (K:Kb):Wy K "bool" := fun d=>by cases d<;>rfl
theorem YJ {K:Kb}{T:String}{C:Kd}{c:Str}{d:Ka}(hT:T∈Zh)(h:xcB K C=true):Vy K (.ref C) (.type T)=some (isiT T (excD c d)):=by
 rw [(qa4 h).ts T hT]
 have:(T == "dict" || T == "object")=false:=by
  simp only [Zh,Kr,UY,or_false] at hT
  rcases hT with rfl|rfl|rfl|rfl|rfl<;>decide +kernel
 exact congrArg some this.symm
theorem qby {K:Kb}{T:String}{C:Kd}{c:Str}(hT:T∈Zh)(h:icB K C=true):Vy K (.ref C) (.type T)=some (isiT T (objD c)):=by
 rw [(qad h).ts T hT]
 have:(T == "dict" || T == "object")=false:=by
  simp only [Zh,Kr,UY,or_false] at hT
  rcases hT with rfl|rfl|rfl|rfl|rfl<;>decide +kernel
 exact congrArg some this.symm
theorem qat {T:String}{p p2:Pos}(kit:Wy X.K T)(hg:Gl X "isinstance")(hm:X.mg "isinstance" = none)(hgT:Gl X (KU T))(hmT:X.mg (KU T)=none)(hvT:bootBuiltins (KU T)=some (.type T))(hv:bootBuiltins "isinstance" = some (.builtin "isinstance"))(ha:PD X M a fa)(hnT:KU T ≠ "__name__" := by decide +kernel)(hdT:(KU T==("__debug__" : Str))=false:=by decide +kernel)(hT:T∈Zh:=by decide +kernel)
  (he:starEach [a,.Name (KU T) p2] X.env=(false,eval a X.env)::starEach [.Name (KU T) p2] X.env:=by rfl) (hpl:(backTo pos (starEach [.Name (KU T) p2] X.env)).any (·.1)=false:=by rfl)
  (hs2:starEach [.Name (KU T) p2] X.env=(false,eval (.Name (KU T) p2) X.env)::starEach [] X.env:=by rfl) :
  PD X M (.Call (.Name "isinstance" p) [a,.Name (KU T) p2] [] pos) (ev1 fa (isiD T)) :=
 (yl (WN.or (wC.or wB)) hg hm hv (Jw ha (Jw (qbX (v:=.ty T) hgT hmT hvT rfl hnT hdT) qap hs2) he) (by decide +kernel) (by decide +kernel) he hpl).weak fun σ H Q ⟨S,ρ,d,hs,e,q⟩=>by
  obtain ⟨x,e1,e⟩:=qd e
  cases e
  refine ⟨S,ρ,x,hs,e1,fun v H1 g1 d1=>?_⟩
  have fin:=q (.bl (isiT T x)) H1 g1 (.bool _)
  have k:=kit x
  show rIsi X.K [v,.ty T] H1 Q\/qcx X.K [v,.ty T] H1 Q\/qcw X.K [v,.ty T] H1 Q
  cases d1 with
  | none=>exact .inl ⟨_,_,_,_,rfl,.non,k,fin⟩
  | bool y=>exact .inl ⟨_,_,_,_,rfl,.bl y,k,fin⟩
  | int y=>exact .inl ⟨_,_,_,_,rfl,.int y,k,fin⟩
  | str y=>exact .inl ⟨_,_,_,_,rfl,.str y,k,fin⟩
  | list h t=>exact .inl ⟨_,_,_,_,rfl,.lst h.sq,k,fin⟩
  | tuple h t=>exact .inl ⟨_,_,_,_,rfl,.tup h,k,fin⟩
  | dict h k2 t=>exact .inl ⟨_,_,_,_,rfl,.dct h.1,k,fin⟩
  | exc0 h o=>exact .inr (.inl ⟨_,_,_,_,rfl,⟨_,h,o⟩,fun C z=>YJ hT z,fin⟩)
  | exc1 h o x y t=>exact .inr (.inl ⟨_,_,_,_,rfl,⟨_,h,o⟩,fun C z=>YJ hT z,fin⟩)
  | ins h o=>exact .inr (.inr ⟨_,_,_,_,_,rfl,h,o.2,qby hT o.2,fin⟩)
theorem Q8 {f:aI}{g:aD}{r:R2}(h:OpR X f r)(w:∀ x y dx dy d H S (Q:VK),Dm S H->Den X.K H S x dx->Den X.K H S y dy->g dx dy=some d->(∀ v H',Same H H'->Den X.K H' S v d->Q v H')->r x y H Q):OpD X f g :=
 fun pins s σ H x y v u Q I rx ry ⟨S,dx,dy,d,m,h1,h2,e,q⟩=>h pins s σ H x y v u Q I rx ry (w x y dx dy d H S Q m h1 h2 e q)
noncomputable def iiD (h:Int->Int->Option Ka):Ka->Ka->Option Ka
 | .int i,.int j=>h i j
 | _,_=>none
theorem Zk {h:Int->Int->Option Ka}{x y d:Ka}(e:iiD h x y=some d):∃ i j,x=.int i/\y=.int j/\h i j=some d:=by
 cases x<;>cases y<;>first|exact ⟨_,_,rfl,rfl,e⟩|cases e
theorem qbJ {f:aI}{gi:aP}(h:OpR X f (rI0 fun i j=>.int (gi i j))):OpD X f (iiD fun i j=>some (.int (gi i j))) :=
 Q8 h fun x y dx dy d H S Q m h1 h2 e q=>by
  obtain ⟨i,j,rfl,rfl,e⟩:=Zk e
  cases h1;cases h2;cases e
  exact ⟨i,j,rfl,rfl,q _ H (Same.refl H) (.int _)⟩
theorem Zq {f:aI}{C:Int->Int->Prop}[∀ i j,Decidable (C i j)]{gi:aP}(h:OpR X f (rI C fun i j=>.int (gi i j))):OpD X f (iiD fun i j=>if C i j then some (.int (gi i j)) else none) :=
 Q8 h fun x y dx dy d H S Q m h1 h2 e q=>by
  obtain ⟨i,j,rfl,rfl,e'⟩:=Zk e
  split at e'
  ·rename_i c
   cases h1;cases h2;cases e'
   exact ⟨i,j,rfl,rfl,c,q _ H (Same.refl H) (.int _)⟩
  ·cases e'
theorem yg {f:aI}{gi:Int->Int->Bool}(h:OpR X f (rI0 fun i j=>.bl (gi i j))):OpD X f (iiD fun i j=>some (.bool (gi i j))) :=
 Q8 h fun x y dx dy d H S Q m h1 h2 e q=>by
  obtain ⟨i,j,rfl,rfl,e⟩:=Zk e
  cases h1;cases h2;cases e
  exact ⟨i,j,rfl,rfl,q _ H (Same.refl H) (.bool _)⟩
noncomputable instance (i j:Int):Decidable (Xn i j):=by unfold Xn;exact inferInstance
noncomputable instance (i j:Int):Decidable (CDiv i j):=by unfold CDiv;exact inferInstance
noncomputable instance (i j:Int):Decidable (CPow i j):=by unfold CPow;exact inferInstance
def subD:Ka->Ka->Option Ka:=iiD fun i j=>some (.int (i-j))
def mulD:Ka->Ka->Option Ka:=iiD fun i j=>if Xn i j then some (.int (i*j)) else none
def ZR:Ka->Ka->Option Ka:=iiD fun i j=>if CDiv i j then some (.int (i / j)) else none
def modD:Ka->Ka->Option Ka:=iiD fun i j=>if 0<j then some (.int (i % j)) else none
theorem Q3:OpD X (binaryOp .Sub) subD:=qbJ qdi
theorem WY:OpD X (binaryOp .Mult) mulD:=Zq qbN
theorem Jm:OpD X (binaryOp .FloorDiv) ZR:=Zq qbM
theorem Zg:OpD X (binaryOp .Mod) modD:=Zq (C:=fun _ j=>0<j) qdf
def gtD:Ka->Ka->Option Ka:=iiD fun i j=>some (.bool (decide (j<i)))
def geD:Ka->Ka->Option Ka:=iiD fun i j=>some (.bool (decide (j<=i)))
theorem d_gt:OpD X (compareOp .Gt) gtD:=yg op_gt
theorem d_ge:OpD X (compareOp .GtE) geD:=yg op_ge
noncomputable def eqD (x y:Ka):Option Ka:=if Vn x=true/\Vn y=true then some (.bool (Uh x y)) else none
noncomputable def neD (x y:Ka):Option Ka:=if Vn x=true/\Vn y=true then some (.bool (!PyData.eqv x y)) else none
theorem d_eq {k:Nat}(hr:Room k X.A):OpD X (compareOp .Eq) eqD:=Q8 (qde hr) fun x y dx dy d H S Q m h1 h2 e q=>by
 unfold eqD at e
 split at e
 ·rename_i c;cases e;exact ⟨S,dx,dy,h1,h2,c.1,c.2,q _ H (Same.refl H) (.bool _)⟩
 ·cases e
theorem d_ne {k:Nat}(hr:Room k X.A):OpD X (compareOp .NotEq) neD:=Q8 (qdg hr) fun x y dx dy d H S Q m h1 h2 e q=>by
 unfold neD at e
 split at e
 ·rename_i c;cases e;exact ⟨S,dx,dy,h1,h2,c.1,c.2,q _ H (Same.refl H) (.bool _)⟩
 ·cases e
noncomputable def negD:Ka->Option Ka
 | .int i=>some (.int (-i))
 | _=>none
theorem d_neg:UnD X (unaryOp .USub) negD:=fun pins s σ H x v Q I rx ⟨S,dx,d,m,h1,e,q⟩=>qd4 pins s σ H x v Q I rx (by
 cases h1<;>first|(cases e;exact ⟨_,rfl,q _ H (Same.refl H) (.int _)⟩)|cases e)
noncomputable def lenD:List Ka->Option Ka
 | [.list ds]=>some (.int ds.length)
 | [.tuple ds]=>some (.int ds.length)
 | _=>none
theorem DenL.seq1 {K:Kb}{H:Hp}{S:Av}{xs:List V}{ds:ao}(h1:DenL K H S xs ds){F:List Ka->Ka}{g:av}(hg:∀ ds d,g ds=some d->(∃ l,ds=[.list l]/\d=F l)\/∃ l,ds=[.tuple l]/\d=F l){d:Ka}(e:g ds=some d):∃ a ys l,xs=[.ref a]/\d=F l/\DenL K H S ys l/\(SqL K H a ys\/SqT K H a ys):=by
 rcases hg _ _ e with ⟨l,rfl,rfl⟩|⟨l,rfl,rfl⟩
 ·obtain ⟨v,rfl,hv⟩:=h1.inv1
  obtain ⟨a,ys,rfl,hs,t⟩:=hv.list_inv
  exact ⟨a,ys,l,rfl,rfl,t,.inl hs.sq⟩
 ·obtain ⟨v,rfl,hv⟩:=h1.inv1
  obtain ⟨a,ys,rfl,hs,t⟩:=hv.tuple_inv
  exact ⟨a,ys,l,rfl,rfl,t,.inr hs⟩
theorem wR (ds:ao)(d:Ka)(e:lenD ds=some d):(∃ l,ds=[.list l]/\d=.int (l.length:Nat))\/∃ l,ds=[.tuple l]/\d=.int (l.length:Nat):=by
 unfold lenD at e
 split at e
 ·cases e;exact .inl ⟨_,rfl,rfl⟩
 ·cases e;exact .inr ⟨_,rfl,rfl⟩
 ·cases e
theorem jN:CallD X (.builtin "len") lenD:=fun pins s σ H xs us Q I r ⟨S,ds,d,m,h1,e,q⟩=>Ji pins s σ H xs us Q I r (by
 obtain ⟨a,ys,l,rfl,rfl,t,h⟩:=h1.seq1 wR e
 exact ⟨_,_,rfl,h,by rw [t.length];exact q _ H (Same.refl H) (.int _)⟩)
noncomputable def JL:List Ka->Option Ka
 | [.list ds]=>some (.tuple ds)
 | [.tuple ds]=>some (.tuple ds)
 | _=>none
theorem qa9:CallD X (.type "tuple") JL:=fun pins s σ H xs us Q I r ⟨S,ds,d,m,h1,e,q⟩=>jE pins s σ H xs us Q I r (by
 cases h1 with
 | nil=>cases e
 | cons a t =>
  cases t with
  | cons a' t'=>cases a<;>cases e
  | nil =>
   cases a with
   | list h t=>cases e;exact ⟨_,_,rfl,.inl ⟨h.sq,fun l hl=>q _ _ (Same.lay hl) (.tuple (SqT.of qF) (t.same (Same.lay hl)))⟩⟩
   | tuple h t=>cases e;exact ⟨_,_,rfl,.inr ⟨h,q _ H (Same.refl H) (.tuple h t)⟩⟩
   | _=>cases e)
noncomputable def jZ:List Ka->Option Ka
 | [.list ds]=>some (.list ds)
 | [.tuple ds]=>some (.list ds)
 | _=>none
theorem yS (ds:ao)(d:Ka)(e:jZ ds=some d):(∃ l,ds=[.list l]/\d=.list l)\/∃ l,ds=[.tuple l]/\d=.list l:=by
 unfold jZ at e
 split at e
 ·cases e;exact .inl ⟨_,rfl,rfl⟩
 ·cases e;exact .inr ⟨_,rfl,rfl⟩
 ·cases e
theorem qcE:CallD X (.type "list") jZ:=fun pins s σ H xs us Q I r ⟨S,ds,d,m,h1,e,q⟩=>Jj pins s σ H xs us Q I r (by
 obtain ⟨a,ys,l,rfl,rfl,t,h⟩:=h1.seq1 yS e
 exact ⟨_,_,rfl,h,fun l hl=>q _ _ (Same.lay hl) (.list (SqLS.new qF (m.free hl)) (t.same (Same.lay hl)))⟩)
end
noncomputable def Z7:Ka->Option Bool
 | .bool b=>some b
 | _=>none
def tV (f:aa):Rho->Option Bool:=fun ρ=>ob (f ρ) Z7
def tN (p:ah):Rho->Option Bool:=fun ρ=>ob (p ρ) fun b=>some (!b)
def tA (p q:ah):Rho->Option Bool:=fun ρ=>ob (p ρ) fun c=>if c=true then q ρ else some false
def tO (p q:ah):Rho->Option Bool:=fun ρ=>ob (p ρ) fun c=>if c=true then some true else q ρ
def tT:Rho->Option Bool:=fun _=>some true
def vA (fa fb:aa):Rho->Option Ka:=fun ρ=>ob (fa ρ) fun x=>ob (Z7 x) fun c=>if c=true then fb ρ else some (.bool false)
def vN (fa:aa):Rho->Option Ka:=fun ρ=>ob (fa ρ) fun x=>ob (Z7 x) fun c=>some (.bool (!c))
def vIf (p:ah)(fa fb:aa):Rho->Option Ka:=fun ρ=>ob (p ρ) fun x=>if x=true then fa ρ else fb ρ
def evI (f:aa)(h:Ka->Option (List Ka)):Rho->Option (List Ka):=fun ρ=>ob (f ρ) h
def evR (fs:ae)(h:List Ka->Option (List Ka)):Rho->Option (List Ka):=fun ρ=>ob (fs ρ) h
def sN:Rho->Option Out:=fun ρ=>some (.nx ρ)
def sRet (f:aa):Rho->Option Out:=fun ρ=>ob (f ρ) fun d=>some (.rt d)
def sIf (p:ah)(u w:aq):Rho->Option Out:=fun ρ=>ob (p ρ) fun b=>if b=true then u ρ else w ρ
def sSet (i:Nat)(f:aa):Rho->Option Out:=fun ρ=>ob (f ρ) fun d=>some (.nx (ρ.set i (some d)))
def gNm (i:Nat):Ka->Rho->Option Rho:=fun d ρ=>some (ρ.set i (some d))
def gsN:List Ka->Rho->Option Rho:=fun ds ρ=>match ds with | []=>some ρ|_=>none
def gsC (g1:ag)(g2:aB):List Ka->Rho->Option Rho:=fun ds ρ=>match ds with | d::r=>ob (g1 d ρ) fun ρ'=>g2 r ρ'|[]=>none
def sBk:Rho->Option Out:=fun ρ=>some (.bk ρ)
def sCt:Rho->Option Out:=fun ρ=>some (.ct ρ)
section
variable {X:Cx}{M:au}{a b c:Kp}{es rest:aG}{f g fa fb:aa}{p q:ah}{pos:Pos}
theorem Qm {d:Ka}{b:Bool}(h:Z7 d=some b):d=.bool b:=by cases d<;>first|(cases h;rfl)|cases h
theorem qbU (h:PD X M a f)(he:∀ whole,isTrue a X.env whole=(do let v ← whole;standAt a.pos;holding [v] (truthy v)):=by intro _;rfl):PDT X M a (tV f) :=
 (qdC h he).weak fun σ H Q ⟨S,ρ,d,hs,e,q⟩=>by
  obtain ⟨x,e1,e⟩:=qd e
  cases Qm e
  exact ⟨S,ρ,_,hs,e1,fun v H1 g1 d1=>⟨d,d1.bool_inv,q H1 g1⟩⟩
theorem qL {op:CmpOp}{g:aD}(ho:OpD X (compareOp op) g)(ha:PD X M a fa)(hb:PD X M b fb)(hm:behindInMarks op b=false):PDT X M (.Compare a [op] [b] pos) (tV (ev2 fa fb g)) :=
 (qb9 ho ha hb hm).weak fun σ H Q ⟨S,ρ,d,hs,e,q⟩=>by
  obtain ⟨x,e1,e⟩:=qd e
  cases Qm e
  exact tD2 σ H _ ⟨S,ρ,_,hs,e1,fun v H1 g1 d1=>⟨d,d1.bool_inv,q H1 g1⟩⟩
theorem qbS (h:PDT X M a p):PDT X M (.UnaryOp .Not a pos) (tN p) :=
 (qdB h).weak fun σ H Q ⟨S,ρ,d,hs,e,q⟩=>by
  obtain ⟨x,e1,e⟩:=qd e
  cases e
  exact ⟨S,ρ,x,hs,e1,fun H1 g1=>q H1 g1⟩
def PDW (X:Cx)(M:au)(e:Kp)(f:ah):Prop:=PW X e (tDT X.K M f)
theorem PDW.pdt (h:PDW X M a p):PDT X M a p:=PW.pt h
theorem qaz (h:PDT X M a p):PDW X M (.BoolOp .And [a] pos) p:=qcc h
theorem qbW (h:PDT X M a p):PDW X M (.BoolOp .Or [a] pos) p:=qdE h
theorem qbV (ha:PDT X M a p)(hb:PDW X M (.BoolOp .And (b::rest) pos) q):PDW X M (.BoolOp .And (a::b::rest) pos) (tA p q) :=
 (qdD ha hb).weak fun σ H Q ⟨S,ρ,d,hs,e,w⟩=>by
  obtain ⟨x,e1,e⟩:=qd e
  refine ⟨S,ρ,x,hs,e1,fun H1 g1=>?_⟩
  cases x with
  | true=>exact iteT ⟨S,ρ,d,hs.same g1,e,fun H2 g2=>w H2 (g1.trans g2)⟩
  | false=>cases e;exact iteF (w H1 g1)
theorem qdp (ha:PDT X M a p)(hb:PDW X M (.BoolOp .Or (b::rest) pos) q):PDW X M (.BoolOp .Or (a::b::rest) pos) (tO p q) :=
 (pw_or ha hb).weak fun σ H Q ⟨S,ρ,d,hs,e,w⟩=>by
  obtain ⟨x,e1,e⟩:=qd e
  refine ⟨S,ρ,x,hs,e1,fun H1 g1=>?_⟩
  cases x with
  | true=>cases e;exact iteT (w H1 g1)
  | false=>exact iteF ⟨S,ρ,d,hs.same g1,e,fun H2 g2=>w H2 (g1.trans g2)⟩
theorem qdo {op}(h:PD X M a f):PD X M (.BoolOp op [a] pos) f:=qdt h
theorem qdl (ha:PD X M a fa)(hb:PD X M (.BoolOp .And (b::rest) pos) fb):PD X M (.BoolOp .And (a::b::rest) pos) (vA fa fb) :=
 (qdq ha hb).weak fun σ H Q ⟨S,ρ,d,hs,e,w⟩=>by
  obtain ⟨x,e1,e⟩:=qd e
  obtain ⟨c,e2,e⟩:=qd e
  cases Qm e2
  refine ⟨S,ρ,_,hs,e1,fun v H1 g1 d1=>⟨c,d1.bool_inv,?_⟩⟩
  cases c with
  | true=>exact iteT ⟨S,ρ,d,hs.same g1,e,fun v H2 g2 d2=>w v H2 (g1.trans g2) d2⟩
  | false=>cases e;exact iteF (w _ H1 g1 (.bool false))
theorem qdn (ha:PD X M a fa):PD X M (.UnaryOp .Not a pos) (vN fa) :=
 (qds ha).weak fun σ H Q ⟨S,ρ,d,hs,e,w⟩=>by
  obtain ⟨x,e1,e⟩:=qd e
  obtain ⟨c,e2,e⟩:=qd e
  cases Qm e2
  cases e
  exact ⟨S,ρ,_,hs,e1,fun v H1 g1 d1=>⟨c,d1.bool_inv,w _ H1 g1 (.bool _)⟩⟩
theorem qas (hc:PDT X M c p)(ha:PD X M a fa)(hb:PD X M b fb):PD X M (.IfExp c a b pos) (vIf p fa fb) :=
 (qaA hc ha hb).weak fun σ H Q ⟨S,ρ,d,hs,e,w⟩=>by
  obtain ⟨x,e1,e⟩:=qd e
  refine ⟨S,ρ,x,hs,e1,fun H1 g1=>?_⟩
  cases x with
  | true=>exact iteT ⟨S,ρ,d,hs.same g1,e,fun v H2 g2 d2=>w v H2 (g1.trans g2) d2⟩
  | false=>exact iteF ⟨S,ρ,d,hs.same g1,e,fun v H2 g2 d2=>w v H2 (g1.trans g2) d2⟩
structure IsIt (K:Kb)(S:Av)(J:It)(H:Hp)(ds:ao):Prop where
 go:∀ (i:Nat) (H':Hp),Same H H'->i<ds.length->J.go i H'
 yld:∀ (i:Nat) (H':Hp) (x:V) (H2:Hp),Same H H'->J.yld i H' x H2->Same H' H2/\∀ d,ds[i]?=some d->∀ S':Av,(∀ y e,Den K H S y e->Den K H2 S' y e)->Den K H2 S' x d
 stop:∀ H':Hp,Same H H'->J.stop ds.length H'
theorem IsIt.lst {K:Kb}{H:Hp}{S:Av}{l:Kd}{xs:List V}{ds:ao}(h:SqL K H l xs)(t:DenL K H S xs ds):IsIt K S (Itl K l) H ds where
 go:=fun i H' e hi=>by
  have hi':i<xs.length:=by rw [t.length];exact hi
  exact ⟨xs,xs[i],e.seq h,KI hi'⟩
 yld:=fun i H' x H2 e ⟨e2,q⟩=>⟨by rw [e2];exact Same.refl _,fun d hd S' w=>by
  obtain ⟨v,h1,h2⟩:=t.get hd
  have:=q xs (e.seq h)
  rw [h1] at this
  cases this
  exact w _ _ h2⟩
 stop:=fun H' e=>⟨xs,e.seq h,by rw [t.length];exact Kl _⟩
theorem IsIt.tup {K:Kb}{H:Hp}{S:Av}{l:Kd}{xs:List V}{ds:ao}(h:SqT K H l xs)(t:DenL K H S xs ds):IsIt K S (Itt K l) H ds where
 go:=fun i H' e hi=>by
  have hi':i<xs.length:=by rw [t.length];exact hi
  exact ⟨xs,xs[i],e.sqT h,KI hi'⟩
 yld:=fun i H' x H2 e ⟨e2,q⟩=>⟨by rw [e2];exact Same.refl _,fun d hd S' w=>by
  obtain ⟨v,h1,h2⟩:=t.get hd
  have:=q xs (e.sqT h)
  rw [h1] at this
  cases this
  exact w _ _ h2⟩
 stop:=fun H' e=>⟨xs,e.sqT h,by rw [t.length];exact Kl _⟩
theorem SqLS.off {K:Kb}{H H':Hp}{S:Av}{a:Kd}{xs:List V}(e:Off S H H')(h:SqLS K H S a xs):SqLS K H' S a xs:=h.imp (fun q=>⟨q.1.off e q.2,q.2⟩) id
theorem SqT.off {K:Kb}{H H':Hp}{S:Av}{a:Kd}{xs:List V}(m:Dm S H)(e:Off S H H')(h:SqT K H a xs):SqT K H' a xs:=h.imp (fun q=>q.off e (m.tup q)) id
noncomputable def rngL:Int->Nat->List Ka
 | _,0=>[]
 | lo,n+1=>.int lo::rngL (lo+1) n
theorem QR:∀ (lo:Int) (n:Nat),(rngL lo n).length=n
 | _,0=>rfl
 | lo,n+1=>by rw [rngL,Kk,QR]
theorem yr:∀ (lo:Int) (n i:Nat) (d:Ka),(rngL lo n)[i]?=some d->d=.int (lo+i)
 | _,0,_,_,h=>by simp [rngL] at h
 | lo,n+1,0,d,h=>by simp [rngL] at h;subst h;simp
 | lo,n+1,i+1,d,h=>by
  have:=yr (lo+1) n i d (by simpa [rngL] using h)
  rw [this]
  congr 1
  omega
theorem IsIt.rng {K:Kb}{H:Hp}{S:Av}(lo:Int)(n:Nat):IsIt K S (Itr lo n) H (rngL lo n) where
 go:=fun i H' e hi=>by rw [QR] at hi;exact hi
 yld:=fun i H' x H2 e ⟨e2,q⟩=>⟨by rw [e2];exact Same.refl _,fun d hd _ _=>by
  have q':x=.int (lo+i):=q
  rw [yr lo n i d hd,q']
  exact .int _⟩
 stop:=fun H' e=>by rw [QR];exact Kl n
def tDI (K:Kb)(M:au)(f:ae):TI:=fun σ H R=>∃ S ρ ds,DenS K H S M σ ρ/\f ρ=some ds/\∀ J H',Same H H'->(∀ H2,Off S H' H2->IsIt K S J H2 ds)->R J H'
def PDI (X:Cx)(M:au)(tg iter:Kp)(f:ae):Prop:=PI X tg iter (tDI X.K M f)
theorem PI.weak {X:Cx}{tg e:Kp}{t t':TI}(h:PI X tg e t)(w:∀ σ H R,t' σ H R->t σ H R):PI X tg e t':=fun pins s σ H Q I q=>h pins s σ H Q I (w σ H Q q)
def iSeq (K:Kb)(tl:TE):TI:=fun σ H R=>tl σ H fun x H1=>∃ a,x=.ref a/\(((∃ xs,SqL K H1 a xs)/\R (Itl K a) H1)\/((∃ xs,SqT K H1 a xs)/\R (Itt K a) H1))
theorem qdx {tg l:Kp}{tl:TE}(hl:PE X l tl):PI X tg l (iSeq X.K tl):=by
 intro pins s σ H R I h
 refine thn (hl pins s σ H _ I h) fun v s1 ⟨x,H1,I1,r1,q1⟩=>?_
 obtain ⟨a,e,q1⟩:=q1
 subst e
 cases r1
 have fp:∀ b∈[s1.heap.objs.size],FpOk X pins H1 b:=fun b hb=>by
  have e:b=s1.heap.objs.size:=by simpa using hb
  subst e
  exact I1.fpOk (Kl _) (I1.hok.fresh (Kl _))
 rcases q1 with ⟨⟨xs,hq⟩,q⟩|⟨⟨xs,hq⟩,q⟩
 ·obtain ⟨its,rv,p,hz⟩:=I1.list hq
  refine wpAny_pyIter_list p.isList ?_
  exact ⟨s1.heap.objs.size,[s1.heap.objs.size],_,_,H1,rfl,I1.kept (t':=s1.toks) fun b o e=>Kg _ e,Ww a _,⟨_,Kx _ rfl,rfl,rfl⟩,fp,q⟩
 ·obtain ⟨its,rv,p,hz⟩:=I1.tuple hq
  refine UI (show s1.heap.IsTuple a its.toArray from p) ?_
  exact ⟨s1.heap.objs.size,[s1.heap.objs.size],_,_,H1,rfl,I1.kept (t':=s1.toks) fun b o e=>Kg _ e,Yn a _,⟨_,Kx _ rfl,rfl,rfl⟩,fp,q⟩
noncomputable def seqD:Ka->Option (List Ka)
 | .list ds=>some ds
 | .tuple ds=>some ds
 | _=>none
theorem zL {tg:Kp}(h:PD X M a f):PDI X M tg a (evI f seqD) :=
 (qdx h).weak fun σ H R ⟨S,ρ,ds,hs,e,w⟩=>by
  obtain ⟨x,e1,e⟩:=qd e
  refine ⟨S,ρ,x,hs,e1,fun v H1 g1 d1=>?_⟩
  cases d1 with
  | list h t=>cases e;exact ⟨_,rfl,.inl ⟨⟨_,h.sq⟩,w _ _ g1 fun H2 o=>IsIt.lst (h.off o).sq (t.off (hs.1.same g1) o)⟩⟩
  | tuple h t=>cases e;exact ⟨_,rfl,.inr ⟨⟨_,h⟩,w _ _ g1 fun H2 o=>IsIt.tup (h.off (hs.1.same g1) o) (t.off (hs.1.same g1) o)⟩⟩
  | _=>cases e
def QQ:List Ka->Option (List Ka)
 | [.int j]=>if -1000<=j/\j<=1000 then some (rngL 0 j.toNat) else none
 | _=>none
def ju:List Ka->Option (List Ka)
 | [.int i,.int j]=>if (-1000<=i/\i<=1000)/\(-1000<=j/\j<=1000) then some (rngL i (j-i).toNat) else none
 | _=>none
theorem jr {tg:Kp}{fs:ae}{p:Pos}(hg:Gl X "range")(hm:X.mg "range" = none)(ha:PDA X M [a] fs)(hs:starEach [a] X.env=[(false,eval a X.env)]:=by rfl):PDI X M tg (.Call (.Name "range" p) [a] [] pos) (evR fs QQ) :=
 (Wf hg hm ha hs).weak fun σ H R ⟨S,ρ,ds,hs,e,w⟩=>by
  obtain ⟨xs,e1,e⟩:=qd e
  refine ⟨S,ρ,xs,hs,e1,fun vs H1 g1 d1=>?_⟩
  unfold QQ at e
  split at e
  ·rename_i j
   split at e
   ·rename_i hj
    cases e
    obtain ⟨v,rfl,q⟩:=d1.inv1
    cases q
    exact ⟨j,rfl,by omega,by omega,w _ _ g1 fun _ _=>IsIt.rng 0 _⟩
   ·cases e
  ·cases e
theorem yZ {tg:Kp}{fs:ae}{p:Pos}(hg:Gl X "range")(hm:X.mg "range" = none)(ha:PDA X M [a,b] fs)(hs:starEach [a,b] X.env=[(false,eval a X.env),(false,eval b X.env)]:=by rfl)(hs2:starEach [b] X.env=[(false,eval b X.env)]:=by rfl):PDI X M tg (.Call (.Name "range" p) [a,b] [] pos) (evR fs ju) :=
 (Wg hg hm ha hs hs2).weak fun σ H R ⟨S,ρ,ds,hs,e,w⟩=>by
  obtain ⟨xs,e1,e⟩:=qd e
  refine ⟨S,ρ,xs,hs,e1,fun vs H1 g1 d1=>?_⟩
  unfold ju at e
  split at e
  ·rename_i i j
   split at e
   ·rename_i hj
    cases e
    obtain ⟨v,w',rfl,q,q'⟩:=d1.inv2
    cases q;cases q'
    exact ⟨i,j,rfl,⟨by omega,by omega,by omega,by omega⟩,w _ _ g1 fun _ _=>IsIt.rng i _⟩
   ·cases e
  ·cases e
def q9 (tt:ah)(te:aa)(ρ:Rho):List Ka->Option (List Ka)
 | []=>some []
 | d::ds=>ob (tt (ρ++[some d])) fun b=>if b=true then ob (te (ρ++[some d])) fun y=>ob (q9 tt te ρ ds) fun ys=>some (y::ys) else q9 tt te ρ ds
def Qf (n:Nat)(fi:ae)(tt:ah)(te:aa)(ρ:Rho):Option Ka :=
 ob (fi ρ) fun ds=>if ρ.length=n/\ds.length<=1000 then ob (q9 tt te ρ ds) fun ys=>some (.list ys) else none
def PDTs (X:Cx)(M:au)(ifs:aG)(p:ah):Prop:=PTs X ifs (tDT X.K M p)
theorem QM:PDTs X M [] tT:=fun pins s σ H Q I ⟨S,ρ,b,hs,e,q⟩=>by
 cases e
 exact qca pins s σ H Q I (q H (Same.refl H))
theorem qay (h:PDT X M c p):PDTs X M [c] p:=qcb h
noncomputable def lc1 (sc:K1)(x:Str):Bool:=decide (sc.names.lookup x=some .local)||decide (sc.names.lookup x=some .cell)
theorem JB {env:Env}:∀ {names:List (Str×NameKind)} {x:Str},names.lookup x=some .cell->
  (names.map fun (n,k)=>if (k==KL&&env.scope.kind==.function&&env.kindOf n==some .cell) then (n,Vc) else (n,k)).lookup x=some .cell:=by
 intro names x
 induction names with
 | nil=>intro h;cases h
 | cons q r ih =>
  intro h
  obtain ⟨n,k⟩:=q
  show Xp x ((if (k==KL&&env.scope.kind==.function&&env.kindOf n==some .cell)=true then (n,Vc) else (n,k))::_)=_
  rw [KM] at h
  by_cases hx:(x==n)=true
  ·rw [hx] at h;cases h
   split<;>rw [KM,hx]
  ·rw [Xw.mpr hx] at h
   split<;>rw [KM,Xw.mpr hx]<;>exact ih h
def tDGc (K:Kb)(M:au)(g:ag):TG:=fun v σ H Q=>∃ S ρ d ρ',DenS K H S M σ ρ/\Den K H S v d/\g d ρ=some ρ'/\∀ σ' H',Same H H'->DenS K H' S M σ' ρ'->Q σ' H'
def PDGc (X:Cx)(M:au)(t:Kp)(g:ag):Prop:=PG X t (tDGc X.K M g)
theorem PG.weak {X:Cx}{e:Kp}{t t':TG}(h:PG X e t)(w:∀ v σ H Q,t' v σ H Q->t v σ H Q):PG X e t':=fun pins s σ H v u Q I r q=>h pins s σ H v u Q I r (w v σ H Q q)
theorem PGs.weak {X:Cx}{e:aG}{t t':TGs}(h:PGs X e t)(w:∀ v σ H Q,t' v σ H Q->t v σ H Q):PGs X e t':=fun pins s σ H v u Q I r q=>h pins s σ H v u Q I r (w v σ H Q q)
def unpD (n:Nat)(g:aB):Ka->Rho->Option Rho
 | .tuple ds,ρ=>if ds.length=n then g ds ρ else none
 | _,_=>none
theorem j7 (i:Nat){x:Str}(hN:X.N.Nodup)(hx:Loc X.env.scope x)(hi:X.N[i]?=some x)(hf:X.fn x=true\/X.env.scope.names.lookup x=some .local):PDGc X M (.Name x pos) (gNm i) :=
 (Y4 hN hi hx hf).weak fun v σ H Q ⟨S,ρ,d,ρ',hs,hd,e,q⟩=>by
  cases e
  exact q _ H (Same.refl H) (hs.set hd i)
def GIn (n k:Nat)(g:ag):Prop:=∀ d (ρ r ρ1:Rho),ρ.length=n->r.length=k->g d (ρ++r)=some ρ1->∃ r',r'.length=k/\ρ1=ρ++r'
theorem ji {n k i:Nat}(h:n<=i):GIn n k (gNm i):=fun d ρ r ρ1 h1 h2 e=>by
 cases e
 refine ⟨r.set (i-n) (some d),by rw [Vp];exact h2,?_⟩
 rw [Nc _ _ (by omega),h1]
def zf (k:Nat)(g:ag)(tt:ah)(te:aa)(ρ:Rho):List Ka->Option (List Ka)
 | []=>some []
 | d::ds=>ob (g d (ρ++Kn k none)) fun ρ1=>ob (tt ρ1) fun b=>if b=true then ob (te ρ1) fun y=>ob (zf k g tt te ρ ds) fun ys=>some (y::ys) else zf k g tt te ρ ds
def Qx (n k:Nat)(fi:ae)(g:ag)(tt:ah)(te:aa)(ρ:Rho):Option Ka :=
 ob (fi ρ) fun ds=>if ρ.length=n/\ds.length<=1000 then ob (zf k g tt te ρ ds) fun ys=>some (.list ys) else none
theorem jc {tt:ah}{te:aa}{ρ:Rho}{n:Nat}(hn:ρ.length=n):∀ ds,zf 1 (gNm n) tt te ρ ds=q9 tt te ρ ds
 | []=>rfl
 | d::ds=>by
  have e:gNm n d (ρ++Kn 1 none)=some (ρ++[some d]):=by
   show some ((ρ++[none]).set n (some d))=_
   rw [← hn,Nc _ _ (Kl _)]
   simp
  rw [zf,q9,e]
  show (ob (tt (ρ++[some d])) fun b=>_)=_
  rw [jc hn ds]
theorem jb (n:Nat)(fi:ae)(tt:ah)(te:aa):Qf n fi tt te=Qx n 1 fi (gNm n) tt te:=by
 funext ρ
 unfold Qf Qx
 cases fi ρ with
 | none=>rfl
 | some ds =>
  show (if ρ.length=n/\ds.length<=1000 then _ else none)=(if ρ.length=n/\ds.length<=1000 then _ else none)
  split
  ·rename_i h
   rw [jc h.1]
  ·rfl
theorem DenS.forget {K:Kb}{H:Hp}{S:Av}{σ:St}{ρ r':Rho}{k:Nat}(h:DenS K H S M σ (ρ++r'))(hk:r'.length=k):DenS K H S M σ (ρ++Kn k none):=by
 refine ⟨h.1,by rw [h.2.1,Kq,Kq,Vh,hk],fun i d hi e=>?_⟩
 by_cases hlt:i<ρ.length
 ·rw [K7 hlt] at e
  exact h.2.2 i d hi (by rw [K7 hlt];exact e)
 ·rw [VJ (by omega)] at e
  have:=VR (a:=(none:ax)) (n:=k) (i:=i-ρ.length)
  rw [this] at e
  split at e<;>cases e
theorem DenS.more {K:Kb}{H:Hp}{S:Av}{σ:St}{ρ:Rho}(k:Nat)(h:DenS K H S M σ ρ):DenS K H S M (σ++Kn k none) (ρ++Kn k none):=by
 refine ⟨h.1,by rw [Kq,Kq,h.2.1,Vh,Vh],fun i d hi e=>?_⟩
 by_cases hlt:i<ρ.length
 ·rw [K7 hlt] at e
  obtain ⟨v,a,b⟩:=h.2.2 i d hi e
  exact ⟨v,by rw [K7 (by rw [h.2.1];exact hlt)];exact a,b⟩
 ·rw [VJ (by omega)] at e
  have:=VR (a:=(none:ax)) (n:=k) (i:=i-ρ.length)
  rw [this] at e
  split at e<;>cases e
theorem Y9 {K:Kb}{n k:Nat}{fi:ae}{g:ag}(hg:GIn n k g):∀ σ H Q S ρ ds ys,DenS K H S M σ ρ->fi ρ=some ds->ρ.length=n->ds.length<=1000->zf k g p f ρ ds=some ys->(∀ H' zs,Same H H'->DenL K H' S zs ys->∀ D,H' D=none->Q (.ref D) (upd H' D (.lst zs)))->Ja k (tDI K M fi) (tDGc K M g) (tDT K M p) (tD K M f) σ H Q:=by
 intro σ H Q S ρ ds ys hs e1 hn hz e2 q
 refine ⟨S,ρ,ds,hs,e1,fun J H1 g1 hJ0=>?_⟩
 have hJ:=hJ0 H1 fun _ _ _ z=>z
 have z1000:1000<sizeLine:=qZ (Kl _)
 refine ⟨fun i m zs σ' H'=>m=ds.length-i/\i<=ds.length/\zs.length<=i/\Same H1 H'/\DenS K H' S M σ' (ρ++Kn k none)/\∃ pre rest,DenL K H' S zs pre/\zf k g p f ρ (ds.drop i)=some rest/\pre++rest=ys,⟨ds.length,by simp,Us _,Kl _,Same.refl _,(hs.same g1).more k,[],ys,.nil,e2,rfl⟩,?_⟩
 rintro i m zs σ' H' ⟨rfl,hi,hzi,g2,hS,pre,rest,dl,er,rfl⟩
 by_cases hlt:i<ds.length
 ·refine .inr ⟨hJ.go i H' g2 hlt,fun x H2 y=>?_⟩
  obtain ⟨g2',yd⟩:=hJ.yld i H' x H2 g2 y
  have hd:=yd _ (KI hlt) S fun y e q=>q.same (g2.trans g2')
  rw [Vl hlt] at er
  obtain ⟨ρ1,r1,er⟩:=qd er
  obtain ⟨bb,b1,er⟩:=qd er
  obtain ⟨r',hr',rfl⟩:=hg _ ρ _ ρ1 hn (Vh) r1
  have g2:=g2.trans g2'
  have dl:=dl.same g2'
  refine ⟨S,_,_,_,hS.same g2',hd,r1,fun σ3 H3 g3 hS3=>⟨S,_,bb,hS3,b1,fun H4 g4=>?_⟩⟩
  cases bb with
  | true =>
   rw [if_pos rfl] at er
   obtain ⟨y1,e3,er⟩:=qd er
   obtain ⟨ys1,e4,er⟩:=qd er
   cases er
   refine iteT ⟨S,_,y1,hS3.same g4,e3,fun v H5 g5 d5=>⟨by omega,ds.length-(i+1),by omega,rfl,hlt,by rw [Kq,K4];omega,g2.trans (g3.trans (g4.trans g5)),(hS3.same (g4.trans g5)).forget hr',pre++[y1],ys1,(dl.same (g3.trans (g4.trans g5))).snoc d5,e4,by simp⟩⟩
  | false =>
   rw [if_neg Vq] at er
   exact iteF ⟨ds.length-(i+1),by omega,rfl,hlt,by omega,g2.trans (g3.trans g4),(hS3.same g4).forget hr',pre,rest,dl.same (g3.trans g4),er,rfl⟩
 ·have hi':i=ds.length:=by omega
  subst hi'
  rw [XG] at er
  cases er
  refine .inl ⟨hJ.stop H' g2,fun D hD=>q H' zs (g1.trans g2) (by rw [VD];exact dl) D hD⟩
theorem Q6 {n k:Nat}{fi:ae}{g:ag}{tt:ah}{te:aa}{ρ:Rho}{d:Ka}(e:Qx n k fi g tt te ρ=some d):∃ ds ys,fi ρ=some ds/\ρ.length=n/\ds.length<=1000/\zf k g tt te ρ ds=some ys/\d=.list ys:=by
 obtain ⟨ds,e1,e⟩:=qd e
 split at e
 ·rename_i hc
  obtain ⟨ys,e2,e⟩:=qd e
  cases e
  exact ⟨ds,ys,e1,hc.1,hc.2,e2,rfl⟩
 ·cases e
theorem qdV {K:Kb}{n k:Nat}{fi:ae}{g:ag}(hg:GIn n k g):∀ σ H Q,tD K M (Qx n k fi g p f) σ H Q->Ja k (tDI K M fi) (tDGc K M g) (tDT K M p) (tD K M f) σ H Q:=by
 intro σ H Q ⟨S,ρ,d,hs,e,q⟩
 obtain ⟨ds,ys,e1,hn,hz,e2,rfl⟩:=Q6 e
 exact Y9 hg σ H Q S ρ ds ys hs e1 hn hz e2 fun H' zs g2 dl D hD=>q _ _ (g2.lay' hD) (.list (SqLS.new qF ((hs.1.same g2).free hD)) (dl.same (Same.lay hD)))
section
variable {elt iter tg:Kp}{ifs:aG}{x:Str}{N':az}{px:Pos}{sc:K1}{n k:Nat}{fi:ae}{g:ag}
theorem Jz {i:Nat}(O:CompOk X N' k sc)(hx:N'[i]?=some x)(hl:lc1 sc x=true)(cl:aE)(C:Kd)(fp:ay)(pins:af)(s:Ke)(H:Hp):PDGc (qu X N' sc cl C fp pins s H) M (.Name x px) (gNm i) :=
 (Bool.or_eq_true_iff.mp hl).elim (fun hl =>
  have hloc:(relabel sc X.env).names.lookup x=some .local:=lookup_relabel_local (of_decide_eq_true hl)
  j7 (X:=qu X N' sc cl C fp pins s H) i O.nd' (.inl hloc) hx (.inr hloc)) fun hl =>
  have hloc:(relabel sc X.env).names.lookup x=some .cell:=JB (of_decide_eq_true hl)
  j7 (X:=qu X N' sc cl C fp pins s H) i O.nd' (.inr hloc) hx (.inl hl)
theorem qar (O:CompOk X N' k sc)(gi:GIn n k g)(hi:PDI X M tg iter fi)(hg:∀ cl C fp pins s H,PDGc (qu X N' sc cl C fp pins s H) M tg g)(hq:∀ cl C fp pins s H,PDTs (qu X N' sc cl C fp pins s H) M ifs p)(he:∀ cl C fp pins s H,PD (qu X N' sc cl C fp pins s H) M elt f)
  (hs:∀ v,foldedSetIterable iter X.env v=pure v:=by intro _;rfl):PD X M (.ListComp elt [⟨tg,iter,ifs,0⟩] sc pos) (Qx n k fi g p f) :=
 (qb0 (wg:=tDGc X.K M g) (tt:=tDT X.K M p) (te:=tD X.K M f) O hi hg hq he hs).weak (qdV gi)
theorem Z3 (O:CompOk X N' 1 sc)(hx:N'[n]?=some x)(hl:lc1 sc x=true)(hi:PDI X M (.Name x px) iter fi)(hq:∀ cl C fp pins s H,PDTs (qu X N' sc cl C fp pins s H) M ifs p)(he:∀ cl C fp pins s H,PD (qu X N' sc cl C fp pins s H) M elt f)
  (hs:∀ v,foldedSetIterable iter X.env v=pure v:=by intro _;rfl):PD X M (.ListComp elt [⟨.Name x px,iter,ifs,0⟩] sc pos) (Qf n fi p f):=by
 rw [jb]
 exact qar O (ji (Kl _)) hi (Jz O hx hl) hq he hs
end
end
structure Gm where
 H0:Hp
 S0:Av
 lk:Nat->Kd×PyData
def insA (S:Av)(p:Kd):Av:=fun a=>S a\/a=p
inductive OwnO (K:Kb)(H:Hp)(S:Av)(p:Kd):Ka->Prop
 | lst {xs:List V} {ds:ao}:H p=some (.lst xs)->DenL K H S xs ds->OwnO K H S p (.list ds)
 | dct {kvs:List (KX×Addr×V)} {ep:Nat} {ds:ao}:H p=some (DctO p kvs ep)->DenL K H S (kvs.map fun p=>kxV p.1 p.2.1) (kvs.map fun p=>kxD p.1)->DenL K H S (kvs.map (·.2.2)) ds->OwnO K H S p (.dict (dkv kvs ds))
section
variable {K:Kb}{H H':Hp}{S S':Av}{p:Kd}{d:Ka}
theorem OwnO.same (e:Same H H')(h:OwnO K H S p d):OwnO K H' S p d:=by
 cases h with
 | lst h t=>exact .lst (e _ _ h) (t.same e)
 | dct h k t=>exact .dct (e _ _ h) (k.same e) (t.same e)
theorem OwnO.sub (e:∀ a,H a≠none->S' a->S a)(h:OwnO K H S p d):OwnO K H S' p d:=by
 cases h with
 | lst h t=>exact .lst h (t.sub e)
 | dct h k t=>exact .dct h (k.sub e) (t.sub e)
theorem OwnO.mut (h:OwnO K H S p d):∃ o,H p=some o/\Qy o=true:=by
 cases h with
 | lst h t=>exact ⟨_,h,rfl⟩
 | dct h k t=>exact ⟨_,h,rfl⟩
theorem OwnO.dom (h:OwnO K H S p d):H p≠none:=by
 obtain ⟨o,e,_⟩:=h.mut
 rw [e];exact fun z=>nomatch z
theorem OwnO.den (h:OwnO K H S p d)(n:¬ S' p)(e:∀ a,H a≠none->S' a->S a):Den K H S' (.ref p) d:=by
 cases h with
 | lst h t=>exact .list (SqLS.new h n) (t.sub e)
 | dct h k t=>exact .dict ⟨h,n⟩ (k.sub e) (t.sub e)
theorem OwnO.upd {q:Kd}{o:HO}(m:Dm S H)(h:OwnO K H S p d)(hq:S q)(hm:Qy o=true)(ne:p≠q):OwnO K (upd H q o) S p d:=by
 have off:Off S H (L2.upd H q o):=fun b u n e=>by
  rw [qg (fun z=>n (by rw [z];exact hq))];exact e
 cases h with
 | lst h t=>exact .lst (by rw [qg ne];exact h) (t.off m off)
 | dct h k t=>exact .dct (by rw [qg ne];exact h) (k.off m off) (t.off m off)
theorem Dm.upd {q:Kd}{o:HO}(m:Dm S H)(hm:Qy o=true):Dm S (upd H q o):=fun a ha=>by
 by_cases e:a=q
 ·subst e;exact ⟨o,qF,hm⟩
 ·rw [qg e];exact m a ha
theorem Dm.ins (m:Dm S H)(h:∃ o,H p=some o/\Qy o=true):Dm (insA S p) H:=fun a ha=>by
 rcases ha with ha|rfl
 ·exact m a ha
 ·exact h
end
inductive Kids (K:Kb)(H:Hp)(S:Av):List Kd->List Ka->Prop
 | nil:Kids K H S [] []
 | cons {q:Kd} {xs:List V} {es:ao} {qs:ay} {ds:ao}:H q=some (.lst xs)->DenL K H S xs es->q∉qs->Kids K H S qs ds->Kids K H S (q::qs) (.list es::ds)
inductive Mx (K:Kb)(H:Hp)(S:Av):List Kd->List V->List Ka->Prop
 | nil:Mx K H S [] [] []
 | kid {q:Kd} {xs:List V} {es:ao} {qs:ay} {vs:List V} {ds:ao}:H q=some (.lst xs)->DenL K H S xs es->q∉qs->Mx K H S qs vs ds->Mx K H S (q::qs) (.ref q::vs) (.list es::ds)
 | flt {v:V} {d:Ka} {qs:ay} {vs:List V} {ds:ao}:Den K H S v d->flat d=true->Mx K H S qs vs ds->Mx K H S qs (v::vs) (d::ds)
inductive DeepO (K:Kb)(H:Hp)(S:Av):List Kd->Kd->Ka->Prop
 | tpl {p:Kd} {qs:ay} {vs:List V} {ds:ao}:H p=some (.tup vs)->Mx K H S qs vs ds->DeepO K H S qs p (.tuple ds)
 | lst {p:Kd} {qs:ay} {ds:ao}:H p=some (.lst (qs.map V.ref))->p∉qs->Kids K H S qs ds->DeepO K H S (p::qs) p (.list ds)
 | dct {p:Kd} {kvs:List (KX×Addr×V)} {ep:Nat} {qs:ay} {ds:ao}:H p=some (DctO p kvs ep)->DenL K H S (kvs.map fun p=>kxV p.1 p.2.1) (kvs.map fun p=>kxD p.1)->kvs.map (·.2.2)=qs.map V.ref->p∉qs->Kids K H S qs ds->DeepO K H S (p::qs) p (.dict (dkv kvs ds))
section
variable {K:Kb}{H H':Hp}{S S':Av}{p:Kd}{d:Ka}{fp qs:ay}{ds:ao}
theorem Kids.same (e:Same H H')(h:Kids K H S qs ds):Kids K H' S qs ds:=by
 induction h with
 | nil=>exact .nil
 | cons h t n _ r=>exact .cons (e _ _ h) (t.same e) n r
theorem Kids.sub (e:∀ a,H a≠none->S' a->S a)(h:Kids K H S qs ds):Kids K H S' qs ds:=by
 induction h with
 | nil=>exact .nil
 | cons h t n _ r=>exact .cons h (t.sub e) n r
theorem Kids.mx (h:Kids K H S qs ds):Mx K H S qs (qs.map V.ref) ds:=by
 induction h with
 | nil=>exact .nil
 | cons h t n _ r=>exact .kid h t n r
theorem Mx.same {vs:List V}(e:Same H H')(h:Mx K H S qs vs ds):Mx K H' S qs vs ds:=by
 induction h with
 | nil=>exact .nil
 | kid h t n _ r=>exact .kid (e _ _ h) (t.same e) n r
 | flt a f _ r=>exact .flt (a.same e) f r
theorem Mx.sub {vs:List V}(e:∀ a,H a≠none->S' a->S a)(h:Mx K H S qs vs ds):Mx K H S' qs vs ds:=by
 induction h with
 | nil=>exact .nil
 | kid h t n _ r=>exact .kid h (t.sub e) n r
 | flt a f _ r=>exact .flt (a.sub e) f r
theorem Mx.mut {vs:List V}(h:Mx K H S qs vs ds)(q:Kd)(hq:q∈qs):∃ o,H q=some o/\Qy o=true:=by
 induction h with
 | nil=>exact nomatch hq
 | kid h t n _ r=>exact (Kr.mp hq).elim (fun e=>by rw [e];exact ⟨_,h,rfl⟩) r
 | flt a f _ r=>exact r hq
theorem Kids.mut (h:Kids K H S qs ds):∀ q∈qs,∃ o,H q=some o/\Qy o=true:=h.mx.mut
theorem Mx.den {vs:List V}(e:∀ a,H a≠none->S' a->S a)(n:∀ q∈qs,¬ S' q)(h:Mx K H S qs vs ds):DenL K H S' vs ds:=by
 induction h with
 | nil=>exact .nil
 | kid h t _ _ r=>exact .cons (.list (SqLS.new h (n _ (.head _))) (t.sub e)) (r fun q hq=>n q (.tail _ hq))
 | flt a f _ r=>exact .cons (a.sub e) (r n)
theorem Kids.den (e:∀ a,H a≠none->S' a->S a)(n:∀ q∈qs,¬ S' q)(h:Kids K H S qs ds):DenL K H S' (qs.map V.ref) ds:=h.mx.den e n
theorem Kids.upd {q:Kd}{o:HO}(m:Dm S H)(hq:S q)(n:q∉qs)(h:Kids K H S qs ds):Kids K (upd H q o) S qs ds:=by
 induction h with
 | nil=>exact .nil
 | cons h t n' _ r=>exact .cons (by rw [qg (fun z=>n (by rw [z];exact .head _))];exact h) (t.off m fun b u z e=>by rw [qg (fun y=>z (by rw [y];exact hq))];exact e) n' (r fun z=>n (.tail _ z))
theorem Mx.upd {q:Kd}{o:HO}{vs:List V}(m:Dm S H)(hq:S q)(n:q∉qs)(h:Mx K H S qs vs ds):Mx K (upd H q o) S qs vs ds:=by
 have off:Off S H (L2.upd H q o):=fun b u z e=>by rw [qg (fun y=>z (by rw [y];exact hq))];exact e
 induction h with
 | nil=>exact .nil
 | kid h t n' _ r=>exact .kid (by rw [qg (fun z=>n (by rw [z];exact .head _))];exact h) (t.off m off) n' (r fun z=>n (.tail _ z))
 | flt a f _ r=>exact .flt (a.off m off) f (r n)
theorem Mx.length {vs:List V}(h:Mx K H S qs vs ds):vs.length=ds.length:=by
 induction h with
 | nil=>rfl
 | kid _ _ _ _ r=>rw [Kk,Kk,r]
 | flt _ _ _ r=>rw [Kk,Kk,r]
theorem DeepO.same (e:Same H H')(h:DeepO K H S fp p d):DeepO K H' S fp p d:=by
 cases h with
 | tpl h t=>exact .tpl (e _ _ h) (t.same e)
 | lst h n t=>exact .lst (e _ _ h) n (t.same e)
 | dct h k v n t=>exact .dct (e _ _ h) (k.same e) v n (t.same e)
theorem DeepO.sub (e:∀ a,H a≠none->S' a->S a)(h:DeepO K H S fp p d):DeepO K H S' fp p d:=by
 cases h with
 | tpl h t=>exact .tpl h (t.sub e)
 | lst h n t=>exact .lst h n (t.sub e)
 | dct h k v n t=>exact .dct h (k.sub e) v n (t.sub e)
theorem DeepO.mut (h:DeepO K H S fp p d):∀ q∈fp,∃ o,H q=some o/\Qy o=true:=by
 cases h with
 | tpl h t=>exact t.mut
 | lst h n t=>exact fun q hq=>(Kr.mp hq).elim (fun e=>by rw [e];exact ⟨_,h,rfl⟩) (t.mut q)
 | dct h k v n t=>exact fun q hq=>(Kr.mp hq).elim (fun e=>by rw [e];exact ⟨_,h,rfl⟩) (t.mut q)
theorem DeepO.den (h:DeepO K H S fp p d)(n:∀ q∈fp,¬ S' q)(e:∀ a,H a≠none->S' a->S a):Den K H S' (.ref p) d:=by
 cases h with
 | tpl h t=>exact .tuple (.inl (.inl h)) (t.den e n)
 | lst h _ t=>exact .list (SqLS.new h (n _ (.head _))) (t.den e fun q hq=>n q (.tail _ hq))
 | dct h k v _ t=>exact .dict ⟨h,n _ (.head _)⟩ (k.sub e) (by rw [v];exact t.den e fun q hq=>n q (.tail _ hq))
theorem DeepO.upd {q:Kd}{o:HO}(m:Dm S H)(h:DeepO K H S fp p d)(hq:S q)(ne:q∉fp):DeepO K (upd H q o) S fp p d:=by
 have off:Off S H (L2.upd H q o):=fun b u n e=>by
  rw [qg (fun z=>n (by rw [z];exact hq))];exact e
 cases h with
 | tpl h t=>exact .tpl (by rw [qg (fun z=>m.tup (.inl h) (by rw [z];exact hq))];exact h) (t.upd m hq ne)
 | lst h n t=>exact .lst (by rw [qg (fun z=>ne (by rw [z];exact .head _))];exact h) n (t.upd m hq fun z=>ne (.tail _ z))
 | dct h k v n t=>exact .dct (by rw [qg (fun z=>ne (by rw [z];exact .head _))];exact h) (k.off m off) v n (t.upd m hq fun z=>ne (.tail _ z))
end
abbrev Flt (M:au)(i:Nat):Prop:=i∈M/\i+1000∉M
abbrev Dp (M:au)(i:Nat):Prop:=i∈M/\i+1000∈M
abbrev Out0 (M:au)(i:Nat):Prop:=i∉M/\i+1000∉M/\i<1000
structure SubM (A B:au):Prop where
 sub:∀ i∈A,i∈B
 dp:∀ i∈A,i+1000∈B->i+1000∈A
theorem SubM.flt {A B:au}{i:Nat}(h:SubM A B)(q:Flt A i):Flt B i:=⟨h.sub i q.1,fun z=>q.2 (h.dp i q.1 z)⟩
theorem SubM.deep {A B:au}{i:Nat}(h:SubM A B)(q:Dp A i):Dp B i:=⟨h.sub i q.1,h.sub _ q.2⟩
def Has (ρ:Rho)(i:Nat):Prop:=∃ d:Ka,ρ[i]?=some (some d)
structure DeepF (K:Kb)(G:Gm)(M:au)(H:Hp)(S:Av)(σ:St)(ρ:Rho)(F:Nat->List Kd):Prop where
 own:∀ i,Dp M i->∀ d,ρ[i]?=some (some d)->∃ p,σ[i]?=some (some (.ref p))/\DeepO K H S (F i) p d/\∀ q∈F i,S q/\¬ G.S0 q/\G.H0 q=none
 disj:∀ i,Dp M i->∀ j,Dp M j->Has ρ i->Has ρ j->∀ q,q∈F i->q∈F j->i=j
 flat:∀ i,Flt M i->∀ j,Dp M j->Has ρ i->Has ρ j->∀ p,σ[i]?=some (some (.ref p))->p∉F j
structure OwnS (K:Kb)(G:Gm)(M L:au)(H:Hp)(S:Av)(σ:St)(ρ:Rho):Prop where
 ds:DenS K H S M σ ρ
 s0:∀ a,G.S0 a->S a
 h0:Same G.H0 H
 own:∀ i,Flt M i->∀ d,ρ[i]?=some (some d)->∃ p,σ[i]?=some (some (.ref p))/\OwnO K H S p d/\S p/\¬ G.S0 p/\(i∉L->G.H0 p=none)/\(i∈L->(p,d)=G.lk i)
 apart:∀ i,Flt M i->∀ j,Flt M j->∀ d e p,ρ[i]?=some (some d)->ρ[j]?=some (some e)->σ[i]?=some (some (.ref p))->σ[j]?=some (some (.ref p))->i=j
 bnd:∀ a,S a->G.S0 a\/G.H0 a=none\/∃ i∈L,a=(G.lk i).1
 lkd:∀ i∈L,Flt M i/\ρ[i]?=some (some (G.lk i).2)
 deep:∃ F,DeepF K G M H S σ ρ F
section
variable {K:Kb}{G:Gm}{M M' L:au}{H H':Hp}{S:Av}{σ:St}{ρ:Rho}{v:V}{d:Ka}
theorem OwnS.same (e:Same H H')(h:OwnS K G M L H S σ ρ):OwnS K G M L H' S σ ρ :=
 ⟨h.ds.same e,h.s0,h.h0.trans e,fun i hi d q=>let ⟨p,a,b,c⟩:=h.own i hi d q;⟨p,a,b.same e,c⟩,h.apart,h.bnd,h.lkd,let ⟨F,f⟩:=h.deep;⟨F,fun i hi d q=>let ⟨p,a,b,c⟩:=f.own i hi d q;⟨p,a,b.same e,c⟩,f.disj,f.flat⟩⟩
theorem OwnS.lks (h:OwnS K G M L H S σ ρ):∀ i∈L,S (G.lk i).1:=fun i hi=>by
 obtain ⟨hm,e⟩:=h.lkd i hi
 obtain ⟨p,_,_,c,_,_,w⟩:=h.own i hm _ e
 rw [← w hi];exact c
theorem OwnS.den (h:OwnS K G M L H S σ ρ):DenS K H G.S0 [] σ ρ:=by
 refine ⟨h.ds.1.sub h.s0,h.ds.2.1,fun i d _ q=>?_⟩
 by_cases hi:i∈M
 ·by_cases hk:i+1000∈M
  ·obtain ⟨F,f⟩:=h.deep
   obtain ⟨p,a,b,c⟩:=f.own i ⟨hi,hk⟩ d q
   exact ⟨_,a,b.den (fun q hq=>(c q hq).2.1) fun a _ z=>h.s0 a z⟩
  ·obtain ⟨p,a,b,c,n,_⟩:=h.own i ⟨hi,hk⟩ d q
   exact ⟨_,a,b.den n fun a _ z=>h.s0 a z⟩
 ·obtain ⟨v,a,b⟩:=h.ds.2.2 i d hi q
  exact ⟨v,a,b.sub fun a _ z=>h.s0 a z⟩
theorem qe {α:Type}{xs:List α}{i j:Nat}{x:α}(h:i≠j):(xs.set i x)[j]?=xs[j]?:=Ud h
theorem OwnS.set (h:OwnS K G M L H S σ ρ)(q:Den K H S v d){i:Nat}(hi:i∉M):OwnS K G M L H S (σ.set i (some v)) (ρ.set i (some d)):=by
 have ne:∀ j∈M,i≠j:=fun j hj e=>hi (by rw [e];exact hj)
 obtain ⟨F,f⟩:=h.deep
 refine ⟨h.ds.set q i,h.s0,h.h0,fun j hj e he=>?_,fun j hj k hk e e' p h1 h2 h3 h4=>?_,h.bnd,fun j hj=>⟨(h.lkd j hj).1,by rw [qe (ne j (h.lkd j hj).1.1)];exact (h.lkd j hj).2⟩,F,fun j hj e he=>?_,fun j hj k hk h1 h2=>?_,fun j hj k hk h1 h2 p h3=>?_⟩
 ·rw [qe (ne j hj.1)] at he ⊢
  exact h.own j hj e he
 ·rw [qe (ne j hj.1)] at h1 h3
  rw [qe (ne k hk.1)] at h2 h4
  exact h.apart j hj k hk e e' p h1 h2 h3 h4
 ·rw [qe (ne j hj.1)] at he ⊢
  exact f.own j hj e he
 ·unfold Has at h1 h2
  rw [qe (ne j hj.1)] at h1
  rw [qe (ne k hk.1)] at h2
  exact f.disj j hj k hk h1 h2
 ·unfold Has at h1 h2
  rw [qe (ne j hj.1)] at h1 h3
  rw [qe (ne k hk.1)] at h2
  exact f.flat j hj k hk h1 h2 p h3
theorem OwnS.frz (h:OwnS K G M L H S σ ρ)(hs:SubM M' M)(hl:∀ i∈L,i∈M->i∈M'):∃ S',OwnS K G M' L H S' σ ρ:=by
 obtain ⟨F,f⟩:=h.deep
 have sb:∀ a,(S a/\(¬ ∃ i,Flt M i/\i∉M'/\Has ρ i/\σ[i]?=some (some (.ref a)))/\¬ ∃ i,Dp M i/\i∉M'/\Has ρ i/\a∈F i)->S a:=fun a z=>z.1
 refine ⟨fun a=>S a/\(¬ ∃ i,Flt M i/\i∉M'/\Has ρ i/\σ[i]?=some (some (.ref a)))/\¬ ∃ i,Dp M i/\i∉M'/\Has ρ i/\a∈F i,⟨?_,?_,?_⟩,?_,h.h0,?_,?_,?_,fun i hi=>⟨⟨hl i hi (h.lkd i hi).1.1,fun z=>(h.lkd i hi).1.2 (hs.sub _ z)⟩,(h.lkd i hi).2⟩,F,?_,?_,?_⟩
 ·exact h.ds.1.sub fun a z=>z.1
 ·exact h.ds.2.1
 ·intro i d hi q
  by_cases hm:i∈M
  ·by_cases hk:i+1000∈M
   ·obtain ⟨p,a,b,c⟩:=f.own i ⟨hm,hk⟩ d q
    exact ⟨_,a,b.den (fun r hr z=>z.2.2 ⟨i,⟨hm,hk⟩,hi,⟨d,q⟩,hr⟩) fun a _ z=>z.1⟩
   ·obtain ⟨p,a,b,c,_⟩:=h.own i ⟨hm,hk⟩ d q
    exact ⟨_,a,b.den (fun z=>z.2.1 ⟨i,⟨hm,hk⟩,hi,⟨d,q⟩,a⟩) fun a _ z=>z.1⟩
  ·obtain ⟨v,a,b⟩:=h.ds.2.2 i d hm q
   exact ⟨v,a,b.sub fun a _ z=>z.1⟩
 ·intro a ha
  refine ⟨h.s0 a ha,fun ⟨i,hm,hi,⟨d,q⟩,e⟩=>?_,fun ⟨i,hm,hi,⟨d,q⟩,e⟩=>?_⟩
  ·obtain ⟨p,e',b,c,n,_⟩:=h.own i hm d q
   rw [e] at e';cases e'
   exact n ha
  ·obtain ⟨p,e',b,c⟩:=f.own i hm d q
   exact (c a e).2.1 ha
 ·intro i hi d q
  obtain ⟨p,a,b,c,n,w,w'⟩:=h.own i (hs.flt hi) d q
  refine ⟨p,a,b.sub fun a _ z=>z.1,⟨c,fun ⟨j,hj,hj',⟨e,q'⟩,a'⟩=>?_,fun ⟨j,hj,hj',q',a'⟩=>?_⟩,n,w,w'⟩
  ·have:=h.apart i (hs.flt hi) j hj d e p q q' a a'
   subst this
   exact hj' hi.1
  ·exact f.flat i (hs.flt hi) j hj ⟨d,q⟩ q' p a a'
 ·exact fun i hi j hj=>h.apart i (hs.flt hi) j (hs.flt hj)
 ·exact fun a z=>h.bnd a z.1
 ·intro i hi d q
  obtain ⟨p,a,b,c⟩:=f.own i (hs.deep hi) d q
  refine ⟨p,a,b.sub fun a _ z=>z.1,fun r hr=>⟨⟨(c r hr).1,fun ⟨j,hj,hj',q',a'⟩=>?_,fun ⟨j,hj,hj',q',a'⟩=>?_⟩,(c r hr).2⟩⟩
  ·exact f.flat j hj i (hs.deep hi) q' ⟨d,q⟩ r a' hr
  ·have:=f.disj i (hs.deep hi) j hj ⟨d,q⟩ q' r hr a'
   subst this
   exact hj' hi.1
 ·exact fun i hi j hj=>f.disj i (hs.deep hi) j (hs.deep hj)
 ·exact fun i hi j hj=>f.flat i (hs.flt hi) j (hs.deep hj)
theorem qcN {i j:Nat}(hi:Out0 M i)(hj:Flt M j):Flt (i::M) j:=⟨.tail _ hj.1,fun z=>by rcases Kr.mp z with e|z;(have:=hi.2.2;omega);exact hj.2 z⟩
theorem Zx {i j:Nat}(hj:Flt (i::M) j)(ne:i≠j):Flt M j:=⟨(Kr.mp hj.1).resolve_left fun z=>ne z.symm,fun z=>hj.2 (.tail _ z)⟩
theorem YH {i j:Nat}(hi:Out0 M i)(hj:Dp (i::M) j):Dp M j:=by
 have q:j+1000∈M:=(Kr.mp hj.2).resolve_left fun z=>by have:=hi.2.2;omega
 refine ⟨(Kr.mp hj.1).resolve_left fun z=>hi.2.1 (by rw [← z];exact q),q⟩
theorem OwnS.take (h:OwnS K G M L H S σ ρ){p:Kd}{i:Nat}(hn:H p=none)(e:Same H H')(o:OwnO K H' (insA S p) p d)(hi:Out0 M i)(hl:i∉L)(hz:i<ρ.length):OwnS K G (i::M) L H' (insA S p) (σ.set i (some (.ref p))) (ρ.set i (some d)):=by
 have np:¬ S p:=h.ds.1.free hn
 have sub:∀ a,H a≠none->insA S p a->S a:=fun a ha z=>by
  rcases z with z|rfl
  ·exact z
  ·exact absurd hn ha
 have ne:∀ j∈M,i≠j:=fun j hj e=>hi.1 (by rw [e];exact hj)
 have hz':i<σ.length:=by rw [h.ds.2.1];exact hz
 have gi:(ρ.set i (some d))[i]?=some (some d):=KY hz
 have gi':(σ.set i (some (.ref p)))[i]?=some (some (.ref p)):=KY hz'
 obtain ⟨F,f⟩:=h.deep
 refine ⟨⟨(h.ds.1.same e).ins o.mut,by rw [Vp,Vp];exact h.ds.2.1,fun j d' hj q=>?_⟩,fun a z=>.inl (h.s0 a z),h.h0.trans e,fun j hj d' q=>?_,fun j hj k hk d1 d2 q h1 h2 h3 h4=>?_,fun a z=>?_,fun j hj=>⟨qcN hi (h.lkd j hj).1,by rw [qe (fun z=>hl (by rw [z];exact hj))];exact (h.lkd j hj).2⟩,
  F,fun j hj d' q=>?_,fun j hj k hk h1 h2=>?_,fun j hj k hk h1 h2 r h3=>?_⟩
 ·have hij:i≠j:=fun z=>hj (by rw [z];exact .head _)
  rw [qe hij] at q ⊢
  obtain ⟨v,a,b⟩:=h.ds.2.2 j d' (fun z=>hj (.tail _ z)) q
  exact ⟨v,a,(b.sub sub).same e⟩
 ·by_cases hij:i=j
  ·subst hij
   rw [gi] at q;cases q
   exact ⟨p,gi',o,.inr rfl,fun z=>np (h.s0 p z),fun _=>h.h0.free hn,fun z=>absurd z hl⟩
  ·rw [qe hij] at q ⊢
   obtain ⟨q',a,b,c,n,w⟩:=h.own j (Zx hj hij) d' q
   exact ⟨q',a,(b.sub sub).same e,.inl c,n,w⟩
 ·have key:∀ m,Flt M m->∀ (d':Ka) (q:Kd),(ρ.set i (some d))[m]?=some (some d')->(σ.set i (some (.ref p)))[m]?=some (some (.ref q))->q≠p:=fun m hm d' q e1 e2 z=>by
   rw [qe (ne m hm.1)] at e1 e2
   obtain ⟨q',a,b,_⟩:=h.own m hm d' e1
   rw [e2] at a;cases a
   subst z
   exact b.dom hn
  by_cases ej:i=j
  ·by_cases ek:i=k
   ·rw [← ej,← ek]
   ·rw [← ej,gi'] at h3
    cases h3
    exact absurd rfl (key k (Zx hk ek) d2 p h2 h4)
  ·by_cases ek:i=k
   ·rw [← ek,gi'] at h4
    cases h4
    exact absurd rfl (key j (Zx hj ej) d1 p h1 h3)
   ·rw [qe ej] at h1 h3
    rw [qe ek] at h2 h4
    exact h.apart j (Zx hj ej) k (Zx hk ek) d1 d2 q h1 h2 h3 h4
 ·rcases z with z|rfl
  ·exact h.bnd a z
  ·exact .inr (.inl (h.h0.free hn))
 ·have hj':=YH hi hj
  rw [qe (ne j hj'.1)] at q ⊢
  obtain ⟨q',a,b,c⟩:=f.own j hj' d' q
  exact ⟨q',a,(b.sub sub).same e,fun r hr=>⟨.inl (c r hr).1,(c r hr).2⟩⟩
 ·have hj':=YH hi hj
  have hk':=YH hi hk
  unfold Has at h1 h2
  rw [qe (ne j hj'.1)] at h1
  rw [qe (ne k hk'.1)] at h2
  exact f.disj j hj' k hk' h1 h2
 ·have hk':=YH hi hk
  unfold Has at h1 h2
  rw [qe (ne k hk'.1)] at h2
  by_cases ej:i=j
  ·rw [← ej,gi'] at h3
   cases h3
   obtain ⟨d2,e2⟩:=h2
   obtain ⟨q',a,b,c⟩:=f.own k hk' d2 e2
   intro z
   obtain ⟨o2,z2,_⟩:=b.mut p z
   rw [hn] at z2;cases z2
  ·rw [qe ej] at h1 h3
   exact f.flat j (Zx hj ej) k hk' h1 h2 r h3
def insL (S:Av)(fp:ay):Av:=fun a=>S a\/a∈fp
theorem Dm.insL {fp:ay}(m:Dm S H)(h:∀ q∈fp,∃ o,H q=some o/\Qy o=true):Dm (insL S fp) H:=fun a ha=>by
 rcases ha with ha|ha
 ·exact m a ha
 ·exact h a ha
theorem qa1 {i j:Nat}(hj:j∈i::(i+1000)::M)(ne:i≠j)(n2:j≠i+1000):j∈M:=(Kr.mp ((Kr.mp hj).resolve_left fun z=>ne z.symm)).resolve_left n2
theorem Z4 {i j:Nat}(hj:Flt (i::(i+1000)::M) j)(n2:j≠i+1000):i≠j/\Flt M j:=by
 have ne:i≠j:=fun z=>hj.2 (by rw [← z];exact .tail _ (.head _))
 exact ⟨ne,qa1 hj.1 ne n2,fun z=>hj.2 (.tail _ (.tail _ z))⟩
theorem Yo {i j:Nat}(hi:i<1000)(hj:Dp (i::(i+1000)::M) j)(ne:i≠j)(n2:j≠i+1000):Dp M j:=by
 refine ⟨qa1 hj.1 ne n2,?_⟩
 rcases Kr.mp hj.2 with z|z
 ·omega
 ·rcases Kr.mp z with z|z
  ·omega
  ·exact z
theorem qd2 {i j:Nat}(hi:i<1000)(hj:Flt M j)(ne:i≠j):Flt (i::(i+1000)::M) j:=⟨.tail _ (.tail _ hj.1),fun z=>by
 rcases Kr.mp z with z|z
 ·omega
 ·rcases Kr.mp z with z|z
  ·omega
  ·exact hj.2 z⟩
theorem qcQ {i:Nat}(h:Has ρ i):i<ρ.length:=by
 obtain ⟨d,e⟩:=h
 exact (KQ.mp e).1
theorem OwnS.takeD (h:OwnS K G M L H S σ ρ){p:Kd}{fp:ay}{i:Nat}(hn:∀ q∈fp,H q=none)(e:Same H H')(o:DeepO K H' (insL S fp) fp p d)(hi:Out0 M i)(hl:i∉L)(hz:i<ρ.length)(hz2:ρ.length<=1000) :
  OwnS K G (i::(i+1000)::M) L H' (insL S fp) (σ.set i (some (.ref p))) (ρ.set i (some d)):=by
 have sub:∀ a,H a≠none->insL S fp a->S a:=fun a ha z=>by
  rcases z with z|z
  ·exact z
  ·exact absurd (hn a z) ha
 have hz':i<σ.length:=by rw [h.ds.2.1];exact hz
 have gi:(ρ.set i (some d))[i]?=some (some d):=KY hz
 have gi':(σ.set i (some (.ref p)))[i]?=some (some (.ref p)):=KY hz'
 have n2:∀ j,Has (ρ.set i (some d)) j->j≠i+1000:=fun j hj=>by
  have:=qcQ hj
  rw [Vp] at this
  omega
 obtain ⟨F,f⟩:=h.deep
 have fne:∀ j,j≠i->(if j=i then fp else F j)=F j:=fun j hj=>if_neg hj
 refine ⟨⟨(h.ds.1.same e).insL o.mut,by rw [Vp,Vp];exact h.ds.2.1,fun j d' hj q=>?_⟩,fun a z=>.inl (h.s0 a z),h.h0.trans e,fun j hj d' q=>?_,fun j hj k hk d1 d2 q h1 h2 h3 h4=>?_,fun a z=>?_,fun j hj=>?_,
  fun j=>if j=i then fp else F j,fun j hj d' q=>?_,fun j hj k hk h1 h2=>?_,fun j hj k hk h1 h2 r h3=>?_⟩
 ·have hij:i≠j:=fun z=>hj (by rw [z];exact .head _)
  rw [qe hij] at q ⊢
  obtain ⟨v,a,b⟩:=h.ds.2.2 j d' (fun z=>hj (.tail _ (.tail _ z))) q
  exact ⟨v,a,(b.sub sub).same e⟩
 ·obtain ⟨hij,hj'⟩:=Z4 hj (n2 j ⟨d',q⟩)
  rw [qe hij] at q ⊢
  obtain ⟨q',a,b,c,n,w⟩:=h.own j hj' d' q
  exact ⟨q',a,(b.sub sub).same e,.inl c,n,w⟩
 ·obtain ⟨ej,hj'⟩:=Z4 hj (n2 j ⟨d1,h1⟩)
  obtain ⟨ek,hk'⟩:=Z4 hk (n2 k ⟨d2,h2⟩)
  rw [qe ej] at h1 h3
  rw [qe ek] at h2 h4
  exact h.apart j hj' k hk' d1 d2 q h1 h2 h3 h4
 ·rcases z with z|z
  ·exact h.bnd a z
  ·exact .inr (.inl (h.h0.free (hn a z)))
 ·have ne:i≠j:=fun z=>hl (by rw [z];exact hj)
  exact ⟨qd2 hi.2.2 (h.lkd j hj).1 ne,by rw [qe ne];exact (h.lkd j hj).2⟩
 ·by_cases hij:i=j
  ·subst hij
   rw [gi] at q;cases q
   rw [if_pos rfl]
   exact ⟨p,gi',o,fun r hr=>⟨.inr hr,fun z=>h.ds.1.free (hn r hr) (h.s0 r z),h.h0.free (hn r hr)⟩⟩
  ·rw [fne j (KP hij)]
   have hj':=Yo hi.2.2 hj hij (n2 j ⟨d',q⟩)
   rw [qe hij] at q ⊢
   obtain ⟨q',a,b,c⟩:=f.own j hj' d' q
   exact ⟨q',a,(b.sub sub).same e,fun r hr=>⟨.inl (c r hr).1,(c r hr).2⟩⟩
 ·have old:∀ j,i≠j->Dp (i::(i+1000)::M) j->Has (ρ.set i (some d)) j->Has ρ j/\Dp M j/\∀ r∈F j,r∉fp:=fun j ne hj h1=>by
   have hj':=Yo hi.2.2 hj ne (n2 j h1)
   unfold Has at h1
   rw [qe ne] at h1
   refine ⟨h1,hj',fun r hr z=>?_⟩
   obtain ⟨d2,e2⟩:=h1
   obtain ⟨q',a,b,c⟩:=f.own j hj' d2 e2
   obtain ⟨o2,z2,_⟩:=b.mut r hr
   rw [hn r z] at z2;cases z2
  intro r hr hr'
  by_cases ej:i=j
  ·by_cases ek:i=k
   ·rw [← ej,← ek]
   ·rw [if_pos ej.symm] at hr
    rw [fne k (KP ek)] at hr'
    exact absurd hr ((old k ek hk h2).2.2 r hr')
  ·rw [fne j (KP ej)] at hr
   by_cases ek:i=k
   ·rw [if_pos ek.symm] at hr'
    exact absurd hr' ((old j ej hj h1).2.2 r hr)
   ·rw [fne k (KP ek)] at hr'
    exact f.disj j (old j ej hj h1).2.1 k (old k ek hk h2).2.1 (old j ej hj h1).1 (old k ek hk h2).1 r hr hr'
 ·obtain ⟨ej,hj'⟩:=Z4 hj (n2 j h1)
  obtain ⟨d1,e1⟩:=h1
  rw [qe ej] at e1 h3
  by_cases ek:i=k
  ·rw [if_pos ek.symm]
   intro z
   obtain ⟨q',a,b,c⟩:=h.own j hj' d1 e1
   rw [h3] at a;cases a
   exact b.dom (hn _ z)
  ·rw [fne k (KP ek)]
   have hk':=Yo hi.2.2 hk ek (n2 k h2)
   unfold Has at h2
   rw [qe ek] at h2
   exact f.flat j hj' k hk' ⟨d1,e1⟩ h2 r h3
theorem OwnS.write (h:OwnS K G M L H S σ ρ){p:Kd}{i:Nat}{o:HO}{d₀:Ka}(hi:Flt M i)(hl:i∉L)(e0:ρ[i]?=some (some d₀))(e1:σ[i]?=some (some (.ref p)))(hm:Qy o=true)(ow:OwnO K (upd H p o) S p d):OwnS K G M L (upd H p o) S σ (ρ.set i (some d)):=by
 obtain ⟨p',a,b,c,n,w,_⟩:=h.own i hi d₀ e0
 rw [e1] at a;cases a
 have off:Off S H (upd H p o):=fun b u z e=>by
  rw [qg (fun y=>z (by rw [y];exact c))];exact e
 have hz:i<ρ.length:=(KQ.mp e0).1
 have get:∀ m d',(ρ.set i (some d))[m]?=some (some d')->∃ d'',ρ[m]?=some (some d''):=fun m d' q=>by
  by_cases him:i=m
  ·subst him;exact ⟨_,e0⟩
  ·rw [qe him] at q;exact ⟨_,q⟩
 have get2:∀ m,Has (ρ.set i (some d)) m->Has ρ m:=fun m ⟨d',q⟩=>get m d' q
 have dne:∀ j,Dp M j->i≠j:=fun j hj z=>hi.2 (by rw [z];exact hj.2)
 obtain ⟨F,f⟩:=h.deep
 refine ⟨⟨h.ds.1.upd hm,by rw [Vp];exact h.ds.2.1,fun j d' hj q=>?_⟩,h.s0,fun a u q=>?_,fun j hj d' q=>?_,fun j hj k hk d1 d2 q h1 h2 h3 h4=>?_,h.bnd,fun j hj=>⟨(h.lkd j hj).1,by rw [qe (fun z=>hl (by rw [z];exact hj))];exact (h.lkd j hj).2⟩,
  F,fun j hj d' q=>?_,fun j hj k hk h1 h2=>f.disj j hj k hk (get2 j h1) (get2 k h2),fun j hj k hk h1 h2=>f.flat j hj k hk (get2 j h1) (get2 k h2)⟩
 ·have hij:i≠j:=fun z=>hj (by rw [← z];exact hi.1)
  rw [qe hij] at q
  obtain ⟨v,a,b⟩:=h.ds.2.2 j d' hj q
  exact ⟨v,a,b.off h.ds.1 off⟩
 ·have:a≠p:=fun z=>by subst z;rw [w hl] at q;cases q
  rw [qg this]
  exact h.h0 a u q
 ·by_cases hij:i=j
  ·subst hij
   rw [KY hz] at q;cases q
   exact ⟨p,e1,ow,c,n,w,fun z=>absurd z hl⟩
  ·rw [qe hij] at q
   obtain ⟨q',a,b',c',n',w'⟩:=h.own j hj d' q
   have:q'≠p:=fun z=>by subst z;exact hij (h.apart i hi j hj d₀ d' q' e0 q e1 a)
   exact ⟨q',a,b'.upd h.ds.1 c hm this,c',n',w'⟩
 ·obtain ⟨x1,y1⟩:=get j d1 h1
  obtain ⟨x2,y2⟩:=get k d2 h2
  exact h.apart j hj k hk x1 x2 q y1 y2 h3 h4
 ·rw [qe (dne j hj)] at q
  obtain ⟨q',a,b',c'⟩:=f.own j hj d' q
  exact ⟨q',a,b'.upd h.ds.1 c (f.flat i hi j hj ⟨_,e0⟩ ⟨_,q⟩ p e1),c'⟩
theorem OwnS.writeD (h:OwnS K G M L H S σ ρ){F:Nat->List Kd}(f:DeepF K G M H S σ ρ F){p q2:Kd}{i:Nat}{o:HO}{d₀:Ka}(hi:Dp M i)(e0:ρ[i]?=some (some d₀))(e1:σ[i]?=some (some (.ref p)))(hq:q2∈F i)(hm:Qy o=true)(ow:DeepO K (upd H q2 o) S (F i) p d) :
  OwnS K G M L (upd H q2 o) S σ (ρ.set i (some d)):=by
 obtain ⟨p',a,b,cc⟩:=f.own i hi d₀ e0
 rw [e1] at a;cases a
 obtain ⟨c,n,w⟩:=cc q2 hq
 have off:Off S H (upd H q2 o):=fun b u z e=>by
  rw [qg (fun y=>z (by rw [y];exact c))];exact e
 have hz:i<ρ.length:=(KQ.mp e0).1
 have get:∀ m d',(ρ.set i (some d))[m]?=some (some d')->∃ d'',ρ[m]?=some (some d''):=fun m d' q=>by
  by_cases him:i=m
  ·subst him;exact ⟨_,e0⟩
  ·rw [qe him] at q;exact ⟨_,q⟩
 have get2:∀ m,Has (ρ.set i (some d)) m->Has ρ m:=fun m ⟨d',q⟩=>get m d' q
 have dne:∀ j,Flt M j->i≠j:=fun j hj z=>hj.2 (by rw [← z];exact hi.2)
 refine ⟨⟨h.ds.1.upd hm,by rw [Vp];exact h.ds.2.1,fun j d' hj q=>?_⟩,h.s0,fun a u q=>?_,fun j hj d' q=>?_,fun j hj k hk d1 d2 q h1 h2 h3 h4=>?_,h.bnd,fun j hj=>⟨(h.lkd j hj).1,by rw [qe (dne j (h.lkd j hj).1)];exact (h.lkd j hj).2⟩,
  F,fun j hj d' q=>?_,fun j hj k hk h1 h2=>f.disj j hj k hk (get2 j h1) (get2 k h2),fun j hj k hk h1 h2=>f.flat j hj k hk (get2 j h1) (get2 k h2)⟩
 ·have hij:i≠j:=fun z=>hj (by rw [← z];exact hi.1)
  rw [qe hij] at q
  obtain ⟨v,a,b⟩:=h.ds.2.2 j d' hj q
  exact ⟨v,a,b.off h.ds.1 off⟩
 ·have e2:=h.h0 a u q
  by_cases ne:a=q2
  ·rw [ne,w] at q;cases q
  ·rw [qg ne];exact e2
 ·rw [qe (dne j hj)] at q
  obtain ⟨q',a,b',c',n',w'⟩:=h.own j hj d' q
  exact ⟨q',a,b'.upd h.ds.1 c hm (fun z=>by subst z;exact f.flat j hj i hi ⟨_,q⟩ ⟨_,e0⟩ _ a hq),c',n',w'⟩
 ·rw [qe (dne j hj)] at h1
  rw [qe (dne k hk)] at h2
  exact h.apart j hj k hk d1 d2 q h1 h2 h3 h4
 ·by_cases hij:i=j
  ·subst hij
   rw [KY hz] at q;cases q
   exact ⟨p,e1,ow,cc⟩
  ·rw [qe hij] at q
   obtain ⟨q',a,b',c'⟩:=f.own j hj d' q
   exact ⟨q',a,b'.upd h.ds.1 c (fun z=>hij (f.disj i hi j hj ⟨_,e0⟩ ⟨_,q⟩ _ hq z)),c'⟩
noncomputable def cut (P:Prop)(o:Option HO):Option HO:=@ite _ P (Classical.propDecidable P) none o
theorem Z1 {P:Prop}{o:Option HO}(h:P):cut P o=none:=if_pos h
theorem Jl {P:Prop}{o:Option HO}(h:¬ P):cut P o=o:=if_neg h
noncomputable def Gm.base (G:Gm)(S:Av)(H:Hp):Gm:={ G with H0:=fun a=>cut (S a/\G.H0 a=none) (H a) }
theorem ww (h:Same G.H0 H):Same G.H0 (G.base S H).H0:=fun a o q=>(Jl (fun z=>by rw [q] at z;cases z.2)).trans (h a o q)
theorem WD:Off S H (G.base S H).H0:=fun a o n q=>(Jl (fun z=>n z.1)).trans q
theorem qba:Same (G.base S H).H0 H:=fun a o q=>by
 have q:cut (S a/\G.H0 a=none) (H a)=some o:=q
 by_cases h:S a/\G.H0 a=none
 ·rw [Z1 h] at q;cases q
 ·rw [Jl h] at q;exact q
theorem OwnS.base (h:OwnS K G M L H S σ ρ):OwnS K (G.base S H) M L H S σ ρ:=by
 obtain ⟨F,f⟩:=h.deep
 refine ⟨h.ds,h.s0,qba,fun i hi d q=>?_,h.apart,fun a z=>?_,h.lkd,F,fun i hi d q=>let ⟨p,a,b,c⟩:=f.own i hi d q;⟨p,a,b,fun r hr=>⟨(c r hr).1,(c r hr).2.1,Z1 ⟨(c r hr).1,(c r hr).2.2⟩⟩⟩,f.disj,f.flat⟩
 ·obtain ⟨p,a,b,c,n,w,w'⟩:=h.own i hi d q
  exact ⟨p,a,b,c,n,fun hl=>Z1 ⟨c,w hl⟩,w'⟩
 ·rcases h.bnd a z with y|y|y
  ·exact .inl y
  ·exact .inr (.inl (Z1 ⟨z,y⟩))
  ·exact .inr (.inr y)
theorem OwnS.unbase {G':Gm}(s:Same G.H0 G'.H0)(e:G'.S0=G.S0)(e':G'.lk=G.lk)(h:OwnS K G' M L H S σ ρ):OwnS K G M L H S σ ρ:=by
 obtain ⟨F,f⟩:=h.deep
 refine ⟨h.ds,by rw [← e];exact h.s0,s.trans h.h0,fun i hi d q=>?_,h.apart,fun a z=>?_,by rw [← e'];exact h.lkd,F,fun i hi d q=>let ⟨p,a,b,c⟩:=f.own i hi d q;⟨p,a,b,fun r hr=>⟨(c r hr).1,by rw [← e];exact (c r hr).2.1,s.free (c r hr).2.2⟩⟩,f.disj,f.flat⟩
 ·obtain ⟨p,a,b,c,n,w,w'⟩:=h.own i hi d q
  exact ⟨p,a,b,c,by rw [← e];exact n,fun hl=>s.free (w hl),by rw [← e'];exact w'⟩
 ·rcases h.bnd a z with y|y|y
  ·exact .inl (by rw [← e];exact y)
  ·exact .inr (.inl (s.free y))
  ·exact .inr (.inr (by rw [← e'];exact y))
theorem OwnS.turn {G':Gm}{S':Av}{x:V}(s0:∀ a,G'.S0 a->S a)(sl:∀ i∈L,S (G'.lk i).1)(h:OwnS K G' M L H S' σ ρ)(q:Den K G'.H0 S x d):Den K H S' x d:=by
 refine (q.sub fun a ha z=>?_).same h.h0
 rcases h.bnd a z with y|y|⟨i,hi,rfl⟩
 ·exact s0 a y
 ·exact absurd y ha
 ·exact sl i hi
end
inductive Fr where
 | pl|nw|dp
def OutQ (K:Kb)(G:Gm)(M' Mb L:au)(fr:Fr)(D:Ends):Out->Prop
 | .nx ρ=>∀ σ' H' S',OwnS K G M' L H' S' σ' ρ->D.nx σ' H'
 | .rt d=>match fr with
  | .nw=>∀ p H',Same G.H0 H'->G.H0 p=none->¬ G.S0 p->OwnO K H' (insA G.S0 p) p d->D.rt (.ref p) H'
  | .dp=>∀ p fp H',Same G.H0 H'->(∀ q∈fp,G.H0 q=none/\¬ G.S0 q)->DeepO K H' (insL G.S0 fp) fp p d->D.rt (.ref p) H'
  | .pl=>∀ v H',Same G.H0 H'->Den K H' G.S0 v d->D.rt v H'
 | .bk ρ=>∀ σ' H' S',OwnS K G Mb L H' S' σ' ρ->D.bk σ' H'
 | .ct ρ=>∀ σ' H' S',OwnS K G Mb L H' S' σ' ρ->D.ct σ' H'
def tDS (K:Kb)(G:Gm)(M L M' Mb:au)(fr:Fr)(f:aq):TS:=fun D σ H=>∃ S ρ o,OwnS K G M L H S σ ρ/\f ρ=some o/\OutQ K G M' Mb L fr D o
def PDS (X:Cx)(G:Gm)(M L M' Mb:au)(fr:Fr)(s:Va)(f:aq):Prop:=PS X s (tDS X.K G M L M' Mb fr f)
def PDSs (X:Cx)(G:Gm)(M L M' Mb:au)(fr:Fr)(s:bc)(f:aq):Prop:=PSs X s (tDS X.K G M L M' Mb fr f)
def tF (K:Kb)(M:au)(f:aa):TE:=fun σ H Q=>∃ S ρ d,DenS K H S M σ ρ/\f ρ=some d/\∀ p H',Same H H'->H p=none->OwnO K H' (insA S p) p d->Q (.ref p) H'
def PF (X:Cx)(M:au)(e:Kp)(f:aa):Prop:=PE X e (tF X.K M f)
noncomputable def J4:Ka->Bool
 | .list ds=>Qg ds
 | _=>false
def YK (f:aa):Rho->Option Ka:=fun ρ=>ob (f ρ) fun d=>if J4 d=true then some d else none
def seqO (u w:aq)(ρ:Rho):Option Out:=ob (u ρ) fun o=>match o with | .nx ρ'=>w ρ'|o=>some o
section
variable {X:Cx}{G:Gm}{M M1 M2 M' Mb L:au}{fr:Fr}{a b c:Kp}{es:aG}{f g:aa}{p:ah}{pos:Pos}{s1:Va}{ss st1 st2:bc}{u w:aq}
theorem OwnO.flat {K:Kb}{H:Hp}{S S':Av}{p:Kd}{d:Ka}(fl:J4 d=true)(h:OwnO K H S p d):OwnO K H S' p d:=by
 cases h with
 | lst h t=>exact .lst h (t.flat fl)
 | dct h k t=>cases fl
theorem qX:PDSs X G M L M Mb fr [] sN:=qb7.weak fun D σ H ⟨S,ρ,o,hs,e,q⟩=>by cases e;exact q σ H S hs
theorem ql (h1:PDS X G M L M1 Mb fr s1 u)(h2:PDSs X G M1 L M2 Mb fr ss w):PDSs X G M L M2 Mb fr (s1::ss) (seqO u w) :=
 (qaK h1 h2).weak fun D σ H ⟨S,ρ,o,hs,e,q⟩=>by
  obtain ⟨o1,e1,e⟩:=qd e
  refine ⟨S,ρ,o1,hs,e1,?_⟩
  cases o1 with
  | nx ρ'=>exact fun σ' H' S' hs'=>⟨S',ρ',o,hs',e,q⟩
  | rt d=>cases e;exact q
  | bk d=>cases e;exact q
  | ct d=>cases e;exact q
theorem qx (h1:PDS X G M L M' Mb fr s1 u):PDSs X G M L M' Mb fr [s1] u:=qb8 h1
def subB (A B:au):Bool:=A.all fun i=>B.contains i&&(!(B.contains (i+1000))||A.contains (i+1000))
theorem Yh {A B:au}(h:subB A B=true):∀ i∈A,i∈B:=fun i hi=>by
 have:=Vk.mp h i hi
 rw [Kt] at this
 simpa using this.1
theorem Y8 {A B:au}(h:subB A B=true):SubM A B:=⟨Yh h,fun i hi hk=>by
 have:=Vk.mp h i hi
 rw [Kt,Xd] at this
 rcases this.2 with z|z
 ·rw [Bool.not_eq_true',← Bool.not_eq_true] at z
  exact absurd (by simpa using hk) z
 ·simpa using z⟩
theorem Wa (h:PDS X G M1 L M' Mb fr s1 u)(h1:subB M1 M=true:=by decide)(h2:subB L M1=true:=by decide):PDS X G M L M' Mb fr s1 u :=
 h.weak fun D σ H ⟨S,ρ,o,hs,e,q⟩=>let ⟨S',hs'⟩:=hs.frz (Y8 h1) fun i hi _=>Yh h2 i hi;⟨S',ρ,o,hs',e,q⟩
theorem OutQ.drop {K:Kb}{D:Ends}{o:Out}(h1:subB M1 M'=true)(h2:subB L M1=true)(q:OutQ K G M1 Mb L fr D o):OutQ K G M' Mb L fr D o:=by
 cases o with
 | nx ρ=>exact fun σ' H' S' hs=>let ⟨S2,hs2⟩:=hs.frz (Y8 h1) fun i hi _=>Yh h2 i hi;q σ' H' S2 hs2
 | rt d=>exact q
 | bk ρ=>exact q
 | ct ρ=>exact q
theorem qbR (h:PDSs X G M L M' Mb fr ss u)(h1:subB M1 M'=true:=by decide)(h2:subB L M1=true:=by decide):PDSs X G M L M1 Mb fr ss u :=
 h.weak fun D σ H ⟨S,ρ,o,hs,e,q⟩=>⟨S,ρ,o,hs,e,q.drop h1 h2⟩
theorem qN (h:PD X [] a f):PDS X G M L M' Mb .pl (.Return (some a) pos) (sRet f) :=
 (qdA h).weak fun D σ H ⟨S,ρ,o,hs,e,q⟩=>by
  obtain ⟨d,e1,e⟩:=qd e
  cases e
  exact ⟨G.S0,ρ,d,hs.den,e1,fun v H' g1 d1=>q v H' (hs.h0.trans g1) d1⟩
theorem qaD (i:Nat){x:Str}(hv:Vis X.env.scope x)(hN:X.N[i]?=some x:=by rfl)(hd:(x==("__debug__" : Str))=false:=by decide +kernel)
  (hcd:(x==("__classdict__" : Str))=false:=by decide +kernel):PE X (.Name x pos) (fun σ H Q=>∃ v,σ[i]?=some (some v)/\Q v H):=qaF hN hv hd hcd
theorem Z5 {i:Nat}{ρ:Rho}{d:Ka}(e:vr i ρ=some d):ρ[i]?=some (some d):=by
 have e:(ρ[i]?).join=some d:=e
 cases h:ρ[i]? with
 | none=>rw [h] at e;cases e
 | some o=>rw [h] at e;exact congrArg some e
theorem zm (hc:PDT X [] c p)(h1:PDSs X G M L M' Mb fr st1 u)(h2:PDSs X G M L M' Mb fr st2 w):PDS X G M L M' Mb fr (.If c st1 st2 pos) (sIf p u w) :=
 (ps_if hc h1 h2).weak fun D σ H ⟨S,ρ,o,hs,e,q⟩=>by
  obtain ⟨d,e1,e⟩:=qd e
  refine ⟨G.S0,ρ,d,hs.den,e1,fun H1 g1=>?_⟩
  cases d with
  | true=>exact iteT ⟨S,ρ,o,hs.same g1,e,q⟩
  | false=>exact iteF ⟨S,ρ,o,hs.same g1,e,q⟩
def tDG (K:Kb)(G:Gm)(M L:au)(g:ag):TG:=fun v σ H Q=>∃ S ρ d ρ',OwnS K G M L H S σ ρ/\Den K H S v d/\g d ρ=some ρ'/\∀ σ' H',Same H H'->OwnS K G M L H' S σ' ρ'->Q σ' H'
def tDGs (K:Kb)(G:Gm)(M L:au)(g:aB):TGs:=fun vs σ H Q=>∃ S ρ ds ρ',OwnS K G M L H S σ ρ/\DenL K H S vs ds/\g ds ρ=some ρ'/\∀ σ' H',Same H H'->OwnS K G M L H' S σ' ρ'->Q σ' H'
def PDG (X:Cx)(G:Gm)(M L:au)(t:Kp)(g:ag):Prop:=PG X t (tDG X.K G M L g)
def PDGs (X:Cx)(G:Gm)(M L:au)(t:aG)(g:aB):Prop:=PGs X t (tDGs X.K G M L g)
theorem qav (i:Nat){x:Str}(hN:X.N.Nodup)(hx:Loc X.env.scope x)(hM:i∉M)(hi:X.N[i]?=some x:=by rfl)(hf:X.fn x=true\/X.env.scope.names.lookup x=some .local:=by first|exact .inl rfl|exact .inr rfl|assumption):PDG X G M L (.Name x pos) (gNm i) :=
 (Y4 hN hi hx hf).weak fun v σ H Q ⟨S,ρ,d,ρ',hs,hd,e,q⟩=>by
  cases e
  exact q _ H (Same.refl H) (hs.set hd hM)
theorem yh:PDGs X G M L [] gsN :=
 qb2.weak fun v σ H Q ⟨S,ρ,d,ρ',hs,hd,e,q⟩=>by
  cases hd with
  | nil=>cases e;exact ⟨rfl,q _ H (Same.refl H) hs⟩
  | cons a t=>cases e
theorem QW {t:Kp}{ts:aG}{g1:ag}{g2:aB}(h1:PDG X G M L t g1)(h2:PDGs X G M L ts g2)(hs:(assignEach (t::ts) X.env).map (·.2)=assign t X.env::(assignEach ts X.env).map (·.2):=by rfl) :
  PDGs X G M L (t::ts) (gsC g1 g2) :=
 (qaG h1 h2 hs).weak fun v σ H Q ⟨S,ρ,d,ρ',hs,hd,e,q⟩=>by
  cases hd with
  | nil=>cases e
  | cons a t =>
   obtain ⟨ρ1,e1,e⟩:=qd e
   exact ⟨_,_,rfl,S,ρ,_,ρ1,hs,a,e1,fun σ' H' g1 hs'=>⟨S,ρ1,_,ρ',hs',t.same g1,e,fun σ2 H2 g2 hs2=>q σ2 H2 (g1.trans g2) hs2⟩⟩
theorem Y0 {ts:aG}{k:Nat}{n:Nat}{g:aB}(hc:X.calm=true)(h:PDGs X G M L ts g)(hn:(assignEach ts X.env).length=n:=by rfl)(hst:(assignEach ts X.env).findIdx? (·.1)=none:=by rfl):PDG X G M L (.Tuple ts k pos) (unpD n g) :=
 (qdw hc h hn hst).weak fun v σ H Q ⟨S,ρ,d,ρ',hs,hd,e,q⟩=>by
  cases hd with
  | @tuple a xs ds h t =>
   have e:(if ds.length=n then g ds ρ else none)=some ρ':=e
   split at e
   ·rename_i hl
    exact ⟨_,_,rfl,h,by rw [t.length];exact hl,S,ρ,_,ρ',hs,t,e,q⟩
   ·cases e
  | _=>cases e
theorem qG (i:Nat){x:Str}{p':Pos}(hN:X.N.Nodup)(hx:Loc X.env.scope x)(hi:X.N[i]?=some x)(hs:swapsWith a (some (.Name x p')) pos.line X.env=pure false)(hf:X.fn x=true\/X.env.scope.names.lookup x=some .local)(hM:i∉M)(he:PD X M a f) :
  PDS X G M L M Mb fr (.Assign [.Name x p'] a pos) (sSet i f) :=
 (Yc hN hi hx he hs hf).weak fun D σ H ⟨S,ρ,o,hs,e,q⟩=>by
  obtain ⟨d,e1,e⟩:=qd e
  cases e
  exact ⟨S,ρ,d,hs.ds,e1,fun v H1 g1 d1=>q _ H1 S ((hs.same g1).set d1 hM)⟩
def zX (i:Nat)(f:aa):Rho->Option Out:=fun ρ=>if i<ρ.length then ob (f ρ) fun d=>some (.nx (ρ.set i (some d))) else none
theorem jt (i:Nat){x:Str}{p':Pos}(hN:X.N.Nodup)(hx:Loc X.env.scope x)(hi:X.N[i]?=some x)(hs:swapsWith a (some (.Name x p')) pos.line X.env=pure false)(hf:X.fn x=true\/X.env.scope.names.lookup x=some .local)(hM:Out0 M i)(hL:i∉L)(he:PF X M a f) :
  PDS X G M L (i::M) Mb fr (.Assign [.Name x p'] a pos) (zX i f) :=
 (Yc hN hi hx he hs hf).weak fun D σ H ⟨S,ρ,o,hs,e,q⟩=>by
  unfold zX at e
  split at e
  ·rename_i hz
   obtain ⟨d,e1,e⟩:=qd e
   cases e
   exact ⟨S,ρ,d,hs.ds,e1,fun p H1 g1 n o=>q _ H1 _ (hs.take n g1 o hM hL hz)⟩
  ·cases e
theorem Wc (i:Nat){x:Str}{p':Pos}(hN:X.N.Nodup)(hx:Loc X.env.scope x)(hi:X.N[i]?=some x)(hs:swapsWith a (some (.Name x p')) pos.line X.env=pure false)(hf:X.fn x=true\/X.env.scope.names.lookup x=some .local)(hM:Out0 M i)(hL:i∉L)(he:PF X [] a f) :
  PDS X G M L (i::M) Mb fr (.Assign [.Name x p'] a pos) (zX i (YK f)) :=
 (Yc hN hi hx he hs hf).weak fun D σ H ⟨S,ρ,o,hs,e,q⟩=>by
  unfold zX at e
  split at e
  ·rename_i hz
   obtain ⟨d,e1,e⟩:=qd e
   cases e
   obtain ⟨d',e3,e4⟩:=qd e1
   split at e4
   ·rename_i hf
    cases e4
    exact ⟨G.S0,ρ,d,hs.den,e3,fun p H1 g1 n o=>q _ H1 _ (hs.take n g1 (o.flat hf) hM hL hz)⟩
   ·cases e4
  ·cases e
def forD (g:ag)(body:aq):List Ka->Rho->Option Out
 | [],ρ=>some (.nx ρ)
 | d::ds,ρ=>ob (g d ρ) fun ρ1=>ob (body ρ1) fun o=>match o with
  | .nx ρ'=>forD g body ds ρ'
  | .ct ρ'=>forD g body ds ρ'
  | .bk ρ'=>some (.nx ρ')
  | .rt r=>some (.rt r)
def sFor (fi:ae)(g:ag)(u:aq):Rho->Option Out:=fun ρ=>ob (fi ρ) fun ds=>forD g u ds ρ
theorem OutQ.based {K:Kb}{G':Gm}{D:Ends}{o:Out}(s:Same G.H0 G'.H0)(e:G'.S0=G.S0)(e':G'.lk=G.lk)(q:OutQ K G M' Mb L fr D o):OutQ K G' M' Mb L fr D o:=by
 cases o with
 | nx ρ=>exact fun σ' H' S' hs=>q σ' H' S' (hs.unbase s e e')
 | rt d =>
  cases fr with
  | nw=>exact fun p H' h0 n n' o=>q p H' (s.trans h0) (s.free n) (by rw [← e];exact n') (by rw [← e];exact o)
  | dp=>exact fun p fp H' h0 n o=>q p fp H' (s.trans h0) (fun r hr=>⟨s.free (n r hr).1,by rw [← e];exact (n r hr).2⟩) (by rw [← e];exact o)
  | pl=>exact fun v H' h0 d=>q v H' (s.trans h0) (by rw [← e];exact d)
 | bk ρ=>exact fun σ' H' S' hs=>q σ' H' S' (hs.unbase s e e')
 | ct ρ=>exact fun σ' H' S' hs=>q σ' H' S' (hs.unbase s e e')
theorem QX {tg iter:Kp}{body:bc}{fi:ae}{g:ag}(hp:PassesOwn (model X.prog X.w) X.A X.env X.xe)(hc:X.calm=true)(hi:PDI X M tg iter fi)(hg:∀ G,PDG X G M L tg g)(hb:∀ G,PDSs X G M L M M fr body u)
  (hs:∀ x,foldedSetIterable iter X.env x=pure x:=by intro _;rfl):PDS X G M L M Mb fr (.For tg iter body [] pos) (sFor fi g u):=by
 have hg':PG X tg (fun v σ H Q=>∃ G,tDG X.K G M L g v σ H Q):=fun pins s σ H v u Q I r ⟨G,q⟩=>hg G pins s σ H v u Q I r q
 have hb':PSs X body (fun D σ H=>∃ G,tDS X.K G M L M M fr u D σ H):=fun pins s σ H D I ⟨G,q⟩=>hb G pins s σ H D I q
 refine (qdz hp hc hi hg' hb' hs).weak fun D σ H ⟨S,ρ,o,os,e,q⟩=>?_
 obtain ⟨ds,e1,e⟩:=qd e
 refine ⟨S,ρ,ds,os.ds,e1,fun J H1 g1 hJ0=>?_⟩
 have os1:=os.same g1
 have hJ:IsIt X.K S J ((G.base S H1).H0) ds:=hJ0 _ WD
 have bs:Same G.H0 (G.base S H1).H0:=ww os1.h0
 have bo:=os1.base
 have sl:=os1.lks
 generalize hG:G.base S H1=G1 at hJ bs bo
 have eS:G1.S0=G.S0:=by rw [← hG];rfl
 have eL:G1.lk=G.lk:=by rw [← hG];rfl
 have sl1:∀ i∈L,S (G1.lk i).1:=by rw [eL];exact sl
 have s01:∀ a,G1.S0 a->S a:=by rw [eS];exact os.s0
 refine ⟨fun i m σ' H'=>m=ds.length-i/\i<=ds.length/\∃ S' ρ o,OwnS X.K G1 M L H' S' σ' ρ/\forD g u (ds.drop i) ρ=some o/\OutQ X.K G M Mb L fr D o,⟨ds.length,by simp,Us _,S,ρ,o,bo,e,q⟩,?_⟩
 rintro i m σ' H' ⟨rfl,hi,S',ρ',o',hs',e',q'⟩
 by_cases hlt:i<ds.length
 ·rw [Vl hlt] at e'
  obtain ⟨ρ1,e2,e'⟩:=qd e'
  obtain ⟨o1,e3,e'⟩:=qd e'
  have key:∀ N:St->Hp->Prop,OutQ X.K G1 M M L fr { D with nx:=N,ct:=N,bk:=D.nx } o1->∀ x H2,J.yld i H' x H2->∃ G,tDG X.K G M L g x σ' H2 fun σ2 H2=>∃ G,tDS X.K G M L M M fr u { D with nx:=N,ct:=N,bk:=D.nx } σ2 H2:=fun N hN x H2 y=>by
   obtain ⟨e4,yd⟩:=hJ.yld i H' x H2 hs'.h0 y
   exact ⟨G1,S',ρ',_,ρ1,hs'.same e4,yd _ (KI hlt) S' fun y e q=>(hs'.turn s01 sl1 q).same e4,e2,fun σ2 H3 g3 hs3=>⟨G1,S',ρ1,o1,hs3,e3,hN⟩⟩
  refine .inr ⟨hJ.go i H' hs'.h0 hlt,?_⟩
  have next:∀ ρ2,forD g u (ds.drop (i+1)) ρ2=some o'->∃ N:St->Hp->Prop,(∀ σ' H'',N σ' H''->∃ m',m'<ds.length-i/\(m'=ds.length-(i+1)/\i+1<=ds.length/\∃ S' ρ o,OwnS X.K G1 M L H'' S' σ' ρ/\forD g u (ds.drop (i+1)) ρ=some o/\OutQ X.K G M Mb L fr D o))/\∀ σ2 H2 S2,OwnS X.K G1 M L H2 S2 σ2 ρ2->N σ2 H2:=fun ρ2 e4 =>
   ⟨fun σ2 H2=>∃ S2,OwnS X.K G1 M L H2 S2 σ2 ρ2,fun σ2 H2 ⟨S2,hs3⟩=>⟨ds.length-(i+1),by omega,rfl,hlt,S2,ρ2,o',hs3,e4,q'⟩,fun σ2 H2 S2 hs3=>⟨S2,hs3⟩⟩
  cases o1 with
  | nx ρ2 =>
   obtain ⟨N,n1,n2⟩:=next ρ2 e'
   exact ⟨N,n1,key N fun σ3 H3 S3 hs3=>n2 σ3 H3 S3 hs3⟩
  | ct ρ2 =>
   obtain ⟨N,n1,n2⟩:=next ρ2 e'
   exact ⟨N,n1,key N fun σ3 H3 S3 hs3=>n2 σ3 H3 S3 hs3⟩
  | bk ρ2 =>
   cases e'
   exact ⟨fun _ _=>False,fun _ _ z=>z.elim,key _ fun σ3 H3 S3 hs3=>q' σ3 H3 S3 (hs3.unbase bs eS eL)⟩
  | rt r =>
   cases e'
   refine ⟨fun _ _=>False,fun _ _ z=>z.elim,key _ ?_⟩
   have q2:OutQ X.K G1 M Mb L fr D (.rt r):=q'.based bs eS eL
   exact q2
 ·have hi':i=ds.length:=by omega
  subst hi'
  rw [XG] at e'
  cases e'
  exact .inl ⟨hJ.stop H' hs'.h0,q' σ' H' S' (hs'.unbase bs eS eL)⟩
end
noncomputable def outD:Out->Option Ka
 | .rt d=>some d
 | .nx _=>some .none
 | _=>none
def rho0 (n:Nat)(ds:ao):Rho:=ds.map some++Kn (n-ds.length) none
def G0 (H:Hp)(S:Av):Gm:=⟨H,S,fun _=>(0,.none)⟩
theorem OwnS.start {K:Kb}{H:Hp}{S:Av}{vs:List V}{ds:ao}(m:Dm S H)(h:DenL K H S vs ds)(N:az):OwnS K (G0 H S) [] [] H S (start N vs) (rho0 N.length ds) :=
 ⟨DenS.start m h N,fun _ z=>z,Same.refl _,(fun _ h=>nomatch h.1),(fun _ h=>nomatch h.1),fun _ z=>.inl z,(fun _ h=>nomatch h),fun _=>[],(fun _ h=>nomatch h.1),(fun _ h=>nomatch h.1),(fun _ h=>nomatch h.1)⟩
structure FunG (K:Kb)(x qual:Str)(st:Va)(f:Kd)(fd:Vs):Prop where
 ex:∃ (oc dV:Kc) (od:aS) (kV doc pm:Kc) (an:aS) (cdv ct:Kc) (osl:aF),
  fd=VP x qual (zW st) (zr st) (qp st) dV kV doc pm an cdv ct/\K.lookup f=some ⟨oc,od,.func fd,osl⟩/\Uw K cdv qual=true
 kp:VW K (.ref f)=true
theorem Fun.g {K:Kb}{x qual:Str}{st:Va}{f:Kd}{fd:Vs}(F:Fun K x qual st f fd):FunG K x qual st f fd:=by
 obtain ⟨oc,od,kV,doc,pm,an,cdv,ct,osl,e,lk,hcd⟩:=F.ex
 exact ⟨⟨oc,_,od,kV,doc,pm,an,cdv,ct,osl,e,lk,hcd⟩,F.kp⟩
section
variable {P:Kw}{w:KB}{K:Kb}{mg:ar}{base:KC}
theorem FunG.ok {x qual:Str}{st:Va}{f:Kd}{fd:Vs}{N ps:az}{k:Nat}{sp:Sp}(F:FunG K x qual st f fd)(S:FnScope N ps (qp st))(len:∀ vs H Q E,sp vs H Q E->vs.length=ps.length)
  (hbody:∀ (cdv:Kc) (A:KG) (outer:aX) (s:Ke) (H:Hp) (vs:List V) (Q:VK) (E:XK),Room k (A.deeper (envOfC qual (qp st) s.heap.objs.size f cdv))->sp vs H Q E->
   ∃ t,PSs (cxOf CX0 P w K mg base N qual (qp st) f cdv A outer s H E).nox (zr st) t/\t { nx:=fun _ H'=>Q .non H',rt:=Q } (start N vs) H):FnOk P w K mg base CX0 (k+1) f fd ps sp:=by
 obtain ⟨oc,dV,od,kV,doc,pm,an,cdv,ct,osl,rfl,lk,hcd⟩:=F.ex
 refine fn_of lk hcd S len fun A outer s H vs Q E hr hsp=>?_
 obtain ⟨t,h,q⟩:=hbody cdv A outer s H vs Q E hr hsp
 exact ⟨t,h.nox,q⟩
theorem FunG.pure {x qual:Str}{st:Va}{f:Kd}{fd:Vs}{N ps:az}{k n:Nat}{u:aq}{M':au}(F:FunG K x qual st f fd)(S:FnScope N ps (qp st))(hn:ps.length=n)
  (hbody:∀ (cdv:Kc) (A:KG) (outer:aX) (s:Ke) (H:Hp) (E:XK),Room k (A.deeper (envOfC qual (qp st) s.heap.objs.size f cdv))->∀ G:Gm,
   PDSs (cxOf CX0 P w K mg base N qual (qp st) f cdv A outer s H E).nox G [] [] M' [] .pl (zr st) u) :
  FnOk P w K mg base CX0 (k+1) f fd ps (spF K n fun ds=>ob (u (rho0 N.length ds)) outD):=by
 refine F.ok S (fun vs H Q E h=>?_) (fun cdv A outer s H vs Q E hr h=>?_)
 ·obtain ⟨_,ds,d,_,h1,h2,_⟩:=h
  rw [h1.length,h2,hn]
 ·obtain ⟨Sv,ds,d,m,h1,h2,e,q⟩:=h
  obtain ⟨o,e1,e⟩:=qd e
  refine ⟨_,hbody cdv A outer s H E hr (G0 H Sv),Sv,rho0 N.length ds,o,OwnS.start m h1 N,e1,?_⟩
  cases o with
  | rt r=>cases e;exact q
  | nx ρ=>cases e;exact fun σ' H' S' hs=>q _ H' hs.h0 .none
  | bk ρ=>cases e
  | ct ρ=>cases e
theorem Fun.pure {x qual:Str}{st:Va}{f:Kd}{fd:Vs}{N ps:az}{k n:Nat}{u:aq}{M':au}(F:Fun K x qual st f fd)(S:FnScope N ps (qp st))(hn:ps.length=n)
  (hbody:∀ (cdv:Kc) (A:KG) (outer:aX) (s:Ke) (H:Hp) (E:XK),Room k (A.deeper (envOfC qual (qp st) s.heap.objs.size f cdv))->∀ G:Gm,
   PDSs (cxOf CX0 P w K mg base N qual (qp st) f cdv A outer s H E).nox G [] [] M' [] .pl (zr st) u) :
  FnOk P w K mg base CX0 (k+1) f fd ps (spF K n fun ds=>ob (u (rho0 N.length ds)) outD) :=
 F.g.pure S hn hbody
structure Known (P:Kw)(w:KB)(K:Kb)(mg:ar)(base:KC)(x:Str)(n k:Nat)(h:av):Prop where
 ex:∃ (f:Kd) (fd:Vs) (ps:az),FnOk P w K mg base CX0 k f fd ps (spF K n h)/\mg x=some (.ref f)/\VW K (.ref f)=true/\Binds K fd ps []
end
section
variable {X:Cx}{G:Gm}{M M' Mb L:au}{fr:Fr}{a b c:Kp}{es:aG}{f g:aa}{p:ah}{pos:Pos}{u:aq}
theorem qR {x:Str}{p:Pos}{n k k':Nat}{h:av}{fs:ae}(F:Known X.prog X.w X.K X.mg X.base x n k h)(hr:Room k' X.A)(hk:k<=k')(hg:Gl X x)(ha:PDA X M (a::es) fs)(hl:(a::es).length=n)
  (hdb:(x==("__debug__" : Str))=false:=by decide +kernel) (he:starEach (a::es) X.env=(false,eval a X.env)::starEach es X.env:=by rfl) (hpl:(backTo pos (starEach es X.env)).any (·.1)=false:=by rfl) :
  PD X M (.Call (.Name x p) (a::es) [] pos) (evC n fs h):=by
 obtain ⟨f,fd,ps,F,m,kp,b⟩:=F.ex
 exact qbP F (hr.mono hk) hg m kp b pass0 ha hl hdb he hpl
theorem OwnO.laid {K:Kb}{H:Hp}{S:Av}{p:Kd}{vs:List V}{ds:ao}(n:H p=none)(t:DenL K H S vs ds):OwnO K (L2.upd H p (.lst vs)) (insA S p) p (.list ds) :=
 .lst qF ((t.sub fun a ha z=>z.elim id fun y=>absurd (by rw [y];exact n) ha).same (Same.lay n))
theorem Jy {fs:ae}(h:PDA X M es fs):PF X M (.List es pos) (evA fs lstD) :=
 (qaB h).weak fun σ H Q ⟨S,ρ,d,hs,e,q⟩=>by
  obtain ⟨xs,e1,e⟩:=qd e
  obtain ⟨hz,rfl⟩:=j5 e
  exact ⟨S,ρ,xs,hs,e1,fun vs H1 g1 d1=>⟨Vu (qZ (by rw [d1.length];exact hz)),fun p hp=>q _ _ (g1.lay' hp) (g1.free hp) (OwnO.laid hp d1)⟩⟩
noncomputable def appD:Ka->Ka->Option Ka
 | .list ds,d=>if ds.length<1000 then some (.list (ds++[d])) else none
 | _,_=>none
def sApp (i:Nat)(f:aa):Rho->Option Out:=fun ρ=>ob (vr i ρ) fun l=>ob (f ρ) fun d=>ob (appD l d) fun l'=>some (.nx (ρ.set i (some l')))
theorem wu {l d l':Ka}(e:appD l d=some l'):∃ ds,l=.list ds/\ds.length<1000/\l'=.list (ds++[d]):=by
 unfold appD at e
 split at e
 ·split at e
  ·rename_i hz;cases e;exact ⟨_,rfl,hz,rfl⟩
  ·cases e
 ·cases e
theorem Off.upd {S:Av}{H:Hp}{p:Kd}{o:HO}(c:S p):Off S H (L2.upd H p o):=fun b u z e=>by
 rw [qg (fun y=>z (by rw [y];exact c))];exact e
theorem Jx (i:Nat){x:Str}{px apos cpos:Pos}(hv:Vis X.env.scope x)(hM:Flt M i)(hL:i∉L)(he:PD X M a f)(hN:X.N[i]?=some x:=by rfl)(hd:(x==("__debug__" : Str))=false:=by decide +kernel)(hcd:(x==("__classdict__" : Str))=false:=by decide +kernel)
  (hbase:attributeBase (.Name x px) "append" X.env (eval (.Name x px) X.env)=eval (.Name x px) X.env:=by rfl)
  (hfew:((backTo cpos (starEach [a] X.env)).all (fun x=>!x.1)&&(backToKw cpos (keywordEach [] X.env)).all (fun x=>x.1.isSome)
   && decide ([a].length+([]:List Keyword).length+(if ([]:List Keyword).isEmpty then 0 else 1)<30))=true:=by rfl)
  (hline:(apos.endLine==cpos.line)=true:=by rfl) (hs:starEach [a] X.env=(false,eval a X.env)::starEach [] X.env:=by rfl) (hplain:(backTo cpos (starEach [] X.env)).any (·.1)=false:=by rfl)
  (hsw:swapsWith (.Call (.Attribute (.Name x px) "append" apos) [a] [] cpos) none pos.line X.env=pure false:=by rfl) :
  PDS X G M L M Mb fr (.Expr (.Call (.Attribute (.Name x px) "append" apos) [a] [] cpos) pos) (sApp i f) :=
 (qb6 (pe_bm PySem.F.plainAttrs_list Nb PySem.F.type_list_append wY (qaD i hv hN hd hcd) (QK he QV hs) hbase hfew hline hs hplain) hsw).weak fun D σ H ⟨S,ρ,o,os,e,q⟩=>by
  obtain ⟨l,e1,e⟩:=qd e
  obtain ⟨d,e2,e⟩:=qd e
  obtain ⟨l',e3,e⟩:=qd e
  cases e
  obtain ⟨ds,rfl,hz,rfl⟩:=wu e3
  obtain ⟨pp,a1,b1,c1,n1,w1,_⟩:=os.own i hM _ (Z5 e1)
  cases b1 with
  | @lst xs _ h t =>
   refine ⟨_,a1,.inl ⟨rfl,_,SqL.of h⟩,S,ρ,[d],os.ds,by show ob (f ρ) _=_;rw [e2];rfl,fun vs H2 g2 dl=>?_⟩
   obtain ⟨v,rfl,dv⟩:=dl.inv1
   have os2:=os.same g2
   refine ⟨pp,xs,v,rfl,rfl,g2 _ _ h,KD (by rw [t.length];exact hz) (Vu (qZ (Kl _))),?_⟩
   exact q _ _ _ (os2.write hM hL (Z5 e1) a1 rfl (.lst qF (((t.same g2).snoc dv).off os2.ds.1 (Off.upd c1))))
end
section
variable {X:Cx}{G:Gm}{M M' Mb L:au}{fr:Fr}{a b c:Kp}{es:aG}{f g:aa}{p:ah}{pos:Pos}{u:aq}
def Qa (t:ah)(body:aq):Nat->Rho->Option Out
 | 0,_=>none
 | n+1,ρ=>ob (t ρ) fun b=>if b=true then ob (body ρ) fun o=>match o with
   | .nx ρ'=>Qa t body n ρ'
   | .ct ρ'=>Qa t body n ρ'
   | .bk ρ'=>some (.nx ρ')
   | .rt r=>some (.rt r)
  else some (.nx ρ)
def Ye (t:ah)(body:aq):Rho->Option Out:=Qa t body 1000000
theorem Wd {body:bc}(hp:PassesOwn (model X.prog X.w) X.A X.env X.xe)(hc:PDT X [] c p)(hb:PDSs X G M L M M fr body u):PDS X G M L M Mb fr (.While c body [] pos) (Ye p u) :=
 (qaJ hp hc hb).weak fun D σ H ⟨S,ρ,o,os,e,q⟩=>by
  refine ⟨fun m σ' H'=>∃ S' ρ' o',OwnS X.K G M L H' S' σ' ρ'/\Qa p u m ρ'=some o'/\OutQ X.K G M Mb L fr D o',⟨1000000,S,ρ,o,os,e,q⟩,?_⟩
  rintro m σ' H' ⟨S',ρ',o',os',e',q'⟩
  cases m with
  | zero=>cases e'
  | succ m =>
   obtain ⟨b,e1,e'⟩:=qd e'
   refine ⟨G.S0,ρ',b,os'.den,e1,fun H1 g1=>?_⟩
   have os1:=os'.same g1
   cases b with
   | false =>
    cases e'
    exact iteF (q' σ' H1 S' os1)
   | true =>
    rw [if_pos rfl] at e'
    obtain ⟨o1,e2,e'⟩:=qd e'
    refine iteT ?_
    have next:∀ ρ2,Qa p u m ρ2=some o'->∃ N:St->Hp->Prop,(∀ σ' H'',N σ' H''->∃ m',m'<m+1/\∃ S' ρ' o',OwnS X.K G M L H'' S' σ' ρ'/\Qa p u m' ρ'=some o'/\OutQ X.K G M Mb L fr D o')/\∀ σ2 H2 S2,OwnS X.K G M L H2 S2 σ2 ρ2->N σ2 H2:=fun ρ2 e4 =>
     ⟨fun σ2 H2=>∃ S2,OwnS X.K G M L H2 S2 σ2 ρ2,fun σ2 H2 ⟨S2,hs3⟩=>⟨m,UX m,S2,ρ2,o',hs3,e4,q'⟩,fun σ2 H2 S2 hs3=>⟨S2,hs3⟩⟩
    cases o1 with
    | nx ρ2 =>
     obtain ⟨N,n1,n2⟩:=next ρ2 e'
     exact ⟨N,n1,S',ρ',_,os1,e2,fun σ3 H3 S3 hs3=>n2 σ3 H3 S3 hs3⟩
    | ct ρ2 =>
     obtain ⟨N,n1,n2⟩:=next ρ2 e'
     exact ⟨N,n1,S',ρ',_,os1,e2,fun σ3 H3 S3 hs3=>n2 σ3 H3 S3 hs3⟩
    | bk ρ2 =>
     cases e'
     exact ⟨fun _ _=>False,fun _ _ z=>z.elim,S',ρ',_,os1,e2,fun σ3 H3 S3 hs3=>q' σ3 H3 S3 hs3⟩
    | rt r =>
     cases e'
     have q2:OutQ X.K G M Mb L fr D (.rt r):=q'
     exact ⟨fun _ _=>False,fun _ _ z=>z.elim,S',ρ',_,os1,e2,q2⟩
noncomputable def intD:Ka->Option Int
 | .int i=>some i
 | _=>none
def PDO (X:Cx)(M:au)(e:Option Kp)(f:aV):Prop:=PO X e (fun σ H Q=>∃ S ρ i,DenS X.K H S M σ ρ/\f ρ=some i/\∀ H',Same H H'->Q i H')
def oN:Rho->Option (Option Int):=fun _=>some none
def oS (f:aa):Rho->Option (Option Int):=fun ρ=>ob (f ρ) fun d=>ob (intD d) fun i=>some (some i)
theorem wL {d:Ka}{i:Int}(h:intD d=some i):d=.int i:=by cases d<;>first|(cases h;rfl)|cases h
theorem QL:PDO X M none oN:=fun pins s σ H Q I ⟨S,ρ,i,hs,e,q⟩=>by
 cases e
 exact qb3 pins s σ H Q I (q H (Same.refl H))
theorem zQ (h:PD X M a f):PDO X M (some a) (oS f):=fun pins s σ H Q I ⟨S,ρ,i,hs,e,q⟩=>by
 obtain ⟨d,e1,e⟩:=qd e
 obtain ⟨j,e2,e⟩:=qd e
 cases e
 cases wL e2
 exact qb4 h pins s σ H Q I ⟨S,ρ,_,hs,e1,fun v H' g d=>⟨j,d.int_inv,q H' g⟩⟩
def cutD (ds:ao)(lo hi:aO):List Ka:=(ds.drop (HT.sIx ds.length 0 lo)).take (HT.sIx ds.length ds.length hi-HT.sIx ds.length 0 lo)
def sliD (x:Ka)(lo hi:aO):Option Ka:=match x with
 | .list ds=>some (.list (cutD ds lo hi))
 | .tuple ds=>if HT.sIx ds.length 0 lo=0/\HT.sIx ds.length ds.length hi=ds.length then none else some (.tuple (cutD ds lo hi))
 | _=>none
def evS (fa:aa)(fl fh:aV):Rho->Option Ka:=fun ρ=>ob (fa ρ) fun x=>ob (fl ρ) fun l=>ob (fh ρ) fun h=>sliD x l h
theorem JZ {K:Kb}{H:Hp}{S:Av}{vs:List V}{ds:ao}(t:DenL K H S vs ds)(lo hi:aO):DenL K H S (cutV vs lo hi) (cutD ds lo hi):=by
 unfold cutV cutD
 rw [t.length]
 exact (t.drop _).take _
theorem Qh {lo hi:Option Kp}{fl fh:aV}{p2:Pos}(ha:PD X M a f)(hl:PDO X M lo fl)(hh:PDO X M hi fh):PD X M (.Subscript a (.Slice lo hi none p2) pos) (evS f fl fh) :=
 (qaE (r:=fun x lo hi H Q=>rSlL X.K x lo hi H Q\/rSlT X.K x lo hi H Q) (qch.or qdR) ha hl hh).weak fun σ H Q ⟨S,ρ,d,hs,e,q⟩=>by
  obtain ⟨x,e1,e⟩:=qd e
  obtain ⟨l,e2,e⟩:=qd e
  obtain ⟨h,e3,e⟩:=qd e
  refine ⟨S,ρ,x,hs,e1,fun v H1 g1 d1=>⟨S,ρ,l,hs.same g1,e2,fun H2 g2=>⟨S,ρ,h,hs.same (g1.trans g2),e3,fun H3 g3=>?_⟩⟩⟩
  have g13:=g1.trans (g2.trans g3)
  have d3:=d1.same (g2.trans g3)
  cases d3 with
  | list hq t =>
   cases e
   exact .inl ⟨_,_,rfl,hq.sq,fun p hp=>q _ _ (g13.lay' hp) (.list (SqLS.new qF ((hs.1.same g13).free hp)) ((JZ t l h).same (Same.lay hp)))⟩
  | @tuple a' xs ds hq t =>
   have e:(if HT.sIx ds.length 0 l=0/\HT.sIx ds.length ds.length h=ds.length then none else some (PyData.tuple (cutD ds l h)))=some d:=e
   split at e
   ·cases e
   ·rename_i hc
    cases e
    refine .inr ⟨_,_,rfl,hq,by rw [t.length];exact hc,fun p hp=>q _ _ (g13.lay' hp) (.tuple (SqT.of qF) ((JZ t l h).same (Same.lay hp)))⟩
  | _=>cases e
noncomputable def Yr (x y:Ka):Option Ka:=match x,y with
 | .int i,.int j=>some (.int (i+j))
 | .tuple ds,.tuple es=>if ds.length+es.length<=1000 then some (.tuple (ds++es)) else none
 | _,_=>none
theorem WP {prog:Kw}{w:KB}{A:KG}{E:ak}{s:Ke}{t b:Kd}{vs ws:aw}{Q:ak}(ht:IsTup s.heap t vs.toArray)(hb:IsTup s.heap b ws.toArray)(hv:vs=[])(h:Q (.ref b) s) :
  wpAny (model prog w) A (binaryOp .Add (.ref t) (.ref b)) Q E s:=by
 obtain ⟨⟨cls,dd,data,sl⟩,ho,hc,n,hd⟩:=id ht
 obtain ⟨⟨cls2,dd2,data2,sl2⟩,ho2,hc2,n2,hd2⟩:=id hb
 simp only at hc hd hc2 hd2
 subst hc hd hc2 hd2
 exact XD ⟨_,ho,rfl⟩ ⟨_,ho2,rfl⟩ XE seq_tuple_add UQ UM (UF _ _) (tuple_addW0 t b vs.toArray ws.toArray n n2 dd dd2 sl sl2 (by simp [hv])) ⟨ho,ho2,h⟩
theorem qbK:OpR X (binaryOp .Add) (fun x y H Q=>∃ a b ys,x=.ref a/\y=.ref b/\SqT X.K H a []/\SqT X.K H b ys/\Q (.ref b) H):=by
 intro pins s σ H x y v u Q I rx ry h
 obtain ⟨a,b,ys,rfl,rfl,ha,hb,q⟩:=h
 cases rx
 cases ry
 obtain ⟨its,r1,p1,_⟩:=I.tuple ha
 obtain ⟨its2,r2,p2,_⟩:=I.tuple hb
 exact WP p1 p2 (r1.nil_iff.mpr rfl) ⟨.ref b,H,I,rfl,q⟩
theorem WX:OpD X (binaryOp .Add) Yr:=by
 refine Q8 (r:=fun x y H Q=>rI0 (fun i j=>.int (i+j)) x y H Q\/(qcv X.K x y H Q\/(∃ a b ys,x=.ref a/\y=.ref b/\SqT X.K H a []/\SqT X.K H b ys/\Q (.ref b) H))) (qdd.or (qbL.or qbK)) fun x y dx dy d H S Q m h1 h2 e q=>?_
 unfold Yr at e
 split at e
 ·cases e;cases h1;cases h2
  exact .inl ⟨_,_,rfl,rfl,q _ H (Same.refl H) (.int _)⟩
 ·split at e
  ·rename_i ds es hc
   cases e
   cases h1 with
   | tuple a1 t1 =>
    cases h2 with
    | tuple a2 t2 =>
     cases ds with
     | nil =>
      cases t1
      exact .inr (.inr ⟨_,_,_,rfl,rfl,a1,a2,q _ H (Same.refl H) (.tuple a2 t2)⟩)
     | cons d0 ds =>
      refine .inr (.inl ⟨_,_,_,_,rfl,rfl,a1,a2,fun z=>?_,?_,fun z=>?_,fun z p hp=>q _ _ (Same.lay hp) (.tuple (SqT.of qF) ((t1.append t2).same (Same.lay hp)))⟩)
      ·subst z;cases t1
      ·rw [t1.length,t2.length]
       exact Vu (qZ hc)
      ·subst z;cases t2
       rw [VD] at q
       exact q _ H (Same.refl H) (.tuple a1 t1)
  ·cases e
 ·cases e
end
section
variable {X:Cx}{G:Gm}{M M1 M' Mb L:au}{fr:Fr}{a b c:Kp}{es:aG}{f g:aa}{p:ah}{pos:Pos}{u:aq}{ss:bc}{s1:Va}
theorem qax (M1:au)(h:PDSs X G M L M' Mb fr ss u)(h1:subB M1 M'=true)(h2:subB L M1=true):PDSs X G M L M1 Mb fr ss u:=qbR h h1 h2
theorem Wb (M1:au)(h1:subB M1 M=true)(h2:subB L M1=true)(h:PDS X G M1 L M' Mb fr s1 u):PDS X G M L M' Mb fr s1 u:=Wa h h1 h2
end
def intsOf:List Ka->Option (List Int)
 | []=>some []
 | .int i::r=>ob (intsOf r) fun ns=>some (i::ns)
 | _::_=>none
section
variable {X:Cx}{G:Gm}{M M' Mb L:au}{fr:Fr}{f:aa}{p:ah}{pos:Pos}
theorem qdW {K:Kb}{n k:Nat}{fi:ae}{g:ag}(hg:GIn n k g):∀ σ H Q,tF K M (Qx n k fi g p f) σ H Q->Ja k (tDI K M fi) (tDGc K M g) (tDT K M p) (tD K M f) σ H Q:=by
 intro σ H Q ⟨S,ρ,d,hs,e,q⟩
 obtain ⟨ds,ys,e1,hn,hz,e2,rfl⟩:=Q6 e
 exact Y9 hg σ H Q S ρ ds ys hs e1 hn hz e2 fun H' zs g2 dl D hD=>q _ _ (g2.lay' hD) (g2.free hD) (OwnO.laid hD dl)
variable {elt iter tg:Kp}{ifs:aG}{x:Str}{N':az}{px:Pos}{sc:K1}{n k:Nat}{fi:ae}{g:ag}
noncomputable def swB (sc₀ sc:K1)(t:Str)(pt p:Pos):Bool:=decide (sc₀.names.lookup t=some .local)&&(pt.line==p.line)&&!(sc.names.any fun (n,k)=>n==t&&(k==.local||k==.cell))
theorem jB {sc:K1}{y:Str}{py:Pos}{sc₀:K1}(hsc:X.env.scope=sc₀)(h:swB sc₀ sc y py pos=true):X.env.scope.names.lookup y=some .local:=by
 subst hsc
 unfold swB at h
 rw [Kt,Kt] at h
 exact of_decide_eq_true h.1.1
theorem qcy {elt:Kp}{gens:List Comprehension}{sc:K1}{y:Str}{py:Pos}{line:Nat}{sc₀:K1}(hsc:X.env.scope=sc₀)(h:swB sc₀ sc y py pos=true)(hbk:X.env.blockKind=.function):swapsWith (.ListComp elt gens sc pos) (some (.Name y py)) line X.env=pure true:=by
 have h0:=jB hsc h
 subst hsc
 unfold swB at h
 rw [Kt,Kt] at h
 show pure (X.env.blockKind==.function&&X.env.kindOf y==some .local&&py.line==pos.line&&!(sc.names.any fun (n,k)=>n==y&&(k==.local||k==.cell)))=pure true
 have e1:(X.env.blockKind==ScopeKind.function)=true:=by rw [hbk];rfl
 have e2:(X.env.kindOf y==some NameKind.local)=true:=by
  show (X.env.scope.names.lookup y==some NameKind.local)=true
  rw [h0];rfl
 rw [e1,e2,h.1.2,h.2]
 rfl
theorem w5 (j:Nat){y:Str}{py spos:Pos}(O:CompOk X N' k sc)(gi:GIn n k g)(sc₀:K1)(hsc:X.env.scope=sc₀)(hB:swB sc₀ sc y py pos=true)(hM:Out0 M j)(hL:j∉L)(hi:PDI X M tg iter fi)(hg:∀ cl C fp pins s H,PDGc (qu X N' sc cl C fp pins s H) M tg g)(hq:∀ cl C fp pins s H,PDTs (qu X N' sc cl C fp pins s H) M ifs p)(he:∀ cl C fp pins s H,PD (qu X N' sc cl C fp pins s H) M elt f)
  (hj:X.N[j]?=some y:=by rfl) (hbk:X.env.blockKind=.function:=by rfl)
  (hs:∀ v,foldedSetIterable iter X.env v=pure v:=by intro _;rfl):PDS X G M L (j::M) Mb fr (.Assign [.Name y py] (.ListComp elt [⟨tg,iter,ifs,0⟩] sc pos) spos) (zX j (Qx n k fi g p f)) :=
 (Y5 (wg:=tDGc X.K M g) (tt:=tDT X.K M p) (te:=tD X.K M f) O hj (jB hsc hB) hi hg hq he (qcy hsc hB hbk) hs).weak fun D σ H ⟨S,ρ,o,hs,e,q⟩=>by
  unfold zX at e
  split at e
  ·rename_i hz
   obtain ⟨d,e1,e⟩:=qd e
   cases e
   exact qdW gi σ H _ ⟨S,ρ,d,hs.ds,e1,fun p H1 g1 n o=>q _ H1 _ (hs.take n g1 o hM hL hz)⟩
  ·cases e
theorem qaw (j:Nat){y:Str}{py spos:Pos}(O:CompOk X N' 1 sc)(hx:N'[n]?=some x)(hl:lc1 sc x=true)(sc₀:K1)(hsc:X.env.scope=sc₀)(hB:swB sc₀ sc y py pos=true)(hM:Out0 M j)(hL:j∉L)(hi:PDI X M (.Name x px) iter fi)(hq:∀ cl C fp pins s H,PDTs (qu X N' sc cl C fp pins s H) M ifs p)(he:∀ cl C fp pins s H,PD (qu X N' sc cl C fp pins s H) M elt f)
  (hj:X.N[j]?=some y:=by rfl) (hbk:X.env.blockKind=.function:=by rfl)
  (hs:∀ v,foldedSetIterable iter X.env v=pure v:=by intro _;rfl):PDS X G M L (j::M) Mb fr (.Assign [.Name y py] (.ListComp elt [⟨.Name x px,iter,ifs,0⟩] sc pos) spos) (zX j (Qf n fi p f)):=by
 rw [jb]
 exact w5 j O (ji (Kl _)) sc₀ hsc hB hM hL hi (Jz O hx hl) hq he hj hbk hs
end
def YC (N N':az)(k:Nat)(sc₀ sc:K1):Bool :=
 decide (sc.kind=.function)&&decide N.Nodup&&decide N'.Nodup&&decide (N'.length=N.length+k)&&sc.names.all (fun y=>decide (y.2≠.cell)||decide (sc.names.lookup y.1=some .cell))&&sc.names.all (fun y=>decide (y.2≠.local)||decide (sc.names.lookup y.1=some .local)) &&
 (N.zip N').all (fun y=>(decide (y.1=y.2)&&(decide (sc.names.lookup y.2≠some .local)&&decide (sc.names.lookup y.2≠some .cell)))||decide (sc.names.lookup y.2=none)) &&
 sc.names.all (fun y=>decide (y.2≠.free)||decide (sc₀.names.lookup y.1=some .cell)||decide (sc₀.names.lookup y.1=some .free))
theorem CompOk.of {X:Cx}{sc:K1}{k:Nat}(N N':az)(sc₀:K1)(hc:X.calm=true)(hN:X.N=N)(hs:X.env.scope=sc₀)(h:YC N N' k sc₀ sc=true):CompOk X N' k sc:=by
 subst hN
 subst hs
 unfold YC at h
 simp only [Kt,decide_eq_true_eq,Vk,Xd] at h
 obtain ⟨⟨⟨⟨⟨⟨⟨h1,h2⟩,h2'⟩,h2l⟩,h3⟩,h4⟩,h7⟩,h8⟩:=h
 refine ⟨hc,h1,h2,h2',h2l,fun y hy q=>(h3 y hy).resolve_left (fun z=>z q),fun y hy q=>(h4 y hy).resolve_left (fun z=>z q),fun i y hi e=>?_,fun y hy q=>?_⟩
 ·have hz:(X.N.zip N')[i]?=some (X.N[i],y):=by
   rw [List.getElem?_zip_eq_some]
   exact ⟨KI hi,e⟩
  rcases h7 _ (Kz hz) with ⟨q,w⟩|q
  ·refine .inl ⟨?_,w⟩
   rw [KI hi]
   exact congrArg some q
  ·exact .inr q
 ·rcases h8 y hy with (z|z)|z
  ·exact absurd q z
  ·exact .inl z
  ·exact .inr z
theorem jD:∀ {ns:aR} {n:Int},n∈ns->PySem.W.WData.weight (.int n)<=PySem.W.WData.weightAll (ns.map .int)
 | m::ns,n,h=>by
  rw [Vm,PySem.W.WData.weightAll]
  rcases Kr.mp h with rfl|h
  ·omega
  ·have:=jD h
   omega
theorem Z6 {ns:aR}(h:PySem.W.WData.layableAll [.list (ns.map .int)]=true):∀ n∈ns,VU n<=2 ^ 20:=by
 intro n hn
 have h1:PySem.W.WData.layable (.list (ns.map .int))=true:=by
  unfold PySem.W.WData.layableAll at h
  simpa using h
 unfold PySem.W.WData.layable at h1
 rw [Kt] at h1
 have h2:=of_decide_eq_true h1.2
 rw [PySem.W.WData.weight] at h2
 have h3:=KO (jD hn) h2
 rw [PySem.W.WData.weight] at h3
 exact h3
end L2
namespace Att
open PySem PySem.W PySem.Calls PyProof.Rows
theorem attach_callB {l:Xv}{n:Nat}{q:Kw}{loose:List Str}{XP:(Str->Option Kc)->KC->Prop}{YP:KB->KC->Prop}{d:DefRec}
  (hn:l.most=some n) (hdf:d.params.defaults=[])
  (call:∀ (w:KB) (s₀ s₁:Ke) (mg mb:Str->Option Kc) (fa:Kd) (o:Obj) (pm cd doc:Kc) (a:Kd) (vs:List Kc) (ns:List Int),
   Ground q loose [] XP w s₀ mg mb s₁.heap->YP w s₁.heap->
   s₁.heap.get? fa=some o->o.data=.func (docDef d.name d.params d.body d.scope pm cd doc)->s₁.heap.CodeRec cd d.name->mg d.name=some (.ref fa)->
   s₁.heap.get? a=some { cls:=.type "list", data:=.seq vs.toArray }->IntsAre vs ns->ns.length<=n->(∀ k∈ns,VU k<=2 ^ 20)->s₁.gens=#[]->
   codeAny (model l.prog w) callerA (.call (.ref fa) ⟨[.ref a],[]⟩) (fun r s'=>r=.ok (.ret (.bool true))/\OldK s₁.heap s'.heap/\s'.os=s₁.os/\U2 s'.gens) s₁) :
  WalkO q loose XP YP l.row.toRowW d [] (fun f vs=>PySem.call f vs):=by
 intro w s₀ s₁ mg mb G Y fa o pm cd doc dV kV ho hd hcd hD hmg hg args vals as hpre hlay hrd hwl hlo
 obtain rfl:dV=.none:=Dflts.none hD hdf
 obtain rfl:kV=.none:=Dflts.noKw hD
 obtain ⟨a,vs,ns,rfl,rfl,hobj,hints,hlen⟩:=Wm hn hpre hwl
 refine enter_call (UD (call w s₀ s₁ mg mb fa o pm cd doc a vs ns G Y ho (fd_plain hd) hcd hmg hobj hints hlen (L2.Z6 hlay) hg) fun r s' hq=>?_)
 obtain ⟨rfl,h2,h3,h4⟩:=hq
 exact ⟨.inl ⟨.bool true,.bool true,[],rfl,fun _=>rfl,.bool true,Wh l _,fun _=>⟨List.Pairwise.nil,fun _ hm=>(nomatch hm)⟩⟩,h2,h3,h4⟩
end Att
namespace L2
open PySem PySem.Spec PyProof.Rows
def Yg (K:Kb)(n:Nat):Sp:=fun vs H Q _=>∃ (a:Kd) (ns:aR),vs=[.ref a]/\SqL K H a (ns.map V.int)/\ns.length<=n/\(∀ k∈ns,VU k<=2 ^ 20)/\∀ H',Q (.bl true) H'
theorem qai {P:Kw}{w:KB}{K:Kb}{mg:ar}{base:KC}{CX:CXT}{k n:Nat}{f:Kd}{fd:Vs}{ps:az}{h:av}(F:FnOk P w K mg base CX k f fd ps (spF K 1 h))
  (e:∀ ns:List Int,ns.length<=n->(∀ k∈ns,VU k<=2 ^ 20)->h [.list (ns.map .int)]=some (.bool true)):FnOk P w K mg base CX k f fd ps (Yg K n) :=
 F.imp fun vs H Q E ⟨a,ns,h1,h2,h3,h4,q⟩=>by
  subst h1
  exact ⟨fun _=>False,[.list (ns.map .int)],.bool true,(fun _ z=>z.elim),.cons (.list (h2.imp (fun y=>⟨y,id⟩) id) (DenL.ints ns)) .nil,rfl,e ns h3 h4,fun v H' _ d=>by rw [d.bool_inv];exact q H'⟩
theorem Wx {l:Xv}{n k:Nat}{q:Kw}{loose:az}{XP:(Str->Option Kc)->KC->Prop}{YP:KB->KC->Prop}{d:DefRec}{K:U7->Kb}{x:Str}
  (hn:l.most=some n) (hn2:n<=sizeLine) (hdf:d.params.defaults=[]) (hr:Room k callerA)
  (hY:∀ (w:KB) (h:KC),YP w h->(K w.params).In h)
  (F:∀ (w:KB) (mg:ar) (fa:Kd) (h:KC),(K w.params).In h->h.Ns mainGlobals mg->mg d.name=some (.ref fa)->
   ∃ fd:Vs,(∀ (s:Ke) (u:Kc),BindsTo s fd ⟨[u],[]⟩ [(x,u)])/\
    ∀ base:KC,(K w.params).In base->base.Ns mainGlobals mg->FnOk l.prog w (K w.params) mg base CX0 k fa fd [x] (Yg (K w.params) n)) :
  PySem.W.WalkO q loose XP YP l.row.toRowW d [] (fun f vs=>PySem.call f vs):=by
 refine Att.attach_callB hn hdf fun w s₀ s₁ mg mb fa o pm cd doc a vs ns G Y ho hd hcd hmg hobj hints hlen hbits hg=>?_
 have KX:=hY w _ Y
 obtain ⟨fd,hb,hF⟩:=F w mg fa _ KX G.T.g hmg
 exact qah KX G.T.g G.T.b G.T.builtins G.T.nolimit hg hobj hints (KO hlen hn2) hr hF hb (fun H hO hS=>⟨a,ns,rfl,hS,hlen,hbits,fun _=>rfl⟩) fun H e s' h=>h
mutual
def ltX:Ka->Ka->Option Bool
 | .int i,.int j=>some (decide (i<j))
 | .tuple xs,.tuple ys=>ltXs xs ys
 | .list xs,.list ys=>ltXs xs ys
 | _,_=>none
def ltXs:List Ka->List Ka->Option Bool
 | [],[]=>some false
 | [],_::_=>some true
 | _::_,[]=>some false
 | x::xs,y::ys=>if Uh x y=true then ltXs xs ys else ltX x y
end
def LtAt (A:KG)(s:Ke)(y x:Kc)(b:Bool):Prop:=∀ (prog:Kw) (w:KB) (E Q:ak),Q (.bool b) s->wpAny (model prog w) A (richCompare .Lt y x) Q E s
def ZL (A:KG)(s:Ke):List Kc->List Kc->Bool->Prop
 | [],[],r=>r=false
 | [],_::_,r=>r=true
 | _::_,[],r=>r=false
 | y::ys,x::xs,r=>∃ e,SeqAt.EqAt A s y x e/\(e=true->ZL A s ys xs r)/\(e=false->LtAt A s y x r)
section
open PySem.SeqAt
open PySem.AutoSeq1 (wpAny_loadPart')
open PySem.MeetsSeq PySem.MeetsSeq2 PySem.MeetsSeq3
theorem JN (l b:Kd)(items items2:aK)(n n2:Nat)(dd dd2:aS)(sl sl2:aF) :
  Meets (XA.«tuple.__lt__» ⟨[.ref l,.ref b],[]⟩)
   (fun A R s=>s.heap.get? l=some { cls:=.type "tuple", dict:=dd,data:=.seq items n,slots:=sl }/\s.heap.get? b=some { cls:=.type "tuple", dict:=dd2,data:=.seq items2 n2,slots:=sl2 }/\
    ∃ r,ZL A.in1 s items.toList items2.toList r/\R (.ok (.ret (.bool r))) s) :=
 .of_wp fun prog w A R s h=>by
  obtain ⟨hp,g,d,tk,os⟩:=s;obtain ⟨hl,hb,r,hx,h⟩:=h
  have f2:=AutoSeq1.sub_tuple_tuple
  wp_walk using wpAny_loadPart' hl,wpAny_loadPart' hb,wpAny_forIn_list _ (fun rest b s'=>b.1=none/\s'=⟨hp,g,d,tk,os⟩/\∃ (vs ws:aw),rest=vs.zip ws/\
   ZL A.in1 ⟨hp,g,d,tk,os⟩ vs ws r/\vs.length+items2.size=ws.length+items.size) _
  case turn =>
   rintro ⟨y,x⟩ rest b s' ⟨hb',rfl,vs,ws,hz,hlx,hlen⟩
   cases vs with
   | nil=>rw [List.zip_nil_left] at hz;cases hz
   | cons v vs =>
    cases ws with
    | nil=>rw [List.zip_nil_right] at hz;cases hz
    | cons u ws =>
     rw [UJ] at hz
     injection hz with hyx hrest
     injection hyx with hy hx'
     subst hy hx'
     simp only [Kk] at hlen
     obtain ⟨e,he,h1,h2⟩:=hlx
     refine Kf (he prog w _ _ ?_)
     cases e with
     | true =>
      wp_walk
      exact ⟨rfl,rfl,_,_,hrest,h1 rfl,by omega⟩
     | false =>
      have hri:=h2 rfl prog w
      wp_walk using hri
      exact ⟨_,rfl,by simpa using h⟩
  case fin =>
   rintro ⟨b1,b2⟩ s' ⟨hb',rfl,vs,ws,hz,hlx,hlen⟩
   simp only at hb'
   subst hb'
   have hv:r=decide (items.size<items2.size):=by
    cases vs with
    | nil =>
     cases ws with
     | nil =>
      simp only [V5] at hlen
      rw [show r=false from hlx]
      exact (decide_eq_false (by omega)).symm
     | cons c hw =>
      simp only [V5,Kk] at hlen
      rw [show r=true from hlx]
      exact (decide_eq_true (by omega)).symm
    | cons a hv =>
     cases ws with
     | nil =>
      simp only [V5,Kk] at hlen
      rw [show r=false from hlx]
      exact (decide_eq_false (by omega)).symm
     | cons c hw =>
      rw [UJ] at hz
      cases hz
   rw [hv] at h
   wp_walk
   exact ⟨_,rfl,by simpa [U6] using h⟩
  case h =>
   exact ⟨rfl,rfl,items.toList,items2.toList,rfl,hx,by simp [XF]⟩
end
theorem qam {A:KG}{s:Ke}{l b:Kd}{items items2:aK}{r:Bool}(hl:IsTup s.heap l items)(hb:IsTup s.heap b items2)(hu:A.units<cLine)(h:ZL A.in1 s items.toList items2.toList r):LtAt A s (.ref l) (.ref b) r:=fun prog w E Q q=>by
 obtain ⟨⟨cls,dd,data,sl⟩,ho,hc,n,hd⟩:=id hl
 obtain ⟨⟨cls2,dd2,data2,sl2⟩,ho2,hc2,n2,hd2⟩:=id hb
 simp only at hc hd hc2 hd2
 subst hc hd hc2 hd2
 exact UR (op:=.Lt) ⟨_,ho,rfl⟩ ⟨_,ho2,rfl⟩ PySem.F.slot_tuple_lt PySem.F.entry_tuple_lt (PySem.F.args_tuple_lt_2 _ _) (JN l b items items2 n n2 dd dd2 sl sl2)
  ⟨ho,ho2,r,h,show Ub r≠Xe/\Q (.bool r) s from ⟨(fun x=>nomatch x),q⟩⟩ hu
section
open PySem.SeqAt
open PySem.AutoSeq1 (wpAny_loadPart')
open PySem.MeetsSeq PySem.MeetsSeq2 PySem.MeetsSeq3
theorem Jt (l b:Kd)(xs ys:aK)(n n2:Nat)(dd dd2:aS)(sl sl2:aF):∀ (k i:Nat),xs.size=i+k->i<=ys.size->Meets (XA.«list.__eq__.loop» ⟨[.ref l,.ref b,rawInt i,rawInt 0],[]⟩)
   (fun A R s=>s.heap.get? l=some ⟨.type "list", dd,.seq xs n,sl⟩/\s.heap.get? b=some ⟨.type "list", dd2,.seq ys n2,sl2⟩/\∃ r,ZL A.in1 s (xs.toList.drop i) (ys.toList.drop i) r/\R (.ok (.ret (.bool r))) s):=by
 intro k
 induction k with
 | zero =>
  intro i hx hy prog w A R s ⟨hl,hb,r,hq,hR⟩
  obtain ⟨hp,g,d,tk,os⟩:=s
  have e1:xs.toList.drop i=[]:=US (by rw [Ve];omega)
  have e2:xs[((i:Nat):Int).toNat]?=none:=by rw [Vi];exact X7 (by omega)
  rw [e1] at hq
  have hr:r=decide (xs.size<ys.size):=by
   by_cases h:i<ys.size
   ·have e3:ys.toList.drop i=ys[i]::ys.toList.drop (i+1):=by rw [Vl (by rw [Ve];exact h),Xf]
    rw [e3] at hq
    rw [show r=true from hq];exact (decide_eq_true (by omega)).symm
   ·rw [US (by rw [Ve];omega)] at hq
    rw [show r=false from hq];exact (decide_eq_false (by omega)).symm
  rw [hr] at hR
  wp_walk using wpAny_loadPart' hl,wpAny_loadPart' hb
  rw [e2]
  wp_walk using wpAny_loadPart' hl,wpAny_loadPart' hb
  exact hR
 | succ k ih =>
  intro i hx hy prog w A R s ⟨hl,hb,r,hq,hR⟩
  obtain ⟨hp,g,d,tk,os⟩:=s
  have h1:i<xs.size:=by omega
  have e1:xs.toList.drop i=xs[i]::xs.toList.drop (i+1):=by rw [Vl (by rw [Ve];exact h1),Xf]
  have e2:xs[((i:Nat):Int).toNat]?=some xs[i]:=by rw [Vi];exact Xy h1
  rw [e1] at hq
  wp_walk using wpAny_loadPart' hl,wpAny_loadPart' hb
  by_cases h2:i<ys.size
  ·have e3:ys.toList.drop i=ys[i]::ys.toList.drop (i+1):=by rw [Vl (by rw [Ve];exact h2),Xf]
   have e4:ys[((i:Nat):Int).toNat]?=some ys[i]:=by rw [Vi];exact Xy h2
   rw [e3] at hq
   obtain ⟨e,he,q1,q2⟩:=hq
   rw [e2,e4]
   refine Kf (he prog w _ _ ?_)
   cases e with
   | true =>
    wp_walk
    refine ⟨Vv plain_eq_loop _,Vd entry_eq_loop ?_⟩
    rw [KZ plain_eq_loop _]
    exact ih (i+1) (by omega) h2 prog w A R _ ⟨hl,hb,r,q1 rfl,hR⟩
   | false =>
    wp_walk using wpAny_loadPart' hl,wpAny_loadPart' hb
    rw [e2,e4]
    have hri:=q2 rfl prog w
    wp_walk using hri
    exact hR
  ·rw [US (as:=ys.toList) (by rw [Ve];omega)] at hq
   have e4:ys[((i:Nat):Int).toNat]?=none:=by rw [Vi];exact X7 (by omega)
   have hr:r=decide (xs.size<ys.size):=by rw [show r=false from hq];exact (decide_eq_false (by omega)).symm
   rw [hr] at hR
   rw [e2,e4]
   wp_walk using wpAny_loadPart' hl,wpAny_loadPart' hb
   exact hR
theorem ye (l b:Kd)(xs ys:aK)(n n2:Nat)(dd dd2:aS)(sl sl2:aF):Meets (XA.«list.__lt__» ⟨[.ref l,.ref b],[]⟩)
   (fun A R s=>s.heap.get? l=some ⟨.type "list", dd,.seq xs n,sl⟩/\s.heap.get? b=some ⟨.type "list", dd2,.seq ys n2,sl2⟩/\∃ r,ZL A.in1 s xs.toList ys.toList r/\R (.ok (.ret (.bool r))) s):=by
 intro prog w A R s ⟨hl,hb,r,hq,hR⟩
 obtain ⟨hp,g,d,tk,os⟩:=s
 have f3:=AutoSeq1.sub_list_list
 wp_walk using wpAny_loadPart' hl,wpAny_loadPart' hb
 refine ⟨Vv plain_eq_loop _,Vd entry_eq_loop ?_⟩
 rw [KZ plain_eq_loop _]
 exact Jt l b xs ys n n2 dd dd2 sl sl2 xs.size 0 (UK _).symm (Us _) prog w A R _ ⟨hl,hb,r,hq,hR⟩
end
theorem wX {A:KG}{s:Ke}{l b:Kd}{o o2:Obj}{xs ys:aK}{n n2:Nat}{r:Bool}(h1:s.heap.get? l=some o)(c1:o.cls=.type "list")(d1:o.data=.seq xs n)(h2:s.heap.get? b=some o2)(c2:o2.cls=.type "list")(d2:o2.data=.seq ys n2)(hu:A.units<cLine)(h:ZL A.in1 s xs.toList ys.toList r):LtAt A s (.ref l) (.ref b) r:=fun prog w E Q q=>by
 obtain ⟨cls,dd,data,sl⟩:=o
 obtain ⟨cls2,dd2,data2,sl2⟩:=o2
 simp only at c1 d1 c2 d2
 subst c1 d1 c2 d2
 exact UR (op:=.Lt) ⟨_,h1,rfl⟩ ⟨_,h2,rfl⟩ PySem.F.slot_list_lt PySem.F.entry_list_lt (PySem.F.args_list_lt_2 _ _) (ye l b xs ys n n2 dd dd2 sl sl2)
  ⟨h1,h2,r,h,show Ub r≠Xe/\Q (.bool r) s from ⟨(fun x=>nomatch x),q⟩⟩ hu
theorem ZV {A:KG}{s:Ke}{m:Nat}(hu:A.units+m+1<cLine)(hit:∀ (x y:Ka) (a b:Kc) (as bs:ay) (r:Bool),x.depth<=m->Reads s.heap a x as->Reads s.heap b y bs->x.canLay0=true->y.canLay0=true->ltX x y=some r->LtAt A s a b r) :
  ∀ (xs ys:ao) (vs ws:aw) (as bs:ay) (r:Bool),KS xs<=m->ReadsAll s.heap vs xs as->ReadsAll s.heap ws ys bs->Ky xs=true->Ky ys=true->ltXs xs ys=some r->ZL A s vs ws r:=by
 intro xs
 induction xs with
 | nil =>
  intro ys vs ws as bs r _ h1 h2 _ _ e
  cases h1
  cases ys with
  | nil=>cases h2;rw [ltXs] at e;cases e;rfl
  | cons y ys=>cases h2;rw [ltXs] at e;cases e;rfl
 | cons x xs ih =>
  intro ys vs ws as bs r hm h1 h2 c1 c2 e
  cases h1 with
  | cons rx rxs =>
   cases ys with
   | nil=>cases h2;rw [ltXs] at e;cases e;rfl
   | cons y ys =>
    cases h2 with
    | cons ry rys =>
     have c1':x.canLay0=true/\Ky xs=true:=by simpa [Ky] using c1
     have c2':y.canLay0=true/\Ky ys=true:=by simpa [Ky] using c2
     have hd:max x.depth (KS xs)<=m:=by rw [KS] at hm;exact hm
     have m1:=KO (Nat.le_max_left x.depth (KS xs)) hd
     have m2:=KO (Nat.le_max_right x.depth (KS xs)) hd
     rw [ltXs] at e
     refine ⟨Uh x y,SeqAt.eqAt_reads x y A s _ _ _ _ rx ry c1'.1 c2'.1 (by have:=Nat.min_le_left x.depth y.depth;omega),fun q=>?_,fun q=>?_⟩
     ·rw [if_pos q] at e
      exact ih ys _ _ _ _ r m2 rxs rys c1'.2 c2'.2 e
     ·rw [if_neg (by rw [q];exact Vq)] at e
      exact hit x y _ _ _ _ r m1 rx ry c1'.1 c2'.1 e
theorem jo:∀ (n:Nat) (da db:Ka) (A:KG) (s:Ke) (a b:Kc) (as bs:ay) (r:Bool),da.depth<=n->Reads s.heap a da as->Reads s.heap b db bs->da.canLay0=true->db.canLay0=true->A.units+n+1<cLine->ltX da db=some r->LtAt A s a b r:=by
 intro n
 induction n with
 | zero =>
  intro da db A s a b as bs r hd ra rb ca cb hu e
  cases da with
  | int i =>
   cases db with
   | int j =>
    cases ra;cases rb
    rw [ltX] at e
    cases e
    exact fun prog w E Q q=>HT.yq A s i _ j _ prog w E Q q
   | _=>simp [ltX] at e
  | tuple xs =>
   rw [V1] at hd
   omega
  | list xs =>
   rw [V1] at hd
   omega
  | _=>simp [ltX] at e
 | succ n ih =>
  intro da db A s a b as bs r hd ra rb ca cb hu e
  cases da with
  | int i =>
   cases db with
   | int j =>
    cases ra;cases rb
    rw [ltX] at e
    cases e
    exact fun prog w E Q q=>HT.yq A s i _ j _ prog w E Q q
   | _=>simp [ltX] at e
  | tuple xs =>
   cases db with
   | tuple ys =>
    rw [V1] at hd
    rw [ltX] at e
    cases ra with
    | tuple e1 c1 d1 t1 =>
     cases rb with
     | tuple e2 c2 d2 t2 =>
      refine qam ⟨_,e1,c1,_,d1⟩ ⟨_,e2,c2,_,d2⟩ (by omega) ?_
      exact ZV (m:=n) (by show A.units+1+n+1<cLine;omega) (fun x y a b as bs r hx r1 r2 k1 k2 e=>ih x y A.in1 s a b as bs r hx r1 r2 k1 k2 (by show A.units+1+n+1<cLine;omega) e)
       xs ys _ _ _ _ r (by omega) t1 t2 (by simpa [Vb] using ca) (by simpa [Vb] using cb) e
   | _=>simp [ltX] at e
  | list xs =>
   cases db with
   | list ys =>
    rw [V1] at hd
    rw [ltX] at e
    cases ra with
    | list e1 c1 d1 t1 =>
     cases rb with
     | list e2 c2 d2 t2 =>
      refine wX e1 c1 d1 e2 c2 d2 (by omega) ?_
      exact ZV (m:=n) (by show A.units+1+n+1<cLine;omega) (fun x y a b as bs r hx r1 r2 k1 k2 e=>ih x y A.in1 s a b as bs r hx r1 r2 k1 k2 (by show A.units+1+n+1<cLine;omega) e)
       xs ys _ _ _ _ r (by omega) t1 t2 (by simpa [Vb] using ca) (by simpa [Vb] using cb) e
   | _=>simp [ltX] at e
  | _=>simp [ltX] at e
def ltD2 (x y:Ka):Option Ka:=if Vn x=true/\Vn y=true/\x.depth<=60 then ob (ltX x y) fun r=>some (.bool r) else none
theorem d_lt2 {X:Cx}{k:Nat}(hr:Room k X.A):OpD X (compareOp .Lt) ltD2:=by
 intro pins s σ H x y v u Q I rx ry ⟨S,dx,dy,d,m,h1,h2,e,q⟩
 unfold ltD2 at e
 split at e
 ·rename_i hc
  obtain ⟨as,q1⟩:=h1.reads I (Kv hc.1) rx
  obtain ⟨bs,q2⟩:=h2.reads I (Kv hc.2.1) ry
  obtain ⟨r,e1,e⟩:=qd e
  cases e
  have hu:=hr.units
  exact jo 60 dx dy X.A s v u as bs r hc.2.2 q1 q2 (Kv hc.1) (Kv hc.2.1) (by omega) e1 X.prog X.w X.xe _ (yK I (q _ H (Same.refl H) (.bool r)) rfl)
 ·cases e
end L2
namespace L2
open PySem PySem.Spec PyProof.Rows PySem.W
def ltAtD (ds:ao)(i j:Nat):Option Bool:=match ds[i]?,ds[j]? with
 | some x,some y=>ltX x y
 | _,_=>none
end L2
namespace L2
open PySem PySem.Spec PyProof.Rows
theorem ob_s {α β:Type}(x:α)(f:α->Option β):ob (some x) f=f x:=rfl
theorem vr_z (o:ax)(ρ:Rho):vr 0 (o::ρ)=o:=rfl
theorem vr_s (n:Nat)(o:ax)(ρ:Rho):vr (n+1) (o::ρ)=vr n ρ:=rfl
theorem atI0 {α:Type}(x:α)(xs:List α):atI (x::xs) 0=some x:=by simp [atI,ixN]
theorem QD {α:Type}(x:α)(xs:List α)(k:Nat):atI (x::xs) ((k:Int)+1)=atI xs (k:Int):=by
 unfold atI ixN
 have h1:(0:Int)<=(k:Int)+1:=by omega
 have h2:(0:Int)<=(k:Int):=by omega
 rw [if_pos h1,if_pos h2]
 by_cases h:(k:Int)<xs.length
 ·have h':(k:Int)+1<((x::xs).length:Int):=by rw [Kk];omega
  rw [if_pos h,if_pos h']
  have e1:((k:Int)+1).toNat=k+1:=by omega
  have e2:(k:Int).toNat=k:=by omega
  rw [e1,e2]
  rfl
 ·have h':¬ (k:Int)+1<((x::xs).length:Int):=by rw [Kk];omega
  rw [if_neg h,if_neg h']
  rfl
theorem atI1 {α:Type}(x y:α)(xs:List α):atI (x::y::xs) 1=some y:=(QD x (y::xs) 0).trans (atI0 y xs)
theorem atI2 {α:Type}(x y z:α)(xs:List α):atI (x::y::z::xs) 2=some z:=(QD x (y::z::xs) 1).trans (atI1 y z xs)
theorem atI3 {α:Type}(x y z a:α)(xs:List α):atI (x::y::z::a::xs) 3=some a:=(QD x (y::z::a::xs) 2).trans (atI2 y z a xs)
theorem atI4 {α:Type}(x y z a b:α)(xs:List α):atI (x::y::z::a::b::xs) 4=some b:=(QD x (y::z::a::b::xs) 3).trans (atI3 y z a b xs)
theorem atI5 {α:Type}(x y z a b c:α)(xs:List α):atI (x::y::z::a::b::c::xs) 5=some c:=(QD x (y::z::a::b::c::xs) 4).trans (atI4 y z a b c xs)
theorem Jv {i j:Int}(h:Xn i j):mulD (.int i) (.int j)=some (.int (i*j)):=by
 show (if Xn i j then some (Kj (i*j)) else none)=_
 rw [if_pos h]
def Bd (n:Nat)(i:Int):Prop:=VU i<=n
theorem Bd.ok {n m:Nat}{i j:Int}(h:Bd n i)(g:Bd m j)(e:n+m<=134217728:=by decide):Xn i j:=IntMulOk.of_le h g e
theorem Bd.of {n:Nat}{i:Int}(h:i.natAbs<2 ^ n):Bd n i:=intBits_le_iff.mpr h
theorem natLit (n:Nat):((no_index (OfNat.ofNat n):Nat):Int)=(OfNat.ofNat n:Int):=rfl
theorem qbq (i j:Int):eqD (.int i) (.int j)=some (.bool (i==j)):=rfl
theorem qbG (i j:Int):neD (.int i) (.int j)=some (.bool (!(i==j))):=rfl
theorem zE (i:Int){j:Int}(h:0<j):modD (.int i) (.int j)=some (.int (i % j)):=by
 show (if 0<j then some (Kj (i % j)) else none)=_
 rw [if_pos h]
theorem W5 (i:Int){j:Int}(h:0<j)(h2:j<1073741824):ZR (.int i) (.int j)=some (.int (i / j)):=by
 show (if CDiv i j then some (Kj (i / j)) else none)=_
 rw [if_pos ⟨h,h2⟩]
def jT (o:Option Out)(w:aq):Option Out:=match o with | some (.nx ρ')=>w ρ'|o=>o
theorem ZF (u w:aq)(ρ:Rho):seqO u w ρ=jT (u ρ) w:=by
 unfold seqO ob jT
 cases u ρ with
 | none=>rfl
 | some o=>cases o<;>rfl
theorem Qe (ρ:Rho)(w:aq):jT (some (.nx ρ)) w=w ρ:=rfl
theorem WL (d:Ka)(w:aq):jT (some (.rt d)) w=some (.rt d):=rfl
theorem WF (ρ:Rho)(w:aq):jT (some (.bk ρ)) w=some (.bk ρ):=rfl
theorem WK (ρ:Rho)(w:aq):jT (some (.ct ρ)) w=some (.ct ρ):=rfl
def ifO {α:Type}(b:Option Bool)(u w:Rho->Option α)(ρ:Rho):Option α:=match b with | some true=>u ρ|some false=>w ρ|none=>none
theorem ifO_t {α:Type}(u w:Rho->Option α)(ρ:Rho):ifO (some true) u w ρ=u ρ:=rfl
theorem ifO_f {α:Type}(u w:Rho->Option α)(ρ:Rho):ifO (some false) u w ρ=w ρ:=rfl
theorem sIf_b (p:ah)(u w:aq)(ρ:Rho):sIf p u w ρ=ifO (p ρ) u w ρ:=by
 unfold sIf ob ifO
 cases p ρ with
 | none=>rfl
 | some b=>cases b<;>rfl
theorem vIf_b (p:ah)(u w:aa)(ρ:Rho):vIf p u w ρ=ifO (p ρ) u w ρ:=by
 unfold vIf ob ifO
 cases p ρ with
 | none=>rfl
 | some b=>cases b<;>rfl
theorem tA_b (p q:ah)(ρ:Rho):tA p q ρ=ifO (p ρ) q (fun _=>some false) ρ:=by
 unfold tA ob ifO
 cases p ρ with
 | none=>rfl
 | some b=>cases b<;>rfl
theorem tO_b (p q:ah)(ρ:Rho):tO p q ρ=ifO (p ρ) (fun _=>some true) q ρ:=by
 unfold tO ob ifO
 cases p ρ with
 | none=>rfl
 | some b=>cases b<;>rfl
theorem vA_b (f g:aa)(ρ:Rho):vA f g ρ=ifO (ob (f ρ) Z7) g (fun _=>some (.bool false)) ρ:=by
 unfold vA ob ifO
 cases f ρ with
 | none=>rfl
 | some x =>
  dsimp only
  cases Z7 x with
  | none=>rfl
  | some b=>cases b<;>rfl
def setO (o:ax)(i:Nat)(ρ:Rho):Option Out:=match o with | some d=>some (.nx (ρ.set i (some d)))|none=>none
theorem qdL (i:Nat)(f:aa)(ρ:Rho):sSet i f ρ=setO (f ρ) i ρ:=by
 unfold sSet ob setO
 cases f ρ<;>rfl
theorem qdP (d:Ka)(i:Nat)(ρ:Rho):setO (some d) i ρ=some (.nx (ρ.set i (some d))):=rfl
def binO (a b:ax)(g:aD):Option Ka:=match a,b with | some x,some y=>g x y|_,_=>none
theorem ev2_b (fa fb:aa)(g:aD)(ρ:Rho):ev2 fa fb g ρ=binO (fa ρ) (fb ρ) g:=by
 unfold ev2 ob binO
 cases fa ρ<;>cases fb ρ<;>rfl
theorem qcH (x y:Ka)(g:aD):binO (some x) (some y) g=g x y:=rfl
def Q0 (a:ax)(b:aL):Option (List Ka):=match a,b with | some x,some xs=>some (x::xs)|_,_=>none
theorem aC_b (fa:aa)(fs:ae)(ρ:Rho):aC fa fs ρ=Q0 (fa ρ) (fs ρ):=by
 unfold aC ob Q0
 cases fa ρ<;>cases fs ρ<;>rfl
theorem qbl (x:Ka)(xs:ao):Q0 (some x) (some xs)=some (x::xs):=rfl
def WM (n:Nat)(a:aL)(h:av):Option Ka:=match a with | some ds=>if ds.length=n then h ds else none|none=>none
theorem evC_b (n:Nat)(fs:ae)(h:av)(ρ:Rho):evC n fs h ρ=WM n (fs ρ) h:=by
 unfold evC ob WM
 cases fs ρ<;>rfl
theorem qbc (n:Nat)(ds:ao)(h:av):WM n (some ds) h=if ds.length=n then h ds else none:=rfl
def Yy (b:Option Bool)(tt:ah)(te:aa)(ρ:Rho)(d:Ka)(ds:ao):Option (List Ka):=match b with | some true=>Q0 (te (ρ++[some d])) (q9 tt te ρ ds)|some false=>q9 tt te ρ ds|none=>none
theorem Yx (tt:ah)(te:aa)(ρ:Rho)(d:Ka)(ds:ao):q9 tt te ρ (d::ds)=Yy (tt (ρ++[some d])) tt te ρ d ds:=by
 rw [q9]
 unfold ob Yy Q0
 cases tt (ρ++[some d]) with
 | none=>rfl
 | some b =>
  cases b with
  | false=>rfl
  | true =>
   dsimp only [if_true]
   rw [if_pos rfl]
   cases te (ρ++[some d])<;>cases q9 tt te ρ ds<;>rfl
theorem qbh (tt:ah)(te:aa)(ρ:Rho):q9 tt te ρ []=some []:=rfl
theorem YB (tt:ah)(te:aa)(ρ:Rho)(d:Ka)(ds:ao):Yy (some true) tt te ρ d ds=Q0 (te (ρ++[some d])) (q9 tt te ρ ds):=rfl
theorem Yz (tt:ah)(te:aa)(ρ:Rho)(d:Ka)(ds:ao):Yy (some false) tt te ρ d ds=q9 tt te ρ ds:=rfl
def jm (a:aL):Option Ka:=match a with | some ys=>some (.list ys)|none=>none
def WT (a:aL)(n:Nat)(tt:ah)(te:aa)(ρ:Rho):Option Ka:=match a with | some ds=>if ρ.length=n/\ds.length<=1000 then jm (q9 tt te ρ ds) else none|none=>none
theorem qbj (n:Nat)(fi:ae)(tt:ah)(te:aa)(ρ:Rho):Qf n fi tt te ρ=WT (fi ρ) n tt te ρ:=by
 unfold Qf ob WT jm
 cases fi ρ with
 | none=>rfl
 | some ds =>
  dsimp only
  split
  ·cases q9 tt te ρ ds<;>rfl
  ·rfl
theorem qbf (ds:ao)(n:Nat)(tt:ah)(te:aa)(ρ:Rho):WT (some ds) n tt te ρ=if ρ.length=n/\ds.length<=1000 then jm (q9 tt te ρ ds) else none:=rfl
theorem qbD (ds:ao):jm (some ds)=some (.list ds):=rfl
def forI (a:aL)(g:ag)(u:aq)(ρ:Rho):Option Out:=match a with | some ds=>forD g u ds ρ|none=>none
theorem qdI (fi:ae)(g:ag)(u:aq)(ρ:Rho):sFor fi g u ρ=forI (fi ρ) g u ρ:=by
 unfold sFor ob forI
 cases fi ρ<;>rfl
theorem qcP (ds:ao)(g:ag)(u:aq)(ρ:Rho):forI (some ds) g u ρ=forD g u ds ρ:=rfl
def forO (o:Option Out)(g:ag)(u:aq)(ds:ao):Option Out:=match o with
 | some (.nx ρ')=>forD g u ds ρ'
 | some (.ct ρ')=>forD g u ds ρ'
 | some (.bk ρ')=>some (.nx ρ')
 | some (.rt r)=>some (.rt r)
 | none=>none
theorem W7 (g:ag)(u:aq)(d:Ka)(ds:ao)(ρ:Rho):forD g u (d::ds) ρ=forO (ob (g d ρ) u) g u ds:=by
 rw [forD]
 unfold ob forO
 cases g d ρ with
 | none=>rfl
 | some ρ1 =>
  dsimp only
  cases u ρ1 with
  | none=>rfl
  | some o=>cases o<;>rfl
theorem qcO (g:ag)(u:aq)(ρ:Rho):forD g u [] ρ=some (.nx ρ):=rfl
theorem YL (ρ:Rho)(g:ag)(u:aq)(ds:ao):forO (some (.nx ρ)) g u ds=forD g u ds ρ:=rfl
theorem qbu (ρ:Rho)(g:ag)(u:aq)(ds:ao):forO (some (.ct ρ)) g u ds=forD g u ds ρ:=rfl
theorem qbt (ρ:Rho)(g:ag)(u:aq)(ds:ao):forO (some (.bk ρ)) g u ds=some (.nx ρ):=rfl
theorem qbv (d:Ka)(g:ag)(u:aq)(ds:ao):forO (some (.rt d)) g u ds=some (.rt d):=rfl
def nxO (o:Option Rho):Option Out:=match o with | some ρ=>some (.nx ρ)|none=>none
def retO (o:ax):Option Out:=match o with | some d=>some (.rt d)|none=>none
theorem qdK (f:aa)(ρ:Rho):sRet f ρ=retO (f ρ):=by
 unfold sRet ob retO
 cases f ρ<;>rfl
theorem qdF (d:Ka):retO (some d)=some (.rt d):=rfl
theorem gsN_n (ρ:Rho):gsN [] ρ=some ρ:=rfl
theorem gsC_c (g1:ag)(g2:aB)(d:Ka)(r:ao)(ρ:Rho):gsC g1 g2 (d::r) ρ=ob (g1 d ρ) (g2 r):=rfl
theorem qd5 (n:Nat)(g:aB)(ds:ao)(ρ:Rho):unpD n g (.tuple ds) ρ=if ds.length=n then g ds ρ else none:=rfl
theorem qdM (ds:ao):seqD (.list ds)=some ds:=rfl
theorem qdN (ds:ao):seqD (.tuple ds)=some ds:=rfl
theorem ixD_l (ds:ao)(i:Int):ixD (.list ds) (.int i)=atI ds i:=rfl
theorem ixD_t (ds:ao)(i:Int):ixD (.tuple ds) (.int i)=atI ds i:=rfl
theorem yR (ds:ao):lenD [.list ds]=some (.int ds.length):=rfl
theorem qc4 (ds:ao):lenD [.tuple ds]=some (.int ds.length):=rfl
theorem qaZ (ds:ao):JL [.list ds]=some (.tuple ds):=rfl
theorem qa0 (ds:ao):JL [.tuple ds]=some (.tuple ds):=rfl
theorem qbB (ds:ao):jZ [.list ds]=some (.list ds):=rfl
theorem qbC (ds:ao):jZ [.tuple ds]=some (.list ds):=rfl
theorem qbb (b:Bool):Z7 (.bool b)=some b:=rfl
theorem qdk (d:Ka):outD (.rt d)=some d:=rfl
theorem qdj (ρ:Rho):outD (.nx ρ)=some .none:=rfl
theorem qcA (i j:Int):Yr (.int i) (.int j)=some (.int (i+j)):=rfl
def takO (b:Bool)(o:ax)(i:Nat)(ρ:Rho):Option Out:=match b,o with | true,some d=>some (.nx (ρ.set i (some d)))|_,_=>none
theorem qcf (i:Nat)(f:aa)(ρ:Rho):zX i f ρ=takO (decide (i<ρ.length)) (f ρ) i ρ:=by
 unfold zX ob takO
 by_cases h:i<ρ.length
 ·rw [if_pos h,decide_eq_true h]
  cases f ρ<;>rfl
 ·rw [if_neg h,decide_eq_false h]
theorem qdY (d:Ka)(i:Nat)(ρ:Rho):takO true (some d) i ρ=some (.nx (ρ.set i (some d))):=rfl
def flgO (o:ax):Option Ka:=match o with | some d=>if J4 d=true then some d else none|none=>none
theorem qbr (f:aa)(ρ:Rho):YK f ρ=flgO (f ρ):=by
 unfold YK ob flgO
 cases f ρ<;>rfl
theorem qcM (d:Ka):flgO (some d)=if J4 d=true then some d else none:=rfl
def appO (l d:ax)(i:Nat)(ρ:Rho):Option Out:=match l,d with | some x,some y=>setO (appD x y) i ρ|_,_=>none
theorem qdH (i:Nat)(f:aa)(ρ:Rho):sApp i f ρ=appO (vr i ρ) (f ρ) i ρ:=by
 unfold sApp ob appO setO
 cases vr i ρ with
 | none=>rfl
 | some x =>
  cases f ρ with
  | none=>rfl
  | some y=>dsimp only;cases appD x y<;>rfl
theorem qcD (x y:Ka)(i:Nat)(ρ:Rho):appO (some x) (some y) i ρ=setO (appD x y) i ρ:=rfl
theorem qcC (ds:ao)(d:Ka):appD (.list ds) d=if ds.length<1000 then some (.list (ds++[d])) else none:=rfl
def sliO (a:ax)(l h:Option (Option Int)):Option Ka:=match a,l,h with | some x,some l,some h=>sliD x l h|_,_,_=>none
theorem evS_b (fa:aa)(fl fh:aV)(ρ:Rho):evS fa fl fh ρ=sliO (fa ρ) (fl ρ) (fh ρ):=by
 unfold evS ob sliO
 cases fa ρ<;>cases fl ρ<;>cases fh ρ<;>rfl
theorem qdS (x:Ka)(l h:aO):sliO (some x) (some l) (some h)=sliD x l h:=rfl
def prtO (a:ax):Option (Option Int):=match a with | some (.int i)=>some (some i)|_=>none
theorem oS_b (f:aa)(ρ:Rho):oS f ρ=prtO (f ρ):=by
 unfold oS ob prtO
 cases f ρ with
 | none=>rfl
 | some d=>cases d<;>rfl
theorem qdy (i:Int):prtO (some (.int i))=some (some i):=rfl
theorem qdU (i j:Int):subD (.int i) (.int j)=some (.int (i-j)):=rfl
theorem qda (i:Int):negD (.int i)=some (.int (-i)):=rfl
theorem qc7 (i j:Int):ltD2 (.int i) (.int j)=some (.bool (decide (i<j))):=by
 show (if _ then ob (ltX (.int i) (.int j)) _ else none)=_
 rw [if_pos ⟨rfl,rfl,Us 60⟩,ltX]
 rfl
theorem gtD_i (i j:Int):gtD (.int i) (.int j)=some (.bool (decide (j<i))):=rfl
theorem geD_i (i j:Int):geD (.int i) (.int j)=some (.bool (decide (j<=i))):=rfl
theorem qcY (T:String)(ds:ao):isiT T (.tuple ds)=(T == "tuple" || T == "object"):=rfl
theorem qcV (T:String)(ds:ao):isiT T (.list ds)=(T == "list" || T == "object"):=rfl
theorem qcU (T:String)(i:Int):isiT T (.int i)=(T == "int" || T == "object"):=rfl
theorem qcT (T:String)(b:Bool):isiT T (.bool b)=(T == "bool" || T == "int" || T == "object"):=rfl
theorem qcX (T:String)(x:Str):isiT T (.str x)=(T == "str" || T == "object"):=rfl
theorem qcW (T:String):isiT T .none=(T == "NoneType" || T == "object"):=rfl
theorem qce (j:Int):QQ [.int j]=if -1000<=j/\j<=1000 then some (rngL 0 j.toNat) else none:=rfl
theorem Y6 (i j:Int):ju [.int i,.int j]=if (-1000<=i/\i<=1000)/\(-1000<=j/\j<=1000) then some (rngL i (j-i).toNat) else none:=rfl
section
variable {X:Cx}{G:Gm}{M M' Mb L:au}{fr:Fr}{a b c:Kp}{es:aG}{f fk g:aa}{pos:Pos}{u:aq}
theorem DenL.set {K:Kb}{H:Hp}{S:Av}:∀ {vs:List V} {ds:ao} {v:V} {d:Ka} (j:Nat),DenL K H S vs ds->Den K H S v d->DenL K H S (vs.set j v) (ds.set j d)
 | _,_,_,_,_,.nil,_=>.nil
 | _,_,_,_,0,.cons _ t,q=>.cons q t
 | _,_,_,_,j+1,.cons h t,q=>.cons h (t.set j q)
def setD:Ka->Ka->Ka->Option Ka
 | .list ds,.int k,d=>ob (ixN ds.length k) fun j=>some (.list (ds.set j d))
 | _,_,_=>none
theorem Wn {l k d l':Ka}(e:setD l k d=some l'):∃ ds n j,l=.list ds/\k=.int n/\ixN ds.length n=some j/\l'=.list (ds.set j d):=by
 unfold setD at e
 split at e
 ·obtain ⟨j,e1,e⟩:=qd e
  cases e
  exact ⟨_,_,j,rfl,rfl,e1,rfl⟩
 ·cases e
def popAtD:Ka->Ka->Option (Ka×PyData)
 | .list ds,.int k=>ob (if -1000<=k/\k<=1000 then seqIndex? k ds.length else none) fun n=>ob (ds[n]?) fun d=>some (d,.list (ds.eraseIdx n))
 | _,_=>none
end
end L2
namespace L2
open PySem
theorem qdO (ds:ao)(k:Int)(d:Ka):setD (.list ds) (.int k) d=ob (ixN ds.length k) fun j=>some (.list (ds.set j d)):=rfl
end L2
namespace L2
open PySem PySem.Spec PyProof.Rows
section
variable {X:Cx}
theorem wz:bootBuiltins "max" = some (.builtin "max"):=by decide +kernel
theorem wA:bootBuiltins "min" = some (.builtin "min"):=by decide +kernel
end
section
variable {X:Cx}{G:Gm}{M M' Mb L:au}{fr:Fr}{a b c:Kp}{es:aG}{f fk g:aa}{pos:Pos}{u:aq}
def zT (x y:Ka):Option Ka:=match x,y with
 | .int i,.int j=>some (.int (i+j))
 | .list ds,.list es=>if ds.length+es.length<=1000 then some (.list (ds++es)) else none
 | x,y=>Yr x y
def rCatL (K:Kb):R2:=fun x y H Q=>∃ l b xs zs,x=.ref l/\y=.ref b/\SqL K H l xs/\SqL K H b zs/\xs.length+zs.length<=sizeLine/\∀ p,H p=none->Q (.ref p) (upd H p (.lst (xs++zs)))
theorem YZ:OpR X (binaryOp .Add) (rCatL X.K):=by
 intro pins s σ H x y v u Q I rx ry h
 obtain ⟨l,b,xs,zs,rfl,rfl,hH,hB,hz,q⟩:=h
 cases rx
 cases ry
 obtain ⟨its,r,⟨⟨cls,dd,data,sl⟩,n,g1,g2,_,g3⟩,_⟩:=I.list hH
 obtain ⟨its2,r2,⟨⟨cls2,dd2,data2,sl2⟩,n2,k1,k2,_,k3⟩,_⟩:=I.list hB
 simp only at g2 g3 k2 k3
 subst g2 g3 k2 k3
 have ea:its.toArray++its2.toArray=(its++its2).toArray:=by simp
 have l1:=r.length
 have l2:=r2.length
 refine XD ⟨_,g1,rfl⟩ ⟨_,k1,rfl⟩ noFill_list_add seq_list_add PySem.F.slot_list_add PySem.F.entry_list_add (PySem.F.args_list_add_2 _ _) (list_addW l b its.toArray its2.toArray n n2 dd dd2 sl sl2 (by rw [Km,Km];omega)) ⟨g1,k1,?_⟩
 rw [ea]
 exact ⟨.ref _,_,I.lnew (t':=s.toks) (r.append r2) (by rw [Kq];omega),rfl,q _ I.fresh⟩
theorem qcK:OpD X (binaryOp .Add) (fun x y=>match x,y with | .list ds,.list es=>if ds.length+es.length<=1000 then some (.list (ds++es)) else none|_,_=>none):=by
 refine Q8 YZ fun x y dx dy d H S Q m h1 h2 e q=>?_
 split at e
 ·split at e
  ·rename_i ds es hc
   cases e
   cases h1 with
   | list a1 t1 =>
    cases h2 with
    | list a2 t2 =>
     exact ⟨_,_,_,_,rfl,rfl,a1.sq,a2.sq,by rw [t1.length,t2.length];exact Vu (qZ hc),fun p hp=>q _ _ (Same.lay hp) (.list (SqLS.new qF (m.free hp)) ((t1.append t2).same (Same.lay hp)))⟩
  ·cases e
 ·cases e
theorem Qo:OpD X (binaryOp .Add) zT:=by
 intro pins s σ H x y v u Q I rx ry h
 obtain ⟨S,dx,dy,d,m,h1,h2,e,q⟩:=h
 unfold zT at e
 split at e
 ·exact WX pins s σ H x y v u Q I rx ry ⟨S,_,_,d,m,h1,h2,e,q⟩
 ·exact qcK pins s σ H x y v u Q I rx ry ⟨S,_,_,d,m,h1,h2,e,q⟩
 ·exact WX pins s σ H x y v u Q I rx ry ⟨S,_,_,d,m,h1,h2,e,q⟩
theorem qa5 (i j:Int):zT (.int i) (.int j)=some (.int (i+j)):=rfl
theorem qa6 (ds es:ao)(h:ds.length+es.length<=1000):zT (.list ds) (.list es)=some (.list (ds++es)):=if_pos h
end
section
variable {X:Cx}{M:au}{a:Kp}{es:aG}{f:aa}{pos:Pos}
def Yv (o:Option Rho)(k:Nat)(g:ag)(tt:ah)(te:aa)(ρ:Rho)(ds:ao):Option (List Ka):=match o with
 | some ρ1=>(match tt ρ1 with | some true=>Q0 (te ρ1) (zf k g tt te ρ ds)|some false=>zf k g tt te ρ ds|none=>none)
 | none=>none
theorem YD (k:Nat)(g:ag)(tt:ah)(te:aa)(ρ:Rho)(d:Ka)(ds:ao):zf k g tt te ρ (d::ds)=Yv (g d (ρ++Kn k none)) k g tt te ρ ds:=by
 rw [zf]
 unfold ob Yv Q0
 cases g d (ρ++Kn k none) with
 | none=>rfl
 | some ρ1 =>
  dsimp only
  cases tt ρ1 with
  | none=>rfl
  | some b =>
   cases b with
   | false=>rfl
   | true=>cases te ρ1<;>cases zf k g tt te ρ ds<;>rfl
theorem qbk (k:Nat)(g:ag)(tt:ah)(te:aa)(ρ:Rho):zf k g tt te ρ []=some []:=rfl
def JW (b:Option Bool)(y:ax)(r:aL):Option (List Ka):=match b with | some true=>Q0 y r|some false=>r|none=>none
theorem Yw (ρ1:Rho)(k:Nat)(g:ag)(tt:ah)(te:aa)(ρ:Rho)(ds:ao):Yv (some ρ1) k g tt te ρ ds=JW (tt ρ1) (te ρ1) (zf k g tt te ρ ds):=by
 unfold Yv JW
 rfl
theorem Yu (y:ax)(r:aL):JW (some true) y r=Q0 y r:=rfl
theorem qbg (y:ax)(r:aL):JW (some false) y r=r:=rfl
def WR (a:aL)(n k:Nat)(g:ag)(tt:ah)(te:aa)(ρ:Rho):Option Ka:=match a with | some ds=>if ρ.length=n/\ds.length<=1000 then jm (zf k g tt te ρ ds) else none|none=>none
theorem qbi (n k:Nat)(fi:ae)(g:ag)(tt:ah)(te:aa)(ρ:Rho):Qx n k fi g tt te ρ=WR (fi ρ) n k g tt te ρ:=by
 unfold Qx ob WR jm
 cases fi ρ with
 | none=>rfl
 | some ds =>
  dsimp only
  split
  ·cases zf k g tt te ρ ds<;>rfl
  ·rfl
theorem qbe (ds:ao)(n k:Nat)(g:ag)(tt:ah)(te:aa)(ρ:Rho):WR (some ds) n k g tt te ρ=if ρ.length=n/\ds.length<=1000 then jm (zf k g tt te ρ ds) else none:=rfl
end
def k1Of:Ka->Option (Int ⊕ List Int)
 | .int i=>some (.inl i)
 | .tuple ds=>ob (intsOf ds) fun js=>some (.inr js)
 | _=>none
def qcs:List Ka->Option K2
 | []=>some []
 | d::ds=>ob (k1Of d) fun k=>ob (qcs ds) fun ks=>some (k::ks)
def k2Of:Ka->Option K2
 | .tuple ds=>qcs ds
 | _=>none
def tVd (K:Kb)(M:au)(f:aa):TE:=fun σ H Q=>∃ S ρ d,DenS K H S M σ ρ/\f ρ=some d/\∀ p fp H',Same H H'->(∀ q∈fp,H q=none)->DeepO K H' (insL S fp) fp p d->Q (.ref p) H'
noncomputable def Zm:Ka->Bool
 | .list _=>true
 | _=>false
theorem Kids.length {K:Kb}{H:Hp}{S:Av}{qs:ay}{ds:ao}(h:Kids K H S qs ds):qs.length=ds.length:=by
 induction h with
 | nil=>rfl
 | cons _ _ _ _ r=>rw [Kk,Kk,r]
theorem Kids.get {K:Kb}{H:Hp}{S:Av}{qs:ay}{ds:ao}{i:Nat}{d:Ka}(h:Kids K H S qs ds)(e:ds[i]?=some d):∃ q xs es,qs[i]?=some q/\d=.list es/\H q=some (.lst xs)/\DenL K H S xs es:=by
 induction h generalizing i with
 | nil=>cases UO.symm.trans e
 | cons h t _ _ r =>
  cases i with
  | zero=>cases e;exact ⟨_,_,_,rfl,rfl,h,t⟩
  | succ i=>exact r e
theorem J5 {d:Ka}(h:Zm d=true):flat d=false:=by
 unfold Zm at h
 split at h
 ·rfl
 ·cases h
theorem Mx.get {K:Kb}{H:Hp}{S:Av}{qs:ay}{vs:List V}{ds:ao}{i:Nat}{d:Ka}(h:Mx K H S qs vs ds)(e:ds[i]?=some d)(hl:Zm d=true):∃ q xs es,q∈qs/\vs[i]?=some (.ref q)/\d=.list es/\H q=some (.lst xs)/\DenL K H S xs es:=by
 induction h generalizing i with
 | nil=>cases UO.symm.trans e
 | kid h t _ _ r =>
  cases i with
  | zero=>cases e;exact ⟨_,_,_,.head _,rfl,rfl,h,t⟩
  | succ i =>
   obtain ⟨q,xs,es,h1,h2⟩:=r e
   exact ⟨q,xs,es,.tail _ h1,h2⟩
 | flt a f _ r =>
  cases i with
  | zero=>cases e;rw [J5 hl] at f;cases f
  | succ i=>exact r e
theorem Mx.put {K:Kb}{H:Hp}{S:Av}{q:Kd}{xs:List V}{es:ao}(m:Dm S H)(hq:S q)(t:DenL K (L2.upd H q (.lst xs)) S xs es){qs:ay}{vs:List V}{ds:ao}{i:Nat}{d:Ka}(h:Mx K H S qs vs ds)(e:vs[i]?=some (.ref q))(hl:Zm d=true)(e2:ds[i]?=some d):Mx K (L2.upd H q (.lst xs)) S qs vs (ds.set i (.list es)):=by
 have off:Off S H (L2.upd H q (.lst xs)):=fun b u z e=>by rw [qg (fun y=>z (by rw [y];exact hq))];exact e
 induction h generalizing i with
 | nil=>cases UO.symm.trans e
 | kid h t' n r ih =>
  cases i with
  | zero=>cases e;exact .kid qF t n (r.upd m hq n)
  | succ i =>
   obtain ⟨q2,_,_,m2,h2,_⟩:=r.get e2 hl
   cases (show some (V.ref q)=some (.ref q2) from e.symm.trans h2)
   refine .kid ?_ (t'.off m off) n (ih e e2)
   rw [qg (fun z=>n (by rw [z];exact m2))];exact h
 | flt a f r ih =>
  cases i with
  | zero=>cases e2;rw [J5 hl] at f;cases f
  | succ i=>exact .flt (a.off m off) f (ih e e2)
theorem Kids.put {K:Kb}{H:Hp}{S:Av}{q:Kd}{xs:List V}{es:ao}(m:Dm S H)(hq:S q)(t:DenL K (L2.upd H q (.lst xs)) S xs es){qs:ay}{ds:ao}{i:Nat}(h:Kids K H S qs ds)(e:qs[i]?=some q):Kids K (L2.upd H q (.lst xs)) S qs (ds.set i (.list es)):=by
 induction h generalizing i with
 | nil=>cases UO.symm.trans e
 | cons h t' n r ih =>
  cases i with
  | zero=>cases e;exact .cons qF t n (r.upd m hq n)
  | succ i =>
   refine .cons ?_ (t'.off m fun b u z e=>by rw [qg (fun y=>z (by rw [y];exact hq))];exact e) n (ih e)
   rw [qg (fun z=>n (by rw [z];exact Kz e))];exact h
section
variable {X:Cx}{G:Gm}{M M' Mb L:au}{fr:Fr}{a b c:Kp}{es:aG}{f fk g:aa}{pos:Pos}{u:aq}{fs:ae}
theorem DenS.insO {K:Kb}{H H':Hp}{S:Av}{σ:St}{ρ:Rho}{p:Kd}{d:Ka}(hs:DenS K H S M σ ρ)(e:Same H H')(n:H p=none)(o:OwnO K H' (insA S p) p d):DenS K H' (insA S p) M σ ρ :=
 ⟨(hs.1.same e).ins o.mut,hs.2.1,fun i d hi q=>let ⟨v,a,b⟩:=hs.2.2 i d hi q;⟨v,a,(b.sub fun a ha z=>z.elim id fun y=>absurd (by rw [y];exact n) ha).same e⟩⟩
def jz (i:Nat)(f:aa):Rho->Option Out:=fun ρ=>if i<ρ.length/\ρ.length<=1000 then ob (f ρ) fun d=>some (.nx (ρ.set i (some d))) else none
def Zo:Ka->Ka->Option Nat
 | .tuple ds,.int k=>ixN ds.length k
 | .list ds,.int k=>ixN ds.length k
 | _,_=>none
noncomputable def jY:Ka->Nat->Option Ka
 | .tuple ds,j=>ds[j]?
 | .list ds,j=>ds[j]?
 | _,_=>none
noncomputable def yQ:Ka->Nat->Ka->Ka
 | .tuple ds,j,l=>.tuple (ds.set j l)
 | .list ds,j,l=>.list (ds.set j l)
 | d,_,_=>d
theorem DeepF.same {K:Kb}{H H':Hp}{S:Av}{σ:St}{ρ:Rho}{F:Nat->List Kd}(e:Same H H')(f:DeepF K G M H S σ ρ F):DeepF K G M H' S σ ρ F :=
 ⟨fun i hi d q=>let ⟨p,a,b,c⟩:=f.own i hi d q;⟨p,a,b.same e,c⟩,f.disj,f.flat⟩
theorem qa7 {qs:ay}{j:Nat}{k:Int}{q:Kd}{n:Nat}(h:n=qs.length)(e:ixN n k=some j)(e':qs[j]?=some q):atI (qs.map V.ref) k=some (.ref q):=by
 unfold atI
 rw [Kh,← h,e]
 show (qs.map V.ref)[j]?=_
 rw [VG,e'];rfl
theorem DeepO.kid {K:Kb}{H:Hp}{S:Av}{fp:ay}{p:Kd}{d0 l:Ka}{j:Nat}(b:DeepO K H S fp p d0)(e:jY d0 j=some l)(hk:Zm l=true):∃ q xs es,q∈fp/\l=.list es/\H q=some (.lst xs)/\DenL K H S xs es/\
  (∀ k,Zo d0 (.int k)=some j->∀ Q:VK,Q (.ref q) H->(rIxL K (.ref p) (.int k) H Q\/rIxT K (.ref p) (.int k) H Q))/\
  ∀ H2,Same H H2->∀ xs' es',S q->Dm S H2->DenL K (L2.upd H2 q (.lst xs')) S xs' es'->DeepO K (L2.upd H2 q (.lst xs')) S fp p (yQ d0 j (.list es')):=by
 cases b with
 | @tpl _ qs vs ds h t =>
  obtain ⟨q,xs,es,h1,hv,rfl,h2,h3⟩:=t.get (show ds[j]?=some l from e) hk
  refine ⟨q,xs,es,h1,rfl,h2,h3,fun k hk Q hQ=>.inr ⟨p,_,k,_,rfl,rfl,.inl (.inl h),?_,hQ⟩,fun H2 g xs' es' hS m t'=>?_⟩
  ·have hk:ixN ds.length k=some j:=hk
   unfold atI
   rw [t.length,hk]
   exact hv
  exact .tpl (by rw [qg (fun z=>m.tup (.inl (g _ _ h)) (by rw [z];exact hS))];exact g _ _ h) (Mx.put m hS t' (t.same g) hv hk e)
 | @lst _ qs ds h n t =>
  obtain ⟨q,xs,es,h1,rfl,h2,h3⟩:=t.get (show ds[j]?=some l from e)
  have hm:=Kz h1
  refine ⟨q,xs,es,.tail _ hm,rfl,h2,h3,fun k hk Q hQ=>.inl ⟨p,_,k,_,rfl,rfl,SqL.of h,qa7 t.length.symm hk h1,hQ⟩,fun H2 g xs' es' hS m t'=>?_⟩
  exact .lst (by rw [qg (fun z=>n (by rw [z];exact hm))];exact g _ _ h) n (Kids.put m hS t' (t.same g) h1)
 | dct h k v n t=>cases e
theorem wO {c k:Ka}{j:Nat}(e:Zo c k=some j):∃ n,k=.int n:=by
 unfold Zo at e
 split at e
 ·exact ⟨_,rfl⟩
 ·exact ⟨_,rfl⟩
 ·cases e
end
theorem yp (A:KG)(s:Ke)(a:Int)(t:Tok)(c:Int)(u:Tok)(prog:Kw)(w:KB)(E:ak)(Q:ak)(h:Q (.bool (decide (a > c))) s):wpAny (model prog w) A (richCompare .Gt (.int a t) (.int c u)) Q E s :=
 (PyProof.Rows.gt_int h:wpAny (model prog w) A (compareOp .Gt (.int a t) (.int c u)) Q E s)
mutual
def gtX:Ka->Ka->Option Bool
 | .int i,.int j=>some (decide (i > j))
 | .tuple xs,.tuple ys=>gtXs xs ys
 | _,_=>none
def gtXs:List Ka->List Ka->Option Bool
 | [],[]=>some false
 | [],_::_=>some false
 | _::_,[]=>some true
 | x::xs,y::ys=>if Uh x y=true then gtXs xs ys else gtX x y
end
def GtAt (A:KG)(s:Ke)(y x:Kc)(b:Bool):Prop:=∀ (prog:Kw) (w:KB) (E Q:ak),Q (.bool b) s->wpAny (model prog w) A (richCompare .Gt y x) Q E s
def JP (A:KG)(s:Ke):List Kc->List Kc->Bool->Prop
 | [],[],r=>r=false
 | [],_::_,r=>r=false
 | _::_,[],r=>r=true
 | y::ys,x::xs,r=>∃ e,SeqAt.EqAt A s y x e/\(e=true->JP A s ys xs r)/\(e=false->GtAt A s y x r)
section
open PySem.SeqAt
open PySem.AutoSeq1 (wpAny_loadPart')
open PySem.MeetsSeq PySem.MeetsSeq2 PySem.MeetsSeq3
theorem JM (l b:Kd)(items items2:aK)(n n2:Nat)(dd dd2:aS)(sl sl2:aF) :
  Meets (XA.«tuple.__gt__» ⟨[.ref l,.ref b],[]⟩)
   (fun A R s=>s.heap.get? l=some { cls:=.type "tuple", dict:=dd,data:=.seq items n,slots:=sl }/\s.heap.get? b=some { cls:=.type "tuple", dict:=dd2,data:=.seq items2 n2,slots:=sl2 }/\∃ r,JP A.in1 s items.toList items2.toList r/\R (.ok (.ret (.bool r))) s) :=
 .of_wp fun prog w A R s h=>by
  obtain ⟨hp,g,d,tk,os⟩:=s;obtain ⟨hl,hb,r,hx,h⟩:=h
  have f2:=AutoSeq1.sub_tuple_tuple;wp_walk using wpAny_loadPart' hl,wpAny_loadPart' hb,wpAny_forIn_list _ (fun rest b s'=>b.1=none/\s'=⟨hp,g,d,tk,os⟩/\∃ (vs ws:aw),rest=vs.zip ws/\
   JP A.in1 ⟨hp,g,d,tk,os⟩ vs ws r/\vs.length+items2.size=ws.length+items.size) _
  case turn =>
   rintro ⟨y,x⟩ rest b s' ⟨hb',rfl,vs,ws,hz,hlx,hlen⟩
   cases vs with
   | nil=>rw [List.zip_nil_left] at hz;cases hz
   | cons v vs =>
    cases ws with
    | nil=>rw [List.zip_nil_right] at hz;cases hz
    | cons u ws =>
     rw [UJ] at hz
     injection hz with hyx hrest
     injection hyx with hy hx'
     subst hy hx'
     simp only [Kk] at hlen
     obtain ⟨e,he,h1,h2⟩:=hlx
     refine Kf (he prog w _ _ ?_)
     cases e with
     | true =>
      wp_walk
      exact ⟨rfl,rfl,_,_,hrest,h1 rfl,by omega⟩
     | false =>
      have hri:=h2 rfl prog w
      wp_walk using hri
      exact ⟨_,rfl,by simpa using h⟩
  case fin =>
   rintro ⟨b1,b2⟩ s' ⟨hb',rfl,vs,ws,hz,hlx,hlen⟩
   simp only at hb'
   subst hb'
   have hv:r=decide (items.size > items2.size):=by
    cases vs with
    | nil =>
     cases ws with
     | nil =>
      simp only [V5] at hlen
      rw [show r=false from hlx]
      exact (decide_eq_false (by omega)).symm
     | cons c hw =>
      simp only [V5,Kk] at hlen
      rw [show r=false from hlx]
      exact (decide_eq_false (by omega)).symm
    | cons a hv =>
     cases ws with
     | nil =>
      simp only [V5,Kk] at hlen
      rw [show r=true from hlx]
      exact (decide_eq_true (by omega)).symm
     | cons c hw =>
      rw [UJ] at hz
      cases hz
   rw [hv] at h
   wp_walk
   exact ⟨_,rfl,by simpa [U6] using h⟩
  case h =>
   exact ⟨rfl,rfl,items.toList,items2.toList,rfl,hx,by simp [XF]⟩
end
theorem qab {A:KG}{s:Ke}{l b:Kd}{items items2:aK}{r:Bool}(hl:IsTup s.heap l items)(hb:IsTup s.heap b items2)(hu:A.units<cLine)(h:JP A.in1 s items.toList items2.toList r):GtAt A s (.ref l) (.ref b) r:=fun prog w E Q q=>by
 obtain ⟨⟨cls,dd,data,sl⟩,ho,hc,n,hd⟩:=id hl;obtain ⟨⟨cls2,dd2,data2,sl2⟩,ho2,hc2,n2,hd2⟩:=id hb
 simp only at hc hd hc2 hd2
 subst hc hd hc2 hd2
 exact UR (op:=.Gt) ⟨_,ho,rfl⟩ ⟨_,ho2,rfl⟩ PySem.F.slot_tuple_gt PySem.F.entry_tuple_gt (PySem.F.args_tuple_gt_2 _ _) (JM l b items items2 n n2 dd dd2 sl sl2)
  ⟨ho,ho2,r,h,show Ub r≠Xe/\Q (.bool r) s from ⟨(fun x=>nomatch x),q⟩⟩ hu
theorem yc {A:KG}{s:Ke}{m:Nat}(hu:A.units+m+1<cLine)(hit:∀ (x y:Ka) (a b:Kc) (as bs:ay) (r:Bool),x.depth<=m->Reads s.heap a x as->Reads s.heap b y bs->x.canLay0=true->y.canLay0=true->gtX x y=some r->GtAt A s a b r) :
  ∀ (xs ys:ao) (vs ws:aw) (as bs:ay) (r:Bool),KS xs<=m->ReadsAll s.heap vs xs as->ReadsAll s.heap ws ys bs->Ky xs=true->Ky ys=true->gtXs xs ys=some r->JP A s vs ws r:=by
 intro xs
 induction xs with
 | nil =>
  intro ys vs ws as bs r _ h1 h2 _ _ e
  cases h1
  cases ys with
  | nil=>cases h2;rw [gtXs] at e;cases e;rfl
  | cons y ys=>cases h2;rw [gtXs] at e;cases e;rfl
 | cons x xs ih =>
  intro ys vs ws as bs r hm h1 h2 c1 c2 e
  cases h1 with
  | cons rx rxs =>
   cases ys with
   | nil=>cases h2;rw [gtXs] at e;cases e;rfl
   | cons y ys =>
    cases h2 with
    | cons ry rys =>
     have c1':x.canLay0=true/\Ky xs=true:=by simpa [Ky] using c1
     have c2':y.canLay0=true/\Ky ys=true:=by simpa [Ky] using c2
     have hd:max x.depth (KS xs)<=m:=by rw [KS] at hm;exact hm
     have m1:=KO (Nat.le_max_left x.depth (KS xs)) hd
     have m2:=KO (Nat.le_max_right x.depth (KS xs)) hd
     rw [gtXs] at e
     refine ⟨Uh x y,SeqAt.eqAt_reads x y A s _ _ _ _ rx ry c1'.1 c2'.1 (by have:=Nat.min_le_left x.depth y.depth;omega),fun q=>?_,fun q=>?_⟩
     ·rw [if_pos q] at e
      exact ih ys _ _ _ _ r m2 rxs rys c1'.2 c2'.2 e
     ·rw [if_neg (by rw [q];exact Vq)] at e
      exact hit x y _ _ _ _ r m1 rx ry c1'.1 c2'.1 e
theorem yL:∀ (n:Nat) (da db:Ka) (A:KG) (s:Ke) (a b:Kc) (as bs:ay) (r:Bool),da.depth<=n->Reads s.heap a da as->Reads s.heap b db bs->da.canLay0=true->db.canLay0=true->A.units+n+1<cLine->gtX da db=some r->GtAt A s a b r:=by
 intro n
 induction n with
 | zero =>
  intro da db A s a b as bs r hd ra rb ca cb hu e
  cases da with
  | int i =>
   cases db with
   | int j =>
    cases ra;cases rb
    rw [gtX] at e
    cases e
    exact fun prog w E Q q=>yp A s i _ j _ prog w E Q q
   | _=>simp [gtX] at e
  | tuple xs =>
   rw [V1] at hd
   omega
  | _=>simp [gtX] at e
 | succ n ih =>
  intro da db A s a b as bs r hd ra rb ca cb hu e
  cases da with
  | int i =>
   cases db with
   | int j =>
    cases ra;cases rb
    rw [gtX] at e
    cases e
    exact fun prog w E Q q=>yp A s i _ j _ prog w E Q q
   | _=>simp [gtX] at e
  | tuple xs =>
   cases db with
   | tuple ys =>
    rw [V1] at hd
    rw [gtX] at e
    cases ra with
    | tuple e1 c1 d1 t1 =>
     cases rb with
     | tuple e2 c2 d2 t2 =>
      refine qab ⟨_,e1,c1,_,d1⟩ ⟨_,e2,c2,_,d2⟩ (by omega) ?_
      exact yc (m:=n) (by show A.units+1+n+1<cLine;omega) (fun x y a b as bs r hx r1 r2 k1 k2 e=>ih x y A.in1 s a b as bs r hx r1 r2 k1 k2 (by show A.units+1+n+1<cLine;omega) e)
       xs ys _ _ _ _ r (by omega) t1 t2 (by simpa [Vb] using ca) (by simpa [Vb] using cb) e
   | _=>simp [gtX] at e
  | _=>simp [gtX] at e
def bestOf (bt:aM):Nat->Nat
 | 0=>0
 | k+1=>if bt (k+1) (bestOf bt k) then k+1 else bestOf bt k
theorem Zt (bt:aM):∀ k,bestOf bt k<=k
 | 0=>Kl _
 | k+1=>by
  have:=Zt bt k
  rw [bestOf]
  split<;>omega
def jK (prog:Kw)(w:KB)(A:KG)(h0:KC)(P:Nat->Kc->Prop)(bt:aM):Prop :=
 ∀ (i j:Nat) (x y:Kc) (s:Ke) (Q E:ak),j<i->(∀ b o,h0.get? b=some o->s.heap.get? b=some o)->P i x->P j y->Q (.bool (bt i j)) s->wpAny (model prog w) A (richCompare .Lt x y) Q E s
section
variable {prog:Kw}{w:KB}{A:KG}{R:aY}{it:Kd}{fp wr:ay}{n:Nat}{P:Nat->Kc->Prop}{St:ba}{h0:KC}
theorem qal (W:Walks prog w A.in1 it fp wr n P St)(bt:aM)(hc:jK prog w A.in1 h0 P bt)(Z:Kd)(hZ:Z∉fp)(hw:∀ b o,h0.get? b=some o->b∉wr/\b≠Z)(kw:aT) :
  ∀ (m j:Nat) (s:Ke) (x:Kc) (c:Nat),n-(j+1)=m->j+1<=n->St (j+1) s.heap->P (bestOf bt j) x->(∀ b o,h0.get? b=some o->s.heap.get? b=some o)->
  s.heap.get? Z=some { cls:=.type "list", dict:=none,data:=.seq #[x,x] c,slots:=#[] }->
  (∀ v g tk,P (bestOf bt (n-1)) v->(∀ b o,b∉wr->b≠Z->s.heap.get? b=some o->g.get? b=some o)->R (.ok (.ret v)) { s with heap:=g,toks:=tk })->
  codeAny (model prog w) A (.builtin "min.loop" ⟨[.ref it,.none,.ref Z],kw⟩) R s:=by
 have zw:Z∉wr:=fun h=>hZ (W.sub _ h)
 have nm:(toString "min" ++ toString ".loop" : String) = "min.loop" := by decide
 intro m
 induction m with
 | zero =>
  intro j s x c hm hj st hP hb hz hR
  have last:j+1=n:=by omega
  refine Vd XH ?_;rw [KZ VX _]
  show wpAny _ A.in1 (seqItems? (.ref Z) >>= _) _ _ s
  refine Kf (Ux hz rfl ?_)
  show wpAny _ A.in1 (tryCatch (pyNext (.ref it)) _ >>= _) _ _ s
  refine Kf (VY (W.done s _ _ (last ▸ st) fun g tk k=>?_))
  have hz':=k Z _ zw hz
  show wpAny _ A.in1 (updateSeq Z (fun _=>#[]) >>= _) _ _ _
  refine Kf (Ur hz' rfl (Kf (Ut (Ko ?_))))
  exact hR x _ tk (by rw [← last];exact hP) fun b o h1 h2 e=>(Ku _ _ (fun z=>h2 z.symm)).trans (k b o h1 e)
 | succ m ih =>
  intro j s x c hm hj st hP hb hz hR
  have more:j+1<n:=by omega
  refine Vd XH ?_;rw [KZ VX _]
  show wpAny _ A.in1 (seqItems? (.ref Z) >>= _) _ _ s
  refine Kf (Ux hz rfl ?_)
  show wpAny _ A.in1 (tryCatch (pyNext (.ref it)) _ >>= _) _ _ s
  refine Kf (VY (W.item (j+1) s _ _ more st fun y g tk hy st' k=>?_))
  have hz':=k Z _ zw hz
  have hb':∀ b o,h0.get? b=some o->g.get? b=some o:=fun b o e=>k b o (hw b o e).1 (hb b o e)
  show wpAny _ A.in1 (tryCatch (holding [y,y] (richCompare .Lt y x >>= _)) _ >>= _) _ _ _
  refine Kf (VY (UU (Kf (hc (j+1) (bestOf bt j) y x _ _ _ (Nat.lt_succ_of_le (Zt bt j)) hb' hy hP ?_))))
  refine Kf (UU (VQ (Kf (Ut (Ko ?_)))))
  cases hh:bt (j+1) (bestOf bt j) with
  | true =>
   simp only [if_true]
   refine Kf (Ur hz' rfl (Kf (Ut ?_)))
   rw [nm]
   refine Ko ⟨Vv VX _,ih (j+1) _ y _ (by omega) more (W.frame _ _ _ st' fun b h1 o e=>(Ku _ _ (fun h:Z=b=>hZ (by rw [h];exact h1))).trans e) (by simp only [bestOf,hh,if_true];exact hy)
    (fun b o e=>(Ku _ _ (fun h:Z=b=>(hw b o e).2 h.symm)).trans (hb' b o e)) (V4 _ hz' rfl) fun v g2 tk2 h1 h2=>?_⟩
   exact hR v g2 tk2 h1 fun b o n1 n2 e=>h2 b o n1 n2 ((Ku _ _ (fun z=>n2 z.symm)).trans (k b o n1 e))
  | false =>
   simp only [VM,if_false];refine Kf (Ut ?_)
   rw [nm]
   refine Ko ⟨Vv VX _,ih (j+1) _ x c (by omega) more st' (by simp only [bestOf,hh,VM,if_false];exact hP) hb' hz' fun v g2 tk2 h1 h2=>?_⟩
   exact hR v g2 tk2 h1 fun b o n1 n2 e=>h2 b o n1 n2 (k b o n1 e)
theorem wW (W:Walks prog w A.in1 it fp wr n P St)(bt:aM)(hc:jK prog w A.in1 h0 P bt)(Z:Kd)(hZ:Z∉fp)(hw:∀ b o,h0.get? b=some o->b∉wr/\b≠Z)(kw:aT)(hn:0<n){s:Ke}{c:Nat}(st:St 0 s.heap)(hb:∀ b o,h0.get? b=some o->s.heap.get? b=some o)
  (hz:s.heap.get? Z=some { cls:=.type "list", dict:=none,data:=.seq #[] c,slots:=#[] })
  (hR:∀ v g tk,P (bestOf bt (n-1)) v->(∀ b o,b∉wr->b≠Z->s.heap.get? b=some o->g.get? b=some o)->R (.ok (.ret v)) { s with heap:=g,toks:=tk }) :
  codeAny (model prog w) A (.builtin "min.loop" ⟨[.ref it,.none,.ref Z],kw⟩) R s:=by
 have zw:Z∉wr:=fun h=>hZ (W.sub _ h)
 have nm:(toString "min" ++ toString ".loop" : String) = "min.loop" := by decide
 refine Vd XH ?_;rw [KZ VX _]
 show wpAny _ A.in1 (seqItems? (.ref Z) >>= _) _ _ s
 refine Kf (Ux hz rfl ?_)
 show wpAny _ A.in1 (tryCatch (pyNext (.ref it)) _ >>= _) _ _ s
 refine Kf (VY (W.item 0 s _ _ hn st fun y g tk hy st' k=>?_))
 have hz':=k Z _ zw hz
 show wpAny _ A.in1 (updateSeq Z (fun _=>#[y,y]) >>= _) _ _ _
 refine Kf (Ur hz' rfl ?_)
 rw [nm]
 refine Ko ⟨Vv VX _,qal W bt hc Z hZ hw kw _ 0 _ y _ rfl hn (W.frame _ _ _ st' fun b h1 o e=>(Ku _ _ (fun h:Z=b=>hZ (by rw [h];exact h1))).trans e) hy
  (fun b o e=>(Ku _ _ (fun h:Z=b=>(hw b o e).2 h.symm)).trans (k b o (hw b o e).1 (hb b o e))) (V4 _ hz' rfl) fun v g2 tk2 h1 h2=>?_⟩
 exact hR v g2 tk2 h1 fun b o n1 n2 e=>h2 b o n1 n2 ((Ku _ _ (fun z=>n2 z.symm)).trans (k b o n1 e))
end
def jJ (prog:Kw)(w:KB)(A:KG)(h0:KC)(P:Nat->Kc->Prop)(bt:aM):Prop :=
 ∀ (i j:Nat) (x y:Kc) (s:Ke) (Q E:ak),j<i->(∀ b o,h0.get? b=some o->s.heap.get? b=some o)->P i x->P j y->Q (.bool (bt i j)) s->wpAny (model prog w) A (richCompare .Gt x y) Q E s
section
variable {prog:Kw}{w:KB}{A:KG}{R:aY}{it:Kd}{fp wr:ay}{n:Nat}{P:Nat->Kc->Prop}{St:ba}{h0:KC}
theorem qak (W:Walks prog w A.in1 it fp wr n P St)(bt:aM)(hc:jJ prog w A.in1 h0 P bt)(Z:Kd)(hZ:Z∉fp)(hw:∀ b o,h0.get? b=some o->b∉wr/\b≠Z)(kw:aT) :
  ∀ (m j:Nat) (s:Ke) (x:Kc) (c:Nat),n-(j+1)=m->j+1<=n->St (j+1) s.heap->P (bestOf bt j) x->(∀ b o,h0.get? b=some o->s.heap.get? b=some o)->
  s.heap.get? Z=some { cls:=.type "list", dict:=none,data:=.seq #[x,x] c,slots:=#[] }->
  (∀ v g tk,P (bestOf bt (n-1)) v->(∀ b o,b∉wr->b≠Z->s.heap.get? b=some o->g.get? b=some o)->R (.ok (.ret v)) { s with heap:=g,toks:=tk })->
  codeAny (model prog w) A (.builtin "max.loop" ⟨[.ref it,.none,.ref Z],kw⟩) R s:=by
 have zw:Z∉wr:=fun h=>hZ (W.sub _ h)
 have nm:(toString "max" ++ toString ".loop" : String) = "max.loop" := by decide
 intro m
 induction m with
 | zero =>
  intro j s x c hm hj st hP hb hz hR
  have last:j+1=n:=by omega
  refine Vd XI ?_;rw [KZ VZ _]
  show wpAny _ A.in1 (seqItems? (.ref Z) >>= _) _ _ s
  refine Kf (Ux hz rfl ?_)
  show wpAny _ A.in1 (tryCatch (pyNext (.ref it)) _ >>= _) _ _ s
  refine Kf (VY (W.done s _ _ (last ▸ st) fun g tk k=>?_))
  have hz':=k Z _ zw hz
  show wpAny _ A.in1 (updateSeq Z (fun _=>#[]) >>= _) _ _ _
  refine Kf (Ur hz' rfl (Kf (Ut (Ko ?_))))
  exact hR x _ tk (by rw [← last];exact hP) fun b o h1 h2 e=>(Ku _ _ (fun z=>h2 z.symm)).trans (k b o h1 e)
 | succ m ih =>
  intro j s x c hm hj st hP hb hz hR
  have more:j+1<n:=by omega
  refine Vd XI ?_;rw [KZ VZ _]
  show wpAny _ A.in1 (seqItems? (.ref Z) >>= _) _ _ s
  refine Kf (Ux hz rfl ?_)
  show wpAny _ A.in1 (tryCatch (pyNext (.ref it)) _ >>= _) _ _ s
  refine Kf (VY (W.item (j+1) s _ _ more st fun y g tk hy st' k=>?_))
  have hz':=k Z _ zw hz
  have hb':∀ b o,h0.get? b=some o->g.get? b=some o:=fun b o e=>k b o (hw b o e).1 (hb b o e)
  show wpAny _ A.in1 (tryCatch (holding [y,y] (richCompare .Gt y x >>= _)) _ >>= _) _ _ _
  refine Kf (VY (UU (Kf (hc (j+1) (bestOf bt j) y x _ _ _ (Nat.lt_succ_of_le (Zt bt j)) hb' hy hP ?_))))
  refine Kf (UU (VQ (Kf (Ut (Ko ?_)))))
  cases hh:bt (j+1) (bestOf bt j) with
  | true =>
   simp only [if_true]
   refine Kf (Ur hz' rfl (Kf (Ut ?_)))
   rw [nm]
   refine Ko ⟨Vv VZ _,ih (j+1) _ y _ (by omega) more (W.frame _ _ _ st' fun b h1 o e=>(Ku _ _ (fun h:Z=b=>hZ (by rw [h];exact h1))).trans e) (by simp only [bestOf,hh,if_true];exact hy)
    (fun b o e=>(Ku _ _ (fun h:Z=b=>(hw b o e).2 h.symm)).trans (hb' b o e)) (V4 _ hz' rfl) fun v g2 tk2 h1 h2=>?_⟩
   exact hR v g2 tk2 h1 fun b o n1 n2 e=>h2 b o n1 n2 ((Ku _ _ (fun z=>n2 z.symm)).trans (k b o n1 e))
  | false =>
   simp only [VM,if_false];refine Kf (Ut ?_)
   rw [nm]
   refine Ko ⟨Vv VZ _,ih (j+1) _ x c (by omega) more st' (by simp only [bestOf,hh,VM,if_false];exact hP) hb' hz' fun v g2 tk2 h1 h2=>?_⟩
   exact hR v g2 tk2 h1 fun b o n1 n2 e=>h2 b o n1 n2 (k b o n1 e)
theorem wV (W:Walks prog w A.in1 it fp wr n P St)(bt:aM)(hc:jJ prog w A.in1 h0 P bt)(Z:Kd)(hZ:Z∉fp)(hw:∀ b o,h0.get? b=some o->b∉wr/\b≠Z)(kw:aT)(hn:0<n){s:Ke}{c:Nat}(st:St 0 s.heap)(hb:∀ b o,h0.get? b=some o->s.heap.get? b=some o)
  (hz:s.heap.get? Z=some { cls:=.type "list", dict:=none,data:=.seq #[] c,slots:=#[] })
  (hR:∀ v g tk,P (bestOf bt (n-1)) v->(∀ b o,b∉wr->b≠Z->s.heap.get? b=some o->g.get? b=some o)->R (.ok (.ret v)) { s with heap:=g,toks:=tk }) :
  codeAny (model prog w) A (.builtin "max.loop" ⟨[.ref it,.none,.ref Z],kw⟩) R s:=by
 have zw:Z∉wr:=fun h=>hZ (W.sub _ h)
 have nm:(toString "max" ++ toString ".loop" : String) = "max.loop" := by decide
 refine Vd XI ?_;rw [KZ VZ _]
 show wpAny _ A.in1 (seqItems? (.ref Z) >>= _) _ _ s
 refine Kf (Ux hz rfl ?_)
 show wpAny _ A.in1 (tryCatch (pyNext (.ref it)) _ >>= _) _ _ s
 refine Kf (VY (W.item 0 s _ _ hn st fun y g tk hy st' k=>?_))
 have hz':=k Z _ zw hz
 show wpAny _ A.in1 (updateSeq Z (fun _=>#[y,y]) >>= _) _ _ _
 refine Kf (Ur hz' rfl ?_)
 rw [nm]
 refine Ko ⟨Vv VZ _,qak W bt hc Z hZ hw kw _ 0 _ y _ rfl hn (W.frame _ _ _ st' fun b h1 o e=>(Ku _ _ (fun h:Z=b=>hZ (by rw [h];exact h1))).trans e) hy
  (fun b o e=>(Ku _ _ (fun h:Z=b=>(hw b o e).2 h.symm)).trans (k b o (hw b o e).1 (hb b o e))) (V4 _ hz' rfl) fun v g2 tk2 h1 h2=>?_⟩
 exact hR v g2 tk2 h1 fun b o n1 n2 e=>h2 b o n1 n2 ((Ku _ _ (fun z=>n2 z.symm)).trans (k b o n1 e))
end
theorem Vals.back:∀ {vs:List V} {us:aw} {i:Nat} {u:Kc},Vals vs us->us[i]?=some u->∃ v,vs[i]?=some v/\RelV v u
 | _,_,_,_,.nil,h=>by simp at h
 | _,_,0,_,.cons r _,h=>by cases h;exact ⟨_,rfl,r⟩
 | _,_,i+1,_,.cons _ t,h=>by
  obtain ⟨v,hv,r⟩:=Vals.back t (i:=i) (by simpa using h)
  exact ⟨v,by simpa using hv,r⟩
theorem DenL.back {K:Kb}{H:Hp}{S:Av}:∀ {vs:List V} {ds:ao} {i:Nat} {v:V},DenL K H S vs ds->vs[i]?=some v->∃ d,ds[i]?=some d/\Den K H S v d
 | _,_,_,_,.nil,h=>by simp at h
 | _,_,0,_,.cons r _,h=>by cases h;exact ⟨_,rfl,r⟩
 | _,_,i+1,_,.cons _ t,h=>by
  obtain ⟨v,hv,r⟩:=DenL.back t (i:=i) (by simpa using h)
  exact ⟨v,by simpa using hv,r⟩
section
variable {X:Cx}
def jV (ds:ao):Bool:=ds.all fun d=>Vn d&&decide (d.depth<=50)&&ds.all fun e=>(ltX d e).isSome
def zV (ds:ao)(i j:Nat):Bool:=match ds[i]?,ds[j]? with
 | some d,some e=>(ltX d e).getD false
 | _,_=>false
end
section
variable {X:Cx}
def jU (ds:ao):Bool:=ds.all fun d=>Vn d&&decide (d.depth<=50)&&ds.all fun e=>(gtX d e).isSome
def zU (ds:ao)(i j:Nat):Bool:=match ds[i]?,ds[j]? with
 | some d,some e=>(gtX d e).getD false
 | _,_=>false
end
noncomputable def truD:Ka->Option Bool
 | .bool b=>some b
 | .none=>some false
 | .int i=>some (i != 0)
 | .list ds=>some (!ds.isEmpty)
 | .tuple ds=>some (!ds.isEmpty)
 | _=>none
def tW (f:aa):Rho->Option Bool:=fun ρ=>ob (f ρ) truD
theorem jg {K:Kb}{H:Hp}{S:Av}{vs:List V}{ds:ao}(h:DenL K H S vs ds):vs.isEmpty=ds.isEmpty:=by cases h<;>rfl
section
variable {X:Cx}{M:au}{a:Kp}{f:aa}
theorem qbT (h:PD X M a f)(he:∀ whole,isTrue a X.env whole=(do let v ← whole;standAt a.pos;holding [v] (truthy v)):=by intro _;rfl):PDT X M a (tW f) :=
 (qaL h he).weak fun σ H Q ⟨S,ρ,b,hs,e,q⟩=>by
  obtain ⟨x,e1,e⟩:=qd e
  refine ⟨S,ρ,x,hs,e1,fun v H1 g1 d1=>⟨b,?_,q H1 g1⟩⟩
  cases d1 with
  | none=>cases e;exact rfl
  | bool c=>cases e;exact rfl
  | int i=>cases e;exact rfl
  | list s t=>cases e;exact .inl ⟨_,s.sq,by rw [jg t]⟩
  | tuple s t=>cases e;exact .inr (.inl ⟨_,s,by rw [jg t]⟩)
  | str x=>cases e
  | dict a b c=>cases e
  | exc0 a b=>cases e
  | exc1 a b c d f=>cases e
  | ins a b=>cases e
end
end L2
namespace L2
open PySem
theorem qaP (i:Nat)(f:aa)(ρ:Rho):jz i f ρ=takO (decide (i<ρ.length/\ρ.length<=1000)) (f ρ) i ρ:=by
 unfold jz ob takO
 by_cases h:i<ρ.length/\ρ.length<=1000
 ·rw [if_pos h,decide_eq_true h]
  cases f ρ<;>rfl
 ·rw [if_neg h,decide_eq_false h]
end L2
namespace L2
open PySem PySem.Spec PyProof.Rows
theorem Kids.snoc {K:Kb}{H:Hp}{S:Av}{p:Kd}{xs:List V}{es:ao}(h:H p=some (.lst xs))(t:DenL K H S xs es){qs:ay}{ds:ao}(n:p∉qs)(k:Kids K H S qs ds):Kids K H S (qs++[p]) (ds++[.list es]):=by
 induction k with
 | nil=>exact .cons h t (fun z=>nomatch z) .nil
 | cons h' t' n' _ r=>exact .cons h' t' (fun z=>(Vo.mp z).elim n' fun z=>n (by rw [K9.mp z];exact .head _)) (r fun z=>n (.tail _ z))
theorem qcr {S:Av}{p:Kd}{qs:ay}:insL S (qs++[p])=insA (insL S qs) p:=by
 funext a
 unfold insL insA
 rw [Vo,K9,or_assoc]
section
variable {X:Cx}{G:Gm}{M M' Mb L:au}{fr:Fr}{f:aa}{p:ah}{pos:Pos}
def YF (n k:Nat)(fi:ae)(g:ag)(p:ah)(f:aa):Rho->Option Ka:=fun ρ=>ob (Qx n k fi g p f ρ) fun d=>match d with | .list ds=>if ds.all Zm=true then some (.list ds) else none|_=>none
theorem qcj {K:Kb}{n k:Nat}{fi:ae}{g:ag}(hg:GIn n k g):∀ σ H Q,tVd K M (YF n k fi g p f) σ H Q->Ja k (tDI K M fi) (tDGc K M g) (tDT K M p) (tF K M f) σ H Q:=by
 intro σ H Q ⟨S,ρ,d,hs,e,q⟩
 obtain ⟨d',e0,e⟩:=qd e
 obtain ⟨ds,ys,e1,hn,hz,e2,rfl⟩:=Q6 e0
 have e:(if ys.all Zm=true then some (VH ys) else none)=some d:=e
 split at e
 case isFalse=>cases e
 rename_i hall
 cases e
 refine ⟨S,ρ,ds,hs,e1,fun J H1 g1 hJ0=>?_⟩
 have hJ:=hJ0 H1 fun _ _ _ z=>z
 have z1000:1000<sizeLine:=qZ (Kl _)
 refine ⟨fun i m zs σ' H'=>m=ds.length-i/\i<=ds.length/\zs.length<=i/\Same H1 H'/\∃ qs pre rest,zs=qs.map V.ref/\(∀ r∈qs,H1 r=none)/\DenS K H' (insL S qs) M σ' (ρ++Kn k none)/\Kids K H' (insL S qs) qs pre/\zf k g p f ρ (ds.drop i)=some rest/\pre++rest=ys,
  ⟨ds.length,by simp,Us _,Kl _,Same.refl _,[],[],ys,rfl,(fun _ z=>nomatch z),?_,.nil,e2,rfl⟩,?_⟩
 ·have h0:=(hs.same g1).more k
  have sb:∀ a,insL S [] a->S a:=fun a z=>z.elim id fun y=>absurd y (by simp)
  exact ⟨h0.1.sub sb,h0.2.1,fun i d hi q=>let ⟨v,a,b⟩:=h0.2.2 i d hi q;⟨v,a,b.sub fun a _ z=>sb a z⟩⟩
 rintro i m zs σ' H' ⟨rfl,hi,hzi,g2,qs,pre,rest,rfl,new,hS,kids,er,rfl⟩
 by_cases hlt:i<ds.length
 ·refine .inr ⟨hJ.go i H' g2 hlt,fun x H2 y=>?_⟩
  obtain ⟨g2',yd⟩:=hJ.yld i H' x H2 g2 y
  have hd:=yd _ (KI hlt) (insL S qs) fun y e q=>(q.sub fun a ha z=>z.elim id fun y=>absurd (new a y) ha).same (g2.trans g2')
  rw [Vl hlt] at er
  obtain ⟨ρ1,r1,er⟩:=qd er
  obtain ⟨bb,b1,er⟩:=qd er
  obtain ⟨r',hr',rfl⟩:=hg _ ρ _ ρ1 hn (Vh) r1
  have g2:=g2.trans g2'
  have kids:=kids.same g2'
  refine ⟨insL S qs,_,_,_,hS.same g2',hd,r1,fun σ3 H3 g3 hS3=>⟨insL S qs,_,bb,hS3,b1,fun H4 g4=>?_⟩⟩
  cases bb with
  | true =>
   rw [if_pos rfl] at er
   obtain ⟨y1,e3,er⟩:=qd er
   obtain ⟨ys1,e4,er⟩:=qd er
   cases er
   refine iteT ⟨insL S qs,_,y1,hS3.same g4,e3,fun r H5 g5 n5 o5=>⟨by rw [Kh] at hzi;rw [Kh];omega,ds.length-(i+1),by omega,rfl,hlt,?_,g2.trans (g3.trans (g4.trans g5)),qs++[r],pre++[y1],ys1,by simp,?_,?_,?_,e4,by simp⟩⟩
   ·rw [Kq,K4];exact Nat.succ_le_succ hzi
   ·intro a ha
    rcases Vo.mp ha with z|z
    ·exact new a z
    ·rw [K9.mp z];exact (g2.trans (g3.trans g4)).free n5
   ·rw [qcr]
    exact ((hS3.same g4).insO g5 n5 o5).forget hr'
   ·rw [qcr]
    have k4:Kids K H5 (insA (insL S qs) r) qs pre:=((kids.same (g3.trans g4)).sub fun a ha z=>z.elim id fun y=>absurd (by rw [y];exact n5) ha).same g5
    have nr:r∉qs:=fun z=>by
     obtain ⟨o,ho,_⟩:=(kids.same (g3.trans g4)).mut r z
     rw [n5] at ho;cases ho
    cases o5 with
    | lst h t=>exact Kids.snoc h t nr k4
    | dct h kk t =>
     rw [List.all_append,List.all_cons] at hall
     simp [Zm] at hall
  | false =>
   rw [if_neg Vq] at er
   exact iteF ⟨ds.length-(i+1),by omega,rfl,hlt,by omega,g2.trans (g3.trans g4),qs,pre,rest,rfl,new,(hS3.same g4).forget hr',kids.same (g3.trans g4),er,rfl⟩
 ·have hi':i=ds.length:=by omega
  subst hi'
  rw [XG] at er
  cases er
  refine .inl ⟨hJ.stop H' g2,fun D hD=>?_⟩
  have nD:D∉qs:=fun z=>by
   obtain ⟨o,ho,_⟩:=kids.mut D z
   rw [hD] at ho;cases ho
  refine q D (D::qs) _ ((g1.trans g2).lay' hD) (fun r hr=>?_) ?_
  ·rcases Kr.mp hr with e|hr
   ·rw [e];exact (g1.trans g2).free hD
   ·exact g1.free (new r hr)
  ·rw [VD]
   refine .lst qF nD ((kids.sub fun a ha z=>?_).same (Same.lay hD))
   rcases z with z|z
   ·exact .inl z
   ·rcases Kr.mp z with e|z
    ·rw [e] at ha;exact absurd hD ha
    ·exact .inr z
variable {elt iter tg:Kp}{ifs:aG}{x:Str}{N':az}{px:Pos}{sc:K1}{n k:Nat}{fi:ae}{g:ag}
theorem w6 (j:Nat){y:Str}{py spos:Pos}(O:CompOk X N' k sc)(gi:GIn n k g)(sc₀:K1)(hsc:X.env.scope=sc₀)(hB:swB sc₀ sc y py pos=true)(hM:Out0 M j)(hL:j∉L)(hi:PDI X M tg iter fi)(hg:∀ cl C fp pins s H,PDGc (qu X N' sc cl C fp pins s H) M tg g)(hq:∀ cl C fp pins s H,PDTs (qu X N' sc cl C fp pins s H) M ifs p)(he:∀ cl C fp pins s H,PF (qu X N' sc cl C fp pins s H) M elt f)
  (hj:X.N[j]?=some y:=by rfl) (hbk:X.env.blockKind=.function:=by rfl)
  (hs:∀ v,foldedSetIterable iter X.env v=pure v:=by intro _;rfl):PDS X G M L (j::(j+1000)::M) Mb fr (.Assign [.Name y py] (.ListComp elt [⟨tg,iter,ifs,0⟩] sc pos) spos) (jz j (YF n k fi g p f)) :=
 (Y5 (wg:=tDGc X.K M g) (tt:=tDT X.K M p) (te:=tF X.K M f) O hj (jB hsc hB) hi hg hq he (qcy hsc hB hbk) hs).weak fun D σ H ⟨S,ρ,o,hs,e,q⟩=>by
  unfold jz at e
  split at e
  ·rename_i hz
   obtain ⟨d,e1,e⟩:=qd e
   cases e
   exact qcj gi σ H _ ⟨S,ρ,d,hs.ds,e1,fun p fp H1 g1 n o=>q _ H1 _ (hs.takeD n g1 o hM hL hz.1 hz.2)⟩
  ·cases e
end
def scB (N P G:az)(sc:K1):Bool :=
 decide (sc.kind=.function)&&(decide (sc.isCoroutine=false)&&(decide (sc.isGenerator=false)&&(decide N.Nodup&&(decide (N.take P.length=P)&&(P.all (locB sc)&&(sc.names.all (fun y=>decide (y.2≠.free))&&(N.all (fun x=>visB sc x&&locB sc x)&&(G.all (glB sc)&&N.all fun x=>!(x==("__debug__" : Str))&&!(x==("__classdict__" : Str))))))))))
structure ScOk (N P G:az)(sc:K1):Prop where
 fs:FnScope N P sc
 nm:∀ x∈N,visB sc x=true/\locB sc x=true
 gb:∀ x∈G,glB sc x=true
 db:∀ x∈N,(x==("__debug__" : Str))=false/\(x==("__classdict__" : Str))=false
theorem scmk {N P G:az}{sc:K1}(h:scB N P G sc=true):ScOk N P G sc:=by
 unfold scB at h
 simp only [Kt,decide_eq_true_eq,Vk,Bool.not_eq_true'] at h
 obtain ⟨h1,h2,h3,h4,h5,h6,h7,h8,h9,h10⟩:=h
 exact ⟨⟨h1,h2,h3,h4,h5,fun x hx=>qaj (h6 x hx),h7⟩,h8,h9,h10⟩
section
variable {N P G:az}{sc:K1}{x:Str}
theorem ScOk.vis (S:ScOk N P G sc)(i:Nat)(e:N[i]?=some x):Vis sc x:=qa3 (S.nm x (Kz e)).1
theorem ScOk.loc (S:ScOk N P G sc)(i:Nat)(e:N[i]?=some x):Loc sc x:=qaj (S.nm x (Kz e)).2
theorem ScOk.gl {X:Cx}(S:ScOk N P G sc)(i:Nat)(e:G[i]?=some x)(hs:X.env.scope=sc):Gl X x:=gl_fn sc hs (S.gb x (Kz e))
end
section
variable {X:Cx}{G:Gm}{P Gn:az}{M L:au}{x:Str}{pos:Pos}{a b c d:Kp}{fa fb fc fd:aa}
theorem pd_v (A:ScOk X.N P Gn X.env.scope)(i:Nat)(e:X.N[i]?=some x:=by rfl)(hM:i∉M:=by decide):PD X M (.Name x pos) (vr i):=qJ i (A.vis i e) hM e (A.db x (Kz e)).1 (A.db x (Kz e)).2
theorem ZW (A:ScOk X.N P Gn X.env.scope)(i:Nat)(e:X.N[i]?=some x:=by rfl)(hM:i∉M:=by decide)(hf:X.fn x=true\/X.env.scope.names.lookup x=some .local:=by first|exact .inl rfl|exact .inr rfl|assumption):PDG X G M L (.Name x pos) (gNm i):=qav i A.fs.nd (A.loc i e) hM e hf
theorem pda1 (ha:PD X M a fa)(ea:starEach [a] X.env=(false,eval a X.env)::starEach [] X.env:=by rfl):PDA X M [a] (aC fa aN):=QK ha QV ea
theorem pda2 (ha:PD X M a fa)(hb:PD X M b fb)(ea:starEach [a,b] X.env=(false,eval a X.env)::starEach [b] X.env:=by rfl)(eb:starEach [b] X.env=(false,eval b X.env)::starEach [] X.env:=by rfl):PDA X M [a,b] (aC fa (aC fb aN)):=QK ha (pda1 hb eb) ea
theorem pda3 (ha:PD X M a fa)(hb:PD X M b fb)(hc:PD X M c fc)(ea:starEach [a,b,c] X.env=(false,eval a X.env)::starEach [b,c] X.env:=by rfl)(eb:starEach [b,c] X.env=(false,eval b X.env)::starEach [c] X.env:=by rfl)(ec:starEach [c] X.env=(false,eval c X.env)::starEach [] X.env:=by rfl):PDA X M [a,b,c] (aC fa (aC fb (aC fc aN))):=QK ha (pda2 hb hc eb ec) ea
end
def FnK (K:Kb)(n:Str)(st:Va):Prop:=∃ (f:Kd) (fd:Vs),K6 K mainGlobals n=some (some (.ref f))/\Fun K n n st f fd
theorem FnK.of {K:Kb}{n:Str}{st:Va}{f:Kd}{oc:Kc}{od an:aS}{osl:aF}{kV doc pm cdv ct:Kc}(a:K6 K mainGlobals n=some (some (.ref f)))(l:K.lookup f=some ⟨oc,od,.func (VP n n (zW st) (zr st) (qp st) .none kV doc pm an cdv ct),osl⟩)
  (c:Uw K cdv n=true) (k:VW K (.ref f)=true):FnK K n st:=⟨f,_,a,W8 l c k⟩
def adr (mg:ar)(c:Str):Kd:=match mg c with
 | some (.ref C)=>C
 | _=>0
section
variable {K:Kb}{mg:ar}{XS:List (Str×List Str)}{c cn:Str}{cs:az}
theorem XTab.has (h:(XS.any fun p=>p.1==c)=true):∃ p∈XS,p.1=c:=by
 obtain ⟨p,hp,e⟩:=List.any_eq_true.mp h
 exact ⟨p,hp,beq_iff_eq.mp e⟩
end
noncomputable def catL:Ka->Ka->Option Ka
 | .list ds,.list es=>if ds.length+es.length<=1000 then some (.list (ds++es)) else none
 | _,_=>none
theorem qb1 {X:Cx}{M:au}{a b:Kp}{fa fb:aa}{pos:Pos}(ha:PD X M a fa)(hb:PD X M b fb):PF X M (.BinOp a .Add b pos) (ev2 fa fb catL) :=
 (qaC YZ ha hb).weak fun σ H Q ⟨S,ρ,d,hs,e,q⟩=>by
  obtain ⟨x,e1,e⟩:=qd e
  obtain ⟨y,e2,e⟩:=qd e
  refine ⟨S,ρ,x,hs,e1,fun v H1 g1 d1=>⟨S,ρ,y,hs.same g1,e2,fun v2 H2 g2 d2=>?_⟩⟩
  unfold catL at e
  split at e
  ·split at e
   ·rename_i ds es hc
    cases e
    obtain ⟨l,xs,rfl,h1,t1⟩:=d1.list_inv
    obtain ⟨l2,ys,rfl,h2,t2⟩:=d2.list_inv
    have h1:=h1.imp (fun q=>(⟨q.1.off (S:=S) g2.off q.2,q.2⟩:_/\_)) id
    refine ⟨l,l2,xs,ys,rfl,rfl,SqLS.sq (S:=S) h1,h2.sq,by rw [t1.length,t2.length];exact Vu (qZ hc),fun p hp=>q p _ ((g1.trans g2).lay' hp) ((g1.trans g2).free hp) (OwnO.laid hp ((t1.same g2).append t2))⟩
   ·cases e
  ·cases e
noncomputable def rngV:Int->Nat->List V
 | _,0=>[]
 | lo,n+1=>.int lo::rngV (lo+1) n
theorem yt:∀ (lo:Int) (n:Nat),(rngV lo n).length=n
 | _,0=>rfl
 | lo,n+1=>by rw [rngV,Kk,yt]
theorem YG {K:Kb}{H:Hp}{S:Av}:∀ (lo:Int) (n:Nat),DenL K H S (rngV lo n) (rngL lo n)
 | _,0=>.nil
 | lo,n+1=>.cons (.int lo) (YG (lo+1) n)
theorem yF:∀ (us:aw) (lo:Int),(∀ (j:Nat) v,us[j]?=some v->∃ t,v=.int (lo+j) t)->Vals (rngV lo us.length) us
 | [],_,_=>.nil
 | u::us,lo,h=>by
  obtain ⟨t,e⟩:=h 0 u rfl
  refine .cons ⟨t,by rw [e];congr 1;omega⟩ (yF us (lo+1) fun j v hv=>?_)
  obtain ⟨t,e⟩:=h (j+1) v (by rw [List.getElem?_cons_succ];exact hv)
  exact ⟨t,by rw [e];congr 1;omega⟩
inductive DenU (K:Kb)(H:Hp)(S:Av)(p:Kd):Nat->List V->List Ka->Prop
 | here {vs:List V} {d:Ka} {ds:ao}:DenL K H S vs ds->DenU K H S p 0 (.ref p::vs) (d::ds)
 | there {i:Nat} {v:V} {d:Ka} {vs:List V} {ds:ao}:Den K H S v d->DenU K H S p i vs ds->DenU K H S p (i+1) (v::vs) (d::ds)
section
variable {K:Kb}{H H':Hp}{S:Av}{p:Kd}{i:Nat}{vs:List V}{ds:ao}
theorem DenU.length (h:DenU K H S p i vs ds):vs.length=ds.length:=by
 induction h with
 | here t=>rw [Kk,Kk,t.length]
 | there a t ih=>rw [Kk,Kk,ih]
end
inductive Wk (K:Kb)(H:Hp):List Kd->List V->List Ka->Prop
 | nil:Wk K H [] [] []
 | kid {q:Kd} {xs:List V} {es:ao} {qs:ay} {vs:List V} {ds:ao}:H q=some (.lst xs)->DenL K H (fun _=>False) xs es->Qg es=true->q∉qs->Wk K H qs vs ds->Wk K H (q::qs) (.ref q::vs) (.list es::ds)
 | flt {v:V} {d:Ka} {qs:ay} {vs:List V} {ds:ao}:Den K H (fun _=>False) v d->flat d=true->Wk K H qs vs ds->Wk K H qs (v::vs) (d::ds)
inductive Wl (K:Kb)(H:Hp):List Kd->List V->List Ka->Prop
 | nil:Wl K H [] [] []
 | cons {t:Kd} {ws:List V} {es:ao} {qs rs:ay} {vs:List V} {ds:ao}:H t=some (.tup ws)->Wk K H qs ws es->(∀ q∈qs,q∉rs)->Wl K H rs vs ds->Wl K H (qs++rs) (.ref t::vs) (.tuple es::ds)
section
variable {K:Kb}{H H':Hp}{S:Av}{qs rs:ay}{vs ws:List V}{ds es:ao}{q:Kd}{o:HO}
theorem Wk.length (h:Wk K H qs vs ds):vs.length=ds.length:=by
 induction h with
 | nil=>rfl
 | kid _ _ _ _ _ r=>rw [Kk,Kk,r]
 | flt _ _ _ r=>rw [Kk,Kk,r]
theorem Wl.length (h:Wl K H qs vs ds):vs.length=ds.length:=by
 induction h with
 | nil=>rfl
 | cons _ _ _ _ r=>rw [Kk,Kk,r]
end
noncomputable def repD:Ka->Ka->Option Ka
 | .list ds,.int k=>if ds.length*k.toNat<=1000/\k<=1000/\-1000<=k then some (.list (Kn k.toNat ds).flatten) else none
 | _,_=>none
theorem DenL.rep {K:Kb}{H:Hp}{S:Av}{vs:List V}{ds:ao}(t:DenL K H S vs ds)(k:Nat):DenL K H S (Kn k vs).flatten (Kn k ds).flatten:=by
 induction k with
 | zero=>exact .nil
 | succ k ih =>
  rw [VC,VC,V8,V8]
  exact t.append ih
theorem Wi {x y d:Ka}(e:repD x y=some d):∃ ds k,x=.list ds/\y=.int k/\(ds.length*k.toNat<=1000/\k<=1000/\-1000<=k)/\d=.list (Kn k.toNat ds).flatten:=by
 unfold repD at e
 split at e
 ·split at e
  ·rename_i hc;cases e;exact ⟨_,_,rfl,rfl,hc,rfl⟩
  ·cases e
 ·cases e
theorem qdv {X:Cx}{M:au}{a b:Kp}{fa fb:aa}{pos:Pos}(ha:PF X M a fa)(hb:PD X M b fb):PF X M (.BinOp a .Mult b pos) (ev2 fa fb repD) :=
 (qaC qdh ha hb).weak fun σ H Q ⟨S,ρ,d,hs,e,q⟩=>by
  obtain ⟨x,e1,e⟩:=qd e
  obtain ⟨y,e2,e⟩:=qd e
  refine ⟨S,ρ,x,hs,e1,fun p H1 g1 n1 o1=>⟨S,ρ,y,hs.same g1,e2,fun v2 H2 g2 d2=>?_⟩⟩
  obtain ⟨ds,k,rfl,rfl,hc,rfl⟩:=Wi e
  cases d2.int_inv
  cases o1 with
  | @lst xs _ h t =>
   have t':=t.sub (S':=S) fun a _ z=>.inl z
   refine ⟨p,k,xs,rfl,rfl,g2 _ _ h,by omega,by omega,?_,fun l hl=>q l _ ((g1.trans g2).lay' hl) ((g1.trans g2).free hl) (OwnO.laid hl (DenL.rep (t'.same g2) _))⟩
   rw [t.length]
   exact Vu (qZ hc.1)
def Yp (i j:Int):Prop:=j≠0/\j.natAbs.log2<9000
noncomputable instance (i j:Int):Decidable (Yp i j):=inferInstanceAs (Decidable (_/\_))
theorem qao {X:Cx}:OpR X (binaryOp .FloorDiv) (rI Yp fun i j=>.int (i.fdiv j)):=opI fun _ _ _ _ _ _ _ hc q=>floordiv_int hc.1 q (.inl (PyProof.noPylong_of_log2 hc.2))
def jh:Ka->Ka->Option Ka:=iiD fun i j=>if Yp i j then some (.int (i.fdiv j)) else none
theorem qbn {X:Cx}:OpD X (binaryOp .FloorDiv) jh:=Zq qao
section
variable {X:Cx}{G:Gm}{M M' Mb L:au}{fr:Fr}{a b c:Kp}{f fk fj:aa}{pos:Pos}
theorem W9:PGet X (rIxL X.K):=by
 intro pins s σ H x y v u Q I rx ry h
 obtain ⟨p,xs,i,z,rfl,rfl,hq,he,q⟩:=h
 cases rx
 obtain ⟨t,rfl⟩:=ry
 obtain ⟨its,r,pl,hz⟩:=I.list hq
 obtain ⟨j,h1,h2,h3,h4,h5⟩:=Jf he
 obtain ⟨w,ew,rw'⟩:=r.get h2
 have hl:=r.length
 have hn:=Zy
 have fin:EP X pins σ Q w s:=⟨z,H,I,rw',q⟩
 by_cases h0:0<=i
 ·have hj:i.toNat=j:=by rw [X6 h0 h5] at h1;exact K3 h1
  exact wpAny_getItem_list pl.isList h0 (by omega) (by rw [hj];simpa using ew) fin
 ·have hj:(i+(its.toArray.size:Int)).toNat=j:=by rw [seqIndex_neg (by omega) h4] at h1;rw [Km,← hl];exact K3 h1
  exact wpAny_getItem_list_neg pl.isList (by omega) (by rw [Km]<;>omega) (by omega) (by rw [hj];simpa using ew) fin
def yw (i:Nat)(fk fj f:aa)(h:aP):Rho->Option Out:=fun ρ=>ob (vr i ρ) fun c=>ob (fk ρ) fun k=>ob (Zo c k) fun n=>ob (jY c n) fun l=>ob (fj ρ) fun j=>ob (ixD l j) fun x=>ob (f ρ) fun y=>ob (iiD (fun a b=>some (.int (h a b))) x y) fun z=>ob (setD l j z) fun l'=>some (.nx (ρ.set i (some (yQ c n l'))))
theorem yj (i:Nat){x:Str}{px sp tpos:Pos}{op:Operator}{h:aP}(ho:PIp X op (ipI h))(hv:Vis X.env.scope x)(hM:Dp M i)(hk:PD X M b fk)(hj:PD X M c fj)(he:PD X M a f)(hpx:Je b:=by intro _ _;rfl)(hN:X.N[i]?=some x:=by rfl)(hd:(x==("__debug__" : Str))=false:=by decide +kernel)(hcd:(x==("__classdict__" : Str))=false:=by decide +kernel)
  (ha:∀ ov iv new,augStore c ov iv new=(do holding [new,ov,iv] (setItem ov iv new);release [new,ov,iv] [];pure .next):=by intros;rfl) :
  PDS X G M L M Mb fr (.AugAssign (.Subscript (.Subscript (.Name x px) b sp) c tpos) op a pos) (yw i fk fj f h) :=
 (qb5 (qcu (r:=fun x y H Q=>rIxL X.K x y H Q\/rIxT X.K x y H Q) (YS.or qae) (qaD i hv hN hd hcd) hk hpx) hj W9 he ho set_list ha).weak fun D σ H ⟨S,ρ,o,os,e,q⟩=>by
  obtain ⟨c0,e1,e⟩:=qd e
  obtain ⟨k0,e2,e⟩:=qd e
  obtain ⟨n,e3,e⟩:=qd e
  obtain ⟨l,e4,e⟩:=qd e
  obtain ⟨j0,e5,e⟩:=qd e
  obtain ⟨x0,e6,e⟩:=qd e
  obtain ⟨y0,e7,e⟩:=qd e
  obtain ⟨z0,e8,e⟩:=qd e
  obtain ⟨l',e9,e⟩:=qd e
  cases e
  obtain ⟨k,rfl⟩:=wO e3
  obtain ⟨F,f0⟩:=os.deep
  obtain ⟨pp,a1,b1,c1⟩:=f0.own i hM _ (Z5 e1)
  refine ⟨_,a1,S,ρ,.int k,os.ds,e2,fun w H1 g1 d1=>?_⟩
  cases d1.int_inv
  obtain ⟨ls,jn,jx,rfl,rfl,ej,rfl⟩:=Wn e9
  obtain ⟨q0,xs,es,m0,el,h0,t0,ix,put⟩:=(b1.same g1).kid e4 rfl
  cases el
  refine ix k e3 _ ⟨S,ρ,.int jn,os.ds.same g1,e5,fun jv H2 g2 dj=>?_⟩
  cases dj.int_inv
  have t2:=t0.same g2
  have e6:atI ls jn=some x0:=e6
  unfold atI at e6
  rw [ej] at e6
  have e6:ls[jx]?=some x0:=e6
  obtain ⟨xv,hx,dx⟩:=t2.get e6
  obtain ⟨m,m2,rfl,rfl,e8⟩:=Zk e8
  cases e8
  refine ⟨q0,xs,jn,xv,rfl,rfl,SqL.of (g2 _ _ h0),?_,S,ρ,.int m2,(os.ds.same g1).same g2,e7,fun yv H3 g3 dy=>?_⟩
  ·unfold atI
   rw [t2.length,ej]
   exact hx
  cases dx.int_inv
  cases dy.int_inv
  refine ⟨m,m2,rfl,rfl,q0,xs,jn,jx,rfl,rfl,g3 _ _ (g2 _ _ h0),by rw [t2.length];exact ej,?_⟩
  have os3:=os.same (g1.trans (g2.trans g3))
  exact q _ _ _ (os3.writeD (f0.same (g1.trans (g2.trans g3))) hM (Z5 e1) a1 m0 rfl (put H3 (g2.trans g3) _ _ (c1 q0 m0).1 os3.ds.1 (((t2.same g3).set jx (.int _)).off os3.ds.1 (Off.upd (c1 q0 m0).1))))
end
section
variable {prog:Kw}{w:KB}{A:KG}{E:ak}{s:Ke}
theorem JV {Q:List Kc->Ke->Prop}{r:Kd}{a b c:Int}{t u v:Tok}{n:Nat}(hh:A.handled=none)(hr:IsRange s.heap r a b c t u v)(hs:Nj a b c=true)(hn:Um a b c=n)(hz:n<=2 ^ 24)
  (q:∀ (h':KC) (tk:Nat) (acc:aK),(∀ x o,s.heap.get? x=some o->h'.get? x=some o)->ItemsOf (fun i v=>∃ t,v=.int (a+i*c) t) acc n->Q acc.toList { s with heap:=h',toks:=tk }):wpAny (model prog w) A (collect (.ref r)) Q E s:=by
 unfold collect
 refine Kf (wpAny_runValue (Vd PySem.F.entry_proto_collect ?_))
 rw [KZ PySem.F.plain_proto_collect _]
 refine (Kf (VA ?_):wpAny _ A.in1 (newList [] >>= fun l=>again (.builtin "list.__iadd__" ⟨[l,.ref r],[]⟩)) _ _ s)
 refine Ko ⟨Vv XR _,Vd PySem.F.entry_list_iadd ?_⟩
 rw [KZ XR _]
 generalize hG:s.heap.objs.size=g
 have hS:(s.heap.push { cls:=.type "list", data:=.seq ([]:List Kc).toArray }).get? g=some { cls:=.type "list", data:=.seq #[] 0 }:=by rw [← hG];exact Kx _ rfl
 have fresh:∀ {x:Kd} {o:Obj},s.heap.get? x=some o->x≠g:=fun e z=>absurd (Ks e) (by rw [z,hG];exact Vt _)
 have fin:∀ (h':KC) (tk:Nat) (acc:aK) (c':Nat),(∀ b o,b≠g->(s.heap.push { cls:=.type "list", data:=.seq ([]:List Kc).toArray }).get? b=some o->h'.get? b=some o)->h'.get? g=some { cls:=.type "list", dict:=none,data:=.seq acc c',slots:=#[] }->ItemsOf (fun i v=>∃ t,v=.int (a+i*c) t) acc n->
   wpAny (model prog w) A (match K8 g with
    | K8 a=>do
     match (← load a).data with
      | Data.seq xs _=>pure xs.toList
      | _=>unsupported "internal:collect"
    | _=>unsupported "internal:collect") Q E { s with heap:=h',toks:=tk }:=fun h' tk acc c' kp hL it=>by
  show wpAny _ A (load g >>= _) _ _ _
  refine Kf (wpAny_load hL (Ko ?_))
  exact q h' tk acc (fun x o e=>kp x o (fresh e) (Kg _ e)) it
 refine VO (wpAny_extend_range (A:=A) (prog:=prog) (w:=w) (R:=fun y z=>∃ h' tk acc c',y=.ok (.ret (.ref g))/\z={ s with heap:=h',toks:=tk }/\(∀ b o,b≠g->(s.heap.push { cls:=.type "list", data:=.seq ([]:List Kc).toArray }).get? b=some o->h'.get? b=some o)/\h'.get? g=some { cls:=.type "list", dict:=none,data:=.seq acc c',slots:=#[] }/\ItemsOf (fun i v=>∃ t,v=.int (a+i*c) t) acc n)
  (s:={ s with heap:=s.heap.push { cls:=.type "list", data:=.seq ([]:List Kc).toArray } }) hh (Kg _ hr) hs hn hz g (.ref g) 0 hS fun h' tk acc c' kp hL it=>⟨h',tk,acc,c',rfl,rfl,kp,hL,it⟩) (fun fin' s' y=>?_) (fun e s' y=>?_)
 ·cases fin' with
  | done f =>
   obtain ⟨h',tk,acc,c',e,rfl,kp,hL,it⟩:=y
   cases e
   exact fin h' tk acc c' kp hL it
  | again c1 =>
   refine ⟨y.1,UD y.2 fun z s'' hz=>?_⟩
   obtain ⟨h',tk,acc,c',rfl,rfl,kp,hL,it⟩:=hz
   exact fin h' tk acc c' kp hL it
 ·obtain ⟨_,_,_,_,e,_⟩:=y
  cases e
theorem Z8 {Q:ak}{r:Kd}{a b c:Int}{t u v:Tok}{n:Nat}(hh:A.handled=none)(hr:IsRange s.heap r a b c t u v)(hs:Nj a b c=true)(hn:Um a b c=n)(hz:n<=1000)
  (q:∀ (h':KC) (tk:Nat) (acc:aK),(∀ x o,s.heap.get? x=some o->h'.get? x=some o)->ItemsOf (fun i v=>∃ t,v=.int (a+i*c) t) acc n->Q (.ref h'.objs.size) { s with heap:=h'.push { cls:=.type "tuple", data:=.seq acc },toks:=tk }):wpAny (model prog w) A (call (.type "tuple") [.ref r]) Q E s:=by
 refine callType_codes (Q₁:=fun obj s₁=>s₁.TypeIs obj "tuple"/\Q obj s₁) Xg (PySem.F.typeCall_tuple_1 _) PySem.F.entry_object_init ?_ fun obj s₁ h₁ =>
  ⟨h₁.1,PySem.F.args_object_init_2 obj _,object_init_meets Xg.init.lookup Xg.made (by decide) prog w A.in1 _ s₁ ⟨h₁.1,rfl,h₁.2⟩⟩
 refine codeAny_of_tree ?_
 show wpAny _ _ (do checkBuiltinCall "tuple.__new__" ⟨[.type "tuple", .ref r],[]⟩;again (.builtin "tuple.__new__" ⟨[.type "tuple", .ref r],[]⟩)) _ _ s
 refine Kf (wpAny_of_eq (PySem.F.newCall_tuple_1 _) ?_)
 refine Ko ⟨Vv XT _,Vd PySem.F.entry_tuple_new ?_⟩
 rw [KZ XT _]
 have x1:=sub_tuple_self
 have x2:=init_tuple_lookup
 have x3:=madeHere_tuple
 have x4:s.TypeIs (.ref r) "range" := ⟨_,hr,rfl⟩
 have x5:A.in1.in1.handled=none:=hh
 have x6:n<=2 ^ 24:=by omega
 wp_walk using wpAny_typeOf x4,JV (A:=A.in1.in1) x5 hr hs hn x6
 intro h' tk acc kp it
 refine (Kf ?_:wpAny _ _ (VE acc.toList.toArray >>= fun v=>ret v) _ _ _)
 unfold VE
 have sz:acc.toList.toArray.size<=sizeLine:=by rw [Xh,it.1,X4];omega
 refine VA (Ko ?_) sz
 rw [Xh]
 exact ⟨⟨_,Kx _ rfl,rfl⟩,q h' tk acc kp it⟩
end
theorem qa2 {acc:aK}{a:Int}{n:Nat}(it:ItemsOf (fun i v=>∃ t,v=.int (a+i*1) t) acc n):Vals (rngV a n) acc.toList:=by
 have:=yF acc.toList a fun i v hv=>by
  obtain ⟨t',y⟩:=it.2 i v (by rw [← Array.getElem?_toList];exact hv)
  exact ⟨t',by rw [y];congr 1;omega⟩
 rwa [Ve,it.1] at this
def trD (xs:ao):Option Ka:=ob (QQ xs) fun ds=>some (.tuple ds)
theorem Yd {xs ds:ao}(e:QQ xs=some ds):∃ j,xs=[.int j]/\(-1000<=j/\j<=1000)/\ds=rngL 0 j.toNat:=by
 unfold QQ at e
 split at e
 ·split at e
  ·rename_i hj;cases e;exact ⟨_,rfl,hj,rfl⟩
  ·cases e
 ·cases e
theorem qbQ {X:Cx}{M:au}{a:Kp}{fs:ae}{p1 p2 pos rpos:Pos}{k:Nat}(hr:Room k X.A)(hg:Gl X "tuple")(hm:X.mg "tuple" = none)(hgr:Gl X "range")(hmr:X.mg "range" = none)(ha:PDA X M [a] fs)
  (he:starEach [.Call (.Name "range" p2) [a] [] rpos] X.env=(false,eval (.Call (.Name "range" p2) [a] [] rpos) X.env)::starEach [] X.env:=by rfl) (hpl:(backTo pos (starEach [] X.env)).any (·.1)=false:=by rfl) (he2:starEach [a] X.env=(false,eval a X.env)::starEach [] X.env:=by rfl) (hpl2:(backTo rpos (starEach [] X.env)).any (·.1)=false:=by rfl) :
  PD X M (.Call (.Name "tuple" p1) [.Call (.Name "range" p2) [a] [] rpos] [] pos) (evA fs trD):=by
 intro pins s σ H Q I ⟨S,ρ,d,hs,e,q⟩
 obtain ⟨xs,e1,e⟩:=qd e
 obtain ⟨ds,e2,e⟩:=qd e
 cases e
 obtain ⟨j,rfl,hj,rfl⟩:=Yd e2
 have bl:bootBuiltins "tuple" = some (.type "tuple"):=rfl
 have br:bootBuiltins "range" = some (.type "range"):=rfl
 refine VL (Qq I hg hm bl ?_ (by decide +kernel) (by decide +kernel))
 refine Vr ?_ he hpl
 rw [he]
 refine Calls.spliced_cons ?_
 refine VL (Qq I hgr hmr br ?_ (by decide +kernel) (by decide +kernel))
 refine Vr ?_ he2 hpl2
 refine thn (ha rpos pins s σ H (fun vs H1=>Same H H1/\DenL X.K H1 S vs [.int j]) I ⟨S,ρ,_,hs,e1,fun vs H1 g1 d1=>⟨g1,d1⟩⟩) fun us s1 ⟨vs,H1,I1,r,g1,d1⟩=>?_
 obtain ⟨v,rfl,dv⟩:=d1.inv1
 obtain ⟨u,rfl,ru⟩:=r.one
 cases dv
 obtain ⟨t,rfl⟩:=(show ∃ t,u=UC j t from ru)
 refine call_range_1 ?_
 have I2:=I1.kept (t':=s1.toks+1+1) (h':=s1.heap.push { cls:=.type "range", data:=.fields #[.int 0 s1.toks,.int j t,.int 1 (s1.toks+1)] }) fun b o y=>Kg _ y
 refine Calls.spliced_nil ?_
 have sz:Um 0 j 1=(j.toNat:Nat):=by rw [rangeSize_nat];congr 2;omega
 refine Z8 hr.hd (IsRange.new _ 0 j 1 _ _ _) (small_one (by omega) (by omega) (by omega) (by omega)) sz (by omega) fun h' tk acc kp it=>?_
 have I3:=I2.kept (t':=tk) kp
 have fr:H1 h'.objs.size=none:=I3.hok.fresh (Kl _)
 have I4:=I3.laid (t':=tk) (o:=.tup (rngV 0 j.toNat)) (h':=h'.push { cls:=.type "tuple", data:=.seq acc }) (fun b o e=>Kg _ e) (Kl _) (show q8 X.prog X.w _ _ _ (.tup _) from ⟨by rw [yt,X4];omega,acc.toList,qa2 it,by rw [Xh];exact IsTup.new _ _⟩)
 exact ⟨.ref _,_,I4,rfl,q _ _ (g1.lay' fr) (.tuple (SqT.of qF) ((YG 0 j.toNat)))⟩
theorem yz:isSubtype (.type "tuple") (.type "set")=pure false:=by rw [isSubtype_type];kernel_rfl
theorem JF:isSubtype (.type "tuple") (.type "frozenset")=pure false:=by rw [isSubtype_type];kernel_rfl
section
variable {prog:Kw}{w:KB}{A:KG}{E:ak}{s:Ke}
noncomputable abbrev QJ (led:Bool):Obj:={ cls:=.type "set", dict:=none,data:=.set #[] 0 (.fresh 0 0 led) }
def SetQ (prog:Kw)(w:KB)(s:Ke)(f:aH)(n:Nat)(h':KC):Prop :=
 h'.SetOf (intKind prog w) s.heap.objs.size (fun k=>(firstMet f n).any (·==k)) (firstMet f n).length/\∀ b o,b<s.heap.objs.size->s.heap.get? b=some o->h'.get? b=some o
set_option maxHeartbeats 3200000 in
theorem Jk {l:Kd}{items:aK}{f:aH}{Q:ak}(hh:A.handled=none)(hl:s.heap.IsTuple l items)(hi:∀ (i:Nat) (v:Kc),items[i]?=some v->∃ t,v=.int (f i) t)(hb:items.size+1<scanBound)
  (h:∀ (h':KC) (tk:Nat),SetQ prog w s f items.size h'->Q (.ref s.heap.objs.size) { s with heap:=h',toks:=tk }):wpAny (model prog w) A (call (.type "set") [.ref l]) Q E s:=by
 obtain ⟨c,tl,hmro⟩:=VF.mro
 have hmade:=VF.made
 have hsub:=VF.sub
 refine wpAny_call (codeAny_of_tree ?_)
 show wpAny _ _ (callAny (.type "set") _) _ _ _
 refine Ko ⟨Code.quiet_builtin _ (by decide +kernel),Vd PySem.F.entry_type_call ?_⟩
 rw [Around.under_plain (weight_type_call_type "set" [.ref l] []) rfl]
 have h1:=VF.notType
 have h2:=VF.canCreate
 have hct:=PySem.F.typeCall_set_1 (.ref l)
 repeat (any_goals (first|assumption|wp_step))
 refine UD (code_set_new_1 (.ref l) (E:=E) (Q₁:=fun obj y=>∃ led,obj=.ref s.heap.objs.size/\y={ s with heap:=s.heap.push (QJ led) }) fun led=>⟨led,rfl,rfl⟩) fun r y hr=>?_
 cases r with
 | error e=>exact hr
 | ok fl =>
  cases fl with
  | ret obj =>
   obtain ⟨led,rfl,rfl⟩:=hr
   have hS:(s.heap.push (QJ led)).get? s.heap.objs.size=some (QJ led):=Kx _ rfl
   have hT:Shared.TypeIs { s with heap:=s.heap.push (QJ led) } (.ref s.heap.objs.size) "set" := ⟨_,hS,rfl⟩
   have hli:=VF.init.lookup
   have hbi:=VF.init.bind (.ref s.heap.objs.size)
   repeat (any_goals (first|assumption|wp_step))
   refine UD (Xc (R:=wants (fun r y=>r=.none/\∃ h' tk,y={ s with heap:=h',toks:=tk }/\SetQ prog w s f items.size h') E) VF.init.plain PySem.F.entry_set_init (check_set_init_1 hT ?_)) fun r₂ s₂ hr₂=>?_
   ·obtain ⟨ol,hol,hcl,nl,hdl⟩:=hl
    obtain ⟨ocls,odict,odata,oslots⟩:=ol
    simp only at hcl hdl
    subst hcl;subst hdl
    have hol':(s.heap.push (QJ led)).get? l=some { cls:=.type "tuple", dict:=odict,data:=.seq items nl,slots:=oslots }:=Kg _ hol
    have k1:=yz
    have k2:=JF
    have k3:(Ua "tuple" == Ua "dict")=false:=by decide
    have hl1:(s.heap.push (QJ led)).IsTuple l items:=⟨_,hol',rfl,nl,rfl⟩
    unfold XA.«set.__init__» noKeywords Builtin.Frozenset.updateFrom
    generalize hPI:pyIter=PI
    wp_walk
    subst hPI
    refine UI hl1 ?_
    refine Kf (wpAny_runValue ?_)
    have ls:l<s.heap.objs.size:=Ks hol
    have hh3:A.in1.in1.in1.handled=none:=by simp [hh]
    have big:(s.heap.push (QJ led)).objs.size=s.heap.objs.size+1:=Vz _ _
    have hneI:l≠(s.heap.push (QJ led)).objs.size:=by rw [big];exact KA (K5 ls)
    have hSf:s.heap.objs.size∉[(s.heap.push (QJ led)).objs.size,l]:=by
     rw [big];intro m
     rcases Kr.mp m with m|m
     ·exact absurd m (KA (UX _))
     ·exact absurd (K9.mp m) (Uv ls)
    refine codeAny_set_update_loopS ((Walks.tuple hh3 _ l hneI items).toS) s.heap.objs.size hSf f hi hb (items.size-0) 0 _ (by omega) (Us _) ⟨⟨_,Kx _ rfl,rfl,rfl⟩,(hl1.push _)⟩ ?setA ?setB
    case setA =>
     have hget:((s.heap.push (QJ led)).push { cls:=.type "tuple_iterator", data:=.fields #[.ref l,.int 0 0] }).get? s.heap.objs.size=some (QJ led):=Kg _ hS
     exact SetOf_congr ((setObjOf_fresh (knd:=intKind prog w) led).setOf hget (by unfold scanBound;omega)) (fun _=>rfl) rfl
    case setB =>
     intro s' hm hS'
     obtain ⟨h',g',d',tk',os'⟩:=s'
     obtain rfl:g'=s.gens:=hm.gens
     obtain rfl:d'=s.drawn:=hm.drawn
     obtain rfl:os'=s.os:=hm.os
     show wpAny _ _ _ _ _ _
     refine Ko ?_
     show wpAny _ _ (ret UL) _ _ _
     refine Ko ⟨rfl,h',tk',rfl,hS',fun b o hb e=>hm.heap b o (fun m=>?_) (Kg _ (Kg _ e))⟩
     rcases Kr.mp m with m|m
     ·exact absurd m (KA hb)
     ·exact absurd (K9.mp m) (by rw [big];exact KA (K5 hb))
   ·cases r₂ with
    | error e=>exact hr₂
    | ok fl₂ =>
     cases fl₂ with
     | ret r =>
      obtain ⟨rfl,h',tk,rfl,hS'⟩:=hr₂
      repeat (any_goals (first|assumption|wp_step))
      exact h _ _ hS'
     | _=>exact hr₂.elim
  | _=>exact hr.elim
end
def ZS:List Ka->Option (List Int)
 | []=>some []
 | .int i::ds=>ob (ZS ds) fun is=>some (i::is)
 | _=>none
def j4:Ka->Option Ka
 | .tuple ds=>ob (ZS ds) fun is=>if is.length<=1000 then some (.int ((is.foldl KR []).length:Nat)) else none
 | _=>none
theorem yV {x d:Ka}(e:j4 x=some d):∃ ds is,x=.tuple ds/\ZS ds=some is/\is.length<=1000/\d=.int ((is.foldl KR []).length:Nat):=by
 unfold j4 at e
 split at e
 ·obtain ⟨is,e1,e⟩:=qd e
  split at e
  ·rename_i h;cases e;exact ⟨_,is,rfl,e1,h,rfl⟩
  ·cases e
 ·cases e
theorem J7 {ds:ao}{is:aR}(e:ZS ds=some is):ds=is.map .int:=by
 induction ds generalizing is with
 | nil=>cases e;rfl
 | cons d ds ih =>
  cases d with
  | int i =>
   obtain ⟨js,e1,e⟩:=qd (show ob (ZS ds) (fun is=>some (i::is))=some is from e)
   cases e
   rw [ih e1];rfl
  | _=>cases e
theorem Q4 (is:aR):firstMet (fun i=>is.getD i 0) is.length=is.foldl KR []:=by
 unfold firstMet
 congr 1
 refine XJ (by simp) fun i h1 h2=>?_
 rw [XM,List.getElem_range,V7,KI h2];rfl
theorem wZ {X:Cx}{M:au}{a:Kp}{f:aa}{p1 p2 pos rpos:Pos}{k:Nat}(hr:Room k X.A)(hg:Gl X "len")(hm:X.mg "len" = none)(hgr:Gl X "set")(hmr:X.mg "set" = none)(ha:PD X M a f)
  (he:starEach [.Call (.Name "set" p2) [a] [] rpos] X.env=(false,eval (.Call (.Name "set" p2) [a] [] rpos) X.env)::starEach [] X.env:=by rfl) (hpl:(backTo pos (starEach [] X.env)).any (·.1)=false:=by rfl) (he2:starEach [a] X.env=(false,eval a X.env)::starEach [] X.env:=by rfl) (hpl2:(backTo rpos (starEach [] X.env)).any (·.1)=false:=by rfl) :
  PD X M (.Call (.Name "len" p1) [.Call (.Name "set" p2) [a] [] rpos] [] pos) (ev1 f j4):=by
 intro pins s σ H Q I ⟨S,ρ,d,hs,e,q⟩
 obtain ⟨x,e1,e⟩:=qd e
 obtain ⟨ds,is,rfl,ei,hz,rfl⟩:=yV e
 have dsl:ds.length=is.length:=by rw [J7 ei,Kh]
 have bs:bootBuiltins "set" = some (.type "set"):=rfl
 refine VL (Qq I hg hm Uk ?_ (by decide +kernel) (by decide +kernel))
 refine Xa ?_ he hpl
 rw [he]
 refine Calls.spliced_cons ?_
 refine VL (Qq I hgr hmr bs ?_ (by decide +kernel) (by decide +kernel))
 refine Vr ?_ he2 hpl2
 refine thn ((QK ha QV he2) rpos pins s σ H (fun vs H1=>Same H H1/\DenL X.K H1 S vs [.tuple ds]) I ⟨S,ρ,_,hs,by show ob (f ρ) _=_;rw [e1];rfl,fun vs H1 g1 d1=>⟨g1,d1⟩⟩) fun us s1 ⟨vs,H1,I1,r,g1,d1⟩=>?_
 obtain ⟨v,rfl,dv⟩:=d1.inv1
 obtain ⟨u,rfl,ru⟩:=r.one
 cases dv with
 | @tuple l xs _ h t =>
  cases (show u=K8 l from ru)
  obtain ⟨its,rv,pl,hz2⟩:=I1.tuple h
  have l1:=rv.length
  have l2:=t.length
  refine Jk (items:=its.toArray) (f:=fun i=>is.getD i 0) hr.hd pl (fun i w hw=>?_) (by simp only [Km,scanBound]<;>omega) fun h' tk hS=>?_
  ·rw [U4] at hw
   obtain ⟨y,hy,ry⟩:=Vals.back rv hw
   obtain ⟨d,hd,dd⟩:=t.back hy
   rw [J7 ei,VG] at hd
   cases hi:is[i]? with
   | none=>rw [hi] at hd;cases hd
   | some n =>
    rw [hi] at hd
    cases hd
    cases dd
    obtain ⟨tk,rfl⟩:=(show ∃ t,w=UC n t from ry)
    exact ⟨tk,by rw [V7,hi];rfl⟩
  ·have hsz:its.toArray.size=is.length:=by rw [Km];omega
   rw [hsz] at hS
   refine Calls.spliced_nil ?_
   obtain ⟨o,ho,hex,es,ep,tb,hd,h5,h6,hn,hf⟩:=hS.1.objOf
   rw [Q4] at hn
   have kp:∀ b o,s1.heap.get? b=some o->h'.get? b=some o:=fun b o e=>hS.2 b o (Ks e) e
   have small:(is.foldl KR []).length<=is.length:=by rw [← Q4];exact firstMet_length_le _ _
   refine call_len_set (s:={ s1 with heap:=h',toks:=tk }) ho hex hd hf (by omega) ?_
   have I2:=I1.kept (t':=tk+1+1) kp
   refine ⟨.int _,H1,I2,⟨_,rfl⟩,?_⟩
   rw [hn]
   exact q _ H1 g1 (.int _)
end L2
namespace L2
open PySem
theorem Den.tup_inv {K:Kb}{H:Hp}{S:Av}{v:V}{ds:ao}(h:Den K H S v (.tuple ds)):∃ a ys,v=.ref a/\SqT K H a ys/\DenL K H S ys ds:=by
 cases h with
 | tuple h t=>exact ⟨_,_,rfl,h,t⟩
end L2
namespace L2
open PySem PySem.Spec PyProof.Rows
section
variable {s:Ke}{prog:Kw}{w:KB}{A:KG}{E:ak}
theorem qco {l:Kd}{items:aK}{bt:aM}{Q:ak}(hh:A.handled=none)(hl:s.heap.IsTuple l items)(hn:0<items.size)
  (hc:∀ (i j:Nat) (x y:Kc) (s':Ke) (Q' E':ak),j<i->(∀ b o,s.heap.get? b=some o->s'.heap.get? b=some o)->items[i]?=some x->items[j]?=some y->Q' (.bool (bt i j)) s'->wpAny (model prog w) A.in1 (richCompare .Lt x y) Q' E' s')
  (h:∀ v g tk,items[bestOf bt (items.size-1)]?=some v->(∀ b o,s.heap.get? b=some o->g.get? b=some o)->Q v { s with heap:=g,toks:=tk }):wpAny (model prog w) A (call (.builtin "min") [.ref l]) Q E s:=by
 have nm:(toString "min" ++ toString ".loop" : String) = "min.loop" := by decide
 have lt:∀ {b:Kd} {o:Obj},s.heap.get? b=some o->b<s.heap.objs.size:=fun e=>Ks e
 have hll:l<s.heap.objs.size:=by obtain ⟨o,e,_⟩:=id hl;exact lt e
 refine call_function_tree (id := "min") F.kind_min F.plain_min F.entry_min (F.args_min1 (.ref l)) ?_
 have par:V2 "min" ["key", "default"] 0 ⟨[],[]⟩=pure [none,none]:=rfl
 refine (Kf (wpAny_of_eq par ?_):wpAny _ A.in1 (V2 "min" _ 0 _ >>= _) _ _ s)
 refine Kf (Ko (Kf (UI hl (Kf (VA ?_)))))
 rw [nm]
 refine Ko ⟨Vv VX _,wW (h0:=s.heap) (Walks.tuple (A:=A.in1) hh _ l (KA hll) items) bt (fun i j u v s' Q' E' hij k hu hv q=>hc i j u v s' Q' E' hij k hu hv q) _ ?_ (fun b o e=>?_) [] hn
  ⟨⟨_,Kg _ (Kx _ rfl),rfl,rfl⟩,(hl.push _).push _⟩ (fun b o e=>Kg _ (Kg _ e)) (Kx _ rfl) fun v g tk hv k=>?_⟩
 ·simp only [Vz]
  intro hm;simp only [Kr,UY,or_false] at hm
  rcases hm with hm|hm
  ·exact Nat.succ_ne_self _ hm
  ·exact absurd hm (Uv (K5 hll))
 ·have:=lt e
  simp only [Vz]
  exact ⟨fun hm=>absurd (K9.mp hm) (KA this),KA (K5 this)⟩
 ·refine h v g tk hv fun b o e=>k b o ?_ ?_ (Kg _ (Kg _ e))
  ·exact fun hm=>absurd (K9.mp hm) (KA (lt e))
  ·have:=lt e
   simp only [Vz]
   exact KA (K5 this)
end
section
variable {X:Cx}
def YX:List Ka->Option Ka
 | [.tuple ds]=>if jV ds=true/\ds.length<=1000 then ds[bestOf (zV ds) (ds.length-1)]? else none
 | _=>none
theorem qcG {k:Nat}(hr:Room k X.A):CallD X (.builtin "min") YX:=fun pins s σ H xs us Q I r ⟨S,ds,d,m,h1,e,q⟩=>by
 unfold YX at e
 split at e
 ·rename_i ls
  split at e
  ·rename_i hc
   obtain ⟨v1,rfl,d1⟩:=h1.inv1
   obtain ⟨u1,rfl,r1⟩:=r.one
   obtain ⟨a,ys,rfl,hs,t⟩:=d1.tup_inv
   cases (show u1=K8 a from r1)
   obtain ⟨its,rv,p,hz⟩:=I.tuple hs
   have hl:=rv.length
   have ht:=t.length
   have hu:=hr.units
   have hpos:0<ls.length:=by
    cases ls with
    | nil=>cases e
    | cons=>exact Nat.zero_lt_succ _
   have get:∀ {i:Nat} {x:Kc},its.toArray[i]?=some x->∃ y d,ys[i]?=some y/\RelV y x/\ls[i]?=some d/\Den X.K H S y d:=fun {i x} hx=>by
    rw [U4] at hx
    obtain ⟨hi,-⟩:=KQ.mp hx
    have hi':i<ys.length:=by omega
    obtain ⟨y,hy,ry⟩:=Vals.back rv hx
    obtain ⟨d,hd,dd⟩:=t.back hy
    exact ⟨y,d,hy,ry,hd,dd⟩
   have ok:=Vk.mp hc.1
   refine qco (bt:=zV ls) hr.hd p (by simp;omega) (fun i j x y s' Q' E' hij kp hx hy q'=>?_) fun v g tk hv kp=>?_
   ·obtain ⟨vx,dx,_,rx,ex,gx⟩:=get hx
    obtain ⟨vy,dy,_,ry,ey,gy⟩:=get hy
    have ox:=ok dx (Kz ex)
    have oy:=ok dy (Kz ey)
    rw [Kt,Kt] at ox oy
    obtain ⟨as,rx2⟩:=gx.reads I (Kv ox.1.1) rx
    obtain ⟨bs,ry2⟩:=gy.reads I (Kv oy.1.1) ry
    have lt:=Vk.mp ox.2 dy (Kz ey)
    obtain ⟨b,eb⟩:=UE.mp lt
    have ebt:zV ls i j=b:=by unfold zV;rw [ex,ey];show (ltX dx dy).getD false=b;rw [eb];rfl
    rw [ebt] at q'
    exact jo 50 _ _ X.A.in1 s' x y as bs b (of_decide_eq_true ox.1.2) (Reads.keeps kp rx2) (Reads.keeps kp ry2) (Kv ox.1.1) (Kv oy.1.1) (by show X.A.units+1+50+1<cLine;omega) eb X.prog X.w E' Q' q'
   ·obtain ⟨vx,dx,_,rx,ex,gx⟩:=get hv
    have hsz:its.toArray.size=ls.length:=by simp;omega
    rw [hsz] at ex
    rw [e] at ex
    cases ex
    exact ⟨vx,H,I.kept kp,rx,q _ H (Same.refl H) gx⟩
  ·cases e
 ·cases e
end
section
variable {s:Ke}{prog:Kw}{w:KB}{A:KG}{E:ak}
theorem qcn {l:Kd}{items:aK}{bt:aM}{Q:ak}(hh:A.handled=none)(hl:s.heap.IsTuple l items)(hn:0<items.size)
  (hc:∀ (i j:Nat) (x y:Kc) (s':Ke) (Q' E':ak),j<i->(∀ b o,s.heap.get? b=some o->s'.heap.get? b=some o)->items[i]?=some x->items[j]?=some y->Q' (.bool (bt i j)) s'->wpAny (model prog w) A.in1 (richCompare .Gt x y) Q' E' s')
  (h:∀ v g tk,items[bestOf bt (items.size-1)]?=some v->(∀ b o,s.heap.get? b=some o->g.get? b=some o)->Q v { s with heap:=g,toks:=tk }):wpAny (model prog w) A (call (.builtin "max") [.ref l]) Q E s:=by
 have nm:(toString "max" ++ toString ".loop" : String) = "max.loop" := by decide
 have lt:∀ {b:Kd} {o:Obj},s.heap.get? b=some o->b<s.heap.objs.size:=fun e=>Ks e
 have hll:l<s.heap.objs.size:=by obtain ⟨o,e,_⟩:=id hl;exact lt e
 refine call_function_tree (id := "max") F.kind_max F.plain_max F.entry_max (F.args_max1 (.ref l)) ?_
 have par:V2 "max" ["key", "default"] 0 ⟨[],[]⟩=pure [none,none]:=rfl
 refine (Kf (wpAny_of_eq par ?_):wpAny _ A.in1 (V2 "max" _ 0 _ >>= _) _ _ s)
 refine Kf (Ko (Kf (UI hl (Kf (VA ?_)))))
 rw [nm]
 refine Ko ⟨Vv VZ _,wV (h0:=s.heap) (Walks.tuple (A:=A.in1) hh _ l (KA hll) items) bt (fun i j u v s' Q' E' hij k hu hv q=>hc i j u v s' Q' E' hij k hu hv q) _ ?_ (fun b o e=>?_) [] hn
  ⟨⟨_,Kg _ (Kx _ rfl),rfl,rfl⟩,(hl.push _).push _⟩ (fun b o e=>Kg _ (Kg _ e)) (Kx _ rfl) fun v g tk hv k=>?_⟩
 ·simp only [Vz]
  intro hm;simp only [Kr,UY,or_false] at hm
  rcases hm with hm|hm
  ·exact Nat.succ_ne_self _ hm
  ·exact absurd hm (Uv (K5 hll))
 ·have:=lt e
  simp only [Vz]
  exact ⟨fun hm=>absurd (K9.mp hm) (KA this),KA (K5 this)⟩
 ·refine h v g tk hv fun b o e=>k b o ?_ ?_ (Kg _ (Kg _ e))
  ·exact fun hm=>absurd (K9.mp hm) (KA (lt e))
  ·have:=lt e
   simp only [Vz]
   exact KA (K5 this)
end
section
variable {X:Cx}
def YW:List Ka->Option Ka
 | [.tuple ds]=>if jU ds=true/\ds.length<=1000 then ds[bestOf (zU ds) (ds.length-1)]? else none
 | _=>none
theorem qcF {k:Nat}(hr:Room k X.A):CallD X (.builtin "max") YW:=fun pins s σ H xs us Q I r ⟨S,ds,d,m,h1,e,q⟩=>by
 unfold YW at e
 split at e
 ·rename_i ls
  split at e
  ·rename_i hc
   obtain ⟨v1,rfl,d1⟩:=h1.inv1
   obtain ⟨u1,rfl,r1⟩:=r.one
   obtain ⟨a,ys,rfl,hs,t⟩:=d1.tup_inv
   cases (show u1=K8 a from r1)
   obtain ⟨its,rv,p,hz⟩:=I.tuple hs
   have hl:=rv.length
   have ht:=t.length
   have hu:=hr.units
   have hpos:0<ls.length:=by
    cases ls with
    | nil=>cases e
    | cons=>exact Nat.zero_lt_succ _
   have get:∀ {i:Nat} {x:Kc},its.toArray[i]?=some x->∃ y d,ys[i]?=some y/\RelV y x/\ls[i]?=some d/\Den X.K H S y d:=fun {i x} hx=>by
    rw [U4] at hx
    obtain ⟨hi,-⟩:=KQ.mp hx
    have hi':i<ys.length:=by omega
    obtain ⟨y,hy,ry⟩:=Vals.back rv hx
    obtain ⟨d,hd,dd⟩:=t.back hy
    exact ⟨y,d,hy,ry,hd,dd⟩
   have ok:=Vk.mp hc.1
   refine qcn (bt:=zU ls) hr.hd p (by simp;omega) (fun i j x y s' Q' E' hij kp hx hy q'=>?_) fun v g tk hv kp=>?_
   ·obtain ⟨vx,dx,_,rx,ex,gx⟩:=get hx
    obtain ⟨vy,dy,_,ry,ey,gy⟩:=get hy
    have ox:=ok dx (Kz ex)
    have oy:=ok dy (Kz ey)
    rw [Kt,Kt] at ox oy
    obtain ⟨as,rx2⟩:=gx.reads I (Kv ox.1.1) rx
    obtain ⟨bs,ry2⟩:=gy.reads I (Kv oy.1.1) ry
    have lt:=Vk.mp ox.2 dy (Kz ey)
    obtain ⟨b,eb⟩:=UE.mp lt
    have ebt:zU ls i j=b:=by unfold zU;rw [ex,ey];show (gtX dx dy).getD false=b;rw [eb];rfl
    rw [ebt] at q'
    exact yL 50 _ _ X.A.in1 s' x y as bs b (of_decide_eq_true ox.1.2) (Reads.keeps kp rx2) (Reads.keeps kp ry2) (Kv ox.1.1) (Kv oy.1.1) (by show X.A.units+1+50+1<cLine;omega) eb X.prog X.w E' Q' q'
   ·obtain ⟨vx,dx,_,rx,ex,gx⟩:=get hv
    have hsz:its.toArray.size=ls.length:=by simp;omega
    rw [hsz] at ex
    rw [e] at ex
    cases ex
    exact ⟨vx,H,I.kept kp,rx,q _ H (Same.refl H) gx⟩
  ·cases e
 ·cases e
end
end L2
namespace L2
open PySem PySem.W PyProof.Rows
def tI (ns:aR):Ka:=.tuple (ns.map .int)
theorem JQ:∀ ns:List Int,Ky (ns.map .int)=true/\KS (ns.map .int)=0
 | []=>⟨rfl,rfl⟩
 | n::ns=>by
  obtain ⟨h1,h2⟩:=JQ ns
  rw [Vm]
  exact ⟨by simp [Ky,Vb,h1],by simp [KS,V1,h2]⟩
theorem JR:∀ nss:List (List Int),Ky (nss.map tI)=true/\KS (nss.map tI)<=1
 | []=>⟨rfl,Us _⟩
 | ns::nss=>by
  obtain ⟨h1,h2⟩:=JR nss
  obtain ⟨h3,h4⟩:=JQ ns
  rw [Vm]
  refine ⟨by simp [Ky,tI,Vb,h1,h3],?_⟩
  rw [KS,show (tI ns).depth=1 from by simp [tI,V1,h4]]
  omega
end L2
namespace SF
open PySem L2
variable (P:Kw)(w:KB){K:Kb}{mg:ar}(base:KC){f:Kd}{fd:Vs}
noncomputable def top (i:Nat):Va:=PySem.Challenge.pw_sheetfold_k42_trees_counted.main.body.getD i (.Pass ⟨0,0,0,0⟩)
abbrev Tq7:Va:=top 2
noncomputable abbrev Qk:List Str:=["n", "pairs", "table", "pair", "i", "j"]
theorem qw:ScOk Qk ["n", "pairs"] ["range"] (qp Tq7):=scmk (by kernel_rfl)
abbrev Jh:Rho->Option Out:=(seqO (sIf (tV (ev2 (vr 4) (kd (.int 0)) geD)) (yw 2 (vr 4) (vr 4) (kd (.int 1)) (fun i j=>i+j)) sN) (sIf (tA (tV (ev2 (vr 4) (kd (.int 0)) geD)) (tV (ev2 (vr 5) (kd (.int 0)) geD))) (yw 2 (vr 4) (vr 5) (kd (.int 1)) (fun i j=>i-j)) sN))
abbrev Ql:Rho->Option Out:=(sFor (evI (evA (aC (evA (aC (ev2 (ev2 (vr 3) (kd (.int 0)) ixD) (kd (.int 1)) subD) (aC (ev2 (ev2 (vr 3) (kd (.int 1)) ixD) (kd (.int 1)) subD) aN)) tupD) (aC (evA (aC (ev2 (ev2 (vr 3) (kd (.int 1)) ixD) (kd (.int 1)) subD) (aC (ev2 (ev2 (vr 3) (kd (.int 0)) ixD) (kd (.int 1)) subD) aN)) tupD) aN)) tupD) seqD) (unpD 2 (gsC (gNm 4) (gsC (gNm 5) gsN))) Jh)
def Zc:Rho->Option Out:=(seqO (jz 2 (YF 6 1 (evR (aC (ev2 (vr 0) (kd (.int 1)) subD) aN) QQ) (gNm 6) tT (ev2 (evA (aC (kd (.int 0)) aN) lstD) (ev2 (vr 0) (kd (.int 1)) subD) repD))) (seqO (sFor (evI (vr 1) seqD) (gNm 3) Ql) (sRet (vr 2))))
def zP (ds:ao):Option Ka:=ob (Zc (rho0 Qk.length ds)) outD
theorem yP (F:Fun K "table_of" "table_of" Tq7 f fd)(m:mg "table_of" = some (.ref f))(b:Binds K fd ["n", "pairs"] [])(z_range:mg "range" = none):Known P w K mg base "table_of" 2 1 zP:=by
 refine ⟨f,fd,["n", "pairs"],F.pure (k:=0) (u:=Zc) (M':=[]) qw.fs rfl (fun cdv A outer s H E hr G=>?_),m,F.kp,b⟩
 exact ql (M1:=[2,1002]) (w6 2 (CompOk.of (k:=1) Qk ["n", "pairs", "table", "pair", "i", "j", "k"] (qp Tq7) rfl rfl rfl (by decide +kernel)) (ji (by decide)) (qp Tq7) rfl (by decide +kernel) (by decide) (by decide) (jr (qw.gl 0 rfl rfl) z_range (pda1 (qI Q3 (pd_v qw 0) qt))) (fun _ _ _ _ _ _=>Jz (i:=6) (CompOk.of (k:=1) Qk ["n", "pairs", "table", "pair", "i", "j", "k"] (qp Tq7) rfl rfl rfl (by decide +kernel)) rfl (by decide +kernel) _ _ _ _ _ _) (fun _ _ _ _ _ _=>QM) (fun _ _ _ _ _ _=>qdv (Jy (pda1 qt)) (qI Q3 (qJ 0 (qz (by decide +kernel)) (by decide)) qt))) (ql (M1:=[2,1002]) (QX V6 rfl (zL (pd_v qw 1)) (fun _=>ZW qw 3) (fun _=>qx (QX V6 rfl (zL (Q9 (pda2 (Q9 (pda2 (qI Q3 (zb (pd_v qw 3) qt) qt) (qI Q3 (zb (pd_v qw 3) qt) qt))) (Q9 (pda2 (qI Q3 (zb (pd_v qw 3) qt) qt) (qI Q3 (zb (pd_v qw 3) qt) qt)))))) (fun _=>Y0 rfl (QW (ZW qw 4) (QW (ZW qw 5) yh))) (fun _=>ql (M1:=[2,1002]) (zm (qL d_ge (pd_v qw 4) qt (qW _)) (qx (yj 2 qcR (qw.vis 2 rfl) (by decide) (pd_v qw 4) (pd_v qw 4) qt)) qX) (qx (zm (PDW.pdt (qbV (qL d_ge (pd_v qw 4) qt (qW _)) (qaz (qL d_ge (pd_v qw 5) qt (qW _))))) (qx (yj 2 qcS (qw.vis 2 rfl) (by decide) (pd_v qw 4) (pd_v qw 5) qt)) qX)))))) (qx (qN (pd_v qw 2))))
abbrev Tq3:Va:=top 3
noncomputable abbrev Qj:List Str:=["table", "ahead", "corner"]
theorem qy:ScOk Qj ["table"] [] (qp Tq3):=scmk (by kernel_rfl)
abbrev qD:Rho->Option Out:=(seqO (sSet 2 (ev2 (ev2 (vr 0) (kd (.int 0)) ixD) (kd (.int 0)) ixD)) (seqO (sIf (tV (ev2 (vr 2) (kd (.int 0)) eqD)) (sRet (kd (.int 0))) sN) (seqO (sSet 0 (Qf 3 (evI (evS (vr 0) (oS (kd (.int 1))) oN) seqD) tT (Qf 4 (evR (aC (kd (.int 1)) (aC (evA (aC (vr 3) aN) lenD) aN)) ju) tT (ev2 (ev2 (ev2 (ev2 (vr 3) (vr 4) ixD) (vr 2) mulD) (ev2 (ev2 (vr 3) (kd (.int 0)) ixD) (ev2 (ev2 (vr 0) (kd (.int 0)) ixD) (vr 4) ixD) mulD) subD) (vr 1) jh)))) (sSet 1 (vr 2)))))
def Qv:Rho->Option Out:=(seqO (sSet 1 (kd (.int 1))) (seqO (Ye (tW (vr 0)) qD) (sRet (vr 1))))
def zy (ds:ao):Option Ka:=ob (Qv (rho0 Qj.length ds)) outD
theorem Js (F:Fun K "measure_of" "measure_of" Tq3 f fd)(m:mg "measure_of" = some (.ref f))(b:Binds K fd ["table"] [])(z_range:mg "range" = none)(z_len:mg "len" = none):Known P w K mg base "measure_of" 1 1 zy:=by
 refine ⟨f,fd,["table"],F.pure (k:=0) (u:=Qv) (M':=[]) qy.fs rfl (fun cdv A outer s H E hr G=>?_),m,F.kp,b⟩
 refine ql (M1:=[]) ?_ ?_
 refine qG 1 ?_ ?_ ?_ ?_ ?_ ?_ qt
 ·exact qy.fs.nd
 ·exact (qy.loc 1 rfl)
 ·rfl
 ·rfl
 ·exact .inl rfl
 ·decide
 refine ql (M1:=[]) ?_ (qx (qN (pd_v qy 1)))
 refine Wd V6 (qbT (pd_v qy 0)) ?_
 refine ql (M1:=[]) ?_ ?_
 refine qG 2 ?_ ?_ ?_ ?_ ?_ ?_ (zb (zb (pd_v qy 0) qt) qt)
 ·exact qy.fs.nd
 ·exact (qy.loc 2 rfl)
 ·rfl
 ·rfl
 ·exact .inl rfl
 ·decide
 refine ql (M1:=[]) (zm (qL (d_eq hr) (pd_v qy 2) qt (qW _)) (qx (qN qt)) qX) ?_
 refine ql (M1:=[]) ?_ ?_
 refine qG 0 ?_ ?_ ?_ ?_ ?_ ?_ (Z3 (CompOk.of (k:=1) Qj ["table", "ahead", "corner", "row"] (qp Tq3) rfl rfl rfl (by decide +kernel)) rfl (by decide +kernel) (zL (Qh (pd_v qy 0) (zQ qt) QL)) (fun _ _ _ _ _ _=>QM) (fun _ _ _ _ _ _=>Z3 (CompOk.of (k:=1) ["table", "ahead", "corner", "row"] ["table", "ahead", "corner", "row", "j"] _ rfl rfl rfl (by kernel_rfl)) rfl (by decide +kernel) (yZ (Z2 (by decide +kernel)) z_range (pda2 qt (zG jN (Z2 (by decide +kernel)) z_len Uk (pda1 (qJ 3 (qz (by decide +kernel)) (by decide)))))) (fun _ _ _ _ _ _=>QM) (fun _ _ _ _ _ _=>qI qbn (qI Q3 (qI WY (zb (qJ 3 (qz (by decide +kernel)) (by decide)) (qJ 4 (qz (by decide +kernel)) (by decide))) (qJ 2 (qz (by decide +kernel)) (by decide))) (qI WY (zb (qJ 3 (qz (by decide +kernel)) (by decide)) qt) (zb (zb (qJ 0 (qz (by decide +kernel)) (by decide)) qt) (qJ 4 (qz (by decide +kernel)) (by decide))))) (qJ 1 (qz (by decide +kernel)) (by decide)))))
 ·exact qy.fs.nd
 ·exact (qy.loc 0 rfl)
 ·rfl
 ·rfl
 ·exact .inl rfl
 ·decide
 refine qx ?_
 refine qG 1 ?_ ?_ ?_ ?_ ?_ ?_ (pd_v qy 2)
 ·exact qy.fs.nd
 ·exact (qy.loc 1 rfl)
 ·rfl
 ·rfl
 ·exact .inl rfl
 ·decide
abbrev Tq1:Va:=top 5
noncomputable abbrev QB:List Str:=["_law_script", "_law_k"]
theorem qO:ScOk QB ["_law_script", "_law_k"] ["len"] (qp Tq1):=scmk (by kernel_rfl)
def zR:Rho->Option Out:=(seqO (sIf (tV (ev2 (vr 1) (evA (aC (vr 0) aN) lenD) ltD2)) (sRet (ev2 (vr 0) (vr 1) ixD)) sN) (sRet (kd (.int 0))))
def qP (ds:ao):Option Ka:=ob (zR (rho0 QB.length ds)) outD
theorem jl (F:Fun K "_law_cell_at" "_law_cell_at" Tq1 f fd)(m:mg "_law_cell_at" = some (.ref f))(b:Binds K fd ["_law_script", "_law_k"] [])(z_len:mg "len" = none):Known P w K mg base "_law_cell_at" 2 1 qP:=by
 refine ⟨f,fd,["_law_script", "_law_k"],F.pure (k:=0) (u:=zR) (M':=[]) qO.fs rfl (fun cdv A outer s H E hr G=>?_),m,F.kp,b⟩
 exact ql (M1:=[]) (zm (qL (d_lt2 hr) (pd_v qO 1) (zG jN (qO.gl 0 rfl rfl) z_len Uk (pda1 (pd_v qO 0))) (qW _)) (qx (qN (zb (pd_v qO 0) (pd_v qO 1)))) qX) (qx (qN qt))
abbrev Tq4:Va:=top 6
abbrev Zd:List Str:=["_law_found"]
theorem qU:ScOk Zd ["_law_found"] ["isinstance", "int", "bool"] (qp Tq4):=scmk (by kernel_rfl)
def Qu:Rho->Option Out:=(sRet (vA (ev1 (vr 0) (isiD "int")) (vN (ev1 (vr 0) (isiD "bool")))))
def zx (ds:ao):Option Ka:=ob (Qu (rho0 Zd.length ds)) outD
theorem Jr (F:Fun K "_law_whole" "_law_whole" Tq4 f fd)(m:mg "_law_whole" = some (.ref f))(b:Binds K fd ["_law_found"] [])(z_isinstance:mg "isinstance" = none)(z_int:mg "int" = none)(z_bool:mg "bool" = none):Known P w K mg base "_law_whole" 1 1 zx:=by
 refine ⟨f,fd,["_law_found"],F.pure (k:=0) (u:=Qu) (M':=[]) qU.fs rfl (fun cdv A outer s H E hr G=>?_),m,F.kp,b⟩
 exact qx (qN (qdl (qat (T := "int") (qbz _) (qU.gl 0 rfl rfl) z_isinstance (qU.gl 1 rfl rfl) z_int rfl rfl (pd_v qU 0)) (qdo (qdn (qat (T := "bool") (qaf _) (qU.gl 0 rfl rfl) z_isinstance (qU.gl 2 rfl rfl) z_bool rfl rfl (pd_v qU 0))))))
abbrev Tq5:Va:=top 7
noncomputable abbrev QC:List Str:=["_law_lots", "_law_pair"]
theorem Qz:ScOk QC ["_law_lots", "_law_pair"] ["tuple"] (qp Tq5):=scmk (by kernel_rfl)
def QS:Rho->Option Out:=(sRet (evA (aC (Qf 2 (evI (vr 0) seqD) tT (vIf (tV (ev2 (vr 2) (ev2 (vr 0) (ev2 (vr 1) (kd (.int 1)) ixD) ixD) eqD)) (ev2 (vr 0) (ev2 (vr 1) (kd (.int 0)) ixD) ixD) (vr 2))) aN) JL))
def zF (ds:ao):Option Ka:=ob (QS (rho0 QC.length ds)) outD
theorem J8 (F:Fun K "_law_tied" "_law_tied" Tq5 f fd)(m:mg "_law_tied" = some (.ref f))(b:Binds K fd ["_law_lots", "_law_pair"] [])(z_tuple:mg "tuple" = none):Known P w K mg base "_law_tied" 2 1 zF:=by
 refine ⟨f,fd,["_law_lots", "_law_pair"],F.pure (k:=0) (u:=QS) (M':=[]) Qz.fs rfl (fun cdv A outer s H E hr G=>?_),m,F.kp,b⟩
 exact qx (qN (j6 qa9 (Qz.gl 0 rfl rfl) z_tuple rfl (pda1 (Z3 (CompOk.of (k:=1) QC ["_law_lots", "_law_pair", "_law_lot"] (qp Tq5) rfl rfl rfl (by decide +kernel)) rfl (by decide +kernel) (zL (pd_v Qz 0)) (fun _ _ _ _ _ _=>QM) (fun _ _ _ _ _ _=>qas (qL (d_eq hr) (qJ 2 (qz (by decide +kernel)) (by decide)) (zb (qJ 0 (qz (by decide +kernel)) (by decide)) (zb (qJ 1 (qz (by decide +kernel)) (by decide)) qt)) (qW _)) (zb (qJ 0 (qz (by decide +kernel)) (by decide)) (zb (qJ 1 (qz (by decide +kernel)) (by decide)) qt)) (qJ 2 (qz (by decide +kernel)) (by decide)))))))
abbrev Tq8:Va:=top 8
noncomputable abbrev Q5:List Str:=["_law_n", "_law_pairs", "_law_found", "_law_pair", "_law_more", "_law_lots"]
theorem qm:ScOk Q5 ["_law_n", "_law_pairs"] ["tuple", "range", "_law_tied", "len"] (qp Tq8):=scmk (by kernel_rfl)
abbrev Zf:Rho->Option Out:=(sIf (tV (ev2 (ev2 (vr 5) (ev2 (vr 3) (kd (.int 0)) ixD) ixD) (ev2 (vr 5) (ev2 (vr 3) (kd (.int 1)) ixD) ixD) neD)) (sApp 4 (evC 2 (aC (vr 5) (aC (vr 3) aN)) zF)) sN)
abbrev Ze:Rho->Option Out:=(seqO (zX 4 (evA aN lstD)) (seqO (sFor (evI (vr 2) seqD) (gNm 5) Zf) (zX 2 (YK (ev2 (vr 2) (vr 4) catL)))))
def Zb:Rho->Option Out:=(seqO (sSet 2 (evA (aC (evA (aC (vr 0) aN) trD) aN) lstD)) (seqO (sFor (evI (vr 1) seqD) (gNm 3) Ze) (sRet (evA (aC (Qf 6 (evI (vr 2) seqD) (tV (ev2 (ev1 (vr 6) j4) (kd (.int 1)) eqD)) (vr 6)) aN) lenD))))
def zO (ds:ao):Option Ka:=ob (Zb (rho0 Q5.length ds)) outD
theorem yO (F:Fun K "_law_due" "_law_due" Tq8 f fd)(m:mg "_law_due" = some (.ref f))(b:Binds K fd ["_law_n", "_law_pairs"] [])(K__law_tied:Known P w K mg base "_law_tied" 2 1 zF)(z_tuple:mg "tuple" = none)(z_range:mg "range" = none)(z_len:mg "len" = none)(z_set:mg "set" = none):Known P w K mg base "_law_due" 2 2 zO:=by
 refine ⟨f,fd,["_law_n", "_law_pairs"],F.pure (k:=1) (u:=Zb) (M':=[]) qm.fs rfl (fun cdv A outer s H E hr G=>?_),m,F.kp,b⟩
 refine ql (M1:=[]) ?_ ?_
 refine qG 2 ?_ ?_ ?_ ?_ ?_ ?_ ?_
 ·exact qm.fs.nd
 ·exact (qm.loc 2 rfl)
 ·rfl
 ·rfl
 ·exact .inl rfl
 ·decide
 exact qau (pda1 (qbQ hr (qm.gl 0 rfl rfl) z_tuple (qm.gl 1 rfl rfl) z_range (pda1 (pd_v qm 0))))
 refine ql (M1:=[]) ?_ (qx (qN (zG jN (qm.gl 3 rfl rfl) z_len Uk (pda1 (Z3 (CompOk.of (k:=1) Q5 ["_law_n", "_law_pairs", "_law_found", "_law_pair", "_law_more", "", "_law_lots"] (qp Tq8) rfl rfl rfl (by decide +kernel)) rfl (by decide +kernel) (zL (pd_v qm 2)) (fun _ _ _ _ _ _=>qay (qL (d_eq hr) (wZ hr (Z2 (by decide +kernel)) z_len (Z2 (by decide +kernel)) z_set (qJ 6 (qz (by decide +kernel)) (by decide))) qt (qW _))) (fun _ _ _ _ _ _=>qJ 6 (qz (by decide +kernel)) (by decide)))))))
 refine QX V6 rfl (zL (pd_v qm 1)) (fun _=>ZW qm 3) (fun _=>?_)
 refine qax (M':=[2,4]) [] ?_ ?_ ?_
 refine ql (M1:=[4]) ?_ ?_
 refine jt 4 ?_ ?_ ?_ ?_ ?_ ?_ ?_ (Jy QV)
 ·exact qm.fs.nd
 ·exact (qm.loc 4 rfl)
 ·rfl
 ·rfl
 ·exact .inl rfl
 ·decide
 ·decide
 refine ql (M1:=[4]) (QX V6 rfl (zL (pd_v qm 2)) (fun _=>ZW qm 5) (fun _=>qx (zm (qL (d_ne hr) (zb (pd_v qm 5) (zb (pd_v qm 3) qt)) (zb (pd_v qm 5) (zb (pd_v qm 3) qt)) (qW _)) (qx (Jx 4 (qm.vis 4 rfl) (by decide) (by decide) (qR K__law_tied hr (by decide) (qm.gl 2 rfl rfl) (pda2 (pd_v qm 5) (pd_v qm 3)) rfl))) qX))) ?_
 refine qx ?_
 refine Wc 2 ?_ ?_ ?_ ?_ ?_ ?_ ?_ (qb1 (pd_v qm 2) (pd_v qm 4))
 ·exact qm.fs.nd
 ·exact (qm.loc 2 rfl)
 ·rfl
 ·rfl
 ·exact .inl rfl
 ·decide
 ·decide
 ·rfl
 ·rfl
abbrev Tq0:Va:=top 10
noncomputable abbrev Qw:List Str:=["_law_pairs", "_law_one", "_law_other", "_law_made", "_law_i", "_law_j"]
theorem qb:ScOk Qw ["_law_pairs", "_law_one", "_law_other"] [] (qp Tq0):=scmk (by kernel_rfl)
abbrev zq:Rho->Option Out:=(seqO (sIf (tV (ev2 (vr 4) (vr 2) eqD)) (sSet 4 (vr 1)) sN) (seqO (sIf (tV (ev2 (vr 5) (vr 2) eqD)) (sSet 5 (vr 1)) sN) (seqO (sIf (tV (ev2 (vr 4) (vr 2) gtD)) (sSet 4 (ev2 (vr 4) (kd (.int 1)) subD)) sN) (seqO (sIf (tV (ev2 (vr 5) (vr 2) gtD)) (sSet 5 (ev2 (vr 5) (kd (.int 1)) subD)) sN) (sIf (tV (ev2 (vr 4) (vr 5) neD)) (sApp 3 (evA (aC (vr 4) (aC (vr 5) aN)) tupD)) sN)))))
def zK:Rho->Option Out:=(seqO (zX 3 (evA aN lstD)) (seqO (sFor (evI (vr 0) seqD) (unpD 2 (gsC (gNm 4) (gsC (gNm 5) gsN))) zq) (sRet (vr 3))))
def qY (ds:ao):Option Ka:=ob (zK (rho0 Qw.length ds)) outD
theorem Z0 (F:Fun K "_law_made_one" "_law_made_one" Tq0 f fd)(m:mg "_law_made_one" = some (.ref f))(b:Binds K fd ["_law_pairs", "_law_one", "_law_other"] []):Known P w K mg base "_law_made_one" 3 1 qY:=by
 refine ⟨f,fd,["_law_pairs", "_law_one", "_law_other"],F.pure (k:=0) (u:=zK) (M':=[]) qb.fs rfl (fun cdv A outer s H E hr G=>?_),m,F.kp,b⟩
 refine ql (M1:=[3]) ?_ ?_
 refine jt 3 ?_ ?_ ?_ ?_ ?_ ?_ ?_ (Jy QV)
 ·exact qb.fs.nd
 ·exact (qb.loc 3 rfl)
 ·rfl
 ·rfl
 ·exact .inl rfl
 ·decide
 ·decide
 refine ql (M1:=[3]) ?_ (qx (qN (pd_v qb 3)))
 refine QX V6 rfl (zL (pd_v qb 0)) (fun _=>Y0 rfl (QW (ZW qb 4) (QW (ZW qb 5) yh))) (fun _=>?_)
 refine ql (M1:=[3]) ?_ ?_
 refine zm (qL (d_eq hr) (pd_v qb 4) (pd_v qb 2) (qW _)) ?_ qX
 refine qx ?_
 refine qG 4 ?_ ?_ ?_ ?_ ?_ ?_ (pd_v qb 1)
 ·exact qb.fs.nd
 ·exact (qb.loc 4 rfl)
 ·rfl
 ·rfl
 ·exact .inl rfl
 ·decide
 refine ql (M1:=[3]) ?_ ?_
 refine zm (qL (d_eq hr) (pd_v qb 5) (pd_v qb 2) (qW _)) ?_ qX
 refine qx ?_
 refine qG 5 ?_ ?_ ?_ ?_ ?_ ?_ (pd_v qb 1)
 ·exact qb.fs.nd
 ·exact (qb.loc 5 rfl)
 ·rfl
 ·rfl
 ·exact .inl rfl
 ·decide
 refine ql (M1:=[3]) ?_ ?_
 refine zm (qL d_gt (pd_v qb 4) (pd_v qb 2) (qW _)) ?_ qX
 refine qx ?_
 refine qG 4 ?_ ?_ ?_ ?_ ?_ ?_ (qI Q3 (pd_v qb 4) qt)
 ·exact qb.fs.nd
 ·exact (qb.loc 4 rfl)
 ·rfl
 ·rfl
 ·exact .inl rfl
 ·decide
 refine ql (M1:=[3]) ?_ (qx (zm (qL (d_ne hr) (pd_v qb 4) (pd_v qb 5) (qW _)) (qx (Jx 3 (qb.vis 3 rfl) (by decide) (by decide) (Q9 (pda2 (pd_v qb 4) (pd_v qb 5))))) qX))
 refine zm (qL d_gt (pd_v qb 5) (pd_v qb 2) (qW _)) ?_ qX
 refine qx ?_
 refine qG 5 ?_ ?_ ?_ ?_ ?_ ?_ (qI Q3 (pd_v qb 5) qt)
 ·exact qb.fs.nd
 ·exact (qb.loc 5 rfl)
 ·rfl
 ·rfl
 ·exact .inl rfl
 ·decide
abbrev Tq2:Va:=top 1
abbrev QZ:List Str:=["n", "pairs"]
theorem zc:ScOk QZ ["n", "pairs"] ["table_of", "measure_of"] (qp Tq2):=scmk (by kernel_rfl)
def zZ:Rho->Option Out:=(sRet (evC 1 (aC (evC 2 (aC (vr 0) (aC (vr 1) aN)) zP) aN) zy))
def zg (ds:ao):Option Ka:=ob (zZ (rho0 QZ.length ds)) outD
theorem jG (F:Fun K "count_trees" "count_trees" Tq2 f fd)(m:mg "count_trees" = some (.ref f))(b:Binds K fd ["n", "pairs"] [])(K_measure_of:Known P w K mg base "measure_of" 1 1 zy)(K_table_of:Known P w K mg base "table_of" 2 1 zP):Known P w K mg base "count_trees" 2 2 zg:=by
 refine ⟨f,fd,["n", "pairs"],F.pure (k:=1) (u:=zZ) (M':=[]) zc.fs rfl (fun cdv A outer s H E hr G=>?_),m,F.kp,b⟩
 exact qx (qN (qR K_measure_of hr (by decide) (zc.gl 1 rfl rfl) (pda1 (qR K_table_of hr (by decide) (zc.gl 0 rfl rfl) (pda2 (pd_v zc 0) (pd_v zc 1)) rfl)) rfl))
abbrev Tq6:Va:=top 9
noncomputable abbrev ZM:List Str:=["_law_n", "_law_pairs", "_law_mine", "_law_found"]
theorem qC:ScOk ZM ["_law_n", "_law_pairs"] ["list", "count_trees", "_law_whole"] (qp Tq6):=scmk (by kernel_rfl)
def QT:Rho->Option Out:=(seqO (sSet 2 (evA (aC (vr 1) aN) jZ)) (seqO (sSet 3 (evC 2 (aC (vr 0) (aC (vr 2) aN)) zg)) (seqO (sIf (tO (tN (tV (evC 1 (aC (vr 3) aN) zx))) (tV (ev2 (vr 2) (vr 1) neD))) (sRet (ev1 (kd (.int 1)) negD)) sN) (sRet (vr 3)))))
def qT (ds:ao):Option Ka:=ob (QT (rho0 ZM.length ds)) outD
theorem J9 (F:Fun K "_law_told" "_law_told" Tq6 f fd)(m:mg "_law_told" = some (.ref f))(b:Binds K fd ["_law_n", "_law_pairs"] [])(K_count_trees:Known P w K mg base "count_trees" 2 2 zg)(K__law_whole:Known P w K mg base "_law_whole" 1 1 zx)(z_list:mg "list" = none):Known P w K mg base "_law_told" 2 3 qT:=by
 refine ⟨f,fd,["_law_n", "_law_pairs"],F.pure (k:=2) (u:=QT) (M':=[]) qC.fs rfl (fun cdv A outer s H E hr G=>?_),m,F.kp,b⟩
 refine ql (M1:=[]) ?_ ?_
 refine qG 2 ?_ ?_ ?_ ?_ ?_ ?_ (j6 qcE (qC.gl 0 rfl rfl) z_list rfl (pda1 (pd_v qC 1)))
 ·exact qC.fs.nd
 ·exact (qC.loc 2 rfl)
 ·rfl
 ·rfl
 ·exact .inl rfl
 ·decide
 refine ql (M1:=[]) ?_ (ql (M1:=[]) (zm (PDW.pdt (qdp (qbS (qbU (qR K__law_whole hr (by decide) (qC.gl 2 rfl rfl) (pda1 (pd_v qC 3)) rfl))) (qbW (qL (d_ne hr) (pd_v qC 2) (pd_v qC 1) (qW _))))) (qx (qN (pd_un d_neg qt))) qX) (qx (qN (pd_v qC 3))))
 refine qG 3 ?_ ?_ ?_ ?_ ?_ ?_ (qR K_count_trees hr (by decide) (qC.gl 1 rfl rfl) (pda2 (pd_v qC 0) (pd_v qC 2)) rfl)
 ·exact qC.fs.nd
 ·exact (qC.loc 3 rfl)
 ·rfl
 ·rfl
 ·exact .inl rfl
 ·decide
abbrev Tq9:Va:=top 11
noncomputable abbrev Yq:List Str:=["_law_script", "_law_first", "_law_n", "_law_pairs", "_law_cell", "_law_i", "_law_j", "_law_count", "_law_times", "_law_at", "_law_new", "_law_without", "_law_one", "_law_other"]
theorem qj:ScOk Yq ["_law_script"] ["_law_cell_at", "_law_due", "_law_told", "len", "range", "min", "max", "_law_made_one"] (qp Tq9):=scmk (by kernel_rfl)
abbrev Jg:Rho->Option Out:=(seqO (sSet 5 (ev2 (vr 4) (vr 2) modD)) (seqO (sSet 6 (ev2 (ev2 (vr 4) (kd (.int 6)) ZR) (vr 2) modD)) (sIf (tV (ev2 (vr 5) (vr 6) neD)) (sApp 3 (evA (aC (vr 5) (aC (vr 6) aN)) tupD)) sN)))
def wj:Rho->Option Out:=(seqO (sSet 1 (evC 2 (aC (vr 0) (aC (kd (.int 0)) aN)) qP)) (seqO (sSet 2 (ev2 (kd (.int 1)) (ev2 (vr 1) (kd (.int 6)) modD) zT)) (seqO (zX 3 (evA aN lstD)) (seqO (sFor (evI (evS (vr 0) (oS (kd (.int 2))) (oS (kd (.int 11)))) seqD) (gNm 4) Jg) (seqO (sSet 7 (evC 2 (aC (vr 2) (aC (vr 3) aN)) zO)) (seqO (sIf (tV (ev2 (evC 2 (aC (vr 2) (aC (vr 3) aN)) qT) (vr 7) neD)) (sRet (kd (.bool false))) sN) (seqO (sSet 8 (ev2 (kd (.int 1)) (ev2 (ev2 (vr 1) (kd (.int 6)) ZR) (kd (.int 4)) modD) zT)) (seqO (sSet 9 (ev2 (evC 2 (aC (vr 0) (aC (kd (.int 1)) aN)) qP) (ev2 (evA (aC (vr 3) aN) lenD) (kd (.int 1)) zT) modD)) (seqO (zX 10 (Qf 14 (evR (aC (vr 8) aN) QQ) tT (ev2 (evA (aC (evA (aC (ev2 (ev2 (vr 1) (kd (.int 24)) ZR) (vr 2) modD) (aC (vr 2) aN)) tupD) (aC (evA (aC (vr 2) (aC (ev2 (ev2 (vr 1) (kd (.int 24)) ZR) (vr 2) modD) aN)) tupD) aN)) lstD) (ev2 (vr 14) (kd (.int 2)) modD) ixD))) (seqO (sIf (tV (ev2 (evC 2 (aC (ev2 (vr 2) (kd (.int 1)) zT) (aC (ev2 (ev2 (evS (vr 3) oN (oS (vr 9))) (vr 10) zT) (evS (vr 3) (oS (vr 9)) oN) zT) aN)) qT) (ev2 (vr 7) (vr 8) mulD) neD)) (sRet (kd (.bool false))) sN) (seqO (sIf (tV (ev2 (evA (aC (vr 3) aN) lenD) (kd (.int 0)) eqD)) (sRet (kd (.bool true))) sN) (seqO (sSet 9 (ev2 (vr 9) (evA (aC (vr 3) aN) lenD) modD)) (seqO (sSet 11 (ev2 (evS (vr 3) oN (oS (vr 9))) (evS (vr 3) (oS (ev2 (vr 9) (kd (.int 1)) zT)) oN) zT)) (seqO (sSet 12 (evA (aC (ev2 (vr 3) (vr 9) ixD) aN) YX)) (seqO (sSet 13 (evA (aC (ev2 (vr 3) (vr 9) ixD) aN) YW)) (sRet (ev2 (ev2 (evC 2 (aC (vr 2) (aC (vr 11) aN)) qT) (evC 2 (aC (ev2 (vr 2) (kd (.int 1)) subD) (aC (evC 3 (aC (vr 11) (aC (vr 12) (aC (vr 13) aN))) qY) aN)) qT) zT) (vr 7) eqD)))))))))))))))))
def qcp (ds:ao):Option Ka:=ob (wj (rho0 Yq.length ds)) outD
theorem qdc (F:Fun K "law" "law" Tq9 f fd)(K__law_cell_at:Known P w K mg base "_law_cell_at" 2 1 qP)(K__law_due:Known P w K mg base "_law_due" 2 2 zO)(K__law_told:Known P w K mg base "_law_told" 2 3 qT)(K__law_made_one:Known P w K mg base "_law_made_one" 3 1 qY)(z_len:mg "len" = none)(z_range:mg "range" = none)(z_min:mg "min" = none)(z_max:mg "max" = none):FnOk P w K mg base CX0 4 f fd ["_law_script"] (spF K 1 qcp):=by
 refine F.pure (k:=3) (u:=wj) (M':=[]) qj.fs rfl (fun cdv A outer s H E hr G=>?_)
 refine ql (M1:=[]) ?_ ?_
 refine qG 1 ?_ ?_ ?_ ?_ ?_ ?_ (qR K__law_cell_at hr (by decide) (qj.gl 0 rfl rfl) (pda2 (pd_v qj 0) qt) rfl)
 ·exact qj.fs.nd
 ·exact (qj.loc 1 rfl)
 ·rfl
 ·rfl
 ·exact .inl rfl
 ·decide
 refine ql (M1:=[]) ?_ ?_
 refine qG 2 ?_ ?_ ?_ ?_ ?_ ?_ (qI Qo qt (qI Zg (pd_v qj 1) qt))
 ·exact qj.fs.nd
 ·exact (qj.loc 2 rfl)
 ·rfl
 ·rfl
 ·exact .inl rfl
 ·decide
 refine ql (M1:=[3]) ?_ ?_
 refine jt 3 ?_ ?_ ?_ ?_ ?_ ?_ ?_ (Jy QV)
 ·exact qj.fs.nd
 ·exact (qj.loc 3 rfl)
 ·rfl
 ·rfl
 ·exact .inl rfl
 ·decide
 ·decide
 refine ql (M1:=[3]) ?_ ?_
 refine QX V6 rfl (zL (Qh (pd_v qj 0) (zQ qt) (zQ qt))) (fun _=>ZW qj 4) (fun _=>?_)
 refine ql (M1:=[3]) ?_ ?_
 refine qG 5 ?_ ?_ ?_ ?_ ?_ ?_ (qI Zg (pd_v qj 4) (pd_v qj 2))
 ·exact qj.fs.nd
 ·exact (qj.loc 5 rfl)
 ·rfl
 ·rfl
 ·exact .inl rfl
 ·decide
 refine ql (M1:=[3]) ?_ (qx (zm (qL (d_ne hr) (pd_v qj 5) (pd_v qj 6) (qW _)) (qx (Jx 3 (qj.vis 3 rfl) (by decide) (by decide) (Q9 (pda2 (pd_v qj 5) (pd_v qj 6))))) qX))
 refine qG 6 ?_ ?_ ?_ ?_ ?_ ?_ (qI Zg (qI Jm (pd_v qj 4) qt) (pd_v qj 2))
 ·exact qj.fs.nd
 ·exact (qj.loc 6 rfl)
 ·rfl
 ·rfl
 ·exact .inl rfl
 ·decide
 refine ql (M1:=[]) ?_ ?_
 refine Wb [] ?_ ?_ ?_
 ·rfl
 ·rfl
 refine qG 7 ?_ ?_ ?_ ?_ ?_ ?_ (qR K__law_due hr (by decide) (qj.gl 1 rfl rfl) (pda2 (pd_v qj 2) (pd_v qj 3)) rfl)
 ·exact qj.fs.nd
 ·exact (qj.loc 7 rfl)
 ·rfl
 ·rfl
 ·exact .inl rfl
 ·decide
 refine ql (M1:=[]) (zm (qL (d_ne hr) (qR K__law_told hr (by decide) (qj.gl 2 rfl rfl) (pda2 (pd_v qj 2) (pd_v qj 3)) rfl) (pd_v qj 7) (qW _)) (qx (qN qaq)) qX) ?_
 refine ql (M1:=[]) ?_ ?_
 refine qG 8 ?_ ?_ ?_ ?_ ?_ ?_ (qI Qo qt (qI Zg (qI Jm (pd_v qj 1) qt) qt))
 ·exact qj.fs.nd
 ·exact (qj.loc 8 rfl)
 ·rfl
 ·rfl
 ·exact .inl rfl
 ·decide
 refine ql (M1:=[]) ?_ ?_
 refine qG 9 ?_ ?_ ?_ ?_ ?_ ?_ (qI Zg (qR K__law_cell_at hr (by decide) (qj.gl 0 rfl rfl) (pda2 (pd_v qj 0) qt) rfl) (qI Qo (zG jN (qj.gl 3 rfl rfl) z_len Uk (pda1 (pd_v qj 3))) qt))
 ·exact qj.fs.nd
 ·exact (qj.loc 9 rfl)
 ·rfl
 ·rfl
 ·exact .inl rfl
 ·decide
 refine ql (M1:=[10]) (qaw 10 (CompOk.of (k:=1) Yq ["_law_script", "_law_first", "_law_n", "_law_pairs", "_law_cell", "_law_i", "_law_j", "_law_count", "_law_times", "_law_at", "_law_new", "_law_without", "_law_one", "_law_other", "_law_k"] (qp Tq9) rfl rfl rfl (by decide +kernel)) rfl (by decide +kernel) (qp Tq9) rfl (by decide +kernel) (by decide) (by decide) (jr (qj.gl 4 rfl rfl) z_range (pda1 (pd_v qj 8))) (fun _ _ _ _ _ _=>QM) (fun _ _ _ _ _ _=>zb (qau (pda2 (Q9 (pda2 (qI Zg (qI Jm (qJ 1 (qz (by decide +kernel)) (by decide)) qt) (qJ 2 (qz (by decide +kernel)) (by decide))) (qJ 2 (qz (by decide +kernel)) (by decide)))) (Q9 (pda2 (qJ 2 (qz (by decide +kernel)) (by decide)) (qI Zg (qI Jm (qJ 1 (qz (by decide +kernel)) (by decide)) qt) (qJ 2 (qz (by decide +kernel)) (by decide))))))) (qI Zg (qJ 14 (qz (by decide +kernel)) (by decide)) qt))) ?_
 refine ql (M1:=[10]) (zm (qL (d_ne hr) (qR K__law_told hr (by decide) (qj.gl 2 rfl rfl) (pda2 (qI Qo (pd_v qj 2) qt) (qI Qo (qI Qo (Qh (pd_v qj 3) QL (zQ (pd_v qj 9))) (pd_v qj 10)) (Qh (pd_v qj 3) (zQ (pd_v qj 9)) QL))) rfl) (qI WY (pd_v qj 7) (pd_v qj 8)) (qW _)) (qx (qN qaq)) qX) ?_
 refine ql (M1:=[10]) (zm (qL (d_eq hr) (zG jN (qj.gl 3 rfl rfl) z_len Uk (pda1 (pd_v qj 3))) qt (qW _)) (qx (qN qaq)) qX) ?_
 refine ql (M1:=[10]) ?_ ?_
 refine qG 9 ?_ ?_ ?_ ?_ ?_ ?_ (qI Zg (pd_v qj 9) (zG jN (qj.gl 3 rfl rfl) z_len Uk (pda1 (pd_v qj 3))))
 ·exact qj.fs.nd
 ·exact (qj.loc 9 rfl)
 ·rfl
 ·rfl
 ·exact .inl rfl
 ·decide
 refine ql (M1:=[10]) ?_ ?_
 refine qG 11 ?_ ?_ ?_ ?_ ?_ ?_ (qI Qo (Qh (pd_v qj 3) QL (zQ (pd_v qj 9))) (Qh (pd_v qj 3) (zQ (qI Qo (pd_v qj 9) qt)) QL))
 ·exact qj.fs.nd
 ·exact (qj.loc 11 rfl)
 ·rfl
 ·rfl
 ·exact .inl rfl
 ·decide
 refine ql (M1:=[10]) ?_ ?_
 refine qG 12 ?_ ?_ ?_ ?_ ?_ ?_ (zG (qcG hr) (qj.gl 5 rfl rfl) z_min wA (pda1 (zb (pd_v qj 3) (pd_v qj 9))))
 ·exact qj.fs.nd
 ·exact (qj.loc 12 rfl)
 ·rfl
 ·rfl
 ·exact .inl rfl
 ·decide
 refine ql (M1:=[10]) ?_ (qx (qN (qdm (d_eq hr) (qI Qo (qR K__law_told hr (by decide) (qj.gl 2 rfl rfl) (pda2 (pd_v qj 2) (pd_v qj 11)) rfl) (qR K__law_told hr (by decide) (qj.gl 2 rfl rfl) (pda2 (qI Q3 (pd_v qj 2) qt) (qR K__law_made_one hr (by decide) (qj.gl 7 rfl rfl) (pda3 (pd_v qj 11) (pd_v qj 12) (pd_v qj 13)) rfl)) rfl)) (pd_v qj 7) (qW _))))
 refine qG 13 ?_ ?_ ?_ ?_ ?_ ?_ (zG (qcF hr) (qj.gl 6 rfl rfl) z_max wz (pda1 (zb (pd_v qj 3) (pd_v qj 9))))
 ·exact qj.fs.nd
 ·exact (qj.loc 13 rfl)
 ·rfl
 ·rfl
 ·exact .inl rfl
 ·decide
end SF
local macro_rules
 | `(tactic| simp_arith [$ts,*] $[$loc]?)=> do
  let q := ("L2.rho0 Vm List.map_nil Kk V5 Nat.reduceAdd Nat.reduceSub UK Nat.sub_self VC List.replicate_zero XN Xb VD L2.ZF L2.Qe L2.WL L2.WF L2.WK L2.ifO_t L2.ifO_f L2.sIf_b L2.vIf_b L2.tA_b L2.tO_b L2.vA_b L2.vN L2.qdL L2.qdP L2.qdK L2.qdF L2.sN L2.sBk L2.sCt L2.tV L2.tN L2.tT L2.ev2_b L2.qcH L2.ev1 L2.vr_z L2.vr_s L2.kd L2.evA L2.evC_b L2.qbc L2.evC0 L2.aC_b L2.qbl L2.aN L2.yR L2.qc4 L2.tupD L2.lstD L2.qaZ L2.qa0 L2.qbB L2.qbC L2.qcA L2.qdU L2.qda L2.W5 L2.zE L2.qbq L2.qbG L2.qc7 L2.gtD_i L2.geD_i L2.qbb L2.ixD_l L2.ixD_t L2.atI0 L2.atI1 L2.atI2 L2.atI3 L2.atI4 L2.atI5 L2.qdk L2.qdj L2.ob_s L2.gNm L2.gsN_n L2.gsC_c L2.qd5 List.set_cons_zero List.set_cons_succ List.set_nil L2.evI L2.evR L2.qdM L2.qdN L2.qce L2.Y6 L2.rngL L2.qbj L2.qbf L2.Yx L2.qbh L2.YB L2.Yz L2.qbD L2.qdI L2.qcP L2.W7 L2.qcO L2.YL L2.qbu L2.qbt L2.qbv if_true if_false VM Bool.not_true Bool.not_false Nat.reduceLeDiff and_self and_true true_and Int.reduceToNat Int.reduceAdd Int.reduceSub Int.reduceLE Int.reduceLT Int.reduceNeg reduceIte L2.isiD L2.qcY L2.qcV L2.qcU L2.qcT L2.qcX L2.qcW String.reduceBEq L2.natLit Int.reduceBEq Bool.true_or Bool.or_true Bool.false_or Bool.or_false L2.qcf L2.qdY L2.qbr L2.qcM L2.qdH L2.qcD L2.qcC L2.evS_b L2.qdS L2.oN L2.oS_b L2.qdy Nat.reduceLT decide_true decide_false L2.qdO L2.qaP L2.qa5 L2.YD L2.qbk L2.Yw L2.Yu L2.qbg L2.qbi L2.qbe".splitOn " ").toArray.map fun s => Lean.mkIdent s.toName
  `(tactic| simp only [$[$q:term],*, $ts,*] $[$loc]?)
namespace SF
open PySem L2
def ZP (ns:aR)(k:Int):Int:=ns.getD k.toNat 0
theorem cell_eq (ns:aR)(k:Int)(hk:0<=k):qP [.list (ns.map .int),.int k]=some (.int (ZP ns k)):=by
 delta qP zR
 simp_arith []
 by_cases h:k<((ns.map Kj).length:Int)
 ·have h':k.toNat<ns.length:=by rw [Kh] at h;omega
  have e:atI (ns.map Kj) k=some (.int (ZP ns k)):=by
   have e1:((k.toNat:Nat):Int)=k:=by omega
   have:=qa8 (xs:=ns.map Kj) (j:=k.toNat) (v:=.int (ZP ns k)) (by
    rw [VG,KI h']
    unfold ZP
    rw [V7,KI h']
    rfl)
   rw [e1] at this
   exact this
  simp_arith [decide_eq_true h,e]
 ·have h':¬ k.toNat<ns.length:=by rw [Kh] at h;omega
  have e:ZP ns k=0:=by
   unfold ZP
   rw [V7,List.getElem?_eq_none (by omega)]
   rfl
  simp_arith [decide_eq_false h,e]
theorem J6 {α:Type}(enc:α->Ka){g:ag}{u:aq}(I:List α->Rho->Prop)(all:List α)(step:∀ a∈all,∀ done ρ,done.length<all.length->I done ρ->∃ ρ',ob (g (enc a) ρ) u=some (.nx ρ')/\I (done++[a]) ρ') :
  ∀ (as done:List α) (ρ:Rho),(∀ a∈as,a∈all)->done.length+as.length=all.length->I done ρ->∃ ρ',forD g u (as.map enc) ρ=some (.nx ρ')/\I (done++as) ρ'
 | [],done,ρ,_,_,h=>⟨ρ,rfl,by rw [VD];exact h⟩
 | a::as,done,ρ,hm,hl,h=>by
  rw [Kk] at hl
  obtain ⟨ρ1,e1,h1⟩:=step a (hm a (.head _)) done ρ (by omega) h
  obtain ⟨ρ2,e2,h2⟩:=J6 enc I all step as (done++[a]) ρ1 (fun x hx=>hm x (.tail _ hx)) (by rw [Kq,K4];omega) h1
  refine ⟨ρ2,?_,by rw [UN] at h2;exact h2⟩
  rw [Vm,W7,e1,YL]
  exact e2
theorem QH {α:Type}(enc:α->Ka){g:ag}{u:aq}(I:List α->Rho->Prop)(as:List α)(ρ:Rho)(h:I [] ρ)(step:∀ a∈as,∀ done ρ,done.length<as.length->I done ρ->∃ ρ',ob (g (enc a) ρ) u=some (.nx ρ')/\I (done++[a]) ρ') :
  ∃ ρ',forD g u (as.map enc) ρ=some (.nx ρ')/\I as ρ':=by
 obtain ⟨ρ',e,i⟩:=J6 enc I as step as [] ρ (fun _ h=>h) (by simp) h
 exact ⟨ρ',e,by rwa [Xb] at i⟩
theorem Zu {α:Type}(enc:α->Ka){tt:ah}{te:aa}{ρ:Rho}(p:α->Bool)(f:α->Ka):∀ (as:List α),(∀ a∈as,tt (ρ++[some (enc a)])=some (p a))->(∀ a∈as,p a=true->te (ρ++[some (enc a)])=some (f a))->q9 tt te ρ (as.map enc)=some ((as.filter p).map f)
 | [],_,_=>rfl
 | a::as,h1,h2=>by
  have ih:=Zu enc p f as (fun x hx=>h1 x (.tail _ hx)) (fun x hx=>h2 x (.tail _ hx))
  rw [Vm,Yx,h1 a (.head _),List.filter_cons]
  cases e:p a with
  | true=>rw [YB,h2 a (.head _) e,ih];rfl
  | false=>rw [Yz,ih];rfl
theorem Qn {α:Type}(enc:α->Ka){te:aa}{ρ:Rho}(f:α->Ka)(as:List α)(h2:∀ a∈as,te (ρ++[some (enc a)])=some (f a)):q9 tT te ρ (as.map enc)=some (as.map f):=by
 have:=Zu enc (tt:=tT) (te:=te) (ρ:=ρ) (fun _=>true) f as (fun _ _=>rfl) (fun a ha _=>h2 a ha)
 rwa [List.filter_eq_self.mpr (fun _ _=>rfl)] at this
theorem zp {u w:aq}{ρ ρ':Rho}{r:Option Out}(h:u ρ=some (.nx ρ'))(h2:w ρ'=r):seqO u w ρ=r:=by rw [ZF,h,Qe];exact h2
theorem qaM (n:Nat):rngL 0 n=(Ki n).map fun k=>Kj (k:Nat):=by
 have:∀ (n m:Nat),rngL (m:Nat) n=(List.range' m n).map fun k=>Kj (k:Nat):=by
  intro n
  induction n with
  | zero=>intro m;rfl
  | succ n ih =>
   intro m
   rw [rngL,List.range'_succ,Vm,← ih (m+1)]
   rfl
 rw [List.range_eq_range']
 exact this n 0
theorem qcJ (ns:aR){a b:Nat}:∃ ms:List Int,sliD (.list (ns.map .int)) (some (a:Int)) (some (b:Int))=some (.list (ms.map .int))/\ms.length<=b-a:=by
 refine ⟨(ns.drop (HT.sIx (ns.map Kj).length 0 (some (a:Int)))).take (HT.sIx (ns.map Kj).length (ns.map Kj).length (some (b:Int))-HT.sIx (ns.map Kj).length 0 (some (a:Int))),?_,?_⟩
 ·show some (VH (cutD (ns.map .int) (some (a:Int)) (some (b:Int))))=_
  unfold cutD
  rw [← List.map_drop,← List.map_take]
 ·rw [UW,Ul,HT.Zr,HT.Zr,Kh]
  omega
noncomputable def sumN:Nat->(Nat->Int)->Int
 | 0,_=>0
 | n+1,f=>sumN n f+f n
noncomputable def skp (i a:Nat):Nat:=if a<i then a else a+1
noncomputable def sgn (i:Nat):Int:=if i % 2=0 then 1 else -1
def detN:Nat->(Nat->Nat->Int)->Int
 | 0,_=>1
 | n+1,M=>sumN (n+1) fun i=>sgn i*M i 0*detN n (fun a b=>M (skp i a) (b+1))
theorem Za {n:Nat}{f g:aH}(h:∀ i,i<n->f i=g i):sumN n f=sumN n g:=by
 induction n with
 | zero=>rfl
 | succ n ih=>unfold sumN;rw [ih fun i hi=>h i (by omega),h n (by omega)]
theorem yC (x y:Int)(f g:aH)(n:Nat):sumN n (fun i=>x*f i+y*g i)=x*sumN n f+y*sumN n g:=by
 induction n with
 | zero=>simp [sumN]
 | succ n ih=>unfold sumN;rw [ih];simp only [Int.mul_add];omega
theorem Wr {n:Nat}{f:aH}(h:∀ i,i<n->f i=0):sumN n f=0:=by
 induction n with
 | zero=>rfl
 | succ n ih=>unfold sumN;rw [ih fun i hi=>h i (by omega),h n (by omega)];rfl
theorem Yj {n:Nat}{f:aH}(h:∀ i,0<i->i<n+1->f i=0):sumN (n+1) f=f 0:=by
 induction n with
 | zero=>show 0+f 0=f 0;omega
 | succ n ih =>
  show sumN (n+1) f+f (n+1)=f 0
  rw [ih fun i a b=>h i a (by omega),h (n+1) (by omega) (by omega)];omega
theorem qaT {n r:Nat}{f:aH}(hr:r+1<n)(h:∀ i,i<n->i≠r->i≠r+1->f i=0)(e:f r+f (r+1)=0):sumN n f=0:=by
 induction n with
 | zero=>omega
 | succ n ih =>
  show sumN n f+f n=0
  by_cases c:n=r+1
  ·subst c
   show sumN r f+f r+f (r+1)=0
   rw [Wr fun i hi=>h i (by omega) (by omega) (by omega)];omega
  ·rw [ih (by omega) fun i a b d=>h i (by omega) b d,h n (by omega) (by omega) (by omega)];rfl
theorem qaR {i a n:Nat}(h:a<n):skp i a<n+1:=by unfold skp;split<;>omega
theorem qdQ (i a:Nat):skp i a≠i:=by unfold skp;split<;>omega
theorem qaQ (i:Nat):sgn (i+1)=- sgn i:=by
 unfold sgn
 by_cases h:i % 2=0
 ·rw [if_pos h,if_neg (by omega)]
 ·rw [if_neg h,if_pos (by omega)];rfl
theorem zN {n:Nat}{M N:aj}(h:∀ i j,i<n->j<n->M i j=N i j):detN n M=detN n N:=by
 induction n generalizing M N with
 | zero=>rfl
 | succ n ih =>
  unfold detN
  refine Za fun i hi=>?_
  rw [h i 0 hi (by omega),ih fun a b ha hb=>h _ _ (qaR ha) (by omega)]
def upd (M:aj)(r:Nat)(v:aH):Nat->Nat->Int:=fun i=>if i=r then v else M i
theorem qH (M:aj)(r:Nat)(v:aH):upd M r v r=v:=if_pos rfl
theorem qg {M:aj}{r i:Nat}(v:aH)(h:i≠r):upd M r v i=M i:=if_neg h
theorem zA (M:aj)(r:Nat):upd M r (M r)=M:=by
 funext i
 by_cases h:i=r
 ·subst h;exact qH _ _ _
 ·exact qg _ h
theorem qK {M:aj}{r s:Nat}(h:r≠s)(u v:aH):upd (upd M r u) s v=upd (upd M s v) r u:=by
 funext i
 by_cases a:i=s
 ·subst a;rw [qH,qg _ (KP h),qH]
 ·rw [qg _ a]
  by_cases b:i=r
  ·subst b;rw [qH,qH]
  ·rw [qg _ b,qg _ b,qg _ a]
noncomputable def low (i r:Nat):Nat:=if r<i then r else r-1
theorem Zz {M:aj}{i r:Nat}(v:aH)(h:i≠r):(fun a b=>upd M r v (skp i a) (b+1))=upd (fun a b=>M (skp i a) (b+1)) (low i r) (fun b=>v (b+1)):=by
 funext a
 by_cases e:skp i a=r
 ·have:a=low i r:=by unfold low;unfold skp at e;split at e<;>split<;>omega
  subst this
  rw [qH,e]
  funext b
  rw [qH]
 ·have:a≠low i r:=by
   intro c;subst c;apply e
   unfold low skp
   by_cases hr:r<i
   ·rw [if_pos hr,if_pos hr]
   ·rw [if_neg hr,if_neg (by omega)];omega
  rw [qg _ this]
  funext b
  rw [qg _ e]
theorem Qs {M:aj}{r:Nat}(v:aH):(fun a b=>upd M r v (skp r a) (b+1))=fun a b=>M (skp r a) (b+1):=by
 funext a b
 rw [qg _ (qdQ r a)]
theorem qc6 {i r n:Nat}(hi:i<n+1)(hr:r<n+1)(h:i≠r):low i r<n:=by unfold low;split<;>omega
theorem QG {n r:Nat}(M:aj)(hr:r<n)(x y:Int)(u v:aH):detN n (upd M r (fun j=>x*u j+y*v j))=x*detN n (upd M r u)+y*detN n (upd M r v):=by
 induction n generalizing M r u v with
 | zero=>omega
 | succ n ih =>
  unfold detN
  rw [← yC]
  refine Za fun i hi=>?_
  by_cases h:i=r
  ·subst h
   rw [Qs,Qs,Qs,qH,qH,qH]
   generalize detN n (fun a b=>M (skp i a) (b+1))=D
   simp only [Int.mul_add,Int.add_mul,UV,V9 x,V9 y]
  ·rw [Zz _ h,Zz _ h,Zz _ h,ih _ (qc6 hi hr h),qg _ h,qg _ h,qg _ h]
   generalize detN n _=D
   generalize detN n _=D'
   simp only [Int.mul_add,UV,V9 x,V9 y]
theorem J2 {n r:Nat}{M:aj}(hr:r+1<n)(h:M r=M (r+1)):detN n M=0:=by
 induction n generalizing M r with
 | zero=>omega
 | succ n ih =>
  unfold detN
  refine qaT hr (fun i hi a b=>?_) ?_
  ·rw [ih (r:=if i<r then r-1 else r) (by split<;>omega),Nn]
   by_cases c:i<r
   ·rw [if_pos c]
    have e1:skp i (r-1)=r:=by unfold skp;rw [if_neg (by omega)];omega
    have e2:skp i (r-1+1)=r+1:=by unfold skp;rw [if_neg (by omega)];omega
    rw [e1,e2,h]
   ·rw [if_neg c]
    have e1:skp i r=r:=by unfold skp;rw [if_pos (by omega)]
    have e2:skp i (r+1)=r+1:=by unfold skp;rw [if_pos (by omega)]
    rw [e1,e2,h]
  ·have e:(fun a b=>M (skp r a) (b+1))=fun a b=>M (skp (r+1) a) (b+1):=by
    funext a b
    by_cases c:a=r
    ·subst c
     have e1:skp a a=a+1:=by unfold skp;rw [if_neg (by omega)]
     have e2:skp (a+1) a=a:=by unfold skp;rw [if_pos (by omega)]
     rw [e1,e2,h]
    ·have e1:skp r a=skp (r+1) a:=by unfold skp;split<;>split<;>omega
     rw [e1]
   rw [e,h,qaQ]
   generalize sgn r=s
   generalize detN n _=D
   rw [X8,X8]
   omega
theorem zu {n r:Nat}(M:aj)(hr:r<n)(u v:aH):detN n (upd M r (fun j=>u j+v j))=detN n (upd M r u)+detN n (upd M r v):=by
 have:=QG M hr 1 1 u v
 simpa using this
theorem yI {n r:Nat}(M:aj)(hr:r+1<n)(u v:aH):detN n (upd (upd M r u) (r+1) v)=- detN n (upd (upd M r v) (r+1) u):=by
 have ne:r≠r+1:=by omega
 have z:∀ w,detN n (upd (upd M r w) (r+1) w)=0:=fun w=>J2 hr (by rw [qH,qg _ ne,qH])
 have a:=z (fun j=>u j+v j)
 rw [zu _ hr,qK ne,qK ne (v:=v),zu _ (by omega),zu _ (by omega),qK (KP ne),qK (KP ne),qK (KP ne),qK (KP ne),z,z] at a
 omega
theorem jX {n:Nat}(d:Nat):∀ {r:Nat} {M:aj},r+d+1<n->M r=M (r+d+1)->detN n M=0:=by
 induction d with
 | zero=>intro r M hr h;exact J2 hr h
 | succ d ih =>
  intro r M hr h
  have e:M=upd (upd M (r+d+1) (M (r+d+1))) (r+d+1+1) (M (r+d+1+1)):=by rw [zA,zA]
  rw [e,yI _ (by omega),ih (r:=r) (by omega),Int.neg_zero]
  rw [qg _ (by omega),qg _ (by omega),qg _ (by omega),qH]
  exact h
theorem je {n r s:Nat}{M:aj}(hr:r<n)(hs:s<n)(ne:r≠s)(h:M r=M s):detN n M=0:=by
 by_cases c:r<s
 ·have e:s=r+(s-r-1)+1:=by omega
  exact jX (s-r-1) (r:=r) (by omega) (by rw [← e];exact h)
 ·have e:r=s+(r-s-1)+1:=by omega
  exact jX (r-s-1) (r:=s) (by omega) (by rw [← e];exact h.symm)
theorem Zv {n r s:Nat}(M:aj)(hr:r<n)(hs:s<n)(ne:r≠s)(c k:Int)(u:aH):detN n (upd M r (fun j=>c*u j+k*M s j))=c*detN n (upd M r u):=by
 rw [QG _ hr,je (M:=upd M r (M s)) hr hs ne (by rw [qH,qg _ (KP ne)]),Nn,Np]
theorem wH {n r s:Nat}(M:aj)(hr:r<n)(hs:s<n)(ne:r≠s)(u v:aH):detN n (upd (upd M r u) s v)=- detN n (upd (upd M r v) s u):=by
 have z:∀ w,detN n (upd (upd M r w) s w)=0:=fun w=>je hr hs ne (by rw [qH,qg _ ne,qH])
 have a:=z (fun j=>u j+v j)
 rw [zu _ hs,qK ne,qK ne,zu _ hr,zu _ hr,qK (KP ne),qK (KP ne),qK (KP ne),qK (KP ne),z,z] at a
 omega
theorem wI {n r:Nat}{M:aj}(hr:r<n)(h:∀ j,M r j=0):detN n M=0:=by
 have e:M=upd M r (fun j=>0*M r j+0*M r j):=by
  have:(fun j=>0*M r j+0*M r j)=M r:=by funext j;rw [h j];rfl
  rw [this,zA]
 rw [e,QG _ hr];omega
theorem QF {n:Nat}{M:aj}(h:∀ i,0<i->i<n+1->M i 0=0):detN (n+1) M=M 0 0*detN n (fun a b=>M (a+1) (b+1)):=by
 show sumN (n+1) _=_
 rw [Yj fun i a b=>by rw [h i a b,Nn,XO]]
 have e:sgn 0=1:=rfl
 rw [e,Ui]
 congr 1
theorem jW {n r:Nat}(M:aj)(hr:r<n)(c:Int)(k:aH)(t:Nat):t<=n->detN n (fun i=>if i≠r/\i<t then (fun j=>c*M i j+k i*M r j) else M i)=c ^ (if r<t then t-1 else t)*detN n M:=by
 induction t with
 | zero =>
  intro _
  have e:(fun i=>if i≠r/\i<0 then (fun j=>c*M i j+k i*M r j) else M i)=M:=by
   funext i;rw [if_neg (by omega)]
  rw [e,if_neg (by omega),Xi,Ui]
 | succ t ih =>
  intro ht
  have ih:=ih (by omega)
  by_cases c1:t=r
  ·subst c1
   have e:(fun i=>if i≠t/\i<t+1 then (fun j=>c*M i j+k i*M t j) else M i)=fun i=>if i≠t/\i<t then (fun j=>c*M i j+k i*M t j) else M i:=by
    funext i
    by_cases a:i≠t/\i<t
    ·rw [if_pos a,if_pos (by omega)]
    ·rw [if_neg a,if_neg (by omega)]
   rw [e,ih,if_neg (by omega),if_pos (by omega)];rfl
  ·generalize hW:(fun i=>if i≠r/\i<t then (fun j=>c*M i j+k i*M r j) else M i)=W at ih
   have w1:W r=M r:=by rw [← hW];exact if_neg (by omega)
   have w2:W t=M t:=by rw [← hW];exact if_neg (by omega)
   have e:(fun i=>if i≠r/\i<t+1 then (fun j=>c*M i j+k i*M r j) else M i)=upd W t (fun j=>c*M t j+k t*W r j):=by
    funext i
    by_cases a:i=t
    ·subst a;rw [qH,if_pos ⟨c1,by omega⟩,w1]
    ·rw [qg _ a,← hW]
     show _=if i≠r/\i<t then (fun j=>c*M i j+k i*M r j) else M i
     by_cases b:i≠r/\i<t
     ·rw [if_pos b,if_pos (by omega)]
     ·rw [if_neg b,if_neg (by omega)]
   rw [e,Zv W (by omega) hr c1,← w2,zA,ih,← UV]
   congr 1
   by_cases a:r<t
   ·rw [if_pos a,if_pos (by omega)]
    have:t+1-1=(t-1)+1:=by omega
    rw [this,Xj,Uy]
   ·rw [if_neg a,if_neg (by omega),Xj,Uy]
def chio (M:aj):Nat->Nat->Int:=fun i j=>M (i+1) (j+1)*M 0 0-M (i+1) 0*M 0 (j+1)
theorem WQ {n:Nat}(M:aj):M 0 0*detN n (chio M)=M 0 0 ^ n*detN (n+1) M:=by
 have a:=jW (n:=n+1) (r:=0) M (by omega) (M 0 0) (fun i=>- M i 0) (n+1) (Kl _)
 rw [if_pos (by omega)] at a
 have:n+1-1=n:=rfl
 rw [this] at a
 rw [← a,QF]
 ·show _=(if (0:Nat)≠0/\0<n+1 then _ else M 0) 0*_
  rw [if_neg (by omega)]
  congr 1
  refine zN fun i j hi hj=>?_
  show M (i+1) (j+1)*M 0 0-M (i+1) 0*M 0 (j+1)=(if i+1≠0/\i+1<n+1 then (fun j=>M 0 0*M (i+1) j + - M (i+1) 0*M 0 j) else M (i+1)) (j+1)
  rw [if_pos (by omega)]
  show _=M 0 0*M (i+1) (j+1) + - M (i+1) 0*M 0 (j+1)
  rw [X8,Uy (M 0 0)];omega
 ·intro i a b
  show (if i≠0/\i<n+1 then (fun j=>M 0 0*M i j + - M i 0*M 0 j) else M i) 0=0
  rw [if_pos (by omega)]
  show M 0 0*M i 0 + - M i 0*M 0 0=0
  rw [X8,Uy (M 0 0)];omega
theorem wD {n:Nat}{M:aj}(h:M 0 0≠0):detN (n+1) (chio M)=M 0 0 ^ n*detN (n+2) M:=by
 have a:=WQ (n:=n+1) M
 rw [Xj,Uy (M 0 0 ^ n),UV] at a
 exact Xz h a
def ext0 (I:aA):Nat->Nat
 | 0=>0
 | i+1=>I i+1
def bor (k:Nat)(I:aA)(i:Nat):Nat:=if i<k then i else k+I (i-k)
theorem Ys (k:Nat)(I:aA):bor k (ext0 I)=bor (k+1) I:=by
 funext i
 unfold bor
 by_cases a:i<k
 ·rw [if_pos a,if_pos (by omega)]
 ·rw [if_neg a]
  by_cases b:i<k+1
  ·rw [if_pos b]
   have:i-k=0:=by omega
   rw [this];show k+0=i;omega
  ·rw [if_neg b]
   obtain ⟨m,hm⟩:∃ m,i-k=m+1:=⟨i-k-1,by omega⟩
   have:i-(k+1)=m:=by omega
   rw [hm,this];show k+(I m+1)=k+1+I m;omega
def Bar (A:aj)(k:Nat)(M:aj)(a:Int):Prop:=∀ (s:Nat) (I J:aA),detN (s+1) (fun i j=>M (I i) (J j))=a ^ s*detN (k+s+1) (fun i j=>A (bor k I i) (bor k J j))
theorem bor0 (I:aA):bor 0 I=I:=by
 funext i;unfold bor;rw [if_neg (by omega)];show 0+I i=I i;omega
theorem bar0 (A:aj):Bar A 0 A 1:=fun s I J=>by
 rw [bor0,bor0,Int.one_pow,Ui,UK]
theorem det1 (M:aj):detN 1 M=M 0 0:=by
 have:=QF (n:=0) (M:=M) (fun i a b=>by omega)
 rw [this];show M 0 0*1=_;omega
def mnr (A:aj)(k i j:Nat):Int:=detN (k+1) (fun a b=>A (if a<k then a else k+i) (if b<k then b else k+j))
theorem Bar.at {A:aj}{k:Nat}{M:aj}{a:Int}(h:Bar A k M a)(i j:Nat):M i j=mnr A k i j:=by
 have:=h 0 (fun _=>i) (fun _=>j)
 rw [det1,Xi,Ui] at this
 exact this
theorem Bar.step {A:aj}{k:Nat}{M:aj}{a:Int}(h:Bar A k M a)(ha:a≠0)(hc:M 0 0≠0) :
  (∀ i j,chio M i j=a*mnr A (k+1) i j)/\Bar A (k+1) (fun i j=>mnr A (k+1) i j) (M 0 0):=by
 have key:∀ (s:Nat) (I J:aA),detN (s+1) (fun i j=>chio M (I i) (J j))=M 0 0 ^ s*(a ^ (s+1)*detN (k+1+s+1) (fun i j=>A (bor (k+1) I i) (bor (k+1) J j))):=fun s I J=>by
  have e:(fun i j=>chio M (I i) (J j))=chio (fun i j=>M (ext0 I i) (ext0 J j)):=rfl
  have c:=wD (n:=s) (M:=fun i j=>M (ext0 I i) (ext0 J j)) hc
  rw [e,c,h (s+1) (ext0 I) (ext0 J),Ys,Ys]
  have e2:k+(s+1)+1=k+1+s+1:=by omega
  rw [e2];rfl
 have one:∀ i j,chio M i j=a*mnr A (k+1) i j:=fun i j=>by
  have c:=key 0 (fun _=>i) (fun _=>j)
  rw [det1,Xi,Ui] at c
  rw [c]
  show a ^ 1*_=_
  rw [Xj,Xi,Ui]
  rfl
 refine ⟨one,fun s I J=>?_⟩
 have c:=key s I J
 have lin:∀ (n:Nat) (N:aj),detN n (fun i j=>a*N i j)=a ^ n*detN n N:=by
  intro n N
  induction n generalizing N with
  | zero=>show (1:Int)=a ^ 0*1;rw [Xi];rfl
  | succ n ih =>
   unfold detN
   have z:=yC (a ^ (n+1)) 0 (fun i=>sgn i*N i 0*detN n (fun x y=>N (skp i x) (y+1))) (fun _=>0) (n+1)
   simp only [XO,Np] at z
   rw [← z]
   refine Za fun i hi=>?_
   rw [ih (fun x y=>N (skp i x) (y+1)),Xj]
   generalize detN n _=D
   generalize sgn i=g
   show g*(a*N i 0)*(a ^ n*D)=a ^ n*a*(g*N i 0*D)
   generalize N i 0=y
   generalize a ^ n=p
   simp only [UV,Uy,V9]
 have e:(fun i j=>chio M (I i) (J j))=fun i j=>a*mnr A (k+1) (I i) (J j):=by funext i j;exact one _ _
 rw [e,lin,V9] at c
 exact Xz (Int.pow_ne_zero ha) c
noncomputable def fbN (B:Nat):Nat->Nat
 | 0=>1
 | n+1=>(n+1)*(B*fbN B n)
theorem qaS {n c:Nat}{f:aH}(h:∀ i,i<n->(f i).natAbs<=c):(sumN n f).natAbs<=n*c:=by
 induction n with
 | zero=>show (0:Int).natAbs<=_;omega
 | succ n ih =>
  have a:=ih fun i hi=>h i (by omega)
  have b:=h n (by omega)
  have d:=Int.natAbs_add_le (sumN n f) (f n)
  show (sumN n f+f n).natAbs<=_
  rw [Nl];omega
theorem qcg (i:Nat):(sgn i).natAbs=1:=by unfold sgn;split<;>rfl
theorem J0 {B n:Nat}{M:aj}(h:∀ i j,i<n->j<n->(M i j).natAbs<=B):(detN n M).natAbs<=fbN B n:=by
 induction n generalizing M with
 | zero=>exact Kl 1
 | succ n ih =>
  show (sumN (n+1) _).natAbs<=(n+1)*(B*fbN B n)
  refine qaS fun i hi=>?_
  rw [Int.natAbs_mul,Int.natAbs_mul,qcg,Nat.one_mul]
  exact Nat.mul_le_mul (h _ _ hi (by omega)) (ih fun a b ha hb=>h _ _ (qaR ha) (by omega))
def tieN (l:aA)(a b:Nat):Nat->Nat:=fun v=>if l v=b then a else l v
def qi (n:Nat):(Nat->Nat)->List (Nat×Nat)->Nat
 | l,[]=>if (∀ v,v<n->l v=l 0) then 1 else 0
 | l,p::ps=>qi n l ps+if l p.1=l p.2 then 0 else qi n (tieN l (l p.1) (l p.2)) ps
def InN (n:Nat)(ps:ai):Prop:=∀ p∈ps,p.1<n/\p.2<n
theorem InN.tail {n:Nat}{p:aU}{ps:ai}(h:InN n (p::ps)):InN n ps:=fun q hq=>h q (KW _ hq)
theorem zY {l:aA}{a b u v:Nat}:tieN l a b u=tieN l a b v↔(l u=l v\/(l u=a\/l u=b)/\(l v=a\/l v=b)):=by
 unfold tieN
 by_cases h1:l u=b
 ·rw [if_pos h1]
  by_cases h2:l v=b
  ·rw [if_pos h2];omega
  ·rw [if_neg h2];omega
 ·rw [if_neg h1]
  by_cases h2:l v=b
  ·rw [if_pos h2];omega
  ·rw [if_neg h2];omega
theorem ZJ {n:Nat}{ps:ai}(hp:InN n ps)(h0:0<n):∀ {l l':aA},(∀ u v,u<n->v<n->(l u=l v↔l' u=l' v))->qi n l ps=qi n l' ps:=by
 induction ps with
 | nil =>
  intro l l' h
  unfold qi
  have:(∀ v,v<n->l v=l 0)↔(∀ v,v<n->l' v=l' 0):=⟨fun a v hv=>(h v 0 hv h0).mp (a v hv),fun a v hv=>(h v 0 hv h0).mpr (a v hv)⟩
  by_cases c:∀ v,v<n->l v=l 0
  ·rw [if_pos c,if_pos (this.mp c)]
  ·rw [if_neg c,if_neg fun d=>c (this.mpr d)]
 | cons p ps ih =>
  intro l l' h
  have hp1:=hp p (K0 ..)
  unfold qi
  rw [ih hp.tail h]
  congr 1
  by_cases c:l p.1=l p.2
  ·rw [if_pos c,if_pos ((h _ _ hp1.1 hp1.2).mp c)]
  ·rw [if_neg c,if_neg fun d=>c ((h _ _ hp1.1 hp1.2).mpr d)]
   refine ih hp.tail fun u v hu hv=>?_
   rw [zY,zY,h u v hu hv,h u _ hu hp1.1,h u _ hu hp1.2,h v _ hv hp1.1,h v _ hv hp1.2]
theorem Yl {n:Nat}{ps:ai}(hp:InN n ps)(h0:0<n):∀ {l l':aA},(∀ u v,u<n->v<n->l u=l v->l' u=l' v)->qi n l' ps=0->qi n l ps=0:=by
 induction ps with
 | nil =>
  intro l l' h e
  unfold qi at *
  by_cases c:∀ v,v<n->l v=l 0
  ·rw [if_pos fun v hv=>h v 0 hv h0 (c v hv)] at e;cases e
  ·rw [if_neg c]
 | cons p ps ih =>
  intro l l' h e
  have hp1:=hp p (K0 ..)
  unfold qi at e ⊢
  have e1:qi n l' ps=0:=by omega
  rw [ih hp.tail h e1,UK]
  by_cases c:l p.1=l p.2
  ·rw [if_pos c]
  ·rw [if_neg c]
   by_cases d:l' p.1=l' p.2
   ·refine ih (l':=l') hp.tail (fun u v hu hv g=>?_) e1
    rcases zY.mp g with g|⟨g1,g2⟩
    ·exact h u v hu hv g
    ·have a1:l' u=l' p.1:=g1.elim (h _ _ hu hp1.1) fun g=>(h _ _ hu hp1.2 g).trans d.symm
     have a2:l' v=l' p.1:=g2.elim (h _ _ hv hp1.1) fun g=>(h _ _ hv hp1.2 g).trans d.symm
     rw [a1,a2]
   ·rw [if_neg d] at e
    refine ih (l':=tieN l' (l' p.1) (l' p.2)) hp.tail (fun u v hu hv g=>?_) (by omega)
    rw [zY]
    rcases zY.mp g with g|⟨g1,g2⟩
    ·exact .inl (h u v hu hv g)
    ·exact .inr ⟨g1.imp (h _ _ hu hp1.1) (h _ _ hu hp1.2),g2.imp (h _ _ hv hp1.1) (h _ _ hv hp1.2)⟩
def mapP (f:aA)(ps:ai):List (Nat×Nat):=ps.map fun p=>(f p.1,f p.2)
theorem ZK {n m:Nat}{f:aA}(hf:∀ v,v<n->f v<m)(hs:∀ w,w<m->∃ v,v<n/\f v=w)(h0:0<n)(ps:ai)(hp:InN n ps):∀ (l:aA),qi m l (mapP f ps)=qi n (fun v=>l (f v)) ps:=by
 induction ps with
 | nil =>
  intro l
  show qi m l []=_
  unfold qi
  have:(∀ v,v<m->l v=l 0)↔(∀ v,v<n->l (f v)=l (f 0)):=⟨fun a v hv=>by rw [a _ (hf v hv),a _ (hf 0 h0)],fun a v hv=>by
   obtain ⟨x,hx,rfl⟩:=hs v hv
   obtain ⟨z,hz,e⟩:=hs 0 (by omega)
   rw [a x hx,show l 0=l (f z) by rw [e],a z hz]⟩
  by_cases c:∀ v,v<m->l v=l 0
  ·rw [if_pos c,if_pos (this.mp c)]
  ·rw [if_neg c,if_neg fun d=>c (this.mpr d)]
 | cons p ps ih =>
  intro l
  show qi m l ((f p.1,f p.2)::mapP f ps)=_
  unfold qi
  rw [ih hp.tail l,ih hp.tail]
  rfl
noncomputable def eN (v j:Nat):Int:=if j+1=v then 1 else 0
noncomputable def dN (a b:Nat):Int:=if a=b then 1 else 0
def rowN (l:aA):List (Nat×Nat)->Nat->Nat->Int
 | [],_,_=>0
 | p::ps,a,j=>(dN a (l p.1)-dN a (l p.2))*(eN p.1 j-eN p.2 j)+rowN l ps a j
def tabN (l:aA)(ps:ai):Nat->Nat->Int:=fun i=>if l (i+1)=i+1 then rowN l ps (i+1) else fun j=>eN (i+1) j-eN (l (i+1)) j
structure Lots (n:Nat)(l:aA):Prop where
 z:l 0=0
 lt:∀ v,v<n->l v<n
 fix:∀ v,v<n->l (l v)=l v
theorem Lots.tie {n:Nat}{l:aA}(h:Lots n l){a b:Nat}(ha:a<n)(fa:l a=a)(ne:a≠b)(hb:b≠0):Lots n (tieN l a b):=by
 refine ⟨?_,fun v hv=>?_,fun v hv=>?_⟩
 ·unfold tieN;rw [h.z,if_neg (KP hb)]
 ·unfold tieN;split
  ·exact ha
  ·exact h.lt v hv
 ·unfold tieN
  by_cases c:l v=b
  ·rw [if_pos c,fa,if_neg ne]
  ·rw [if_neg c,h.fix v hv,if_neg c]
theorem Wj (l:aA)(p:aU)(ps:ai):rowN l (p::ps)=rowN l ((p.2,p.1)::ps):=by
 funext a j
 unfold rowN
 congr 1
 generalize dN a (l p.1)=x
 generalize dN a (l p.2)=y
 generalize eN p.1 j=z
 generalize eN p.2 j=t
 show (x-y)*(z-t)=(y-x)*(t-z)
 rw [show y-x=-(x-y) by omega,show t-z=-(z-t) by omega,Int.neg_mul_neg]
theorem Ws (l:aA)(p:aU)(ps:ai):tabN l (p::ps)=tabN l ((p.2,p.1)::ps):=by
 unfold tabN;rw [Wj]
theorem yu {l:aA}{a b c:Nat}(ne:a≠b)(ps:ai)(j:Nat):rowN (tieN l a b) ps c j=if c=a then rowN l ps a j+rowN l ps b j else if c=b then 0 else rowN l ps c j:=by
 have key:∀ v,dN c (tieN l a b v)=if c=a then dN a (l v)+dN b (l v) else if c=b then 0 else dN c (l v):=fun v=>by
  unfold dN tieN
  by_cases h:l v=b
  ·rw [if_pos h]
   by_cases c1:c=a
   ·subst c1;rw [if_pos rfl,if_pos rfl,h,if_neg ne,if_pos rfl];rfl
   ·rw [if_neg c1,if_neg c1]
    by_cases c2:c=b
    ·rw [if_pos c2]
    ·rw [if_neg c2,h,if_neg c2]
  ·rw [if_neg h]
   by_cases c1:c=a
   ·subst c1;rw [if_pos rfl,if_neg (c:=b=l v) (KP h),Np]
   ·rw [if_neg c1]
    by_cases c2:c=b
    ·subst c2;rw [if_pos rfl,if_neg (KP h)]
    ·rw [if_neg c2]
 induction ps with
 | nil =>
  unfold rowN
  split
  ·rfl
  ·split<;>rfl
 | cons p ps ih =>
  unfold rowN
  rw [ih,key,key]
  generalize eN p.1 j-eN p.2 j=z
  by_cases c1:c=a
  ·subst c1
   simp only [if_pos]
   generalize dN c (l p.1)=x1
   generalize dN c (l p.2)=x2
   generalize dN b (l p.1)=y1
   generalize dN b (l p.2)=y2
   rw [show x1+y1-(x2+y2)=(x1-x2)+(y1-y2) by omega,Int.add_mul];omega
  ·simp only [if_neg c1]
   by_cases c2:c=b
   ·subst c2;simp
   ·simp only [if_neg c2]
theorem qbo {n:Nat}{M:aj}(h:∀ i j,i<n->j<n->M i j=if i=j then 1 else 0):detN n M=1:=by
 induction n generalizing M with
 | zero=>rfl
 | succ n ih =>
  rw [QF fun i a b=>by rw [h i 0 b (by omega),if_neg (by omega)],h 0 0 (by omega) (by omega),ih fun i j hi hj=>by
   rw [h (i+1) (j+1) (by omega) (by omega)]
   by_cases c:i=j
   ·rw [if_pos c,if_pos (by omega)]
   ·rw [if_neg c,if_neg (by omega)]]
  rfl
theorem qaW {n:Nat}{l:aA}(h:Lots (n+1) l):(qi (n+1) l []:Int)=detN n (tabN l []):=by
 unfold qi
 by_cases c:∀ v,v<n+1->l v=l 0
 ·rw [if_pos c,qbo]
  ·rfl
  ·intro i j hi hj
   have e:=c (i+1) (by omega)
   rw [h.z] at e
   unfold tabN
   rw [if_neg (by omega)]
   show eN (i+1) j-eN (l (i+1)) j=_
   rw [e]
   unfold eN
   rw [if_neg (c:=j+1=0) (by omega)]
   by_cases d:i=j
   ·rw [if_pos d,if_pos (by omega)];rfl
   ·rw [if_neg d,if_neg (by omega)];rfl
 ·rw [if_neg c]
  obtain ⟨v,hv,ne⟩:∃ v,v<n+1/\l v≠0:=by
   refine Classical.byContradiction fun d=>c fun v hv=>?_
   rw [h.z]
   exact Classical.byContradiction fun e=>d ⟨v,hv,e⟩
  obtain ⟨i,hi⟩:∃ i,l v=i+1:=⟨l v-1,by omega⟩
  have lt:=h.lt v hv
  rw [wI (r:=i) (by omega) fun j=>?_]
  ·rfl
  ·unfold tabN
   rw [← hi,h.fix v hv,if_pos rfl];rfl
theorem Zw {n r s:Nat}(M:aj)(hr:r<n)(ne:r≠s)(a b c:aH):detN n (upd (upd M r (fun j=>a j+b j)) s c)=detN n (upd (upd M r a) s c)+detN n (upd (upd M r b) s c):=by
 rw [qK ne,zu _ hr,qK (KP ne),qK (KP ne)]
theorem W2 {n r s:Nat}(M:aj)(hr:r<n)(hs:s<n)(ne:r≠s)(a c d:aH):detN n (upd (upd M r a) s (fun j=>c j+d j))=detN n (upd (upd M r a) s c)+detN n (upd (upd M r a) s d):=zu _ hs c d
theorem Jb {n:Nat}{l:aA}(h:Lots (n+1) l){x y:Nat}(hx:x<n+1)(hy:y<n+1)(ne:l x≠l y)(hb:l y≠0)(ps:ai) :
  detN n (tabN l ((x,y)::ps))=detN n (tabN l ps)+detN n (tabN (tieN l (l x) (l y)) ps):=by
 have la:=h.lt x hx
 have lb:=h.lt y hy
 have fa:=h.fix x hx
 have fb:=h.fix y hy
 generalize ha:l x=a at *
 generalize hb':l y=b at *
 obtain ⟨ib,rfl⟩:∃ ib,b=ib+1:=⟨b-1,by omega⟩
 have hib:ib<n:=by omega
 have same:∀ i,i+1≠a->i≠ib->tabN l ((x,y)::ps) i=tabN l ps i:=fun i h1 h2=>by
  unfold tabN
  by_cases c:l (i+1)=i+1
  ·rw [if_pos c,if_pos c]
   funext j
   show (dN (i+1) (l x)-dN (i+1) (l y))*_+_=_
   unfold dN
   rw [ha,hb',if_neg h1,if_neg (by omega)];omega
  ·rw [if_neg c,if_neg c]
 have atb:tabN l ((x,y)::ps) ib=fun j=>rowN l ps (ib+1) j+(eN y j-eN x j):=by
  unfold tabN
  rw [if_pos fb]
  funext j
  show (dN (ib+1) (l x)-dN (ib+1) (l y))*(eN x j-eN y j)+_=_
  unfold dN
  rw [ha,hb',if_neg (KP ne),if_pos rfl];omega
 have oldb:tabN l ps ib=rowN l ps (ib+1):=by unfold tabN;rw [if_pos fb]
 have goal:∀ W:Nat->Nat->Int,(∀ i,i+1≠a->i≠ib->W i=tabN l ps i)->(∀ i,i+1=a->W i=fun j=>rowN l ps a j+rowN l ps (ib+1) j)->(W ib=fun j=>eN y j-eN x j)->detN n W=detN n (tabN (tieN l a (ib+1)) ps):=fun W w1 w2 w3=>by
  have s1:∃ c:Int,∀ j,eN y j=eN (ib+1) j+c*(eN y j-eN (ib+1) j)/\(c=0\/c=1/\y≠ib+1):=by
   by_cases c:y=ib+1
   ·exact ⟨0,fun j=>⟨by rw [c];omega,.inl rfl⟩⟩
   ·exact ⟨1,fun j=>⟨by omega,.inr ⟨rfl,c⟩⟩⟩
  have rowy:y≠ib+1->∃ iy,y=iy+1/\iy<n/\iy≠ib/\iy+1≠a/\W iy=fun j=>eN y j-eN (ib+1) j:=fun c=>by
   have y0:y≠0:=fun d=>by rw [d,h.z] at hb';omega
   obtain ⟨iy,rfl⟩:∃ iy,y=iy+1:=⟨y-1,by omega⟩
   have na:iy+1≠a:=fun d=>by rw [d,fa] at hb';exact ne hb'
   refine ⟨iy,rfl,by omega,by omega,na,?_⟩
   rw [w1 iy na (by omega)]
   unfold tabN
   rw [if_neg (by omega),hb']
  have rowx:x≠a->∃ ix,x=ix+1/\ix<n/\ix≠ib/\ix+1≠a/\W ix=fun j=>eN x j-eN a j:=fun c=>by
   have x0:x≠0:=fun d=>by rw [d,h.z] at ha;omega
   obtain ⟨ix,rfl⟩:∃ ix,x=ix+1:=⟨x-1,by omega⟩
   have nb:ix≠ib:=fun d=>by subst d;rw [fb] at ha;omega
   refine ⟨ix,rfl,by omega,nb,c,?_⟩
   rw [w1 ix c nb]
   unfold tabN
   rw [if_neg (by omega),ha]
  have e1:detN n W=detN n (upd W ib (fun j=>eN (ib+1) j-eN x j)):=by
   by_cases c:y=ib+1
   ·subst c;rw [← w3,zA]
   ·obtain ⟨iy,_,l1,n1,_,wy⟩:=rowy c
    have:=Zv W hib l1 (KP n1) 1 1 (fun j=>eN (ib+1) j-eN x j)
    rw [wy,Ui] at this
    rw [← this]
    have e:(fun j=>1*(eN (ib+1) j-eN x j)+1*(eN y j-eN (ib+1) j))=W ib:=by rw [w3];funext j;omega
    rw [e,zA]
  have e2:detN n (upd W ib (fun j=>eN (ib+1) j-eN x j))=detN n (upd W ib (fun j=>eN (ib+1) j-eN a j)):=by
   by_cases c:x=a
   ·rw [c]
   ·obtain ⟨ix,_,l1,n1,_,wx⟩:=rowx c
    have:=Zv W hib l1 (KP n1) 1 (-1) (fun j=>eN (ib+1) j-eN a j)
    rw [wx,Ui] at this
    rw [← this]
    have e:(fun j=>1*(eN (ib+1) j-eN a j) + -1*(eN x j-eN a j))=fun j=>eN (ib+1) j-eN x j:=by funext j;omega
    rw [e]
  rw [e1,e2]
  have e3:=jW (upd W ib (fun j=>eN (ib+1) j-eN a j)) hib 1 (fun i=>if l (i+1)=ib+1 then 1 else 0) n (Kl _)
  rw [Int.one_pow,Ui] at e3
  rw [← e3]
  refine zN fun i j hi hj=>?_
  rw [qH]
  by_cases c:i=ib
  ·subst c
   rw [if_neg (by omega),qH]
   unfold tabN
   have t:tieN l a (i+1) (i+1)=a:=if_pos fb
   rw [t,if_neg ne]
  ·rw [if_pos ⟨c,hi⟩,qg _ c]
   show 1*W i j+(if l (i+1)=ib+1 then 1 else 0)*(eN (ib+1) j-eN a j)=_
   by_cases d:i+1=a
   ·have g:l (i+1)=a:=by rw [d,fa]
    have t:tieN l a (ib+1) (i+1)=i+1:=by unfold tieN;rw [g,if_neg ne,d]
    rw [w2 i d,if_neg (by omega)]
    unfold tabN
    rw [t,if_pos rfl,yu ne,if_pos d]
    show 1*(rowN l ps a j+rowN l ps (ib+1) j)+_=_
    omega
   ·rw [w1 i d c]
    unfold tabN
    by_cases g:l (i+1)=i+1
    ·have t:tieN l a (ib+1) (i+1)=i+1:=by unfold tieN;rw [g,if_neg (by omega)]
     rw [if_pos g,t,if_pos rfl,yu ne,if_neg d,if_neg (by omega),if_neg (by omega)];omega
    ·rw [if_neg g]
     by_cases f:l (i+1)=ib+1
     ·have t:tieN l a (ib+1) (i+1)=a:=if_pos f
      rw [t,if_neg (KP d),if_pos f,f];omega
     ·have t:tieN l a (ib+1) (i+1)=l (i+1):=if_neg f
      rw [t,if_neg g,if_neg f];omega
 by_cases a0:a=0
 ·
  have e:tabN l ((x,y)::ps)=upd (tabN l ps) ib (fun j=>rowN l ps (ib+1) j+(eN y j-eN x j)):=by
   funext i
   by_cases c:i=ib
   ·subst c;rw [qH,atb]
   ·rw [qg _ c,same i (by omega) c]
  rw [e,zu _ hib,← oldb,zA]
  congr 1
  exact goal _ (fun i _ c=>qg _ c) (fun i c=>by omega) (qH _ _ _)
 ·obtain ⟨ia,rfl⟩:∃ ia,a=ia+1:=⟨a-1,by omega⟩
  have hia:ia<n:=by omega
  have nab:ia≠ib:=by omega
  have olda:tabN l ps ia=rowN l ps (ia+1):=by unfold tabN;rw [if_pos fa]
  have ata:tabN l ((x,y)::ps) ia=fun j=>rowN l ps (ia+1) j+(eN x j-eN y j):=by
   unfold tabN
   rw [if_pos fa]
   funext j
   show (dN (ia+1) (l x)-dN (ia+1) (l y))*(eN x j-eN y j)+_=_
   unfold dN
   rw [ha,hb',if_pos rfl,if_neg (by omega)];omega
  have e:tabN l ((x,y)::ps)=upd (upd (tabN l ps) ia (fun j=>rowN l ps (ia+1) j+(eN x j-eN y j))) ib (fun j=>rowN l ps (ib+1) j+(eN y j-eN x j)):=by
   funext i
   by_cases c:i=ib
   ·subst c;rw [qH,atb]
   ·rw [qg _ c]
    by_cases d:i=ia
    ·subst d;rw [qH,ata]
    ·rw [qg _ d,same i (by omega) c]
  have g:=goal (upd (upd (tabN l ps) ia (fun j=>rowN l ps (ia+1) j+rowN l ps (ib+1) j)) ib (fun j=>eN y j-eN x j)) (fun i c d=>by rw [qg _ d,qg _ (by omega)]) (fun i c=>by
   have:i=ia:=by omega
   subst this
   rw [qg _ nab,qH]) (qH _ _ _)
  rw [← g,e,W2 _ hia hib nab,Zw _ hia nab,Zw _ hia nab,Zw _ hia nab]
  have o1:upd (upd (tabN l ps) ia (fun j=>rowN l ps (ia+1) j)) ib (fun j=>rowN l ps (ib+1) j)=tabN l ps:=by
   have a1:(fun j=>rowN l ps (ia+1) j)=tabN l ps ia:=olda.symm
   have a2:(fun j=>rowN l ps (ib+1) j)=tabN l ps ib:=oldb.symm
   rw [a1,zA,a2,zA]
  show detN n (upd (upd (tabN l ps) ia (fun j=>rowN l ps (ia+1) j)) ib (fun j=>rowN l ps (ib+1) j))+detN n (upd (upd (tabN l ps) ia (fun j=>eN x j-eN y j)) ib (fun j=>rowN l ps (ib+1) j))+(detN n (upd (upd (tabN l ps) ia (fun j=>rowN l ps (ia+1) j)) ib (fun j=>eN y j-eN x j))+detN n (upd (upd (tabN l ps) ia (fun j=>eN x j-eN y j)) ib (fun j=>eN y j-eN x j)))=detN n (tabN l ps)+(detN n (upd (upd (tabN l ps) ia (fun j=>rowN l ps (ia+1) j)) ib (fun j=>eN y j-eN x j))+detN n (upd (upd (tabN l ps) ia (fun j=>rowN l ps (ib+1) j)) ib (fun j=>eN y j-eN x j)))
  rw [o1]
  have z:detN n (upd (upd (tabN l ps) ia (fun j=>eN x j-eN y j)) ib (fun j=>eN y j-eN x j))=0:=by
   have e1:(fun j=>eN y j-eN x j)=fun j=>-1*(eN x j-eN y j)+0*(eN x j-eN y j):=by funext j;omega
   rw [e1,QG _ hib,je (M:=upd (upd (tabN l ps) ia (fun j=>eN x j-eN y j)) ib (fun j=>eN x j-eN y j)) hia hib nab (by rw [qH,qg _ nab,qH])]
   rfl
  have sw:detN n (upd (upd (tabN l ps) ia (fun j=>eN x j-eN y j)) ib (fun j=>rowN l ps (ib+1) j))=detN n (upd (upd (tabN l ps) ia (fun j=>rowN l ps (ib+1) j)) ib (fun j=>eN y j-eN x j)):=by
   rw [wH _ hia hib nab]
   have e1:(fun j=>eN y j-eN x j)=fun j=>-1*(eN x j-eN y j)+0*(eN x j-eN y j):=by funext j;omega
   rw [e1,QG _ hib];omega
  rw [z,sw];omega
theorem Qi {n:Nat}{ps:ai}(hp:InN (n+1) ps):∀ {l:aA},Lots (n+1) l->(qi (n+1) l ps:Int)=detN n (tabN l ps):=by
 induction ps with
 | nil=>intro l h;exact qaW h
 | cons p ps ih =>
  intro l h
  obtain ⟨x,y⟩:=p
  obtain ⟨hx,hy⟩:x<n+1/\y<n+1:=hp (x,y) (K0 ..)
  unfold qi
  by_cases c:l x=l y
  ·rw [if_pos c,XQ,ih hp.tail h]
   refine zN fun i j _ _=>?_
   unfold tabN
   by_cases d:l (i+1)=i+1
   ·rw [if_pos d,if_pos d]
    show _=(dN (i+1) (l x)-dN (i+1) (l y))*_+_
    rw [c,Int.sub_self,XO,Int.zero_add]
   ·rw [if_neg d,if_neg d]
  ·rw [if_neg c]
   show ((qi (n+1) l ps+qi (n+1) (tieN l (l x) (l y)) ps:Nat):Int)=_
   by_cases d:l y=0
   ·have e:qi (n+1) (tieN l (l x) (l y)) ps=qi (n+1) (tieN l (l y) (l x)) ps:=ZJ hp.tail (by omega) fun u v _ _=>by rw [zY,zY];omega
    rw [e,Ws,Jb h hy hx (KP c) (by omega),X2,ih hp.tail h,ih hp.tail (h.tie (h.lt y hy) (h.fix y hy) (KP c) (by omega))]
   ·rw [Jb h hx hy c d,X2,ih hp.tail h,ih hp.tail (h.tie (h.lt x hx) (h.fix x hx) c d)]
theorem j8 {l:aA}{ps qs:ai}(h:ps.Perm qs):rowN l ps=rowN l qs:=by
 induction h with
 | nil=>rfl
 | cons p _ ih=>funext a j;unfold rowN;rw [ih]
 | swap p q ps=>funext a j;unfold rowN;unfold rowN;omega
 | trans _ _ a b=>exact a.trans b
theorem Lots.id (n:Nat):Lots n id:=⟨rfl,fun _ h=>h,fun _ _=>rfl⟩
theorem jC {n:Nat}{ps qs:ai}(hp:InN (n+1) ps)(h:ps.Perm qs):qi (n+1) id ps=qi (n+1) id qs:=by
 have hq:InN (n+1) qs:=fun q m=>hp q (h.mem_iff.mpr m)
 have a:=Qi hp (Lots.id (n+1))
 have b:=Qi hq (Lots.id (n+1))
 have e:tabN id ps=tabN id qs:=by unfold tabN;rw [j8 h]
 rw [e,← b] at a
 exact Int.ofNat.inj a
noncomputable def eP (p:aU):Ka:=.tuple [.int (p.1:Nat),.int (p.2:Nat)]
def rowT (m:Nat)(f:aH):Ka:=.list ((Ki m).map fun j=>.int (f j))
def tbl (m:Nat)(T:aj):Ka:=.list ((Ki m).map fun i=>rowT m (T i))
theorem jw {α:Type}(f:Nat->α){m i:Nat}(h:i<m):((Ki m).map f)[i]?=some (f i):=by
 rw [VG,List.getElem?_range h];rfl
theorem Y7 {α:Type}(f:Nat->α){m i:Nat}(x:α):((Ki m).map f).set i x=(Ki m).map fun k=>if k=i then x else f k:=by
 refine XJ (by simp) fun k h1 h2=>?_
 rw [List.getElem_set,XM,XM,List.getElem_range]
 by_cases c:i=k
 ·rw [if_pos c,if_pos c.symm]
 ·rw [if_neg c,if_neg (KP c)]
theorem Qp {m i:Nat}(h:i<m):ixN m (i:Int)=some i:=by
 unfold ixN
 rw [if_pos (by omega),if_pos (by omega),Vi]
def kauO (c k j y:ax)(h:aP)(i:Nat)(ρ:Rho):Option Out:=match c,k,j,y with
 | some c,some k,some j,some y=>ob (Zo c k) fun n=>ob (jY c n) fun l=>ob (ixD l j) fun x=>ob (iiD (fun a b=>some (.int (h a b))) x y) fun z=>ob (setD l j z) fun l'=>some (.nx (ρ.set i (some (yQ c n l'))))
 | _,_,_,_=>none
theorem JC (i:Nat)(fk fj f:aa)(h:aP)(ρ:Rho):yw i fk fj f h ρ=kauO (vr i ρ) (fk ρ) (fj ρ) (f ρ) h i ρ:=by
 unfold yw kauO ob
 cases vr i ρ with
 | none=>rfl
 | some c =>
  cases fk ρ with
  | none=>rfl
  | some k =>
   cases fj ρ with
   | none =>
    dsimp only
    cases Zo c k with
    | none=>rfl
    | some n=>dsimp only;cases jY c n<;>rfl
   | some j =>
    cases f ρ with
    | none =>
     dsimp only
     cases Zo c k with
     | none=>rfl
     | some n =>
      dsimp only
      cases jY c n with
      | none=>rfl
      | some l=>dsimp only;cases ixD l j<;>rfl
    | some y=>rfl
def upT (T:aj)(i j:Nat)(v:Int):Nat->Nat->Int:=fun x y=>if x=i/\y=j then v else T x y
theorem qcl {m i j:Nat}(T:aj)(v:Int):VH (((Ki m).map fun i=>rowT m (T i)).set i (.list (((Ki m).map fun j=>Kj (T i j)).set j (.int v))))=tbl m (upT T i j v):=by
 rw [Y7,Y7]
 unfold tbl
 congr 1
 refine VV fun x _=>?_
 by_cases c:x=i
 ·subst c
  rw [if_pos rfl]
  unfold rowT
  congr 1
  refine VV fun y _=>?_
  unfold upT
  by_cases d:y=j
  ·rw [if_pos d,if_pos ⟨rfl,d⟩]
  ·rw [if_neg d,if_neg fun z=>d z.2]
 ·rw [if_neg c]
  congr 1
  funext y
  unfold upT
  rw [if_neg fun z=>c z.1]
theorem Zn {m i j:Nat}(hi:i<m)(hj:j<m)(T:aj)(h:aP)(v:Int)(ρ:Rho)(k:Nat):kauO (some (tbl m T)) (some (.int (i:Nat))) (some (.int (j:Nat))) (some (.int v)) h k ρ=some (.nx (ρ.set k (some (tbl m (upT T i j (h (T i j) v)))))):=by
 have h1:Zo (tbl m T) (.int (i:Nat))=some i:=by
  show ixN ((Ki m).map fun i=>rowT m (T i)).length _=_
  rw [Kh,KN,Qp hi]
 have h2:jY (tbl m T) i=some (rowT m (T i)):=jw (fun i=>rowT m (T i)) hi
 have h3:ixD (rowT m (T i)) (.int (j:Nat))=some (.int (T i j)):=by
  show atI ((Ki m).map fun j=>Kj (T i j)) _=_
  unfold atI
  rw [Kh,KN,Qp hj]
  exact jw (fun j=>Kj (T i j)) hj
 have h4:setD (rowT m (T i)) (.int (j:Nat)) (.int (h (T i j) v))=some (.list (((Ki m).map fun j=>Kj (T i j)).set j (.int (h (T i j) v)))):=by
  show ob (ixN ((Ki m).map fun j=>Kj (T i j)).length _) _=_
  rw [Kh,KN,Qp hj];rfl
 show ob (Zo (tbl m T) (.int (i:Nat))) _=_
 rw [h1,ob_s,h2,ob_s,h3,ob_s]
 show ob (some (Kj (h (T i j) v))) _=_
 rw [ob_s,h4,ob_s]
 show some (Out.nx (ρ.set k (some (VH (((Ki m).map fun i=>rowT m (T i)).set i (.list (((Ki m).map fun j=>Kj (T i j)).set j (.int (h (T i j) v)))))))) )=_
 rw [qcl]
theorem ixP0 (p:aU):ixD (eP p) (.int 0)=some (.int (p.1:Nat)):=rfl
theorem ixP1 (p:aU):ixD (eP p) (.int 1)=some (.int (p.2:Nat)):=rfl
theorem qdT {m:Nat}{p:aU}(h1:p.1<m+1)(h2:p.2<m+1)(T:aj)(o0 o1 o4 o5:ax) :
  ∃ o4' o5',Ql [o0,o1,some (tbl m T),some (eP p),o4,o5]=some (.nx [o0,o1,some (tbl m (fun i j=>(dN (i+1) p.1-dN (i+1) p.2)*(eN p.1 j-eN p.2 j)+T i j)),some (eP p),o4',o5']):=by
 obtain ⟨x,y⟩:=p
 have h1:x<m+1:=h1
 have h2:y<m+1:=h2
 have key:∀ (T':aj),(∀ i j,i<m->j<m->T' i j=(dN (i+1) x-dN (i+1) y)*(eN x j-eN y j)+T i j)->tbl m T'=tbl m (fun i j=>(dN (i+1) x-dN (i+1) y)*(eN x j-eN y j)+T i j):=fun T' h=>by
  unfold tbl
  congr 1
  refine VV fun i hi=>?_
  unfold rowT
  congr 1
  refine VV fun j hj=>?_
  rw [h i j (Uj.mp hi) (Uj.mp hj)]
 by_cases cx:x=0
 ·subst cx
  by_cases cy:y=0
  ·subst cy
   refine ⟨some (.int (-1)),some (.int (-1)),?_⟩
   have g1:decide ((0:Int)<=((0:Nat):Int)-1)=false:=by decide
   simp_arith [ixP0,ixP1,g1]
   rw [key T fun i j _ _=>by rw [Int.sub_self,XO,Int.zero_add]]
  ·obtain ⟨b,rfl⟩:∃ b,y=b+1:=⟨y-1,by omega⟩
   have eb:(((b+1:Nat):Int))-1=(b:Nat):=by omega
   have ez:((0:Nat):Int)-1=-1:=rfl
   have g1:decide ((0:Int) <= -1)=false:=by decide
   have g2:decide ((0:Int)<=(b:Nat))=true:=by simp
   have k1:=fun T' ρ=>Zn (m:=m) (i:=b) (j:=b) (by omega) (by omega) T' (fun i j=>i+j) 1 ρ 2
   refine ⟨some (.int (b:Nat)),some (.int (-1)),?_⟩
   simp_arith [ixP0,ixP1,g1,g2,eb,ez,JC,k1]
   rw [key (upT T b b (T b b+1)) fun i j _ _=>by
    unfold upT dN eN
    by_cases a1:i=b<;>by_cases a2:j=b<;>simp [a1,a2]<;>omega]
 ·obtain ⟨a,rfl⟩:∃ a,x=a+1:=⟨x-1,by omega⟩
  have ea:(((a+1:Nat):Int))-1=(a:Nat):=by omega
  have ga:decide ((0:Int)<=(a:Nat))=true:=by simp
  have k1:=fun T' ρ=>Zn (m:=m) (i:=a) (j:=a) (by omega) (by omega) T' (fun i j=>i+j) 1 ρ 2
  by_cases cy:y=0
  ·subst cy
   have ez:((0:Nat):Int)-1=-1:=rfl
   have g1:decide ((0:Int) <= -1)=false:=by decide
   refine ⟨some (.int (-1)),some (.int (a:Nat)),?_⟩
   simp_arith [ixP0,ixP1,g1,ga,ea,ez,JC,k1]
   rw [key (upT T a a (T a a+1)) fun i j _ _=>by
    unfold upT dN eN
    by_cases a1:i=a<;>by_cases a2:j=a<;>simp [a1,a2]<;>omega]
  ·obtain ⟨b,rfl⟩:∃ b,y=b+1:=⟨y-1,by omega⟩
   have eb:(((b+1:Nat):Int))-1=(b:Nat):=by omega
   have gb:decide ((0:Int)<=(b:Nat))=true:=by simp
   have k2:=fun T' ρ=>Zn (m:=m) (i:=b) (j:=b) (by omega) (by omega) T' (fun i j=>i+j) 1 ρ 2
   have k3:=fun T' ρ=>Zn (m:=m) (i:=a) (j:=b) (by omega) (by omega) T' (fun i j=>i-j) 1 ρ 2
   have k4:=fun T' ρ=>Zn (m:=m) (i:=b) (j:=a) (by omega) (by omega) T' (fun i j=>i-j) 1 ρ 2
   refine ⟨some (.int (b:Nat)),some (.int (a:Nat)),?_⟩
   simp_arith [ixP0,ixP1,ga,gb,ea,eb,JC,k1,k2,k3,k4]
   rw [key _ fun i j _ _=>?_]
   ·unfold upT dN eN
    by_cases a5:a=b
    ·subst a5
     by_cases a1:i=a<;>by_cases a2:j=a<;>simp [a1,a2]
    ·have a6:b≠a:=KP a5
     by_cases a1:i=a
     ·subst a1
      by_cases a2:j=i
      ·subst a2;simp [a5,a6]<;>omega
      ·by_cases a4:j=b
       ·subst a4;simp [a5,a6]<;>omega
       ·simp [a2,a4,a5,a6]
     ·by_cases a3:i=b
      ·subst a3
       by_cases a2:j=a
       ·subst a2;simp [a5,a6]<;>omega
       ·by_cases a4:j=i
        ·subst a4;simp [a5,a6]<;>omega
        ·simp [a2,a4,a5,a6]
      ·simp [a1,a3]
theorem JX {α:Type}(enc:α->Ka){k:Nat}{g:ag}{te:aa}{ρ:Rho}(f:α->Ka)(as:List α)(h:∀ a∈as,ob (g (enc a) (ρ++Kn k none)) te=some (f a)):zf k g tT te ρ (as.map enc)=some (as.map f):=by
 induction as with
 | nil=>rfl
 | cons a as ih =>
  obtain ⟨ρ1,e1,e2⟩:=qd (h a (.head _))
  rw [Vm,YD,e1,Yw]
  show JW (some true) _ _=_
  rw [Yu,e2,ih fun x hx=>h x (.tail _ hx)]
  rfl
theorem ZD (m:Nat):rngL 0 m=(Ki m).map fun k:Nat=>Kj (k:Nat):=qaM m
theorem qck {m:Nat}(hm:m<=30){ps:ai}(hp:InN (m+1) ps):zP [.int ((m+1:Nat):Int),.list (ps.map eP)]=some (tbl m (fun i j=>rowN id ps (i+1) j)):=by
 have em:(((m+1:Nat):Int))-1=(m:Nat):=by omega
 have hrep:repD (.list [.int 0]) (.int (m:Nat))=some (rowT m fun _=>0):=by
  show (if _ then some (VH (Kn ((m:Nat):Int).toNat [Kj 0]).flatten) else none)=_
  rw [if_pos (by rw [Vi,K4];omega),Vi]
  unfold rowT
  congr 2
  refine XJ (by simp) fun k h1 h2=>?_
  simp
 have hv:YF 6 1 (evR (aC (ev2 (vr 0) (kd (.int 1)) subD) aN) QQ) (gNm 6) tT (ev2 (evA (aC (kd (.int 0)) aN) lstD) (ev2 (vr 0) (kd (.int 1)) subD) repD) [some (.int ((m+1:Nat):Int)),some (.list (ps.map eP)),none,none,none,none]=some (tbl m fun _ _=>0):=by
  have hc:zf 1 (gNm 6) tT (ev2 (evA (aC (kd (.int 0)) aN) lstD) (ev2 (vr 0) (kd (.int 1)) subD) repD) [some (.int ((m+1:Nat):Int)),some (.list (ps.map eP)),none,none,none,none] ((Ki m).map fun k:Nat=>Kj (k:Nat))=some ((Ki m).map fun _=>rowT m fun _=>0) :=
   JX (fun k:Nat=>Kj (k:Nat)) _ (Ki m) fun a _=>by simp_arith [em,hrep]
  have hr:(if (-1000:Int)<=((m:Nat):Int)/\((m:Nat):Int)<=1000 then some (rngL 0 (((m:Nat):Int)).toNat) else none)=some ((Ki m).map fun k:Nat=>Kj (k:Nat)):=by
   rw [if_pos (by omega),Vi,ZD]
  have hlen:((Ki m).map fun k:Nat=>Kj (k:Nat)).length<=1000:=by rw [Kh,KN];omega
  have hg:Qx 6 1 (evR (aC (ev2 (vr 0) (kd (.int 1)) subD) aN) QQ) (gNm 6) tT (ev2 (evA (aC (kd (.int 0)) aN) lstD) (ev2 (vr 0) (kd (.int 1)) subD) repD) [some (.int ((m+1:Nat):Int)),some (.list (ps.map eP)),none,none,none,none]=some (.list ((Ki m).map fun _=>rowT m fun _=>0)):=by
   simp_arith [em,hr,hlen,hc]
  show ob (Qx 6 1 _ (gNm 6) tT _ _) _=_
  rw [hg,ob_s]
  show (if ((Ki m).map fun _=>rowT m fun _=>0).all Zm=true then some (VH ((Ki m).map fun _=>rowT m fun _=>0)) else none)=_
  rw [if_pos (by rw [List.all_map];exact Vk.mpr fun _ _=>rfl)]
  rfl
 obtain ⟨ρ',el,T,o3,o4,o5,rfl,hT⟩:=QH eP (g:=gNm 3) (u:=Ql)
  (fun done ρ=>∃ (T:aj) (o3 o4 o5:ax),ρ=[some (.int ((m+1:Nat):Int)),some (.list (ps.map eP)),some (tbl m T),o3,o4,o5]/\∀ i j,T i j=rowN id done (i+1) j) ps [some (.int ((m+1:Nat):Int)),some (.list (ps.map eP)),some (tbl m fun _ _=>0),none,none,none] ⟨_,none,none,none,rfl,fun _ _=>rfl⟩ (by
   rintro p hpm done ρ hdl ⟨T,o3,o4,o5,rfl,hT⟩
   obtain ⟨o4',o5',e⟩:=qdT (hp p hpm).1 (hp p hpm).2 T (some (.int ((m+1:Nat):Int))) (some (.list (ps.map eP))) o4 o5
   refine ⟨_,by show ob (gNm 3 _ _) _=_;exact e,_,some (eP p),o4',o5',rfl,fun i j=>?_⟩
   have pm:=j8 (l:=id) (Nd (l₁:=done) (l₂:=[p]))
   rw [pm,hT]
   rfl)
 have eT:tbl m T=tbl m (fun i j=>rowN id ps (i+1) j):=by congr 1;funext i j;exact hT i j
 delta zP Zc
 simp_arith [hv,el,eT]
theorem rngL1 (n:Nat):rngL 1 n=(Ki n).map fun k:Nat=>Kj ((k+1:Nat):Int):=by
 have:∀ (n m:Nat),rngL (m:Nat) n=(List.range' m n).map fun k=>Kj (k:Nat):=by
  intro n
  induction n with
  | zero=>intro m;rfl
  | succ n ih =>
   intro m
   rw [rngL,List.range'_succ,Vm]
   congr 1
   exact ih (m+1)
 have e:=this n 1
 rw [List.range'_eq_map_range,UH] at e
 refine e.trans (VV fun k _=>?_)
 show Kj ((1+k:Nat):Int)=_
 rw [XF]
theorem cut1 (m:Nat)(f:Nat->Ka):sliD (.list ((Ki (m+1)).map f)) (some 1) none=some (.list ((Ki m).map fun i=>f (i+1))):=by
 show some (VH (cutD ((Ki (m+1)).map f) (some ((1:Nat):Int)) none))=_
 unfold cutD
 rw [HT.Zr,HT.jy,Kh,KN]
 have e:min 1 (m+1)=1:=by omega
 rw [e]
 congr 2
 rw [UT,Vm,List.drop_one,List.tail_cons,UH,Uu (by rw [Kh,KN];omega)]
 rfl
theorem jk {m j:Nat}(h:j<m)(f:aH):ixD (rowT m f) (.int (j:Nat))=some (.int (f j)):=by
 show atI ((Ki m).map fun j=>Kj (f j)) _=_
 unfold atI
 rw [Kh,KN,Qp h]
 exact jw (fun j=>Kj (f j)) h
theorem yN {m i:Nat}(h:i<m)(T:aj):ixD (tbl m T) (.int (i:Nat))=some (rowT m (T i)):=by
 show atI ((Ki m).map fun i=>rowT m (T i)) _=_
 unfold atI
 rw [Kh,KN,Qp h]
 exact jw (fun i=>rowT m (T i)) h
theorem yX (A:aj)(k:Nat):mnr A k 0 0=detN (k+1) A:=by
 unfold mnr
 refine zN fun i j hi hj=>?_
 have e:∀ x,x<k+1->(if x<k then x else k+0)=x:=fun x hx=>by
  by_cases c:x<k
  ·rw [if_pos c]
  ·rw [if_neg c];omega
 rw [e i hi,e j hj]
theorem qbF {A:aj}{B m k i j:Nat}(hB:∀ x y,x<m->y<m->(A x y).natAbs<=B)(hi:k+i<m)(hj:k+j<m):(mnr A k i j).natAbs<=fbN B (k+1):=by
 refine J0 fun a b ha hb=>hB _ _ ?_ ?_
 ·split<;>omega
 ·split<;>omega
theorem yJ {a x:Int}(ha:a≠0)(hb:a.natAbs<2 ^ 4000):jh (.int (a*x)) (.int a)=some (.int x):=by
 show (if Yp (a*x) a then some (Kj ((a*x).fdiv a)) else none)=_
 have h:a.natAbs.log2<9000:=Nm ((Nat.log2_lt (by omega)).mpr hb) (by decide)
 rw [if_pos ⟨ha,h⟩,Int.mul_fdiv_cancel_left _ ha]
structure Elim (m:Nat)(A:aj):Prop where
 bd:∃ B,(∀ x y,x<m->y<m->(A x y).natAbs<=B)/\∀ k,k<m->fbN B (k+1)<2 ^ 4000
 zero:∀ k,k<m->detN (k+1) A=0->detN m A=0
theorem qbw {n:Nat}(hn:n<=40){M N:aj}{a:Int}(ha:a≠0)(hab:a.natAbs<2 ^ 4000)(hM:∀ i j,i<n+1->j<n+1->(M i j).natAbs<2 ^ 4000)(hc:∀ i j,i<n->j<n->chio M i j=a*N i j){i:Nat}(hi:i<n)(o:ax) :
  (Qf 4 (evR (aC (kd (.int 1)) (aC (evA (aC (vr 3) aN) lenD) aN)) ju) tT (ev2 (ev2 (ev2 (ev2 (vr 3) (vr 4) ixD) (vr 2) mulD) (ev2 (ev2 (vr 3) (kd (.int 0)) ixD) (ev2 (ev2 (vr 0) (kd (.int 0)) ixD) (vr 4) ixD) mulD) subD) (vr 1) jh)) [some (tbl (n+1) M),some (.int a),some (.int (M 0 0)),some (rowT (n+1) (M (i+1)))]=some (rowT n (N i)):=by
 have hl:((rowT (n+1) (M (i+1))))=.list ((Ki (n+1)).map fun j=>Kj (M (i+1) j)):=rfl
 have hlen:lenD [rowT (n+1) (M (i+1))]=some (.int ((n+1:Nat):Int)):=by
  rw [hl,yR,Kh,KN]
 have hr:ju [.int 1,.int ((n+1:Nat):Int)]=some ((Ki n).map fun k:Nat=>Kj ((k+1:Nat):Int)):=by
  show (if (-1000<=(1:Int)/\(1:Int)<=1000)/\(-1000<=((n+1:Nat):Int)/\((n+1:Nat):Int)<=1000) then some (rngL 1 (((n+1:Nat):Int)-1).toNat) else none)=_
  have e:(((n+1:Nat):Int)-1).toNat=n:=by omega
  rw [if_pos (by omega),e,rngL1]
 have i00:ixD (tbl (n+1) M) (.int 0)=some (rowT (n+1) (M 0)):=yN (i:=0) (by omega) M
 have ir0:ixD (rowT (n+1) (M (i+1))) (.int 0)=some (.int (M (i+1) 0)):=jk (j:=0) (by omega) _
 have hcomp:q9 tT ((ev2 (ev2 (ev2 (ev2 (vr 3) (vr 4) ixD) (vr 2) mulD) (ev2 (ev2 (vr 3) (kd (.int 0)) ixD) (ev2 (ev2 (vr 0) (kd (.int 0)) ixD) (vr 4) ixD) mulD) subD) (vr 1) jh)) [some (tbl (n+1) M),some (.int a),some (.int (M 0 0)),some (rowT (n+1) (M (i+1)))] ((Ki n).map fun k:Nat=>Kj ((k+1:Nat):Int))=some ((Ki n).map fun j=>Kj (N i j)):=by
  refine Qn (fun k:Nat=>Kj ((k+1:Nat):Int)) (fun j=>Kj (N i j)) (Ki n) fun j hj=>?_
  have hj:=Uj.mp hj
  have i1:ixD (rowT (n+1) (M (i+1))) (.int ((j+1:Nat):Int))=some (.int (M (i+1) (j+1))):=jk (by omega) _
  have i2:ixD (rowT (n+1) (M 0)) (.int ((j+1:Nat):Int))=some (.int (M 0 (j+1))):=jk (by omega) _
  have m1:=Jv (Bd.ok (n:=4000) (m:=4000) (Bd.of (hM (i+1) (j+1) (by omega) (by omega))) (Bd.of (hM 0 0 (by omega) (by omega))))
  have m2:=Jv (Bd.ok (n:=4000) (m:=4000) (Bd.of (hM (i+1) 0 (by omega) (by omega))) (Bd.of (hM 0 (j+1) (by omega) (by omega))))
  have fd:jh (.int (M (i+1) (j+1)*M 0 0-M (i+1) 0*M 0 (j+1))) (.int a)=some (.int (N i j)):=by
   have e:M (i+1) (j+1)*M 0 0-M (i+1) 0*M 0 (j+1)=a*N i j:=hc i j hi hj
   rw [e,yJ ha hab]
  simp_arith [i1,i2,i00,ir0,m1,m2,fd]
 have hz:((Ki n).map fun k:Nat=>Kj ((k+1:Nat):Int)).length<=1000:=by rw [Kh,KN];omega
 simp_arith [-L2.Y6,-L2.yR,hlen,hr,hz,hcomp]
 rfl
theorem qcI {n:Nat}(hn:n<=40){M N:aj}{a:Int}(ha:a≠0)(hab:a.natAbs<2 ^ 4000)(hM:∀ i j,i<n+1->j<n+1->(M i j).natAbs<2 ^ 4000)(hc:∀ i j,i<n->j<n->chio M i j=a*N i j)(h0:M 0 0≠0)(o:ax) :
  qD [some (tbl (n+1) M),some (.int a),o]=some (.nx [some (tbl n N),some (.int (M 0 0)),some (.int (M 0 0))]):=by
 have i00:ixD (tbl (n+1) M) (.int 0)=some (rowT (n+1) (M 0)):=yN (i:=0) (by omega) M
 have ir0:ixD (rowT (n+1) (M 0)) (.int 0)=some (.int (M 0 0)):=jk (j:=0) (by omega) _
 have ne:(M 0 0==0)=false:=by rw [beq_eq_false_iff_ne];exact h0
 have hs:sliD (tbl (n+1) M) (some 1) none=some (.list ((Ki n).map fun i=>rowT (n+1) (M (i+1)))):=cut1 n _
 have hcomp:q9 tT ((Qf 4 (evR (aC (kd (.int 1)) (aC (evA (aC (vr 3) aN) lenD) aN)) ju) tT (ev2 (ev2 (ev2 (ev2 (vr 3) (vr 4) ixD) (vr 2) mulD) (ev2 (ev2 (vr 3) (kd (.int 0)) ixD) (ev2 (ev2 (vr 0) (kd (.int 0)) ixD) (vr 4) ixD) mulD) subD) (vr 1) jh))) [some (tbl (n+1) M),some (.int a),some (.int (M 0 0))] ((Ki n).map fun i=>rowT (n+1) (M (i+1)))=some ((Ki n).map fun i=>rowT n (N i)) :=
  Qn (fun i=>rowT (n+1) (M (i+1))) (fun i=>rowT n (N i)) (Ki n) fun i hi=>qbw hn ha hab hM hc (Uj.mp hi) o
 have hz:((Ki n).map fun i=>rowT (n+1) (M (i+1))).length<=1000:=by rw [Kh,KN];omega
 simp_arith [i00,ir0,ne,hs,hz,hcomp]
 rfl
theorem qd6 {n:Nat}{M:aj}{a:Int}(h0:M 0 0=0)(o:ax):qD [some (tbl (n+1) M),some (.int a),o]=some (.rt (.int 0)):=by
 have i00:ixD (tbl (n+1) M) (.int 0)=some (rowT (n+1) (M 0)):=yN (i:=0) (by omega) M
 have ir0:ixD (rowT (n+1) (M 0)) (.int 0)=some (.int 0):=(jk (j:=0) (by omega) _).trans (by rw [h0])
 simp_arith [i00,ir0]
theorem qcz (n:Nat)(T:aj)(o1 o2:ax):tW (vr 0) [some (tbl n T),o1,o2]=some (decide (n≠0)):=by
 show truD (tbl n T)=_
 show some (!((Ki n).map fun i=>rowT n (T i)).isEmpty)=_
 cases n with
 | zero=>rfl
 | succ n=>rw [UT];rfl
theorem qc5 {m:Nat}(hm:m<=30){A:aj}(hA:Elim m A):∀ (d k fuel:Nat),k+d=m->d<fuel->detN k A≠0->Bar A k (mnr A k) (detN k A)->∀ o,∃ r,Qa (tW (vr 0)) (qD) fuel [some (tbl d (mnr A k)),some (.int (detN k A)),o]=some r/\(r=.rt (.int (detN m A))\/∃ o0 o2,r=.nx [o0,some (.int (detN m A)),o2]):=by
 obtain ⟨B,hB,hf⟩:=hA.bd
 intro d
 induction d with
 | zero =>
  intro k fuel hk hf0 _ _ o
  obtain ⟨f,rfl⟩:∃ f,fuel=f+1:=⟨fuel-1,by omega⟩
  have e:k=m:=by omega
  subst e
  refine ⟨.nx [some (tbl 0 (mnr A k)),some (.int (detN k A)),o],?_,.inr ⟨_,_,rfl⟩⟩
  show ob (tW (vr 0) _) _=_
  rw [qcz];rfl
 | succ d ih =>
  intro k fuel hk hf0 ha hbar o
  obtain ⟨f,rfl⟩:∃ f,fuel=f+1:=⟨fuel-1,by omega⟩
  have go:Qa (tW (vr 0)) (qD) (f+1) [some (tbl (d+1) (mnr A k)),some (.int (detN k A)),o]=ob (qD [some (tbl (d+1) (mnr A k)),some (.int (detN k A)),o]) fun r=>match r with
    | .nx ρ'=>Qa (tW (vr 0)) (qD) f ρ'
    | .ct ρ'=>Qa (tW (vr 0)) (qD) f ρ'
    | .bk ρ'=>some (.nx ρ')
    | .rt r=>some (.rt r):=by
   show ob (tW (vr 0) _) _=_
   rw [qcz,ob_s];rfl
  rw [go]
  have cor:=yX A k
  by_cases c:detN (k+1) A=0
  ·rw [qd6 (by rw [cor,c]),ob_s]
   exact ⟨_,rfl,.inl (by rw [hA.zero k (by omega) c])⟩
  ·have st:=hbar.step ha (by rw [cor];exact c)
   have ab:(detN k A).natAbs<2 ^ 4000:=by
    cases k with
    | zero=>show (1:Int).natAbs<_;exact Nat.one_lt_two_pow (by decide)
    | succ k=>exact UG (J0 fun i j hi hj=>hB i j (by omega) (by omega)) (hf k (by omega))
   have hM:∀ i j,i<d+1->j<d+1->(mnr A k i j).natAbs<2 ^ 4000:=fun i j hi hj=>UG (qbF hB (by omega) (by omega)) (hf k (by omega))
   rw [qcI (n:=d) (by omega) ha ab hM (fun i j _ _=>st.1 i j) (by rw [cor];exact c),ob_s,cor]
   have b2:=st.2
   rw [cor] at b2
   exact ih (k+1) f (by omega) (by omega) c b2 _
theorem qc9 {m:Nat}(hm:m<=30){A:aj}(hA:Elim m A):zy [tbl m A]=some (.int (detN m A)):=by
 have e0:mnr A 0=A:=by
  funext i j
  exact ((bar0 A).at i j).symm
 have b0:Bar A 0 (mnr A 0) (detN 0 A):=by rw [e0];exact bar0 A
 obtain ⟨r,e,h⟩:=qc5 hm hA m 0 1000000 (by omega) (by omega) (by show (1:Int)≠0;decide) b0 none
 rw [e0] at e
 have e:Ye (tW (vr 0)) (qD) [some (tbl m A),some (.int 1),none]=some r:=e
 delta zy Qv
 simp_arith []
 rw [e]
 rcases h with rfl|⟨o0,o2,rfl⟩
 ·simp_arith []
 ·simp_arith []
theorem W4:∀ k,k<30->fbN 64 (k+1)<2 ^ 4000:=by decide +kernel
theorem qaN (l:aA)(ps:ai)(a j:Nat):(rowN l ps a j).natAbs<=ps.length:=by
 induction ps with
 | nil=>exact Kl 0
 | cons p ps ih =>
  have c:((dN a (l p.1)-dN a (l p.2))*(eN p.1 j-eN p.2 j)).natAbs<=1:=by
   have z:∀ (q r:Prop) [Decidable q] [Decidable r],((if q then (1:Int) else 0)-(if r then 1 else 0))=0\/((if q then (1:Int) else 0)-(if r then 1 else 0))=1\/((if q then (1:Int) else 0)-(if r then 1 else 0))=-1:=fun q r _ _=>by
    by_cases h1:q<;>by_cases h2:r<;>simp [h1,h2]
   have z1:dN a (l p.1)-dN a (l p.2)=0\/dN a (l p.1)-dN a (l p.2)=1\/dN a (l p.1)-dN a (l p.2)=-1:=z _ _
   have z2:eN p.1 j-eN p.2 j=0\/eN p.1 j-eN p.2 j=1\/eN p.1 j-eN p.2 j=-1:=z _ _
   rcases z1 with h|h|h<;>rcases z2 with g|g|g<;>rw [h,g]<;>decide
  have d:=Int.natAbs_add_le ((dN a (l p.1)-dN a (l p.2))*(eN p.1 j-eN p.2 j)) (rowN l ps a j)
  show (_+rowN l ps a j).natAbs<=_
  rw [Kk]
  omega
theorem JG (ps:ai):tabN id ps=fun i j=>rowN id ps (i+1) j:=by
 funext i
 exact if_pos rfl
noncomputable def cap (k v:Nat):Nat:=if v<=k then v else 0
theorem qaO {k v j:Nat}(hv:v+1<=k)(hj:j+1<=k)(ps:ai):rowN id (mapP (cap k) ps) (v+1) j=rowN id ps (v+1) j:=by
 have d:∀ x,dN (v+1) (cap k x)=dN (v+1) x:=fun x=>by
  unfold dN cap
  by_cases h:x<=k
  ·rw [if_pos h]
  ·rw [if_neg h,if_neg (by omega),if_neg (by omega)]
 have e:∀ x,eN (cap k x) j=eN x j:=fun x=>by
  unfold eN cap
  by_cases h:x<=k
  ·rw [if_pos h]
  ·rw [if_neg h,if_neg (by omega),if_neg (by omega)]
 induction ps with
 | nil=>rfl
 | cons p ps ih =>
  show (dN (v+1) (cap k p.1)-dN (v+1) (cap k p.2))*(eN (cap k p.1) j-eN (cap k p.2) j)+rowN id (mapP (cap k) ps) (v+1) j=(dN (v+1) p.1-dN (v+1) p.2)*(eN p.1 j-eN p.2 j)+rowN id ps (v+1) j
  rw [d,d,e,e,ih]
theorem qcL {m:Nat}(hm:m<=30){ps:ai}(hp:InN (m+1) ps)(hl:ps.length<=64):Elim m (tabN id ps):=by
 refine ⟨⟨64,fun x y _ _=>?_,fun k hk=>W4 k (by omega)⟩,fun k hk h=>?_⟩
 ·rw [JG]
  exact KO (qaN id ps (x+1) y) hl
 ·have hq:InN (k+2) (mapP (cap (k+1)) ps):=fun q hq=>by
   obtain ⟨p,_,rfl⟩:=Uz.mp hq
   unfold cap
   refine ⟨?_,?_⟩
   ·show (if _ then _ else _)<_
    split<;>omega
   ·show (if _ then _ else _)<_
    split<;>omega
  have a:=Qi (n:=k+1) hq (Lots.id (k+2))
  have b:detN (k+1) (tabN id (mapP (cap (k+1)) ps))=detN (k+1) (tabN id ps):=by
   rw [JG,JG]
   exact zN fun i j hi hj=>qaO (by omega) (by omega) ps
  rw [b,h] at a
  have a:qi (k+2) id (mapP (cap (k+1)) ps)=0:=Int.ofNat.inj a
  rw [ZK (n:=m+1) (f:=cap (k+1)) (fun v hv=>by unfold cap;split<;>omega) (fun w hw=>⟨w,by omega,by unfold cap;rw [if_pos (by omega)]⟩) (by omega) ps hp] at a
  have c:=Yl hp (by omega) (l:=id) (l':=fun v=>id (cap (k+1) v)) (fun u v _ _ e=>by
   have e:u=v:=e
   rw [e]) a
  have d:=Qi hp (Lots.id (m+1))
  rw [← d,c];rfl
theorem qbm {m:Nat}(hm:m<=30){ps:ai}(hp:InN (m+1) ps)(hl:ps.length<=64):zg [.int ((m+1:Nat):Int),.list (ps.map eP)]=some (.int (qi (m+1) id ps:Nat)):=by
 have t:=qck hm hp
 rw [← JG] at t
 have e:=qc9 hm (qcL hm hp hl)
 rw [← Qi hp (Lots.id (m+1))] at e
 delta zg zZ
 simp_arith [t,e]
theorem Jo (ps:ai):Uh (.list (ps.map eP)) (.list (ps.map eP))=true/\Vn (.list (ps.map eP))=true:=by
 refine ⟨?_,?_⟩
 ·induction ps with
  | nil=>rfl
  | cons p ps ih =>
   have:Uh (.list ((p::ps).map eP)) (.list ((p::ps).map eP))=(Uh (eP p) (eP p)&&Uh (.list (ps.map eP)) (.list (ps.map eP))):=rfl
   rw [this,ih,Bool.and_true]
   show (((p.1:Nat):Int)==((p.1:Nat):Int)&&(((p.2:Nat):Int)==((p.2:Nat):Int)&&true))=true
   rw [beq_self_eq_true,beq_self_eq_true];rfl
 ·have e:ps.map eP=(ps.map fun p=>[((p.1:Nat):Int),((p.2:Nat):Int)]).map fun xs=>.tuple (xs.map .int):=by rw [UH];rfl
  have h:Ky (ps.map eP)=true/\KS (ps.map eP)<=1:=by rw [e];exact JR _
  have h2:V1 (.list (ps.map eP))=KS (ps.map eP)+1:=rfl
  unfold Vn
  rw [h2,Kt]
  exact ⟨h.1,decide_eq_true (by omega)⟩
theorem JH {m:Nat}(hm:m<=30){ps:ai}(hp:InN (m+1) ps)(hl:ps.length<=64):qT [.int ((m+1:Nat):Int),.list (ps.map eP)]=some (.int (qi (m+1) id ps:Nat)):=by
 have c:=qbm hm hp hl
 have n:neD (.list (ps.map eP)) (.list (ps.map eP))=some (.bool false):=by
  unfold neD
  rw [if_pos ⟨(Jo ps).2,(Jo ps).2⟩,(Jo ps).1];rfl
 have w:zx [.int (qi (m+1) id ps:Nat)]=some (.bool true):=by
  delta zx Qu
  simp_arith []
 delta qT QT
 simp_arith [c,n,w]
theorem yE {n:Nat}{l:aA}{qs:ai}(h:∀ q∈qs,l q.1=l q.2)(ps:ai):qi n l (qs++ps)=qi n l ps:=by
 induction qs with
 | nil=>rfl
 | cons q qs ih =>
  rw [XN]
  unfold qi
  rw [if_pos (h q (.head _)),XQ,ih fun x hx=>h x (.tail _ hx)]
  cases ps<;>rfl
theorem za (n:Nat)(l:aA)(p:aU)(ps:ai):qi n l (p::ps)=qi n l ps+if l p.1=l p.2 then 0 else qi n (tieN l (l p.1) (l p.2)) ps:=by
 rw [qi]
theorem JK (n:Nat)(ps:ai):∀ l:Nat->Nat,qi n l (ps.filter fun p=>decide (p.1≠p.2))=qi n l ps:=by
 induction ps with
 | nil=>intro l;rfl
 | cons p ps ih =>
  intro l
  by_cases c:p.1=p.2
  ·rw [VS (by simp [c]),za,if_pos (by rw [c]),XQ,ih]
  ·rw [VT (by simp [c]),za,za,ih,ih]
theorem yD {n:Nat}(h0:0<n){ps:ai}(hp:InN n ps):∀ {l:aA},(∀ u,u<n->l u≠l n)->qi (n+1) l ps=0:=by
 induction ps with
 | nil =>
  intro l h
  unfold qi
  rw [if_neg fun c=>h 0 h0 (c n (by omega)).symm]
 | cons p ps ih =>
  intro l h
  have h1:=hp p (.head _)
  rw [za,ih hp.tail h,UK]
  by_cases c:l p.1=l p.2
  ·rw [if_pos c]
  ·rw [if_neg c,ih hp.tail fun u hu e=>?_]
   rcases zY.mp e with e|⟨_,e⟩
   ·exact h u hu e
   ·rcases e with e|e
    ·exact h _ h1.1 e.symm
    ·exact h _ h1.2 e.symm
theorem InN.up {n:Nat}{ps:ai}(h:InN n ps):InN (n+1) ps:=fun p hp=>⟨K5 (h p hp).1,K5 (h p hp).2⟩
theorem InN.app {n:Nat}{ps qs:ai}(h:InN n ps)(g:InN n qs):InN n (ps++qs):=fun p hp=>(Vo.mp hp).elim (h p) (g p)
noncomputable def Zi (n v:Nat)(u:Nat):Nat:=if u=n then v else u
theorem Yk {n v:Nat}(hv:v<n){ps:ai}(hp:InN n ps):qi (n+1) (Zi n v) ps=qi n id ps:=by
 have e:mapP (Zi n v) ps=ps:=by
  unfold mapP
  conv=>rhs;rw [← List.map_id ps]
  refine VV fun p h=>?_
  have:=hp p h
  unfold Zi
  rw [if_neg (by omega),if_neg (by omega)];rfl
 have:=ZK (n:=n+1) (m:=n) (f:=Zi n v) (fun u hu=>by unfold Zi;split<;>omega) (fun w hw=>⟨w,by omega,by unfold Zi;rw [if_neg (by omega)]⟩) (by omega) ps hp.up id
 rw [e] at this
 exact this.symm
theorem Wt {n v:Nat}(hv:v<n){ps:ai}(hp:InN n ps){qs:ai}(hq:∀ q∈qs,q=(v,n)\/q=(n,v)):qi (n+1) id (qs++ps)=qs.length*qi n id ps:=by
 induction qs with
 | nil =>
  rw [Xb,yD (by omega) hp fun u hu=>by show u≠n;omega]
  simp
 | cons q qs ih =>
  have hq2:InN (n+1) (qs++ps):=InN.app (fun p h=>by
   rcases hq p (.tail _ h) with rfl|rfl
   ·exact ⟨by show v<n+1;omega,by show n<n+1;omega⟩
   ·exact ⟨by show n<n+1;omega,by show v<n+1;omega⟩) hp.up
  have ker:∀ a b,(a=v/\b=n)\/(a=n/\b=v)->qi (n+1) (tieN id a b) (qs++ps)=qi n id ps:=fun a b h=>by
   rw [ZJ hq2 (by omega) (l':=Zi n v) fun u w hu hw=>by
    rw [zY]
    show (u=w\/(u=a\/u=b)/\(w=a\/w=b))↔_
    unfold Zi
    by_cases c:u=n
    ·rw [if_pos c]
     by_cases d:w=n
     ·rw [if_pos d];omega
     ·rw [if_neg d];omega
    ·rw [if_neg c]
     by_cases d:w=n
     ·rw [if_pos d];omega
     ·rw [if_neg d];omega]
   rw [yE fun p h=>?_,Yk hv hp]
   unfold Zi
   rcases hq p (.tail _ h) with rfl|rfl
   ·show (if v=n then v else v)=if n=n then v else n
    rw [if_pos rfl,if_neg (by omega)]
   ·show (if n=n then v else n)=if v=n then v else v
    rw [if_pos rfl,if_neg (by omega)]
  rw [XN,za,ih fun p h=>hq p (.tail _ h),Kk,Nl]
  congr 1
  rcases hq q (.head _) with rfl|rfl
  ·rw [if_neg (show ¬ (id v=id n) from by show ¬ v=n;omega)]
   exact ker v n (.inl ⟨rfl,rfl⟩)
  ·rw [if_neg (show ¬ (id n=id v) from by show ¬ n=v;omega)]
   exact ker n v (.inr ⟨rfl,rfl⟩)
noncomputable def oneOf (a b:Nat)(v:Nat):Nat:=if (if v=b then a else v) > b then (if v=b then a else v)-1 else (if v=b then a else v)
theorem Wu {n a b:Nat}(hb:b<n)(hab:a<b){ps:ai}(hp:InN n ps){p:aU}(h:p=(a,b)\/p=(b,a)):qi n (tieN id p.1 p.2) ps=qi (n-1) id ((mapP (oneOf a b) ps).filter fun p=>decide (p.1≠p.2)):=by
 have e:∀ v,oneOf a b v=if v=b then a else if v > b then v-1 else v:=fun v=>by
  unfold oneOf
  by_cases c:v=b
  ·simp only [if_pos c];rw [if_neg (by omega)]
  ·simp only [if_neg c]
 rw [JK,ZK (n:=n) (m:=n-1) (f:=oneOf a b) (fun v hv=>by rw [e];split<;>(try split)<;>omega) (fun w hw=>by
  by_cases c:w<b
  ·exact ⟨w,by omega,by rw [e,if_neg (by omega),if_neg (by omega)]⟩
  ·exact ⟨w+1,by omega,by rw [e,if_neg (by omega),if_pos (by omega)];rfl⟩) (by omega) ps hp]
 refine ZJ hp (by omega) fun u v hu hv=>?_
 rw [zY]
 show (u=v\/(u=p.1\/u=p.2)/\(v=p.1\/v=p.2))↔oneOf a b u=oneOf a b v
 rw [e,e]
 have pp:(p.1=a/\p.2=b)\/(p.1=b/\p.2=a):=by rcases h with rfl|rfl<;>simp
 by_cases c:u=b
 ·rw [if_pos c]
  by_cases d:v=b
  ·rw [if_pos d];omega
  ·rw [if_neg d];split<;>omega
 ·rw [if_neg c]
  by_cases d:v=b
  ·rw [if_pos d];split<;>omega
  ·rw [if_neg d];split<;>split<;>omega
def qQ (p:aU)(ls:aQ):List (Nat->Nat):=(ls.filter fun l=>decide (l p.1≠l p.2)).map fun l=>tieN l (l p.1) (l p.2)
def zM (ps:ai)(ls:aQ):List (Nat->Nat):=ps.foldl (fun ls p=>ls++qQ p ls) ls
def zH (n:Nat)(ps:ai):List (Nat->Nat)->Nat
 | []=>0
 | l::ls=>qi n l ps+zH n ps ls
theorem Wo (n:Nat)(ps:ai)(ls ks:aQ):zH n ps (ls++ks)=zH n ps ls+zH n ps ks:=by
 induction ls with
 | nil=>show _=0+_;rw [UK];rfl
 | cons l ls ih=>show qi n l ps+zH n ps (ls++ks)=qi n l ps+zH n ps ls+_;rw [ih];omega
theorem Yi (n:Nat)(p:aU)(ps:ai)(ls:aQ):zH n ps ls+zH n ps (qQ p ls)=zH n (p::ps) ls:=by
 induction ls with
 | nil=>rfl
 | cons l ls ih =>
  show qi n l ps+zH n ps ls+_=qi n l (p::ps)+zH n (p::ps) ls
  rw [← ih,za]
  unfold qQ
  by_cases c:l p.1=l p.2
  ·rw [VS (by simp [c]),if_pos c];omega
  ·rw [VT (by simp [c]),if_neg c,Vm]
   show _+(qi n (tieN l (l p.1) (l p.2)) ps+zH n ps _)=_
   omega
theorem wk (n:Nat)(ps:ai):∀ ls,zH n [] (zM ps ls)=zH n ps ls:=by
 induction ps with
 | nil=>intro ls;rfl
 | cons p ps ih =>
  intro ls
  show zH n [] (zM ps (ls++qQ p ls))=_
  rw [ih,Wo,Yi]
theorem Wq (n:Nat)(ls:aQ):zH n [] ls=(ls.filter fun l=>decide (∀ v,v<n->l v=l 0)).length:=by
 induction ls with
 | nil=>rfl
 | cons l ls ih =>
  show qi n l []+zH n [] ls=_
  unfold qi
  rw [ih]
  by_cases c:∀ v,v<n->l v=l 0
  ·rw [if_pos c,VT (by simpa using c),Kk];omega
  ·rw [if_neg c,VS (by simpa using c)];omega
theorem Q7 (p:aU)(ls:aQ):(qQ p ls).length<=ls.length:=by
 unfold qQ
 rw [Kh]
 exact U5 _ _
theorem yH (ps:ai)(p:aU)(ls:aQ):zM (ps++[p]) ls=zM ps ls++qQ p (zM ps ls):=by
 unfold zM
 rw [List.foldl_append];rfl
theorem jM (ps:ai):∀ ls,(zM ps ls).length<=ls.length*2 ^ ps.length:=by
 induction ps with
 | nil=>intro ls;show ls.length<=ls.length*1;omega
 | cons p ps ih =>
  intro ls
  show (zM ps (ls++qQ p ls)).length<=_
  refine KO (ih _) ?_
  have:=Q7 p ls
  rw [Kq,Kk,Nat.pow_succ,Nat.mul_comm (2 ^ ps.length) 2,← Nat.mul_assoc]
  exact Nat.mul_le_mul_right _ (by omega)
theorem W0 (ys:aR):∀ σ:List Int,σ.length<=(ys.foldl KR σ).length:=by
 induction ys with
 | nil=>intro σ;exact Kl _
 | cons y ys ih =>
  intro σ
  refine KO ?_ (ih _)
  rw [PyProof.Rows.step_length]
  split<;>omega
theorem wG (x:Int)(ys:aR):(ys.foldl KR [x]).length=1↔∀ y∈ys,y=x:=by
 induction ys with
 | nil=>simp
 | cons y ys ih =>
  rw [X0]
  by_cases c:y=x
  ·subst c
   have e:KR [y] y=[y]:=by unfold KR;simp
   rw [e,ih]
   simp
  ·have e:KR [x] y=[x,y]:=by unfold KR;simp [KP c]
   rw [e]
   have:=W0 ys [x,y]
   constructor
   ·intro h;rw [h] at this;simp at this
   ·intro h;exact absurd (h y (.head _)) c
def eLt (n:Nat)(l:aA):Ka:=.tuple ((Ki n).map fun v=>.int (l v:Nat))
theorem YT {n v:Nat}(h:v<n)(l:aA):ixD (eLt n l) (.int (v:Nat))=some (.int (l v:Nat)):=by
 show atI ((Ki n).map fun v=>Kj (l v:Nat)) _=_
 unfold atI
 rw [Kh,KN,Qp h]
 exact jw (fun v=>Kj (l v:Nat)) h
theorem qdZ {n:Nat}(hn:n<=100){p:aU}(h1:p.1<n)(h2:p.2<n)(l:aA):zF [eLt n l,eP p]=some (eLt n (tieN l (l p.1) (l p.2))):=by
 have i1:=YT h1 l
 have i2:=YT h2 l
 have hc:q9 tT (vIf (tV (ev2 (vr 2) (ev2 (vr 0) (ev2 (vr 1) (kd (.int 1)) ixD) ixD) eqD)) (ev2 (vr 0) (ev2 (vr 1) (kd (.int 0)) ixD) ixD) (vr 2)) [some (eLt n l),some (eP p)] ((Ki n).map fun v=>Kj (l v:Nat))=some ((Ki n).map fun v=>Kj (tieN l (l p.1) (l p.2) v:Nat)):=by
  refine Qn (fun v=>Kj (l v:Nat)) (fun v=>Kj (tieN l (l p.1) (l p.2) v:Nat)) (Ki n) fun v hv=>?_
  unfold tieN
  by_cases c:l v=l p.2
  ·have g:((((l v:Nat):Int))==((l p.2:Nat):Int))=true:=by rw [c];exact beq_self_eq_true _
   rw [if_pos c]
   simp_arith [ixP0,ixP1,i1,i2,g]
  ·have g:((((l v:Nat):Int))==((l p.2:Nat):Int))=false:=by rw [beq_eq_false_iff_ne];omega
   rw [if_neg c]
   simp_arith [ixP0,ixP1,i1,i2,g]
 have hz:((Ki n).map fun v=>Kj (l v:Nat)).length<=1000:=by rw [Kh,KN];omega
 have hs:seqD (eLt n l)=some ((Ki n).map fun v=>Kj (l v:Nat)):=rfl
 delta zF QS
 simp_arith [hs,hz,hc]
 rfl
theorem qbs (n:Nat)(l:aA):flat (eLt n l)=true:=by
 show Qg ((Ki n).map fun v=>Kj (l v:Nat))=true
 generalize Ki n=r
 induction r with
 | nil=>rfl
 | cons x r ih=>show (true&&Qg (r.map _))=true;rw [ih];rfl
theorem W6 (n:Nat)(ls:aQ):J4 (.list (ls.map (eLt n)))=true:=by
 show Qg (ls.map (eLt n))=true
 induction ls with
 | nil=>rfl
 | cons x r ih=>show (flat (eLt n x)&&Qg (r.map _))=true;rw [ih,qbs];rfl
theorem ints_lt (n:Nat)(l:aA):ZS ((Ki n).map fun v=>Kj (l v:Nat))=some ((Ki n).map fun v=>((l v:Nat):Int)):=by
 generalize Ki n=r
 induction r with
 | nil=>rfl
 | cons x r ih=>show ob (ZS (r.map _)) _=_;rw [ih];rfl
theorem qbE {n:Nat}(h0:0<n)(hn:n<=100)(l:aA):∃ c:Nat,j4 (eLt n l)=some (.int (c:Nat))/\(((c:Nat):Int)==1)=decide (∀ v,v<n->l v=l 0):=by
 refine ⟨(((Ki n).map fun v=>((l v:Nat):Int)).foldl KR []).length,?_,?_⟩
 ·show ob (ZS _) _=_
  rw [ints_lt,ob_s,if_pos (by rw [Kh,KN];omega)]
 ·obtain ⟨m,rfl⟩:∃ m,n=m+1:=⟨n-1,by omega⟩
  rw [UT,Vm,X0]
  have e:KR [] ((l 0:Nat):Int)=[((l 0:Nat):Int)]:=rfl
  rw [e]
  have d:=wG ((l 0:Nat):Int) ((List.map Nat.succ (Ki m)).map fun v=>((l v:Nat):Int))
  generalize (((List.map Nat.succ (Ki m)).map fun v=>((l v:Nat):Int)).foldl KR [((l 0:Nat):Int)]).length=c at *
  by_cases g:∀ v,v<m+1->l v=l 0
  ·rw [decide_eq_true g]
   have:c=1:=d.mpr fun y hy=>by
    obtain ⟨x,hx,rfl⟩:=Uz.mp hy
    obtain ⟨z,hz,rfl⟩:=Uz.mp hx
    rw [g _ (by have:=Uj.mp hz;omega)]
   rw [this];rfl
  ·rw [decide_eq_false g,beq_eq_false_iff_ne]
   intro e1
   have e1:c=1:=by omega
   refine g fun v hv=>?_
   cases v with
   | zero=>rfl
   | succ v =>
    have:=d.mp e1 ((l (v+1):Nat):Int) (Uz.mpr ⟨v+1,Uz.mpr ⟨v,Uj.mpr (by omega),rfl⟩,rfl⟩)
    omega
theorem cat42 {α:Type}(f:α->Ka)(xs ys:List α)(h:xs.length+ys.length<=1000):catL (.list (xs.map f)) (.list (ys.map f))=some (.list ((xs++ys).map f)):=by
 show (if (xs.map f).length+(ys.map f).length<=1000 then some (VH (xs.map f++ys.map f)) else none)=_
 rw [if_pos (by rw [Kh,Kh];exact h),VN]
theorem due42 {n:Nat}(h0:0<n)(hn:n<=100){ps:ai}(hp:InN n ps)(hl:ps.length<=9):zO [.int (n:Nat),.list (ps.map eP)]=some (.int (qi n id ps:Nat)):=by
 have htr:trD [.int (n:Nat)]=some (eLt n id):=by
  show ob (QQ [.int (n:Nat)]) _=_
  show ob (if (-1000:Int)<=((n:Nat):Int)/\((n:Nat):Int)<=1000 then some (rngL 0 (((n:Nat):Int)).toNat) else none) _=_
  rw [if_pos (by omega),Vi,ZD];rfl
 obtain ⟨ρ',el,o3,o4,o5,rfl⟩:=QH eP (g:=gNm 3) (u:=Ze)
  (fun done ρ=>∃ (o3 o4 o5:ax),ρ=[some (.int (n:Nat)),some (.list (ps.map eP)),some (.list ((zM done [id]).map (eLt n))),o3,o4,o5]) ps [some (.int (n:Nat)),some (.list (ps.map eP)),some (.list [eLt n id]),none,none,none] ⟨none,none,none,rfl⟩ (by
   rintro p hpm done ρ hdl ⟨o3,o4,o5,rfl⟩
   have hp1:=hp p hpm
   have hlen:=jM done [id]
   have h2:2 ^ done.length<=2 ^ 8:=Xk (by decide) (by omega)
   rw [K4,Nat.one_mul] at hlen
   generalize hF:zM done [id]=F at *
   obtain ⟨ρ1,e1,o5',rfl⟩:=QH (eLt n) (g:=gNm 5) (u:=Zf)
    (fun dn ρ=>∃ (o5:ax),ρ=[some (.int (n:Nat)),some (.list (ps.map eP)),some (.list (F.map (eLt n))),some (eP p),some (.list ((qQ p dn).map (eLt n))),o5]) F [some (.int (n:Nat)),some (.list (ps.map eP)),some (.list (F.map (eLt n))),some (eP p),some (.list []),o5] ⟨o5,rfl⟩ (by
     rintro l _ dn ρ hdn ⟨o5,rfl⟩
     have i1:=YT hp1.1 l
     have i2:=YT hp1.2 l
     have ht:=qdZ hn hp1.1 hp1.2 l
     have hm:=Q7 p dn
     have e:qQ p (dn++[l])=qQ p dn++qQ p [l]:=by unfold qQ;rw [List.filter_append,VN]
     by_cases c:l p.1=l p.2
     ·have g:((((l p.1:Nat):Int))==((l p.2:Nat):Int))=true:=by rw [c];exact beq_self_eq_true _
      have e2:qQ p [l]=[]:=by unfold qQ;rw [VS (by simp [c])];rfl
      refine ⟨_,by simp_arith [ixP0,ixP1,i1,i2,g];rfl,some (eLt n l),by rw [e,e2,VD]⟩
     ·have g:((((l p.1:Nat):Int))==((l p.2:Nat):Int))=false:=by rw [beq_eq_false_iff_ne];omega
      have e2:qQ p [l]=[tieN l (l p.1) (l p.2)]:=by unfold qQ;rw [VT (by simp [c])];rfl
      have hz:((qQ p dn).map (eLt n)).length<1000:=by rw [Kh];omega
      refine ⟨_,by simp_arith [ixP0,ixP1,i1,i2,g,ht,hz];rfl,some (eLt n l),by rw [e,e2,VN];rfl⟩)
   have hm:=Q7 p F
   have ct:=cat42 (eLt n) F (qQ p F) (by omega)
   have fl:=W6 n (F++qQ p F)
   refine ⟨_,by simp_arith [e1,ct,fl];rfl,some (eP p),_,o5',by rw [yH,hF]⟩)
 have hc:q9 (tV (ev2 (ev1 (vr 6) j4) (kd (.int 1)) eqD)) (vr 6) [some (.int (n:Nat)),some (.list (ps.map eP)),some (.list ((zM ps [id]).map (eLt n))),o3,o4,o5] ((zM ps [id]).map (eLt n))=some (((zM ps [id]).filter fun l=>decide (∀ v,v<n->l v=l 0)).map (eLt n)) :=
  Zu (eLt n) (fun l=>decide (∀ v,v<n->l v=l 0)) (eLt n) _ (fun l _=>by
   obtain ⟨c,e1,e2⟩:=qbE h0 hn l
   simp_arith [e1,e2]) (fun l _ _=>by simp_arith [])
 have hlen:=jM ps [id]
 have h2:2 ^ ps.length<=2 ^ 9:=Xk (by decide) hl
 rw [K4,Nat.one_mul] at hlen
 have hz:((zM ps [id]).map (eLt n)).length<=1000:=by rw [Kh];omega
 have cnt:(((zM ps [id]).filter fun l=>decide (∀ v,v<n->l v=l 0)).map (eLt n)).length=qi n id ps:=by
  rw [Kh,← Wq,wk]
  show qi n id ps+0=_
  rw [XQ]
 delta zO Zb
 simp_arith [htr,el,hz,hc,cnt]
theorem qc8 {ps:ai}{a b:Nat}(hl:ps.length<=900):qY [.list (ps.map eP),.int (a:Nat),.int (b:Nat)]=some (.list (((mapP (oneOf a b) ps).filter fun p=>decide (p.1≠p.2)).map eP)):=by
 have key:∀ (L:ao) (o4 o5:ax) (p:aU),L.length<1000->∃ o4' o5',ob (unpD 2 (gsC (gNm 4) (gsC (gNm 5) gsN)) (eP p) [some (.list (ps.map eP)),some (.int (a:Nat)),some (.int (b:Nat)),some (.list L),o4,o5]) zq=some (.nx [some (.list (ps.map eP)),some (.int (a:Nat)),some (.int (b:Nat)),some (.list (L++if oneOf a b p.1=oneOf a b p.2 then [] else [eP (oneOf a b p.1,oneOf a b p.2)])),o4',o5']):=fun L o4 o5 p hL=>by
  obtain ⟨x,y⟩:=p
  refine ⟨some (.int (oneOf a b x:Nat)),some (.int (oneOf a b y:Nat)),?_⟩
  have up:unpD 2 (gsC (gNm 4) (gsC (gNm 5) gsN)) (eP (x,y)) [some (.list (ps.map eP)),some (.int (a:Nat)),some (.int (b:Nat)),some (.list L),o4,o5]=some [some (.list (ps.map eP)),some (.int (a:Nat)),some (.int (b:Nat)),some (.list L),some (.int (x:Nat)),some (.int (y:Nat))]:=by
   show unpD 2 (gsC (gNm 4) (gsC (gNm 5) gsN)) (.tuple [.int (x:Nat),.int (y:Nat)]) _=_
   simp_arith []
  rw [up,ob_s]
  have s1:∀ (v:Nat),((((v:Nat):Int))==((b:Nat):Int))=decide (v=b):=fun v=>by
   by_cases c:v=b
   ·rw [c,beq_self_eq_true,decide_eq_true rfl]
   ·rw [decide_eq_false c,beq_eq_false_iff_ne];omega
  have s2:∀ (v:Nat),decide (((b:Nat):Int)<((v:Nat):Int))=decide (b<v):=fun v=>by
   by_cases c:b<v
   ·rw [decide_eq_true c,decide_eq_true (by omega)]
   ·rw [decide_eq_false c,decide_eq_false (by omega)]
  generalize some (VH (ps.map eP))=z0
  have st1:∀ (v:Nat) (w:ax),(sIf (tV (ev2 (vr 4) (vr 2) eqD)) (sSet 4 (vr 1)) sN) [z0,some (.int (a:Nat)),some (.int (b:Nat)),some (.list L),some (.int (v:Nat)),w]=some (.nx [z0,some (.int (a:Nat)),some (.int (b:Nat)),some (.list L),some (.int ((if v=b then a else v:Nat):Int)),w]):=fun v w=>by
   by_cases c:v=b
   ·rw [if_pos c];simp_arith [s1,decide_eq_true c]
   ·rw [if_neg c];simp_arith [s1,decide_eq_false c]
  have st2:∀ (v:Nat) (w:ax),(sIf (tV (ev2 (vr 5) (vr 2) eqD)) (sSet 5 (vr 1)) sN) [z0,some (.int (a:Nat)),some (.int (b:Nat)),some (.list L),w,some (.int (v:Nat))]=some (.nx [z0,some (.int (a:Nat)),some (.int (b:Nat)),some (.list L),w,some (.int ((if v=b then a else v:Nat):Int))]):=fun v w=>by
   by_cases c:v=b
   ·rw [if_pos c];simp_arith [s1,decide_eq_true c]
   ·rw [if_neg c];simp_arith [s1,decide_eq_false c]
  have st3:∀ (v:Nat) (w:ax),(sIf (tV (ev2 (vr 4) (vr 2) gtD)) (sSet 4 (ev2 (vr 4) (kd (.int 1)) subD)) sN) [z0,some (.int (a:Nat)),some (.int (b:Nat)),some (.list L),some (.int (v:Nat)),w]=some (.nx [z0,some (.int (a:Nat)),some (.int (b:Nat)),some (.list L),some (.int ((if v > b then v-1 else v:Nat):Int)),w]):=fun v w=>by
   by_cases c:b<v
   ·have e:((v:Nat):Int)-1=((v-1:Nat):Int):=by omega
    rw [if_pos c];simp_arith [s2,decide_eq_true c,e]
   ·rw [if_neg c];simp_arith [s2,decide_eq_false c]
  have st4:∀ (v:Nat) (w:ax),(sIf (tV (ev2 (vr 5) (vr 2) gtD)) (sSet 5 (ev2 (vr 5) (kd (.int 1)) subD)) sN) [z0,some (.int (a:Nat)),some (.int (b:Nat)),some (.list L),w,some (.int (v:Nat))]=some (.nx [z0,some (.int (a:Nat)),some (.int (b:Nat)),some (.list L),w,some (.int ((if v > b then v-1 else v:Nat):Int))]):=fun v w=>by
   by_cases c:b<v
   ·have e:((v:Nat):Int)-1=((v-1:Nat):Int):=by omega
    rw [if_pos c];simp_arith [s2,decide_eq_true c,e]
   ·rw [if_neg c];simp_arith [s2,decide_eq_false c]
  have fin:∀ (u v:Nat),(sIf (tV (ev2 (vr 4) (vr 5) neD)) (sApp 3 (evA (aC (vr 4) (aC (vr 5) aN)) tupD)) sN) [z0,some (.int (a:Nat)),some (.int (b:Nat)),some (.list L),some (.int (u:Nat)),some (.int (v:Nat))]=some (.nx [z0,some (.int (a:Nat)),some (.int (b:Nat)),some (.list (L++if u=v then [] else [eP (u,v)])),some (.int (u:Nat)),some (.int (v:Nat))]):=fun u v=>by
   by_cases c:u=v
   ·have g:((((u:Nat):Int))==((v:Nat):Int))=true:=by rw [c];exact beq_self_eq_true _
    rw [if_pos c,VD]
    simp_arith [g]
   ·have g:((((u:Nat):Int))==((v:Nat):Int))=false:=by rw [beq_eq_false_iff_ne];omega
    rw [if_neg c]
    simp_arith [g,hL]
    rfl
  show seqO _ _ _=_
  rw [ZF,st1,Qe,ZF,st2,Qe,ZF,st3,Qe,ZF,st4,Qe,fin]
  rfl
 obtain ⟨ρ',el,o4,o5,rfl⟩:=QH eP (g:=unpD 2 (gsC (gNm 4) (gsC (gNm 5) gsN))) (u:=zq)
  (fun done ρ=>∃ (o4 o5:ax),ρ=[some (.list (ps.map eP)),some (.int (a:Nat)),some (.int (b:Nat)),some (.list (((mapP (oneOf a b) done).filter fun p=>decide (p.1≠p.2)).map eP)),o4,o5]) ps [some (.list (ps.map eP)),some (.int (a:Nat)),some (.int (b:Nat)),some (.list []),none,none] ⟨none,none,rfl⟩ (by
   rintro p hpm done ρ hdl ⟨o4,o5,rfl⟩
   obtain ⟨o4',o5',e⟩:=key (((mapP (oneOf a b) done).filter fun p:Nat×Nat=>decide (p.1≠p.2)).map eP) o4 o5 p (by
    rw [Kh]
    refine UG (U5 _ _) ?_
    unfold mapP
    rw [Kh];omega)
   refine ⟨_,e,o4',o5',?_⟩
   have e2:mapP (oneOf a b) (done++[p])=mapP (oneOf a b) done++[(oneOf a b p.1,oneOf a b p.2)]:=by unfold mapP;rw [VN];rfl
   rw [e2,List.filter_append,VN]
   congr 6
   by_cases c:oneOf a b p.1=oneOf a b p.2
   ·rw [if_pos c,VS (by simp [c])];rfl
   ·rw [if_neg c,VT (by simp [c])];rfl)
 delta qY zK
 simp_arith [el]
theorem qaY (n:Nat)(ps:ai):∀ l,qi n l ps<=2 ^ ps.length:=by
 induction ps with
 | nil=>intro l;unfold qi;split<;>decide
 | cons p ps ih =>
  intro l
  rw [za,Kk,Nat.pow_succ]
  have a:=ih l
  have b:=ih (tieN l (l p.1) (l p.2))
  split<;>omega
theorem min42 (x y:Nat):YX [eP (x,y)]=some (.int ((min x y:Nat):Int)):=by
 show (if jV [.int (x:Nat),.int (y:Nat)]=true/\(2:Nat)<=1000 then ([Kj (x:Nat),.int (y:Nat)])[bestOf (zV [.int (x:Nat),.int (y:Nat)]) 1]? else none)=_
 rw [if_pos ⟨rfl,by decide⟩]
 have e:bestOf (zV [.int (x:Nat),.int (y:Nat)]) 1=if y<x then 1 else 0:=by
  have b:zV [Kj (x:Nat),.int (y:Nat)] 1 0=decide (((y:Nat):Int)<(x:Nat)):=rfl
  show (if zV [Kj (x:Nat),.int (y:Nat)] 1 0=true then 1 else 0)=_
  rw [b]
  by_cases c:y<x
  ·rw [decide_eq_true (by omega),if_pos rfl,if_pos c]
  ·rw [decide_eq_false (by omega),if_neg (by decide),if_neg c]
 rw [e]
 by_cases c:y<x
 ·rw [if_pos c,UZ (by omega)];rfl
 ·rw [if_neg c,Xl (by omega)];rfl
theorem max42 (x y:Nat):YW [eP (x,y)]=some (.int ((max x y:Nat):Int)):=by
 show (if jU [.int (x:Nat),.int (y:Nat)]=true/\(2:Nat)<=1000 then ([Kj (x:Nat),.int (y:Nat)])[bestOf (zU [.int (x:Nat),.int (y:Nat)]) 1]? else none)=_
 rw [if_pos ⟨rfl,by decide⟩]
 have e:bestOf (zU [.int (x:Nat),.int (y:Nat)]) 1=if x<y then 1 else 0:=by
  have b:zU [Kj (x:Nat),.int (y:Nat)] 1 0=decide (((x:Nat):Int)<(y:Nat)):=rfl
  show (if zU [Kj (x:Nat),.int (y:Nat)] 1 0=true then 1 else 0)=_
  rw [b]
  by_cases c:x<y
  ·rw [decide_eq_true (by omega),if_pos rfl,if_pos c]
  ·rw [decide_eq_false (by omega),if_neg (by decide),if_neg c]
 rw [e]
 by_cases c:x<y
 ·rw [if_pos c,Nat.max_eq_right (by omega)];rfl
 ·rw [if_neg c,Nat.max_eq_left (by omega)];rfl
theorem qaX (ps:ai)(k:Nat):sliD (.list (ps.map eP)) none (some (k:Int))=some (.list ((ps.take k).map eP)):=by
 show some (VH (cutD (ps.map eP) none (some (k:Int))))=_
 unfold cutD
 rw [HT.Zr,HT.jy,List.drop_zero,Nat.sub_zero,← List.map_take,Kh]
 congr 3
 by_cases c:k<=ps.length
 ·rw [Xl c]
 ·rw [UZ (by omega),Uu (by omega),Uu (by omega)]
theorem W3 (ps:ai)(k:Nat):sliD (.list (ps.map eP)) (some (k:Int)) none=some (.list ((ps.drop k).map eP)):=by
 show some (VH (cutD (ps.map eP) (some (k:Int)) none))=_
 unfold cutD
 rw [HT.Zr,HT.jy,Uu (by rw [Ul];omega),← List.map_drop,Kh]
 congr 3
 by_cases c:k<=ps.length
 ·rw [Xl c]
 ·rw [UZ (by omega),X9 (Kl _),X9 (by omega)]
theorem Wz (ps qs:ai)(h:ps.length+qs.length<=1000):zT (.list (ps.map eP)) (.list (qs.map eP))=some (.list ((ps++qs).map eP)):=by
 rw [qa6 _ _ (by rw [Kh,Kh];exact h),VN]
theorem jf (x:Int){n:Nat}(h:0<n):x % (n:Int)=((x % (n:Int)).toNat:Nat)/\(x % (n:Int)).toNat<n:=by
 have a:=Int.emod_nonneg x (b:=(n:Int)) (by omega)
 have b:=Int.emod_lt_of_pos x (b:=(n:Int)) (by omega)
 omega
noncomputable def jq (n v k:Nat):Nat×Nat:=if k % 2=0 then (v,n) else (n,v)
def Unl (ps:ai):Prop:=∀ p∈ps,p.1≠p.2
theorem qbO {m:Nat}(hm:m<=5)(ms:aR)(hl:ms.length<=9)(o0 o1:ax):∃ (ps:ai) (o4 o5 o6:ax),forD (gNm 4) Jg (ms.map .int) [o0,o1,some (.int ((m+1:Nat):Int)),some (.list []),none,none,none,none,none,none,none,none,none,none]=some (.nx [o0,o1,some (.int ((m+1:Nat):Int)),some (.list (ps.map eP)),o4,o5,o6,none,none,none,none,none,none,none])/\InN (m+1) ps/\Unl ps/\ps.length<=9:=by
 obtain ⟨ρ',e,ps,o4,o5,o6,rfl,h1,h2,h3⟩:=QH Kj (g:=gNm 4) (u:=Jg)
  (fun done ρ=>∃ (ps:ai) (o4 o5 o6:ax),ρ=[o0,o1,some (.int ((m+1:Nat):Int)),some (.list (ps.map eP)),o4,o5,o6,none,none,none,none,none,none,none]/\InN (m+1) ps/\Unl ps/\ps.length<=done.length) ms [o0,o1,some (.int ((m+1:Nat):Int)),some (.list []),none,none,none,none,none,none,none,none,none,none] ⟨[],none,none,none,rfl,(fun p h=>by cases h),(fun p h=>by cases h),Kl 0⟩ (by
   rintro c _ done ρ hd ⟨ps,o4,o5,o6,rfl,h1,h2,h3⟩
   obtain ⟨a1,a2⟩:=jf c (n:=m+1) (by omega)
   obtain ⟨b1,b2⟩:=jf (c / 6) (n:=m+1) (by omega)
   have ea:modD (.int c) (.int ((m+1:Nat):Int))=some (.int (((c % ((m+1:Nat):Int)).toNat:Nat):Int)):=by rw [zE c (by omega),← a1]
   have eb:modD (.int (c / 6)) (.int ((m+1:Nat):Int))=some (.int (((c / 6 % ((m+1:Nat):Int)).toNat:Nat):Int)):=by rw [zE (c / 6) (by omega),← b1]
   generalize (c % ((m+1:Nat):Int)).toNat=x at *
   generalize (c / 6 % ((m+1:Nat):Int)).toNat=y at *
   by_cases g:x=y
   ·have ne:(((x:Nat):Int)==((y:Nat):Int))=true:=by rw [g];exact beq_self_eq_true _
    exact ⟨_,by simp_arith [-L2.zE,ea,eb,ne],ps,some (.int c),some (.int (x:Nat)),some (.int (y:Nat)),rfl,h1,h2,by rw [Kq];omega⟩
   ·have ne:(((x:Nat):Int)==((y:Nat):Int))=false:=by rw [beq_eq_false_iff_ne];omega
    have hz:(ps.map eP).length<1000:=by rw [Kh];omega
    refine ⟨_,by simp_arith [-L2.zE,ea,eb,ne,hz];rfl,ps++[(x,y)],some (.int c),some (.int (x:Nat)),some (.int (y:Nat)),by rw [VN];rfl,InN.app h1 fun p h=>?_,fun p h=>?_,by rw [Kq,Kq,K4,K4];omega⟩
    ·rw [K9.mp h];exact ⟨a2,b2⟩
    ·rcases Vo.mp h with h|h
     ·exact h2 p h
     ·rw [K9.mp h];exact g)
 exact ⟨ps,o4,o5,o6,e,h1,h2,by omega⟩
theorem qdb {m v t:Nat}{c0:Int}(hv:modD (.int (c0 / 24)) (.int ((m+1:Nat):Int))=some (.int (v:Nat)))(ht:t<=5)(o0 o3 o4 o5 o6 o7 o8 o9:ax) :
  q9 tT (ev2 (evA (aC (evA (aC (ev2 (ev2 (vr 1) (kd (.int 24)) ZR) (vr 2) modD) (aC (vr 2) aN)) tupD) (aC (evA (aC (vr 2) (aC (ev2 (ev2 (vr 1) (kd (.int 24)) ZR) (vr 2) modD) aN)) tupD) aN)) lstD) (ev2 (vr 14) (kd (.int 2)) modD) ixD) [o0,some (.int c0),some (.int ((m+1:Nat):Int)),o3,o4,o5,o6,o7,o8,o9,none,none,none,none] ((Ki t).map fun k:Nat=>Kj (k:Nat))=some (((Ki t).map (jq (m+1) v)).map eP):=by
 rw [UH]
 refine Qn (fun k:Nat=>Kj (k:Nat)) (eP ∘ jq (m+1) v) (Ki t) fun k _=>?_
 have hk:((k:Nat):Int) % 2=((k % 2:Nat):Int):=by omega
 unfold jq
 show _=some (eP (if k % 2=0 then (v,m+1) else (m+1,v)))
 by_cases c:k % 2=0
 ·rw [c] at hk
  have hk:((k:Nat):Int) % 2=0:=hk
  rw [if_pos c]
  simp_arith [hv,hk]
  rfl
 ·have c1:k % 2=1:=by omega
  rw [c1] at hk
  have hk:((k:Nat):Int) % 2=1:=hk
  rw [if_neg c]
  simp_arith [hv,hk]
  rfl
theorem wQ (ns:aR)(_:ns.length<=63)(hb:∀ k∈ns,VU k<=2 ^ 20):qcp [.list (ns.map .int)]=some (.bool true):=by
 have e0:=cell_eq ns 0 (by decide)
 have e1:=cell_eq ns 1 (by decide)
 generalize ZP ns 0=c0 at *
 generalize ZP ns 1=c1 at *
 obtain ⟨ms,hcut,hml⟩:=qcJ ns (a:=2) (b:=11)
 have hcut:sliD (.list (ns.map .int)) (some 2) (some 11)=some (.list (ms.map .int)):=hcut
 obtain ⟨a1,a2⟩:=jf c0 (n:=6) (by decide)
 have a1:c0 % 6=(((c0 % 6).toNat:Nat):Int):=a1
 have a2:(c0 % 6).toNat<6:=a2
 generalize (c0 % 6).toNat=m at *
 have am:1+((m:Nat):Int)=((m+1:Nat):Int):=by omega
 obtain ⟨t1,t2⟩:=jf (c0 / 6) (n:=4) (by decide)
 have t1:c0 / 6 % 4=(((c0 / 6 % 4).toNat:Nat):Int):=t1
 have t2:(c0 / 6 % 4).toNat<4:=t2
 generalize (c0 / 6 % 4).toNat=t at *
 have at1:1+((t:Nat):Int)=((t+1:Nat):Int):=by omega
 obtain ⟨ps,o4,o5,o6,el,hp,hu,hl⟩:=qbO (m:=m) (by omega) ms (by omega) (some (.list (ns.map .int))) (some (.int c0))
 have du:=due42 (n:=m+1) (by omega) (by omega) hp hl
 have to:=JH (m:=m) (by omega) hp (by omega)
 have le:=qaY (m+1) ps id
 have le2:qi (m+1) id ps<=512:=KO le (Xk (n:=2) (j:=9) (by decide) hl)
 generalize hT:qi (m+1) id ps=T at *
 have same:(((T:Nat):Int)==((T:Nat):Int))=true:=beq_self_eq_true _
 obtain ⟨p1,p2⟩:=jf c1 (n:=ps.length+1) (by omega)
 have hat:modD (.int c1) (.int (((ps.length:Nat):Int)+1))=some (.int (((c1 % ((ps.length+1:Nat):Int)).toNat:Nat):Int)):=by
  have:((ps.length:Nat):Int)+1=((ps.length+1:Nat):Int):=by omega
  rw [this,zE c1 (by omega),← p1]
 generalize (c1 % ((ps.length+1:Nat):Int)).toNat=at0 at *
 obtain ⟨v1,v2⟩:=jf (c0 / 24) (n:=m+1) (by omega)
 have hv:modD (.int (c0 / 24)) (.int ((m+1:Nat):Int))=some (.int (((c0 / 24 % ((m+1:Nat):Int)).toNat:Nat):Int)):=by rw [zE (c0 / 24) (by omega),← v1]
 generalize (c0 / 24 % ((m+1:Nat):Int)).toNat=v at *
 have nw:=qdb hv (t:=t+1) (by omega) (some (.list (ns.map .int))) (some (.list (ps.map eP))) o4 o5 o6 (some (.int (T:Nat))) (some (.int ((t+1:Nat):Int))) (some (.int (at0:Nat)))
 have hr:(if (-1000:Int)<=((t+1:Nat):Int)/\((t+1:Nat):Int)<=1000 then some (rngL 0 (((t+1:Nat):Int)).toNat) else none)=some ((Ki (t+1)).map fun k:Nat=>Kj (k:Nat)):=by
  rw [if_pos (by omega),Vi,ZD]
 have hz:((Ki (t+1)).map fun k:Nat=>Kj (k:Nat)).length<=1000:=by rw [Kh,KN];omega
 have nl:((Ki (t+1)).map (jq (m+1) v)).length=t+1:=by rw [Kh,KN]
 have nq:∀ q∈(Ki (t+1)).map (jq (m+1) v),q=(v,m+1)\/q=(m+1,v):=fun q h=>by
  obtain ⟨k,_,rfl⟩:=Uz.mp h
  unfold jq
  split
  ·exact .inl rfl
  ·exact .inr rfl
 generalize (Ki (t+1)).map (jq (m+1) v)=nws at *
 have sT:=qaX ps at0
 have sD:=W3 ps at0
 have lt:(ps.take at0).length<=9:=KO (List.length_take_le _ _) (by omega)
 have ld:(ps.drop at0).length<=9:=by rw [Ul];omega
 have ad1:=Wz (ps.take at0) nws (by omega)
 have ad2:=Wz (ps.take at0++nws) (ps.drop at0) (by rw [Kq];omega)
 have prm:(ps.take at0++nws++ps.drop at0).Perm (nws++ps):=by
  have:nws++ps=nws++(ps.take at0++ps.drop at0):=by rw [Nf]
  rw [this,← UN]
  exact List.Perm.append_right _ Nd
 have hin:InN (m+2) (nws++ps):=InN.app (fun q h=>by
  rcases nq q h with rfl|rfl
  ·exact ⟨by show v<m+2;omega,by show m+1<m+2;omega⟩
  ·exact ⟨by show m+1<m+2;omega,by show v<m+2;omega⟩) hp.up
 have hin2:InN (m+2) (ps.take at0++nws++ps.drop at0):=fun q h=>hin q (prm.mem_iff.mp h)
 have to2:=JH (m:=m+1) (by omega) hin2 (by rw [Kq,Kq];omega)
 rw [jC (n:=m+1) hin2 prm,Wt v2 hp nq,nl,hT] at to2
 have up:((m+1:Nat):Int)+1=((m+1+1:Nat):Int):=by omega
 have mu:mulD (.int (T:Nat)) (.int ((t+1:Nat):Int))=some (.int (((t+1)*T:Nat):Int)):=by
  rw [Jv (Bd.ok (n:=20) (m:=20) (Bd.of (by omega)) (Bd.of (by omega))),Int.natCast_mul,Uy]
 have same2:((((t+1)*T:Nat):Int)==(((t+1)*T:Nat):Int))=true:=beq_self_eq_true _
 have go:wj [some (.list (ns.map .int)),none,none,none,none,none,none,none,none,none,none,none,none,none]=some (.rt (.bool true)):=by
  show seqO _ _ _=_
  refine zp (ρ':=[some (.list (ns.map .int)),some (.int c0),none,none,none,none,none,none,none,none,none,none,none,none]) (by simp_arith [e0]) ?_
  refine zp (ρ':=[some (.list (ns.map .int)),some (.int c0),some (.int ((m+1:Nat):Int)),none,none,none,none,none,none,none,none,none,none,none]) (by simp_arith [a1,am]) ?_
  refine zp (ρ':=[some (.list (ns.map .int)),some (.int c0),some (.int ((m+1:Nat):Int)),some (.list []),none,none,none,none,none,none,none,none,none,none]) (by simp_arith []) ?_
  refine zp (ρ':=[some (.list (ns.map .int)),some (.int c0),some (.int ((m+1:Nat):Int)),some (.list (ps.map eP)),o4,o5,o6,none,none,none,none,none,none,none]) (by simp_arith [hcut,el]) ?_
  refine zp (ρ':=[some (.list (ns.map .int)),some (.int c0),some (.int ((m+1:Nat):Int)),some (.list (ps.map eP)),o4,o5,o6,some (.int (T:Nat)),none,none,none,none,none,none]) (by simp_arith [du]) ?_
  refine zp (ρ':=[some (.list (ns.map .int)),some (.int c0),some (.int ((m+1:Nat):Int)),some (.list (ps.map eP)),o4,o5,o6,some (.int (T:Nat)),none,none,none,none,none,none]) (by simp_arith [to,same]) ?_
  refine zp (ρ':=[some (.list (ns.map .int)),some (.int c0),some (.int ((m+1:Nat):Int)),some (.list (ps.map eP)),o4,o5,o6,some (.int (T:Nat)),some (.int ((t+1:Nat):Int)),none,none,none,none,none]) (by simp_arith [t1,at1]) ?_
  refine zp (ρ':=[some (.list (ns.map .int)),some (.int c0),some (.int ((m+1:Nat):Int)),some (.list (ps.map eP)),o4,o5,o6,some (.int (T:Nat)),some (.int ((t+1:Nat):Int)),some (.int (at0:Nat)),none,none,none,none]) (by simp_arith [-L2.zE,e1,Kh,hat]) ?_
  refine zp (ρ':=[some (.list (ns.map .int)),some (.int c0),some (.int ((m+1:Nat):Int)),some (.list (ps.map eP)),o4,o5,o6,some (.int (T:Nat)),some (.int ((t+1:Nat):Int)),some (.int (at0:Nat)),some (.list (nws.map eP)),none,none,none]) (by simp_arith [hr,hz,nw]) ?_
  refine zp (ρ':=[some (.list (ns.map .int)),some (.int c0),some (.int ((m+1:Nat):Int)),some (.list (ps.map eP)),o4,o5,o6,some (.int (T:Nat)),some (.int ((t+1:Nat):Int)),some (.int (at0:Nat)),some (.list (nws.map eP)),none,none,none]) (by simp_arith [sT,sD,ad1,ad2,up,to2,mu,same2]) ?_
  by_cases emp:ps.length=0
  ·have z:(((ps.length:Nat):Int)==0)=true:=by rw [emp];rfl
   show seqO _ _ _=_
   simp_arith [Kh,z]
  ·have z:(((ps.length:Nat):Int)==0)=false:=by rw [beq_eq_false_iff_ne];omega
   refine zp (ρ':=[some (.list (ns.map .int)),some (.int c0),some (.int ((m+1:Nat):Int)),some (.list (ps.map eP)),o4,o5,o6,some (.int (T:Nat)),some (.int ((t+1:Nat):Int)),some (.int (at0:Nat)),some (.list (nws.map eP)),none,none,none]) (by simp_arith [Kh,z]) ?_
   obtain ⟨x1,x2⟩:=jf ((at0:Nat):Int) (n:=ps.length) (by omega)
   have hat2:modD (.int (at0:Nat)) (.int ((ps.length:Nat):Int))=some (.int (((((at0:Nat):Int) % ((ps.length:Nat):Int)).toNat:Nat):Int)):=by rw [zE _ (by omega),← x1]
   generalize (((at0:Nat):Int) % ((ps.length:Nat):Int)).toNat=k at *
   have sT2:=qaX ps k
   have sD2:=W3 ps (k+1)
   have lt2:(ps.take k).length<=9:=KO (List.length_take_le _ _) (by omega)
   have ld2:(ps.drop (k+1)).length<=9:=by rw [Ul];omega
   have ad3:=Wz (ps.take k) (ps.drop (k+1)) (by omega)
   have k1:((k:Nat):Int)+1=((k+1:Nat):Int):=by omega
   obtain ⟨⟨x,y⟩,hxy⟩:∃ p,ps[k]?=some p:=⟨_,KI x2⟩
   have mxy:=Kz hxy
   have ix:ixD (.list (ps.map eP)) (.int (k:Nat))=some (eP (x,y)):=by
    show atI (ps.map eP) _=_
    unfold atI
    rw [Kh,Qp x2]
    show (ps.map eP)[k]?=_
    rw [VG,hxy];rfl
   have split:ps.Perm ((x,y)::(ps.take k++ps.drop (k+1))):=by
    have:ps=ps.take k++(x,y)::ps.drop (k+1):=by
     conv=>lhs;rw [← Nf k ps]
     congr 1
     rw [Vl x2]
     congr 1
     exact K3 ((KI x2).symm.trans hxy)
    conv=>lhs;rw [this]
    exact List.perm_middle
   have nxy:x≠y:=hu _ mxy
   have bxy:x<m+1/\y<m+1:=hp _ mxy
   have w1:InN (m+1) (ps.take k++ps.drop (k+1)):=fun q h=>hp q (split.mem_iff.mpr (.tail _ h))
   have lw:(ps.take k++ps.drop (k+1)).length<=20:=by rw [Kq];omega
   have tc:T=qi (m+1) id (ps.take k++ps.drop (k+1))+qi (m+1) (tieN id x y) (ps.take k++ps.drop (k+1)):=by
    rw [← hT,jC hp split,za,if_neg (show ¬ id x=id y from nxy)]
    rfl
   generalize ps.take k++ps.drop (k+1)=wo at *
   have mi:=min42 x y
   have ma:=max42 x y
   have mm:min x y<max x y/\max x y<m+1:=by omega
   have or1:((x,y):Nat×Nat)=(min x y,max x y)\/((x,y):Nat×Nat)=(max x y,min x y):=by
    by_cases c:x<y
    ·exact .inl (by rw [Xl (by omega),Nat.max_eq_right (by omega)])
    ·exact .inr (by rw [UZ (by omega),Nat.max_eq_left (by omega)])
   have t3:=Wu mm.2 mm.1 w1 or1
   have md:=qc8 (ps:=wo) (a:=min x y) (b:=max x y) (by omega)
   generalize hq:(mapP (oneOf (min x y) (max x y)) wo).filter (fun p=>decide (p.1≠p.2))=qs at *
   obtain ⟨m',rfl⟩:∃ m',m=m'+1:=⟨m-1,by omega⟩
   have inq:InN (m'+1) qs:=fun q h=>by
    rw [← hq] at h
    obtain ⟨p,hp1,rfl⟩:=Uz.mp (XX.mp h).1
    have:=w1 p hp1
    have ob1:∀ v,v<m'+1+1->oneOf (min x y) (max x y) v<m'+1:=fun v hv=>by unfold oneOf;split<;>split<;>omega
    exact ⟨ob1 _ this.1,ob1 _ this.2⟩
   have lq:qs.length<=20:=by
    rw [← hq]
    refine KO (U5 _ _) ?_
    unfold mapP
    rw [Kh];omega
   have to3:=JH (m:=m'+1) (by omega) w1 (by omega)
   have to4:=JH (m:=m') (by omega) inq (by omega)
   have dn1:((m'+1+1:Nat):Int)-1=((m'+1:Nat):Int):=by omega
   have t3:qi (m'+1+1) (tieN id x y) wo=qi (m'+1) id qs:=t3
   have fin:((((qi (m'+1+1) id wo:Nat):Int)+((qi (m'+1) id qs:Nat):Int))==((T:Nat):Int))=true:=by
    rw [tc,t3,beq_iff_eq,X2]
   refine zp (ρ':=[some (.list (ns.map .int)),some (.int c0),some (.int ((m'+1+1:Nat):Int)),some (.list (ps.map eP)),o4,o5,o6,some (.int (T:Nat)),some (.int ((t+1:Nat):Int)),some (.int (k:Nat)),some (.list (nws.map eP)),none,none,none]) (by simp_arith [-L2.zE,Kh,hat2]) ?_
   refine zp (ρ':=[some (.list (ns.map .int)),some (.int c0),some (.int ((m'+1+1:Nat):Int)),some (.list (ps.map eP)),o4,o5,o6,some (.int (T:Nat)),some (.int ((t+1:Nat):Int)),some (.int (k:Nat)),some (.list (nws.map eP)),some (.list (wo.map eP)),none,none]) (by simp_arith [sT2,sD2,k1,ad3]) ?_
   refine zp (ρ':=[some (.list (ns.map .int)),some (.int c0),some (.int ((m'+1+1:Nat):Int)),some (.list (ps.map eP)),o4,o5,o6,some (.int (T:Nat)),some (.int ((t+1:Nat):Int)),some (.int (k:Nat)),some (.list (nws.map eP)),some (.list (wo.map eP)),some (.int ((min x y:Nat):Int)),none]) (by simp_arith [ix,mi]) ?_
   refine zp (ρ':=[some (.list (ns.map .int)),some (.int c0),some (.int ((m'+1+1:Nat):Int)),some (.list (ps.map eP)),o4,o5,o6,some (.int (T:Nat)),some (.int ((t+1:Nat):Int)),some (.int (k:Nat)),some (.list (nws.map eP)),some (.list (wo.map eP)),some (.int ((min x y:Nat):Int)),some (.int ((max x y:Nat):Int))]) (by simp_arith [ix,ma]) ?_
   simp_arith [to3,dn1,md,to4,fin]
 show ob (wj _) outD=_
 have e:rho0 Yq.length [VH (ns.map .int)]=[some (.list (ns.map .int)),none,none,none,none,none,none,none,none,none,none,none,none,none]:=rfl
 rw [e,go]
 rfl
theorem qcB {l:Xv}{w:KB}{K:Kb}{h:KC}{mg:ar}{fa f9:Kd}(X:K.In h)(G:h.Ns mainGlobals mg)(hfa:mg "law" = some (.ref fa))
  {od9 an9:aS} {sl9:aF} {oc9 kV9 dc9 pm9 cd9 ct9:Kc}
  (h0:FnK K "table_of" Tq7)
  (h1:FnK K "measure_of" Tq3)
  (h2:FnK K "_law_cell_at" Tq1)
  (h3:FnK K "_law_whole" Tq4)
  (h4:FnK K "_law_tied" Tq5)
  (h5:FnK K "_law_due" Tq8)
  (h6:FnK K "_law_made_one" Tq0)
  (h7:FnK K "count_trees" Tq2)
  (h8:FnK K "_law_told" Tq6)
  (a9:K6 K mainGlobals "law" = some (some (.ref f9))) (l9:K.lookup f9=some ⟨oc9,od9,.func (VP "law" "law" (zW Tq9) (zr Tq9) (qp Tq9) .none kV9 dc9 pm9 an9 cd9 ct9),sl9⟩) (c9:Uw K cd9 "law" = true) (k9:VW K (.ref f9)=true)
  (z0:K6 K mainGlobals "range" = some none)
  (z1:K6 K mainGlobals "len" = some none)
  (z2:K6 K mainGlobals "isinstance" = some none)
  (z3:K6 K mainGlobals "int" = some none)
  (z4:K6 K mainGlobals "bool" = some none)
  (z5:K6 K mainGlobals "tuple" = some none)
  (z6:K6 K mainGlobals "set" = some none)
  (z7:K6 K mainGlobals "list" = some none)
  (z8:K6 K mainGlobals "min" = some none)
  (z9:K6 K mainGlobals "max" = some none)
  : ∃ fd:Vs,(∀ (s:Ke) (v:Kc),BindsTo s fd ⟨[v],[]⟩ [("_law_script", v)])/\∀ base:KC,K.In base->base.Ns mainGlobals mg->FnOk l.prog w K mg base CX0 4 fa fd ["_law_script"] (Yg K 63):=by
 have g {n:Str} {v:Kc} (e:K6 K mainGlobals n=some (some v)):mg n=some v:=PySem.W.mg_of X G e
 have e:=hfa.symm.trans (g a9)
 cases e
 obtain ⟨f0,d0,a0,F0⟩:=h0
 have b0:=F0.binds (ps:=["n", "pairs"]) fun _ _ _ _ _ _=>L2.on2 fun _ _=>rfl
 obtain ⟨f1,d1,a1,F1⟩:=h1
 have b1:=F1.binds (ps:=["table"]) fun _ _ _ _ _ _=>L2.on1 fun _=>rfl
 obtain ⟨f2,d2,a2,F2⟩:=h2
 have b2:=F2.binds (ps:=["_law_script", "_law_k"]) fun _ _ _ _ _ _=>L2.on2 fun _ _=>rfl
 obtain ⟨f3,d3,a3,F3⟩:=h3
 have b3:=F3.binds (ps:=["_law_found"]) fun _ _ _ _ _ _=>L2.on1 fun _=>rfl
 obtain ⟨f4,d4,a4,F4⟩:=h4
 have b4:=F4.binds (ps:=["_law_lots", "_law_pair"]) fun _ _ _ _ _ _=>L2.on2 fun _ _=>rfl
 obtain ⟨f5,d5,a5,F5⟩:=h5
 have b5:=F5.binds (ps:=["_law_n", "_law_pairs"]) fun _ _ _ _ _ _=>L2.on2 fun _ _=>rfl
 obtain ⟨f6,d6,a6,F6⟩:=h6
 have b6:=F6.binds (ps:=["_law_pairs", "_law_one", "_law_other"]) fun _ _ _ _ _ _=>L2.on3 fun _ _ _=>rfl
 obtain ⟨f7,d7,a7,F7⟩:=h7
 have b7:=F7.binds (ps:=["n", "pairs"]) fun _ _ _ _ _ _=>L2.on2 fun _ _=>rfl
 obtain ⟨f8,d8,a8,F8⟩:=h8
 have b8:=F8.binds (ps:=["_law_n", "_law_pairs"]) fun _ _ _ _ _ _=>L2.on2 fun _ _=>rfl
 have F9:=W8 (st:=Tq9) l9 c9 k9
 have z_range:=Vj X G z0
 have z_len:=Vj X G z1
 have z_isinstance:=Vj X G z2
 have z_int:=Vj X G z3
 have z_bool:=Vj X G z4
 have z_tuple:=Vj X G z5
 have z_set:=Vj X G z6
 have z_list:=Vj X G z7
 have z_min:=Vj X G z8
 have z_max:=Vj X G z9
 refine ⟨VP "law" "law" (zW Tq9) (zr Tq9) (qp Tq9) .none kV9 dc9 pm9 an9 cd9 ct9,fun s v=>.of_eq rfl,fun base _ _=>?_⟩
 have b9:=F9.binds (ps:=["_law_script"]) fun _ _ _ _ _ _=>L2.on1 fun _=>rfl
 have K_table_of:=yP l.prog w base F0 (g a0) b0 z_range
 have K_measure_of:=Js l.prog w base F1 (g a1) b1 z_range z_len
 have K__law_cell_at:=jl l.prog w base F2 (g a2) b2 z_len
 have K__law_whole:=Jr l.prog w base F3 (g a3) b3 z_isinstance z_int z_bool
 have K__law_tied:=J8 l.prog w base F4 (g a4) b4 z_tuple
 have K__law_due:=yO l.prog w base F5 (g a5) b5 K__law_tied z_tuple z_range z_len z_set
 have K__law_made_one:=Z0 l.prog w base F6 (g a6) b6
 have K_count_trees:=jG l.prog w base F7 (g a7) b7 K_measure_of K_table_of
 have K__law_told:=J9 l.prog w base F8 (g a8) b8 K_count_trees K__law_whole z_list
 exact qai (qdc l.prog w base F9 K__law_cell_at K__law_due K__law_told K__law_made_one z_len z_range z_min z_max) wQ
end SF
open PySem PySem.W PyProof.Rows
set_option maxRecDepth 100000 in
set_option maxHeartbeats 0 in
theorem PySem.Challenge.cw_sheetfold_k42_trees_counted_holds : PySem.Challenge.rw_sheetfold_k42_trees_counted.Holds := by
 w_on
 refine PySem.W.holds_law HD.said fun said=>?_
 refine PySem.W.holds_open (q:=HD.vw) (YP:=(PySem.W.kHook HD.KH HD.kA HD.kE).says) HD.left (PySem.W.Hook.of _) (PySem.W.Hook.keeps _) (fun s e=>PySem.W.xl_of s (Nh.mp e).1) PySem.W.XL.keeps (by rfl) (by rfl) (by rfl) (fun s e=>PySem.W.recFacts_of (Nh.mp e).2) (by rfl) (by first|assumption|decide +kernel) (by decide +kernel) ⟨rfl,rfl,rfl,rfl,rfl,by decide +kernel⟩ ?hw ?hc
 case hw=>w_witness2
 k_fill
 refine L2.Wx (l:=PySem.Challenge.rw_sheetfold_k42_trees_counted) (n:=63) (k:=4) (x := "_law_script") rfl (by decide) rfl ⟨rfl,by decide,by decide,rfl⟩ (fun w h Y=>PySem.W.kIn_of Y) ?F
 case F =>
  intro w mg fa h KX G hmg
  refine' SF.qcB KX G hmg ?_ ?_ ?_ ?_ ?_ ?_ ?_ ?_ ?_ ?_ ?_ ?_ ?_ ?_ ?_ ?_ ?_ ?_ ?_ ?_ ?_ ?_ ?_
  all_goals try first|k_is|exact L2.FnK.of (by k_is) (by k_is) (by k_is) (by k_is)|kernel_rfl
