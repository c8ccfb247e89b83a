import PyProof.Rows.All
import KE.IntBitsLaws
import KE.KIsAll
import KE.KSortTup
import Lean
import PyProof.EqAt
import PyProof.EqKinds
import PyProof.TupleCall
import PySem.Challenge.RW_sheetfold_k44_whole_trees_of_what_is_hun
set_option genSizeOf false
set_option genInjectivity false
set_option compiler.extract_closed false
set_option Elab.async false
set_option linter.all false
set_option maxRecDepth 100000
open PySem renaming PyData→Ka,Value→Kc,Addr→Kd,Shared→Ke,wpAny_bind→Ki,Expr→Kr,wpAny_pure→Kx,Program→KD,Heap→KI,World→KM,Around→KU,Stmt→K1,Scope→K3,FuncData→Vq,mem_of_lookup→Vv,wpAny_mono→VF,wpAny_Call_Name_kw→VH,boot_len→VI,wpAny_passesOwn→VT,ReadsAll→VV,wpAny_truthy_bool→VX,sizeLine_eq→Uj,wpAny_newObj_type→Uk,Paired→UC,wpAny_holding→UI,Builtin→UO,OsState→UP,Params→US,wpAny_execs_nil→UT,Keyword→U1,IntMulOk→U3,seqIndex_of→U5,wpAny_newList→Xb,NameKind→Xo,concat_meets→Xp,noFill_tuple_add→Xq,wpAny_call_entry→Xs,DictEntry→XC,PassesOwn→XF,pushCells_keeps→XJ,codeAny_builtin→XM
open PySem.W renaming Frag→Kb,kia_one→KG,nsIn→Vm,findIn→Vs,kitOne→Vt,mg_none_of→VL,fnOf→VN,keepIn→VR,mroIn→Ua,kas_rev→Ub,codeIn→Um,kas_desc→UL,kas_descPart→UX,methodObj→Xc,specialIn→Xd,kitx_list→Xe,kitx_dict→Xf,OpenLaw→Xg,plainGet→Xn,kas_sort→Xw,instObj→XE,takesIn→XG,cellsFrom_some→XQ,lookIn→XX,kitx_tuple→X5,hasDictIn→Na,plainOver→Nb,kitx_none→Nc,kitx_bool→Nd
open List renaming range→Kf,length_map→Kg,getElem?_eq_getElem→Kj,length_cons→Kk,replicate→Kl,size_toArray→Km,length_range→Kq,mem_cons→Ks,length_append→Kv,getElem?_eq_some_iff→Kz,mem_append_right→KC,map_cons→KF,lookup_cons→KL,mem_of_getElem?→KO,length_singleton→KQ,mem_range→KS,getElem?_map→KW,mem_cons_of_mem→KY,getElem?_set_self→KZ,mem_cons_self→K0,length_replicate→K4,getD_eq_getElem?_getD→K6,getElem?_append_left→K8,drop_eq_getElem_cons→K9,all_eq_true→Vc,map_map→Vl,append_nil→Vn,length_set→Vo,replicate_succ→Vw,map_append→Vx,mem_append→Vy,map_congr_left→VD,getElem?_append_right→VG,getElem?_replicate→VP,append_assoc→VW,flatten_cons→VY,mem_append_left→V0,getElem?_set_ne→V1,mem_map→V8,eraseIdx_eq_take_drop_succ→V9,getElem_range→Ui,length_take→Up,ext_getElem→Uq,length_nil→Ut,map_nil→Uv,getElem?_nil→UB,drop_eq_nil_of_le→UG,range_succ_eq_map→UH,drop_length→UK,nodup_cons→UU,filterMap_cons→U0,lookup→U6,zip_cons_cons→U7,mem_singleton→U8,length_drop→Xr,getElem_mem→Xx,range'_succ→Xy,getElem_map→XA,range'_eq_map_range→XB,range_succ→XD,of_mem_zip→XH,nil_append→XI,set_append_right→XY,perm_append_comm→XZ
open PySem.PyData renaming int→Kh,canLayAll0→Kn,depthAll→KB,canLay0→KP,list→VB,depth→V7,eqv→Uh
open Nat renaming le_refl→Ko,lt_of_lt_of_le→Ku,le_trans→K7,ne_of_lt→Vj,le_of_lt→Vk,zero_le→Vu,lt_irrefl→VA,lt_succ_of_lt→Ul,lt_of_le_of_lt→Uw,zero_add→Ux,le_succ→UE,ne_of_gt→Xm,lt_succ_self→Xt,le_max_right→Xv,le_max_left→XN,add_comm→X6,lt_trans→X7
open PySem.Heap renaming get?_push_of_some→Kp,lt_size→Kw,get?_push_size→K5,size_push→U2,get?_update_other→XR
open Bool renaming and_eq_true→Kt,false_ne_true→Vp,false_eq_true→Ug,or_eq_true→UV,eq_false_iff→Xh,and_eq_true_iff→X3
open Array renaming length_toList→Ky,getElem?_toList→Uo,getElem_toList→UW,getElem?_eq_getElem→Xj,getElem?_eq_none→XT,mk→X0,toArray_toList→X2
open Int renaming toNat_natCast→KA,emod_lt_of_pos→VJ,emod_nonneg→VU,mul_left_comm→VZ,one_mul→V5,mul_comm→Uy,mul_assoc→UJ,pow_zero→UY,pow_succ→UZ,eq_of_mul_eq_mul_left→Xk,zero_mul→Xz,neg_mul→XW,mul_zero→X8,add_zero→X9
open PySem.NameKind renaming free→KJ,cell→Vb
open Ne renaming symm→KN
open PySem.Str renaming ofString→KR
open Option.some renaming inj→Va
open PySem.W.Fast renaming te10110043849684766642→Vd,te14364793385576792824→Ve,te4187177175401517315→VE
open PyProof.Rows renaming callWith_type1→Vf,slot_tuple_getitem→VS,AllBare→UQ,listUpdate_at→Xa,seqEpoch_at→XU
open PySem.SeqAt renaming canLay_of_shaped→Vg,shaped→Vz
open PySem.Value renaming ref→Vh,type→VC,none→VM,bool→Uc,builtin→Ur,str→UM,int→UN,notImplemented→X1
open PySem.Obj renaming mapSeq→Vi,mk→Xl
open Option renaming none→Vr,some→U4,map_eq_some_iff→XO
open PySem.PassesOwn renaming never→VO
open PySem.Builtin.Int renaming intBits→VQ
open False renaming elim→V2
open PySem.Builtin.Slice renaming slicePlaces→V3,sliceAdjust→Us,sliceApplied→U9
open Classical renaming byContradiction→V4
open PySem.Builtin.Tuple renaming tupleExact→V6,tupleHashOf→Xi
open True renaming intro→Ud
open ForInStep renaming yield→Ue
open PySem.F renaming args_tuple_add_2→Uu,entry_tuple_add→Uz,plainAttrs_list→UA,slot_tuple_add→UD,slot_list_append→UF,typeOf_object_class→UR,type_list_append→Xu,slot_gs_get→X4
noncomputable section
namespace HD
open PySem PySem.W PySem.Calls PyProof.Rows
noncomputable def vw:KD:=view PySem.Challenge.pw_sheetfold_k44_whole_trees_of_what_is_hun [1,2,3,5,6,7,8,9,10,11,12,13,14]
noncomputable def tp (i:Nat):K1:=PySem.Challenge.pw_sheetfold_k44_whole_trees_of_what_is_hun.main.body.getD i (.Pass ⟨0,0,0,0⟩)
noncomputable def dA:K1->Arguments
 | .FunctionDef _ a _ _ _ _ _ _ _ _=>a
 | _=>default
noncomputable def dB:K1->List K1
 | .FunctionDef _ _ b _ _ _ _ _ _ _=>b
 | _=>[]
noncomputable def dS:K1->K3
 | .FunctionDef _ _ _ _ _ _ s _ _ _=>s
 | _=>default
noncomputable abbrev de (P:US)(x:String)(t:Nat)(v:Kc):XC:=DictEntry.mk (PyData.keyHash P (KR x)) (UM (KR x) t) v
noncomputable abbrev S (x:String)(t:Nat):Kc:=UM (KR x) t
noncomputable abbrev I (n:Int)(t:Nat):Kc:=UN n t
noncomputable abbrev R (a:Kd):Kc:=Vh a
abbrev Y (x:String):Kc:=VC x
noncomputable abbrev N:Kc:=VM
noncomputable abbrev tu (a:Array Kc):Obj:=Xl (VC "tuple") Vr (Data.seq a) #[]
abbrev cc (x:String)(t1 t2 t3:Nat)(l n:Int)(a1:Kd)(k:Int)(a2:Kd)(u v:Kc)(a3:Kd)(t4:Int)(t5:Nat):Obj:=Xl (VC "code") Vr (Data.fields #[S x t1,S x t2,S "/claim/cut.py" t3,I l 0,I n 0,I 0 0,I 0 0,I 3 0,R a1,Uc Bool.true,I k 0,R a2,N,u,v,R a3,I t4 0,I l 0,S "/claim/cut.py" t5]) #[]
abbrev xc (x:String)(e a d b:Kd)(t u:Nat):Obj:=Xl (Y "type") Vr (Data.cls (ClassData.mk (KR x) [R e] [R a,R e,Y "ValueError", Y "Exception", Y "BaseException", Y "object"] d (KR x) Bool.true [] [] Bool.false Vr Bool.false)) #[U4 (R b),Vr,U4 (S x t),U4 (S x u),U4 (Ur "ValueError.__new__"),U4 (Uc Bool.true)]
abbrev xd (P:US)(t1 t2 t3:Nat)(l:Int)(t4 t5:Nat)(a:Kd)(t6:Nat):Obj:=Xl (Y "dict") Vr (Data.dict #[de P "__module__" t1 (S "sheetfold.errors" t2),de P "__firstlineno__" t3 (I l t4),de P "__static_attributes__" t5 (R a),de P "__doc__" t6 N] 2) #[]
abbrev fu (x:String)(i:Nat)(m:String)(t:Nat)(c:Kd):Obj:=Xl (VC "function") Vr (Data.func (FuncData.mk (KR x) (KR x) (dA (tp i)) (FuncBody.stmts (dB (tp i))) (dS (tp i)) 3 [] N N N (S m t) Vr (R c) N 0)) #[]
set_option maxHeartbeats 0 in
noncomputable def KH:US->Kb:=fun P =>
(nat_lit 2,Xl N Vr (Data.dict #[]) #[]) ::
(nat_lit 3,Xl (Y "dict") Vr (Data.dict #[de P "__name__" 165 (S "law_sheetfold_k44_whole_trees_of_what_is_hun" 209),de P "__doc__" 166 N,de P "__package__" 167 N,de P "__loader__" 168 (Ur "__main__.__loader__#opaque"),de P "__spec__" 169 N,de P "__annotations__" 170 (R 6),de P "__builtins__" 171 (R 4),de P "__file__" 173 (S "/claim/cut.py" 172),de P "__cached__" 174 N,de P "count_trees" 196 (R 21),de P "table_of" 202 (R 26),de P "measure_of" 208 (R 31),de P "_law_cell_at" 218 (R 38),de P "_law_whole" 225 (R 45),de P "_law_mixed" 233 (R 52),de P "_law_block" 239 (R 57),de P "_law_built" 253 (R 64),de P "_law_strewn" 259 (R 69),de P "_law_cells" 265 (R 74),de P "_law_called" 280 (R 81),de P "_law_told" 290 (R 88),de P "law" 303 (R 95)] 22) #[]) ::
(nat_lit 6,Xl (Y "dict") Vr (Data.dict #[]) #[]) ::
(nat_lit 15,tu #[]) ::
(nat_lit 17,tu #[S "n" 192,S "pairs" 193]) ::
(nat_lit 18,tu #[]) ::
(nat_lit 20,cc "count_trees" 189 190 191 2 2 15 181 16 (R 17) (R 18) 19 194 195) ::
(nat_lit 21,fu "count_trees" 1 "sheetfold.trees" 187 20) ::
(nat_lit 22,tu #[]) ::
(nat_lit 25,cc "table_of" 197 198 199 4 2 22 181 23 N N 24 200 201) ::
(nat_lit 26,fu "table_of" 2 "sheetfold.trees" 187 25) ::
(nat_lit 27,tu #[]) ::
(nat_lit 30,cc "measure_of" 203 204 205 13 1 27 181 28 N N 29 206 207) ::
(nat_lit 31,fu "measure_of" 3 "sheetfold.trees" 187 30) ::
(nat_lit 32,tu #[]) ::
(nat_lit 34,tu #[S "_law_script" 214,S "_law_k" 215]) ::
(nat_lit 35,tu #[]) ::
(nat_lit 37,cc "_law_cell_at" 211 212 213 23 2 32 181 33 (R 34) (R 35) 36 216 217) ::
(nat_lit 38,fu "_law_cell_at" 5 "law_sheetfold_k44_whole_trees_of_what_is_hun" 209 37) ::
(nat_lit 39,tu #[]) ::
(nat_lit 41,tu #[S "_law_found" 222]) ::
(nat_lit 42,tu #[]) ::
(nat_lit 44,cc "_law_whole" 219 220 221 27 1 39 181 40 (R 41) (R 42) 43 223 224) ::
(nat_lit 45,fu "_law_whole" 6 "law_sheetfold_k44_whole_trees_of_what_is_hun" 209 44) ::
(nat_lit 46,tu #[]) ::
(nat_lit 48,tu #[S "_law_cell" 229,S "_law_k" 230]) ::
(nat_lit 49,tu #[]) ::
(nat_lit 51,cc "_law_mixed" 226 227 228 29 2 46 181 47 (R 48) (R 49) 50 231 232) ::
(nat_lit 52,fu "_law_mixed" 7 "law_sheetfold_k44_whole_trees_of_what_is_hun" 209 51) ::
(nat_lit 53,tu #[]) ::
(nat_lit 56,cc "_law_block" 234 235 236 31 3 53 181 54 N N 55 237 238) ::
(nat_lit 57,fu "_law_block" 8 "law_sheetfold_k44_whole_trees_of_what_is_hun" 209 56) ::
(nat_lit 58,tu #[]) ::
(nat_lit 60,tu #[S "_law_cells_here" 243,S "_law_n" 244,S "_law_pairs" 245,S "_law_count" 246,S "_law_cell" 247,S "_law_many" 248,S "_law_more" 249,S "_law_times" 250]) ::
(nat_lit 61,tu #[]) ::
(nat_lit 63,cc "_law_built" 240 241 242 48 1 58 181 59 (R 60) (R 61) 62 251 252) ::
(nat_lit 64,fu "_law_built" 9 "law_sheetfold_k44_whole_trees_of_what_is_hun" 209 63) ::
(nat_lit 65,tu #[]) ::
(nat_lit 68,cc "_law_strewn" 254 255 256 59 2 65 181 66 N N 67 257 258) ::
(nat_lit 69,fu "_law_strewn" 10 "law_sheetfold_k44_whole_trees_of_what_is_hun" 209 68) ::
(nat_lit 70,tu #[]) ::
(nat_lit 73,cc "_law_cells" 260 261 262 70 1 70 181 71 N N 72 263 264) ::
(nat_lit 74,fu "_law_cells" 11 "law_sheetfold_k44_whole_trees_of_what_is_hun" 209 73) ::
(nat_lit 75,tu #[]) ::
(nat_lit 77,tu #[S "_law_pairs" 269,S "_law_names" 270,S "_law_cell" 271,S "_law_called_here" 272,S "_law_rest" 273,S "_law_k" 274,S "_law_i" 275,S "_law_j" 276,S "_law_turned_about" 277]) ::
(nat_lit 78,tu #[]) ::
(nat_lit 80,cc "_law_called" 266 267 268 75 3 75 181 76 (R 77) (R 78) 79 278 279) ::
(nat_lit 81,fu "_law_called" 12 "law_sheetfold_k44_whole_trees_of_what_is_hun" 209 80) ::
(nat_lit 82,tu #[]) ::
(nat_lit 84,tu #[S "_law_n" 284,S "_law_pairs" 285,S "_law_mine" 286,S "_law_found" 287]) ::
(nat_lit 85,tu #[]) ::
(nat_lit 87,cc "_law_told" 281 282 283 87 2 82 181 83 (R 84) (R 85) 86 288 289) ::
(nat_lit 88,fu "_law_told" 13 "law_sheetfold_k44_whole_trees_of_what_is_hun" 209 87) ::
(nat_lit 89,tu #[]) ::
(nat_lit 91,tu #[S "_law_script" 294,S "_law_n" 295,S "_law_pairs" 296,S "_law_count" 297,S "_law_names" 298,S "_law_called_here" 299,S "_law_strewn_here" 300]) ::
(nat_lit 92,tu #[]) ::
(nat_lit 94,cc "law" 291 292 293 93 1 89 181 90 (R 91) (R 92) 93 301 302) ::
(nat_lit 95,fu "law" 14 "law_sheetfold_k44_whole_trees_of_what_is_hun" 209 94)::[]
noncomputable def kA:List Kd:=[2,3,6,15,17,18,20,21,22,25,26,27,30,31,32,34,35,37,38,39,41,42,44,45,46,48,49,51,52,53,56,57,58,60,61,63,64,65,68,69,70,73,74,75,77,78,80,81,82,84,85,87,88,89,91,92,94,95]
theorem kE (P:US):kA=(KH P).map (·.1):=by kernel_rfl
noncomputable abbrev hk:Hook:=kHook KH kA kE
noncomputable def mkT:List Obj->Nat->BT->BT
 | [],_,t=>t
 | o::os,n,t=>mkT os (n+1) (t.ins n o)
noncomputable abbrev bH (P:US):KI:=boot_heap P
noncomputable def bT (P:US):BT:=mkT (bH P).objs.toList 0 .nil
theorem bA (P:US):absHeap (bT P) (bH P).objs.size (bH P).life=bH P:=by kernel_rfl
theorem qcQ (t:Thread):through t=(endAt 0 t).isSome:=by
 obtain ⟨u,c,p,k⟩:=t
 cases k with
 | cons a k=>rfl
 | nil =>
  cases u with
  | pure f=>cases f<;>rfl
  | _=>rfl
theorem seg0 {tb:String->Option UO}{p:KD}{w:KM}{m:Nat}{an:Option Kc}{f:Flow}{s':Ke}{c:Code}{q:Pos}:∀ {n:Nat} {s:Ke} {t:Thread},segRun tb p w m an 0 n s t=some (f,s',c,q)->topRun tb p w m an n s t=some s':=by
 intro n
 induction n with
 | zero=>exact fun h=>nomatch h
 | succ n ih =>
  intro s t h
  rw [segRun] at h
  rw [topRun,qcQ]
  cases e:endAt 0 t with
  | some g=>rw [e] at h;cases h;rfl
  | none =>
   rw [e] at h
   dsimp only at h ⊢
   cases k:stepOk m an t with
   | false=>rw [k] at h;cases h
   | true =>
    rw [k] at h
    cases g:step (denote tb) p w s t with
    | halt a b=>rw [g] at h;cases h
    | go s2 t2=>rw [g] at h;exact ih h
noncomputable def toK {β:Type}(t:BT):Nat->List Obj->(List Obj->β)->β
 | 0,l,k=>k l
 | n+1,l,k=>match t.get n with
  | some ⟨a,b,c,d⟩=>toK t n (⟨a,b,c,d⟩::l) k
  | none=>toK t n (default::l) k
theorem qeu {β:Type}(t:BT)(k:List Obj->β):∀ (n:Nat) (l:List Obj),toK t n l k=k (t.list n++l):=by
 intro n
 induction n with
 | zero=>exact fun l=>rfl
 | succ n ih =>
  intro l
  have e:t.list (n+1)++l=t.list n++((t.get n).getD default::l):=by
   unfold BT.list
   rw [XD,Vx,VW]
   rfl
  rw [e,toK]
  cases t.get n with
  | none=>exact ih _
  | some o=>exact ih _
def fz {β:Type}(s:SharedT)(k:Ke->β):β:=toK s.tree s.n [] fun l=>k ⟨⟨l.toArray,s.life⟩,s.gens,s.drawn,s.toks,s.os⟩
theorem qcT {β:Type}(s:SharedT)(k:Ke->β):fz s k=k s.abs:=by
 unfold fz
 rw [qeu,Vn]
 rfl
noncomputable abbrev sn (s:Ke):=openSeen vw [] (importedModules PySem.Challenge.pw_sheetfold_k44_whole_trees_of_what_is_hun.main.body) (fun s=>xlAt vw [] s&&recOk (RowW.records (OpenRow.toRowW (OpenLaw.row PySem.Challenge.rw_sheetfold_k44_whole_trees_of_what_is_hun))) s) true s
noncomputable abbrev ck (h:KI)(u:Ke):Bool:=staticsOk (importedModules PySem.Challenge.pw_sheetfold_k44_whole_trees_of_what_is_hun.main.body) h u.heap&&namesBound PySem.Challenge.pw_sheetfold_k44_whole_trees_of_what_is_hun u.heap&&gensDone u&&laidKept h u.heap
noncomputable abbrev bS (w:KM)(os:UP):SharedT:=⟨bT w.params,(bH w.params).objs.size,(bH w.params).life,X0 [],boot_drawn,boot_toks,os⟩
def n1 {A B:Type}:A×B->A|(a,_)=>a
noncomputable def n2 {A B C D:Type}:A×B×C×D->B×C|(_,b,c,_)=>(b,c)
noncomputable def n4 {A B C D E F:Type}:A×B×C×D×E×F->D×E|(_,_,_,d,e,_)=>(d,e)
noncomputable def n6 {A B C D E F G:Type}:A×B×C×D×E×F×G->F|(_,_,_,_,_,f,_)=>f
noncomputable def n7 {A B C D E F G:Type}:A×B×C×D×E×F×G->G|(_,_,_,_,_,_,g)=>g
theorem seven {A B C D E F G:Type}{z x:A×B×C×D×E×F×G}(h1:n1 z=x.1)(h2:n2 z=(x.2.1,x.2.2.1))(h4:n4 z=(x.2.2.2.1,x.2.2.2.2.1))(h6:n6 z=x.2.2.2.2.2.1)(h7:n7 z=x.2.2.2.2.2.2):z=x:=by
 obtain ⟨a,b,c,d,e,i,j⟩:=z
 obtain ⟨a',b',c',d',e',i',j'⟩:=x
 simp only [n1,n2,n4,n6,n7,Prod.mk.injEq] at h1 h2 h4 h6 h7
 obtain ⟨h2,h3⟩:=h2
 obtain ⟨h4,h5⟩:=h4
 subst h1 h2 h3 h4 h5 h6 h7
 rfl
noncomputable abbrev sr (w:KM)(os:UP):=segRunT treeTable PySem.Challenge.pw_sheetfold_k44_whole_trees_of_what_is_hun w (bH w.params).objs.size ((bH w.params).nsMap mainGlobals "__annotations__") 0 940 (bS w os) (topStub PySem.Challenge.pw_sheetfold_k44_whole_trees_of_what_is_hun)
set_option maxHeartbeats 0 in
theorem rc (w:KM)(os:UP):(sr w os).map (fun r=>fz r.2.1 fun u=>ck (bH w.params) u)=some true:=by
 unfold sr
 rw [Vd,Ve]
 kernel_rfl
set_option maxHeartbeats 0 in
theorem rY (w:KM)(os:UP):(sr w os).map (fun r=>fz r.2.1 fun u=>Hook.obs hk u)=some (Hook.val hk w):=by
 unfold sr
 rw [Vd,Ve]
 kernel_rfl
set_option maxHeartbeats 0 in
theorem r1 (w:KM)(os:UP):(sr w os).map (fun r=>fz r.2.1 fun u=>n1 (sn u))=some (openGood vw []).1:=by
 unfold sr sn
 rw [Vd,Ve,VE]
 kernel_rfl
set_option maxHeartbeats 0 in
theorem r2 (w:KM)(os:UP):(sr w os).map (fun r=>fz r.2.1 fun u=>n2 (sn u))=some ((openGood vw []).2.1,(openGood vw []).2.2.1):=by
 unfold sr sn
 rw [Vd,Ve,VE]
 kernel_rfl
set_option maxHeartbeats 0 in
theorem r4 (w:KM)(os:UP):(sr w os).map (fun r=>fz r.2.1 fun u=>n4 (sn u))=some ((openGood vw []).2.2.2.1,(openGood vw []).2.2.2.2.1):=by
 unfold sr sn
 rw [Vd,Ve,VE]
 kernel_rfl
set_option maxHeartbeats 0 in
theorem r6 (w:KM)(os:UP):(sr w os).map (fun r=>fz r.2.1 fun u=>n6 (sn u))=some (openGood vw []).2.2.2.2.2.1:=by
 unfold sr sn
 rw [Vd,Ve,VE]
 kernel_rfl
set_option maxHeartbeats 0 in
theorem r7 (w:KM)(os:UP):(sr w os).map (fun r=>fz r.2.1 fun u=>n7 (sn u))=some (openGood vw []).2.2.2.2.2.2:=by
 unfold sr sn
 rw [Vd,Ve,VE]
 kernel_rfl
theorem pq {A B:Type}{a c:A}{b d:B}(h:a=c)(g:b=d):(a,b)=(c,d):=by rw [h,g]
theorem qbZ {p:KD}{w:KM}{N:Nat}{s s':Ke}(e:fencedOpening treeTable p w N=some s)(tf:topFrom treeTable p w N s=some s'){β:Type}{F:Ke->β}{v:β}(h:F s'=v):(openEnds treeTable p w N).map F=some v:=by
 unfold openEnds
 rw [e]
 show (topFrom treeTable p w N s).map F=some v
 rw [tf,← h]
 rfl
set_option maxHeartbeats 0 in
theorem said:OpenLaw.wellSaid PySem.Challenge.rw_sheetfold_k44_whole_trees_of_what_is_hun=true:=by
 rw [Fast.te9446332074065402090]
 kernel_rfl
theorem left:LeftO PySem.Challenge.pw_sheetfold_k44_whole_trees_of_what_is_hun vw [] (fun s=>xlAt vw [] s&&recOk (RowW.records (OpenRow.toRowW (OpenLaw.row PySem.Challenge.rw_sheetfold_k44_whole_trees_of_what_is_hun))) s) (Hook.obs hk) (Hook.val hk) 940:=fun w=>by
 obtain ⟨s,e,e'⟩:=XO.mp (boot_open (p:=PySem.Challenge.pw_sheetfold_k44_whole_trees_of_what_is_hun) (N:=940) (by kernel_rfl) (by kernel_rfl) (fun s=>by kernel_rfl) w)
 obtain ⟨h,gs,d,k,os⟩:=s
 cases e'
 obtain ⟨⟨f,s',c,q⟩,e1,e2⟩:=XO.mp (rc w os)
 have say:∀ {β:Type} {g:Ke->β} {v:β},(sr w os).map (fun r=>fz r.2.1 g)=some v->g s'.abs=v:=fun {β g v} z=>by
  rw [e1] at z
  exact (qcT s' g).symm.trans (Va z)
 have e2:=(qcT s' _).symm.trans e2
 have e3:=seven (say (r1 w os)) (say (r2 w os)) (say (r4 w os)) (say (r6 w os)) (say (r7 w os))
 have e4:=say (rY w os)
 have e1:=segRun_of e1
 have ab:(bS w os).abs=⟨bH w.params,X0 [],boot_drawn,boot_toks,os⟩:=congrArg (fun z=>(⟨z,X0 [],boot_drawn,boot_toks,os⟩:Ke)) (bA w.params)
 rw [ab] at e1
 have z:((bH w.params).isNs mainGlobals&&(X0 []:Array GenState).size==0)=true:=by kernel_rfl
 have tf:topFrom treeTable PySem.Challenge.pw_sheetfold_k44_whole_trees_of_what_is_hun w 940 ⟨bH w.params,X0 [],boot_drawn,boot_toks,os⟩=some s'.abs:=by
  unfold topFrom
  dsimp only
  rw [z,seg0 e1]
  show (match ck (bH w.params) s'.abs with | true=>some s'.abs|false=>none)=_
  rw [e2]
 exact qbZ e tf (pq e3 e4)
end HD
namespace L2
open PySem PySem.Spec PyProof.Rows
theorem on1 {α:Type}{P:List α->Prop}(h:∀ a0,P [a0]):∀ us:List α,us.length=1->P us:=by
 intro us hl
 cases us with
 |nil=>cases hl
 |cons x0 r0=>
 cases r0 with
 |nil=>exact h _
 |cons=>cases hl
theorem on2 {α:Type}{P:List α->Prop}(h:∀ a0 a1,P [a0,a1]):∀ us:List α,us.length=2->P us:=by
 intro us hl
 cases us with
 |nil=>cases hl
 |cons x0 r0=>
 cases r0 with
 |nil=>cases hl
 |cons x1 r1=>
 cases r1 with
 |nil=>exact h _ _
 |cons=>cases hl
theorem on3 {α:Type}{P:List α->Prop}(h:∀ a0 a1 a2,P [a0,a1,a2]):∀ us:List α,us.length=3->P us:=by
 intro us hl
 cases us with
 |nil=>cases hl
 |cons x0 r0=>
 cases r0 with
 |nil=>cases hl
 |cons x1 r1=>
 cases r1 with
 |nil=>cases hl
 |cons x2 r2=>
 cases r2 with
 |nil=>exact h _ _ _
 |cons=>cases hl
noncomputable abbrev Key:=Sum Int Str
abbrev ba:=Nat×Nat
abbrev aY:=List K1
noncomputable abbrev aX:=List Env
noncomputable abbrev aU:=Array Kc
noncomputable abbrev aT:=Array Nat
abbrev aS:=Nat->Nat->Option Bool
abbrev aR:=Option Kd
noncomputable abbrev aQ:=List Int
noncomputable abbrev aP:=Int->Int->Int
noncomputable abbrev aO:=Option Int
noncomputable abbrev aM:=Option (List Ka)
abbrev aL:=Nat->Int
abbrev aJ:=Kc->Kc->Sem Kc
abbrev aI:=Array (Option Kc)
noncomputable abbrev aH:=List Kr
abbrev aG:=List (Str×Addr)
noncomputable abbrev aF:=Ka->Ka->Option Ka
noncomputable abbrev aD:=Nat->Nat
noncomputable abbrev aB:=Option Ka
noncomputable abbrev aA:=List Str
noncomputable abbrev az:=List Kd
noncomputable abbrev aw:=List Kc
noncomputable abbrev av:=List Ka->Option Ka
abbrev au:=Str->Option Kc
noncomputable abbrev ar:=List Nat
abbrev aq:=Kc->Ke->Prop
noncomputable abbrev ak:=Nat->Nat->Int
noncomputable abbrev aj:=List Ka
noncomputable abbrev ai:=List (Nat×Nat)
noncomputable abbrev ag:=List (Kd×Obj)
def qcV:Key->Kc->Bool
 | .inl k,v=>Value.isInt k v
 | .inr x,v=>Value.isStrOf x v
def keyH (w:KM):Key->Int
 | .inl k=>hashInt k
 | .inr x=>hashStr w x
theorem qW:∀ {k:Key} {v:Kc},qcV k v=true->(∃ i t,k=Sum.inl i/\v=UN i t)\/(∃ x t,k=Sum.inr x/\v=UM x t)
 | .inl i,v,h=>by
  obtain ⟨t,e⟩:=Value.isInt_shape (k:=i) (v:=v) h
  exact .inl ⟨i,t,rfl,e⟩
 | .inr x,v,h=>by
  obtain ⟨t,e⟩:=Value.isStrOf_shape (x:=x) (v:=v) h
  exact .inr ⟨x,t,rfl,e⟩
theorem qdv (a b:Int):decide ((Sum.inl a:Key)=Sum.inl b)=(a==b):=by
 by_cases e:a=b
 ·subst e;simp
 ·have h:¬ (Sum.inl a:Key)=Sum.inl b:=fun q=>e (Sum.inl.inj q)
  rw [decide_eq_false h]
  exact (beq_eq_false_iff_ne.mpr e).symm
theorem qdy (a b:Str):decide ((Sum.inr a:Key)=Sum.inr b)=decide (a=b):=by
 by_cases e:a=b
 ·subst e;simp
 ·have h:¬ (Sum.inr a:Key)=Sum.inr b:=fun q=>e (Sum.inr.inj q)
  rw [decide_eq_false h,decide_eq_false e]
theorem qdw (a:Int)(b:Str):decide ((Sum.inl a:Key)=Sum.inr b)=false:=decide_eq_false (fun q=>nomatch q)
theorem qdx (a:Str)(b:Int):decide ((Sum.inr a:Key)=Sum.inl b)=false:=decide_eq_false (fun q=>nomatch q)
def yo (prog:KD)(w:KM):PySem.KeyKind prog w Key where
 is:=qcV
 hash:=keyH w
 inj:=fun v a b ha hb=>by
  rcases qW ha with ⟨i,t,rfl,rfl⟩|⟨x,t,rfl,rfl⟩
  ·rcases qW hb with ⟨j,u,rfl,e⟩|⟨y,u,rfl,e⟩
   ·injection e with e1 _;rw [e1]
   ·exact nomatch e
  ·rcases qW hb with ⟨j,u,rfl,e⟩|⟨y,u,rfl,e⟩
   ·exact nomatch e
   ·injection e with e1 _;rw [e1]
 byValue:=fun k v h=>by
  rcases qW h with ⟨i,t,rfl,rfl⟩|⟨x,t,rfl,rfl⟩<;>rfl
 pyHash:=fun hv h=>by
  rcases qW hv with ⟨i,t,rfl,rfl⟩|⟨x,t,rfl,rfl⟩
  ·exact wpAny_pyHash_int h
  ·exact wpAny_pyHash_str h
 eqBool:=fun hu hv h=>by
  rcases qW hu with ⟨i,t,rfl,rfl⟩|⟨x,t,rfl,rfl⟩
  ·rcases qW hv with ⟨j,u,rfl,rfl⟩|⟨y,u,rfl,rfl⟩
   ·rw [qdv] at h;exact wpAny_eqBool_int h
   ·rw [qdw] at h;exact SeqAt.EqAt.int_str i t y u _ _ _ _ h
  ·rcases qW hv with ⟨j,u,rfl,rfl⟩|⟨y,u,rfl,rfl⟩
   ·rw [qdx] at h;exact SeqAt.EqAt.str_int x t j u _ _ _ _ h
   ·rw [qdy] at h;exact wpAny_eqBool_str h
 «strs»:=fun k x t v h=>by
  rcases qW h with ⟨i,u,rfl,e⟩|⟨y,u,rfl,e⟩
  ·exact nomatch e
  ·injection e with e1 _
   subst e1
   cases v<;>rfl
inductive V where
 | non|bl (b:Bool)|int (i:Int)|str (x:Str)|byt (b:Array UInt8)|flt (b:UInt64)|ref (a:Kd)|ty (n:String)
 deriving DecidableEq
def RelV:V->Kc->Prop
 | .non,u=>u=VM
 | .bl b,u=>u=Uc b
 | .int i,u=>∃ t,u=UN i t
 | .str x,u=>∃ t,u=UM x t
 | .byt b,u=>∃ t,u=Value.bytes b t
 | .flt b,u=>∃ t,u=Value.float b t
 | .ref a,u=>u=Vh a
 | .ty n,u=>u=VC n
abbrev Vals:List V->List Kc->Prop:=UC RelV
theorem Vals.length {xs:List V}{us:aw}(r:Vals xs us):xs.length=us.length:=Paired.length r
theorem Vals.get:∀ {xs:List V} {us:aw} {i:Nat} {x:V},Vals xs us->xs[i]?=some x->∃ u,us[i]?=some u/\RelV x u
 | _,_,_,_,.nil,e=>by simp at e
 | _,_,0,_,.cons r _,e=>by simp at e;subst e;exact ⟨_,rfl,r⟩
 | _,_,i+1,x,.cons _ t,e=>by
  obtain ⟨u,h1,h2⟩:=Vals.get (i:=i) (x:=x) t (by simpa using e)
  exact ⟨u,by simpa using h1,h2⟩
theorem Vals.set {x:V}{u:Kc}(r:RelV x u):∀ {xs:List V} {us:aw} (i:Nat),Vals xs us->Vals (xs.set i x) (us.set i u)
 | _,_,_,.nil=>.nil
 | _,_,0,.cons _ t=>.cons r t
 | _,_,i+1,.cons q t=>.cons q (Vals.set r i t)
theorem Vals.append {xs ys:List V}{us ws:aw}(h:Vals xs us)(s:Vals ys ws):Vals (xs++ys) (us++ws):=by
 induction h with
 | nil=>exact s
 | cons r _ ih=>exact .cons r ih
theorem Vals.take:∀ {xs:List V} {us:aw} (n:Nat),Vals xs us->Vals (xs.take n) (us.take n)
 | _,_,0,_=>.nil
 | _,_,_+1,.nil=>.nil
 | _,_,n+1,.cons r t=>.cons r (Vals.take n t)
theorem Vals.drop:∀ {xs:List V} {us:aw} (n:Nat),Vals xs us->Vals (xs.drop n) (us.drop n)
 | _,_,0,r=>r
 | _,_,_+1,.nil=>.nil
 | _,_,n+1,.cons _ t=>Vals.drop n t
def RelO:Option V->Option Kc->Prop
 | some v,some u=>RelV v u
 | none,none=>True
 | _,_=>False
def KV {κ:Type}:List (κ×V)->List (κ×Value)->Prop:=UC fun (p:κ×V) (q:κ×Value)=>p.1=q.1/\RelV p.2 q.2
def kV:Key->V
 | .inl i=>.int i
 | .inr x=>.str x
inductive HO where
 | lst (xs:List V)
 | tup (xs:List V)
 | dK (kvs:List (Key×V))|dT (kvs:List (List Key×V))
 | set (S:Int->Bool) (n:Nat)
 | ins (C dx:Kd) (fs:List (Str×V))
 | own (x:Kd)
 | xd (fs:List (Str×V))
 | met (f x:Kd)
 | rng (lo hi:Int)
 | frz (o:Obj) (u:HO)
 | tbl (ps:aU)
 | ext (φ:KI->Prop)
noncomputable abbrev Hp:=Kd->Option HO
def upd (H:Hp)(a:Kd)(o:HO):Hp:=fun b=>if b=a then some o else H b
theorem qM {H:Hp}{a:Kd}{o:HO}:upd H a o a=some o:=by unfold upd;rw [if_pos rfl]
theorem qp {H:Hp}{a b:Kd}{o:HO}(h:b≠a):upd H a o b=H b:=by unfold upd;rw [if_neg h]
theorem zH {H:Hp}{a b:Kd}{o:HO}(h:H a=some o)(h':H b=none):a≠b:=by
 intro e;subst e;rw [h] at h';cases h'
section
variable (P:KD)(w:KM)
def zy (H:Hp)(h:KI)(a:Kd):HO->Prop
 | .lst xs=>xs.length<=sizeLine/\∃ (its:aw) (n:Nat),Vals xs its/\h.get? a=some { cls:=.type "list", data:=.seq its.toArray n }
 | .tup xs=>xs.length<=sizeLine/\∃ its:List Kc,Vals xs its/\IsTup h a its.toArray
 | .dK kvs=>kvs.length<=sizeLine/\(a==sysModules)=false/\∃ vs,KV kvs vs/\h.DictOf (yo P w) a vs
 | .dT kvs=>kvs.length<=sizeLine/\(a==sysModules)=false/\∃ xs:List (List Key×Addr×Value),
   UC (fun (p:List Key×V) (q:List Key×Addr×Value)=>p.1=q.1/\H q.2.1=some (.tup (p.1.map kV))/\RelV p.2 q.2.2) kvs xs/\
   ∃ o es ep,h.get? a=some o/\o.ExactDict/\o.data=.dict es ep/\es.toList=xs.map (entryOfKey (tupleKind (yo P w)))/\(xs.map (·.1)).Nodup
 | .set S n=>h.SetOf (intKind P w) a S n
 | .ins C dx fs=>H dx=some (.own a)/\fs.length<=1000/\dx≠a/\h.get? a=some (XE C dx)/\
   ∃ mA,h.Ns1 dx mA/\(∀ f,RelO (fs.lookup f) (mA f))/\PySem.Within mA (fs.map (·.1))
 | .own _=>∃ o,h.get? a=some o
 | .xd fs=>∃ mA,h.Ns1 a mA/\∀ f,RelO (fs.lookup f) (mA f)
 | .rng lo hi=>∃ t u v,h.get? a=some { cls:=.type "range", data:=.fields #[.int lo t,.int hi u,.int 1 v] }
 | .frz o u=>h.get? a=some o/\zy H h a u
 | .tbl ps=>h.get? a=some { cls:=.none,data:=.fields ps }
 | .met f x=>h.get? a=some (Xc (.ref f) (.ref x))
 | .ext φ=>φ h/\(∃ o,h.get? a=some o)/\∀ h1 h2:KI,φ h1->(∀ o,h1.get? a=some o->h2.get? a=some o)->φ h2
def HOk (H:Hp)(h:KI):Prop:=∀ a o,H a=some o->zy P w H h a o
end
section
variable {P:KD}{w:KM}{H H':Hp}{h h':KI}{a:Kd}{o:HO}
theorem zy.lt (x:zy P w H h a o):a<h.objs.size:=by
 cases o with
 | lst xs=>obtain ⟨_,_,_,_,e⟩:=x;exact Kw e
 | tup xs=>obtain ⟨_,_,_,p⟩:=x;exact p.lt
 | dK kvs=>obtain ⟨_,_,_,_,o,_,_,e,_⟩:=x;exact Kw e
 | dT kvs=>obtain ⟨_,_,_,_,o,_,_,e,_⟩:=x;exact Kw e
 | set S n=>obtain ⟨o,_,_,_,e,_⟩:=x;exact Kw e
 | ins C dx fs=>obtain ⟨_,_,_,e,_⟩:=x;exact Kw e
 | own y=>obtain ⟨_,e⟩:=x;exact Kw e
 | xd fs=>obtain ⟨_,⟨_,_,_,e,_⟩,_⟩:=x;exact Kw e
 | rng lo hi=>obtain ⟨_,_,_,e⟩:=x;exact Kw e
 | frz ob u=>obtain ⟨e,_⟩:=x;exact Kw e
 | tbl ps=>exact Kw (show h.get? a=some _ from x)
 | met f y=>exact Kw (show h.get? a=some _ from x)
 | ext φ=>obtain ⟨_,⟨_,e⟩,_⟩:=x;exact Kw e
theorem Paired.mapP {α β:Type}{F G:α->β->Prop}:∀ {l₁:List α} {l₂:List β},UC F l₁ l₂->(∀ a b,F a b->G a b)->UC G l₁ l₂
 | _,_,.nil,_=>.nil
 | _,_,.cons r t,f=>.cons (f _ _ r) (Paired.mapP t f)
theorem zy.stay (x:zy P w H h a o)(k:∀ b u,(b=a\/H b=some (.own a))->h.get? b=some u->h'.get? b=some u)
  (ho:∀ b,H b=some (.own a)->H' b=some (.own a)) (ht:∀ b xs,H b=some (.tup xs)->H' b=some (.tup xs)):zy P w H' h' a o:=by
 induction o with
 | lst xs=>obtain ⟨z,its,n,r,e⟩:=x;exact ⟨z,its,n,r,k _ _ (.inl rfl) e⟩
 | tup xs=>obtain ⟨z,its,r,ob,e,c⟩:=x;exact ⟨z,its,r,ob,k _ _ (.inl rfl) e,c⟩
 | dK kvs=>obtain ⟨z,y,vs,r,ob,es,ep,e,c⟩:=x;exact ⟨z,y,vs,r,ob,es,ep,k _ _ (.inl rfl) e,c⟩
 | dT kvs =>
  obtain ⟨z,y,xs,r,ob,es,ep,e,c⟩:=x
  exact ⟨z,y,xs,Paired.mapP r fun p q z=>⟨z.1,ht _ _ z.2.1,z.2.2⟩,ob,es,ep,k _ _ (.inl rfl) e,c⟩
 | set S n=>obtain ⟨ob,es,ep,t,e,c⟩:=x;exact ⟨ob,es,ep,t,k _ _ (.inl rfl) e,c⟩
 | ins C dx fs =>
  obtain ⟨d,z,ne,e,mA,⟨od,es,ep,e2,c⟩,r⟩:=x
  exact ⟨ho _ d,z,ne,k _ _ (.inl rfl) e,mA,⟨od,es,ep,k _ _ (.inr d) e2,c⟩,r⟩
 | own y=>obtain ⟨ob,e⟩:=x;exact ⟨ob,k _ _ (.inl rfl) e⟩
 | xd fs=>obtain ⟨mA,⟨od,es,ep,e,c⟩,r⟩:=x;exact ⟨mA,⟨od,es,ep,k _ _ (.inl rfl) e,c⟩,r⟩
 | rng lo hi=>obtain ⟨t,u,v,e⟩:=x;exact ⟨t,u,v,k _ _ (.inl rfl) e⟩
 | frz ob u ih=>obtain ⟨e,q⟩:=x;exact ⟨k _ _ (.inl rfl) e,ih q⟩
 | tbl ps =>
  have e:h.get? a=some { cls:=.none,data:=.fields ps }:=x
  show h'.get? a=some { cls:=.none,data:=.fields ps }
  exact k a _ (.inl rfl) e
 | met f y =>
  have e:h.get? a=some (Xc (.ref f) (.ref y)):=x
  show h'.get? a=some (Xc (.ref f) (.ref y))
  exact k a _ (.inl rfl) e
 | ext φ=>obtain ⟨p,⟨o,e⟩,st⟩:=x;exact ⟨st _ _ p fun o q=>k _ _ (.inl rfl) q,⟨o,k _ _ (.inl rfl) e⟩,st⟩
theorem HOk.lt (x:HOk P w H h)(e:H a=some o):a<h.objs.size:=(x a o e).lt
theorem HOk.fresh (x:HOk P w H h)(e:h.objs.size<=a):H a=none:=by
 cases q:H a with
 | none=>rfl
 | some u=>exact absurd (Ku (x.lt q) e) (VA _)
theorem HOk.kept (x:HOk P w H h)(k:∀ b u,h.get? b=some u->h'.get? b=some u):HOk P w H h':=fun a o e =>
 (x a o e).stay (fun b u _ q=>k b u q) (fun _ q=>q) fun _ _ q=>q
theorem HOk.laid (x:HOk P w H h)(k:∀ b u,h.get? b=some u->h'.get? b=some u)(hp:h.objs.size<=a)(new:zy P w (upd H a o) h' a o):HOk P w (upd H a o) h':=fun b u e=>by
 have hn:=x.fresh hp
 by_cases hb:b=a
 ·subst hb;rw [qM] at e;cases e;exact new
 ·rw [qp hb] at e
  exact (x b u e).stay (fun c v _ q=>k c v q) (fun c q=>by rw [qp (zH q hn)];exact q) fun c xs q=>by rw [qp (zH q hn)];exact q
end
def Rd (H:Hp)(a:Kd)(u:HO):Prop:=H a=some u\/∃ o,H a=some (.frz o u)
theorem Rd.ok {P:KD}{w:KM}{H:Hp}{h:KI}{a:Kd}{u:HO}(r:Rd H a u)(x:HOk P w H h):zy P w H h a u:=by
 rcases r with r|⟨o,r⟩
 ·exact x a u r
 ·obtain ⟨_,q⟩:=x a _ r
  exact q
def Mut:Option HO->Prop
 | some (.lst _)=>True
 | some (.dK _)=>True
 | some (.dT _)=>True
 | some (.set _ _)=>True
 | some (.ins _ _ _)=>True
 | some (.ext _)=>True
 | _=>False
section
variable {P:KD}{w:KM}{H:Hp}{h h':KI}{x e:Kd}{o':HO}
theorem HOk.write (ok:HOk P w H h)(mu:Mut (H x))(he:e=x\/H e=some (.own x))(k:∀ b u,b≠e->h.get? b=some u->h'.get? b=some u)(heo:∃ u,h'.get? e=some u)
  (new:zy P w (upd H x o') h' x o'):HOk P w (upd H x o') h':=fun b u q=>by
 have nown:∀ c y,H c=some (.own y)->c≠x:=fun c y r z=>by subst z;rw [r] at mu;exact mu
 have ntup:∀ c xs,H c=some (.tup xs)->c≠x:=fun c xs r z=>by subst z;rw [r] at mu;exact mu
 by_cases hb:b=x
 ·subst hb;rw [qM] at q;cases q;exact new
 ·rw [qp hb] at q
  by_cases hbe:b=e
  ·have q':H b=some (.own x):=by
    rcases he with z|z
    ·exact absurd (hbe.trans z) hb
    ·rw [hbe];exact z
   rw [q] at q';cases q'
   obtain ⟨v,hv⟩:=heo
   exact ⟨v,by rw [hbe];exact hv⟩
  ·refine (ok b u q).stay (fun c v hc r=>k c v ?_ r) (fun c r=>by rw [qp (nown c b r)];exact r) fun c xs r=>by rw [qp (ntup c xs r)];exact r
   rcases hc with rfl|hc
   ·exact hbe
   ·rintro rfl
    rcases he with z|z
    ·exact nown c b hc z
    ·rw [hc] at z;cases z;exact hb rfl
end
structure Un (fs ex:az)(H H':Hp)(h h':KI):Prop where
 keep:∀ b o,h.get? b=some o->H b=none->b∉fs->b∉ex->h'.get? b=some o
 slot:∀ b o,h.get? b=some o->H b=none->b∈fs->b∉ex->∃ sl,h'.get? b=some { o with slots:=sl }
 free:∀ b o,h.get? b=some o->H b=none->b∉ex->H' b=none
 there:∀ b o,h.get? b=some o->b∉ex->∃ o',h'.get? b=some o'
 tups:∀ b xs,H b=some (.tup xs)->H' b=some (.tup xs)
 frzs:∀ b o u,H b=some (.frz o u)->H' b=some (.frz o u)
 tbls:∀ b ps,H b=some (.tbl ps)->∃ more,H' b=some (.tbl (ps++more))
section
variable {fs fs' ex ex':az}{H H1 H2:Hp}{h h1 h2 h':KI}{a x e:Kd}{o:HO}
theorem Un.any (u:Un fs ex H H1 h h1){b:Kd}{ob:Obj}(q:h.get? b=some ob)(n:H b=none)(hx:b∉ex):∃ sl,h1.get? b=some { ob with slots:=sl }:=by
 by_cases hb:b∈fs
 ·exact u.slot b ob q n hb hx
 ·exact ⟨ob.slots,u.keep b ob q n hb hx⟩
theorem Un.kept (k:∀ b u,h.get? b=some u->h'.get? b=some u):Un fs ex H H h h' :=
 ⟨fun b ob q _ _ _=>k b ob q,fun b ob q _ _ _=>⟨ob.slots,k b ob q⟩,fun _ _ _ n _=>n,fun b ob q _=>⟨ob,k b ob q⟩,fun _ _ q=>q,fun _ _ _ q=>q,fun _ ps q=>⟨#[],by rw [q];simp⟩⟩
theorem Un.refl:Un fs ex H H h h:=Un.kept fun _ _ q=>q
theorem Un.laid (k:∀ b u,h.get? b=some u->h'.get? b=some u)(hp:h.objs.size<=a)(hn:H a=none):Un fs ex H (upd H a o) h h' where
 keep:=fun b u q _ _ _=>k b u q
 slot:=fun b u q _ _ _=>⟨u.slots,k b u q⟩
 free:=fun b u q n _=>by rw [qp (Vj (Ku (Kw q) hp))];exact n
 there:=fun b u q _=>⟨u,k b u q⟩
 tups:=fun b xs q=>by rw [qp (zH q hn)];exact q
 frzs:=fun b u xs q=>by rw [qp (zH q hn)];exact q
 tbls:=fun b ps q=>⟨#[],by rw [qp (zH q hn),q];simp⟩
theorem Un.write (mu:Mut (H x))(he:e=x\/H e=some (.own x))(k:∀ b u,b≠e->h.get? b=some u->h'.get? b=some u)(heo:∃ u,h'.get? e=some u):Un fs ex H (upd H x o) h h':=by
 have hx:∀ b,H b=none->b≠x:=fun b n z=>by subst z;rw [n] at mu;exact mu
 have hb:∀ b,H b=none->b≠e:=fun b n z=>by
  subst z
  rcases he with r|r
  ·exact hx b n r
  ·rw [n] at r;cases r
 have hm:∀ b u,H b=some u->¬ Mut (some u)->b≠x:=fun b u q nm z=>by subst z;rw [q] at mu;exact nm mu
 refine ⟨fun b u q n _ _=>k b u (hb b n) q,fun b u q n _ _=>⟨u.slots,k b u (hb b n) q⟩,fun b u q n _=>by rw [qp (hx b n)];exact n,fun b u q _=>?_,
  fun b xs q=>by rw [qp (hm b _ q fun z=>z)];exact q,fun b u xs q=>by rw [qp (hm b _ q fun z=>z)];exact q,fun b ps q=>⟨#[],by rw [qp (hm b _ q fun z=>z),q];simp⟩⟩
 by_cases hbe:b=e
 ·subst hbe;exact heo
 ·exact ⟨u,k b u hbe q⟩
end
def trk (h:KI)(H:Hp):List Kd:=(Kf h.objs.size).filter fun a=>(H a).isSome
def hidT (h:KI)(H:Hp):KI:=PySem.W.hideAll h (trk h H)
theorem WN (h:KI)(H:Hp):(hidT h H).objs.size=h.objs.size:=PySem.W.hideAll_size _ _
theorem qaI {h:KI}{H:Hp}{b:Kd}{o:Obj}(e:h.get? b=some o)(n:H b=none):(hidT h H).get? b=some o :=
 PySem.W.hideAll_get _ e fun hm=>by
  have q:(H b).isSome=true:=(List.mem_filter.mp hm).2
  rw [n] at q;simp at q
theorem qch {h:KI}{H:Hp}{b:Kd}{o:Obj}(e:(hidT h H).get? b=some o):h.get? b=some o/\H b=none:=by
 have e':h.get? b=some o:=PySem.W.of_hideAll (trk h H) e
 refine ⟨e',?_⟩
 cases q:H b with
 | none=>rfl
 | some x =>
  have hm:b∈trk h H:=List.mem_filter.mpr ⟨KS.mpr (Kw e'),by simp [q]⟩
  have z:(hidT h H).get? b=none:=PySem.W.hideAll_none (trk h H) hm
  rw [z] at e;cases e
structure Mod (K:Kb)(mg:au)(base:KI):Prop where
 kin:K.In base
 glob:base.Ns mainGlobals mg
 blt:∃ mb,base.Ns builtinsNs mb/\∀ x:Str,x ≠ "__name__"->mb x=bootBuiltins x
 nolimit:base.NoLimit
structure Cx where
 prog:KD
 w:KM
 K:Kb
 mg:Str->Option Kc
 base:KI
 A:KU
 N:List Str
 s₀:Ke
 H₀:Hp
 env:Env
 outer:List Env
 stack:List Env
 ex:List Kd
 fn:Str->Bool
 calm:Bool
 pn:List (Kd×Obj)
 xe:Kc->Ke->Prop
def frs (l:aX):List Kd:=l.filterMap (·.frame)
abbrev Cx.fs (X:Cx):List Kd:=frs X.outer
def Vis (sc:K3)(x:Str):Prop:=sc.names.lookup x=some .local\/sc.names.lookup x=some .cell\/sc.names.lookup x=some .free
def Loc (sc:K3)(x:Str):Prop:=sc.names.lookup x=some .local\/sc.names.lookup x=some .cell
def Look (env:Env)(h:KI)(m:au)(x:Str)(u:Kc):Prop :=
 (env.kindOf x=some .local/\m x=some u)\/((env.kindOf x=some .cell\/env.kindOf x=some .free)/\∃ c,env.cells.lookup x=some c/\h.IsCell c (some u))
structure Cx.Ok (X:Cx):Prop where
 mod:Mod X.K X.mg X.base
 kind:X.env.scope.kind=.function
 glob:X.env.globals=mainGlobals
 blt:X.env.builtins=builtinsNs
 above:X.s₀.heap.objs.size<=X.env.locals
 inj:∀ x y c,X.env.cells.lookup x=some c->X.env.cells.lookup y=some c->x=y
 has:∀ x,(X.env.kindOf x=some .cell\/X.env.kindOf x=some .free)->∃ c,X.env.cells.lookup x=some c
 cab:∀ x c,X.fn x=true->X.env.cells.lookup x=some c->X.s₀.heap.objs.size<=c
 hd:X.calm=true->X.A.handled=none
 frames:X.A.frames=some X.stack
 stk:X.stack=X.outer\/(X.stack=X.env::X.outer/\X.env.frame=some X.env.locals)
 exf:∀ b∈X.ex,b≠X.env.locals/\∀ x c,X.env.cells.lookup x=some c->c≠b
 bs:∀ b o,X.base.get? b=some o->X.s₀.heap.get? b=some o/\X.H₀ b=none
 bsz:X.base.objs.size<=X.s₀.heap.objs.size
 noex:∀ b o,X.base.get? b=some o->b∉X.ex
 exfs:∀ b∈X.ex,b∉X.fs
 funs:X.s₀.heap.FunFrames X.base X.outer
 frf:∀ b∈X.fs,X.H₀ b=none
structure Inv (X:Cx)(pins:ag)(σ:List (Option V))(H:Hp)(s:Ke):Prop where
 ok:X.Ok
 os:s.os=X.s₀.os
 bare:UQ s.gens
 base:Un X.fs X.ex X.H₀ H X.s₀.heap s.heap
 loc:∃ m,s.heap.Ns X.env.locals m/\∀ (i:Nat) (x:Str) (v:V),X.N[i]?=some x->σ[i]?=some (some v)->Vis X.env.scope x->∃ u,RelV v u/\Look X.env s.heap m x u
 cell:∀ x c,X.env.cells.lookup x=some c->∃ v,s.heap.IsCell c v
 free:H X.env.locals=none
 freeC:∀ x c,X.env.cells.lookup x=some c->H c=none
 pin:∀ p∈X.pn++pins,s.heap.get? p.1=some p.2/\H p.1=none/\p.1≠X.env.locals/\p.1∉X.fs/\∀ v,p.2.data≠.cell v
 hok:HOk X.prog X.w H s.heap
 len:σ.length=X.N.length
section
variable {X:Cx}{pins:ag}{σ:List (Option V)}{H H':Hp}{s:Ke}{h':KI}
theorem Cx.Ok.nofr (ok:X.Ok){b:Kd}{o:Obj}(e:X.base.get? b=some o):b∉X.fs:=fun hb=>by
 have:=(ok.funs.mem hb).1
 rw [e] at this;cases this
theorem Inv.bs (I:Inv X pins σ H s):∀ b o,X.base.get? b=some o->s.heap.get? b=some o/\H b=none:=fun b o e =>
 ⟨I.base.keep b o (I.ok.bs b o e).1 (I.ok.bs b o e).2 (I.ok.nofr e) (I.ok.noex b o e),I.base.free b o (I.ok.bs b o e).1 (I.ok.bs b o e).2 (I.ok.noex b o e)⟩
theorem Inv.bk (I:Inv X pins σ H s):∀ b o,X.base.get? b=some o->s.heap.get? b=some o:=fun b o e=>(I.bs b o e).1
theorem Inv.mod (I:Inv X pins σ H s):Mod X.K X.mg X.base:=I.ok.mod
theorem Inv.kIn (I:Inv X pins σ H s):X.K.In s.heap:=I.ok.mod.kin.keeps I.bk
theorem Inv.lt (I:Inv X pins σ H s):X.env.locals<s.heap.objs.size:=let ⟨_,hn,_⟩:=I.loc;hn.lt
theorem Inv.sz (I:Inv X pins σ H s):X.s₀.heap.objs.size<=s.heap.objs.size:=K7 I.ok.above (Vk I.lt)
theorem Inv.nofs (I:Inv X pins σ H s){a:Kd}(h:s.heap.objs.size<=a):a∉X.fs:=fun hb=>by
 obtain ⟨_,o,ho,_⟩:=I.ok.funs.mem hb
 exact absurd (Ku (Kw ho) (K7 I.sz h)) (VA _)
theorem Inv.cne (I:Inv X pins σ H s):∀ x c,X.env.cells.lookup x=some c->c≠X.env.locals:=fun x c e z=>by
 obtain ⟨v,o,ho,hd⟩:=I.cell x c e
 obtain ⟨m,⟨o',es,ep,ho',hd',_⟩,_⟩:=I.loc
 rw [z,ho'] at ho;cases ho;rw [hd'] at hd;cases hd
theorem Inv.funs (I:Inv X pins σ H s):s.heap.FunFrames X.base X.outer:=by
 have all:∀ (l:aX),(∀ b∈frs l,b∈X.fs)->X.s₀.heap.FunFrames X.base l->s.heap.FunFrames X.base l:=by
  intro l
  induction l with
  | nil=>intro _ _;trivial
  | cons env r ih =>
   intro hs hl
   obtain ⟨hk,⟨L,o,hf,hn,ho,hd⟩,hr⟩:=hl
   have hL:L∈X.fs:=hs L (by unfold frs;rw [U0,hf];exact K0)
   obtain ⟨sl,e⟩:=I.base.slot L o ho (I.ok.frf L hL) hL fun z=>I.ok.exfs L z hL
   exact ⟨hk,⟨L,_,hf,hn,e,hd⟩,ih (fun b hb=>hs b (by unfold frs;rw [U0,hf];exact KY _ hb)) hr⟩
 exact all X.outer (fun _ hb=>hb) I.ok.funs
theorem Inv.stack (I:Inv X pins σ H s):s.heap.FunFrames X.base X.stack:=by
 rcases I.ok.stk with e|⟨e,hf⟩
 ·rw [e];exact I.funs
 ·rw [e]
  obtain ⟨m,hn,_⟩:=I.loc
  refine .cons (by rw [I.ok.kind];decide) hf hn ?_ I.funs
  exact Heap.get?_none_of_le (K7 I.ok.bsz I.ok.above)
theorem Inv.stkSub (I:Inv X pins σ H s):∀ b∈frs X.stack,b∈X.env.locals::X.fs:=fun b hb=>by
 rcases I.ok.stk with e|⟨e,hf⟩
 ·rw [e] at hb;exact KY _ hb
 ·rw [e] at hb
  unfold frs at hb
  rw [U0,hf] at hb
  exact hb
theorem Inv.stkFree (I:Inv X pins σ H s):∀ b∈frs X.stack,H b=none:=fun b hb=>by
 rcases Ks.mp (I.stkSub b hb) with e|hb
 ·rw [e];exact I.free
 ·obtain ⟨_,o,ho,_⟩:=I.ok.funs.mem hb
  exact I.base.free b o ho (I.ok.frf b hb) fun z=>I.ok.exfs b z hb
theorem Inv.step {g':Array GenState}{t':Nat}{d':Drawn}{ch:az}(I:Inv X pins σ H s)
  (hch:∀ b∈ch,(b∈X.ex\/X.s₀.heap.objs.size<=b)/\b≠X.env.locals/\(∀ x c,X.env.cells.lookup x=some c->c≠b)/\∀ p∈X.pn++pins,p.1≠b)
  (keep:∀ b o,b≠X.env.locals->b∉X.fs->b∉ch->s.heap.get? b=some o->H b=none->h'.get? b=some o)
  (slot:∀ b o,b≠X.env.locals->b∈X.fs->b∉ch->s.heap.get? b=some o->H b=none->∃ sl,h'.get? b=some { o with slots:=sl }) (free:∀ b o,b∉ch->s.heap.get? b=some o->H b=none->H' b=none)
  (there:∀ b o,b∉ch->s.heap.get? b=some o->∃ o',h'.get? b=some o')
  (tups:∀ b xs,H b=some (.tup xs)->H' b=some (.tup xs)) (frzs:∀ b o u,H b=some (.frz o u)->H' b=some (.frz o u)) (tbls:∀ b ps,H b=some (.tbl ps)->∃ more,H' b=some (.tbl (ps++more)))
  (ns:∀ m,s.heap.Ns X.env.locals m->h'.Ns X.env.locals m) (hok:HOk X.prog X.w H' h') (hg:UQ g') :
  Inv X pins σ H' { s with heap:=h',gens:=g',drawn:=d',toks:=t' }:=by
 have neL:∀ b o,X.s₀.heap.get? b=some o->b≠X.env.locals:=fun b o e=>Vj (Ku (Kw e) I.ok.above)
 have neC:∀ b o,X.s₀.heap.get? b=some o->b∉X.ex->b∉ch:=fun b o e hx hb=>by
  rcases (hch b hb).1 with z|z
  ·exact hx z
  ·exact absurd (Ku (Kw e) z) (VA _)
 have cellK:∀ x c,X.env.cells.lookup x=some c->∀ v,s.heap.IsCell c v->h'.IsCell c v:=fun x c e v ⟨o,ho,hd⟩=>by
  have nch:c∉ch:=fun z=>(hch c z).2.2.1 x c e rfl
  by_cases hc:c∈X.fs
  ·obtain ⟨sl,q⟩:=slot c o (I.cne x c e) hc nch ho (I.freeC x c e)
   exact ⟨_,q,hd⟩
  ·exact ⟨o,keep c o (I.cne x c e) hc nch ho (I.freeC x c e),hd⟩
 refine ⟨I.ok,I.os,hg,⟨fun b o e n hb hx=>?_,fun b o e n hb hx=>?_,fun b o e n hx=>?_,fun b o e hx=>?_,fun b xs e=>tups b xs (I.base.tups b xs e),fun b o xs e=>frzs b o xs (I.base.frzs b o xs e),fun b ps e=>?_⟩,?_,fun x c e=>?_,?_,fun x c e=>?_,fun p hp=>?_,hok,I.len⟩
 ·exact keep b o (neL b o e) hb (neC b o e hx) (I.base.keep b o e n hb hx) (I.base.free b o e n hx)
 ·obtain ⟨sl,e1⟩:=I.base.slot b o e n hb hx
  obtain ⟨sl',e2⟩:=slot b _ (neL b o e) hb (neC b o e hx) e1 (I.base.free b o e n hx)
  exact ⟨sl',e2⟩
 ·obtain ⟨o',e1⟩:=I.base.there b o e hx
  exact free b o' (neC b o e hx) e1 (I.base.free b o e n hx)
 ·obtain ⟨o',e1⟩:=I.base.there b o e hx
  exact there b o' (neC b o e hx) e1
 ·obtain ⟨m1,e1⟩:=I.base.tbls b ps e
  obtain ⟨m2,e2⟩:=tbls b _ e1
  exact ⟨m1++m2,by rw [e2,Array.append_assoc]⟩
 ·obtain ⟨m,hn,hl⟩:=I.loc
  refine ⟨m,ns m hn,fun i x v e1 e2 e3=>?_⟩
  obtain ⟨u,r,l⟩:=hl i x v e1 e2 e3
  refine ⟨u,r,?_⟩
  rcases l with l|⟨k,c,e,z⟩
  ·exact .inl l
  ·exact .inr ⟨k,c,e,cellK x c e _ z⟩
 ·obtain ⟨v,z⟩:=I.cell x c e
  exact ⟨v,cellK x c e v z⟩
 ·obtain ⟨m,⟨o,_,_,ho,_⟩,_⟩:=I.loc
  exact free _ o (fun z=>(hch _ z).2.1 rfl) ho I.free
 ·obtain ⟨v,o,ho,hd⟩:=I.cell x c e
  exact free c o (fun z=>(hch c z).2.2.1 x c e rfl) ho (I.freeC x c e)
 ·obtain ⟨e,n,ne,nf,d⟩:=I.pin p hp
  have nch:p.1∉ch:=fun z=>(hch p.1 z).2.2.2 p hp rfl
  exact ⟨keep p.1 p.2 ne nf nch e n,free p.1 p.2 nch e n,ne,nf,d⟩
theorem Inv.un {t':Nat}(I:Inv X pins σ H s)(u:Un X.fs [] H H' s.heap h')(hok:HOk X.prog X.w H' h'):Inv X pins σ H' { s with heap:=h',toks:=t' }:=by
 obtain ⟨m,⟨o,es,ep,ho,r⟩,_⟩:=id I.loc
 obtain ⟨sl,hL⟩:=u.any ho I.free (by simp)
 exact I.step (g':=s.gens) (d':=s.drawn) (ch:=[]) (fun _ z=>nomatch z) (fun b o _ hb _ e n=>u.keep b o e n hb (by simp)) (fun b o _ hb _ e n=>u.slot b o e n hb (by simp)) (fun b o _ e n=>u.free b o e n (by simp)) (fun b o _ e=>u.there b o e (by simp)) u.tups u.frzs u.tbls (fun m' hm=>by
  obtain ⟨o',es',ep',ho',r'⟩:=hm
  rw [ho] at ho';cases ho'
  exact ⟨_,es',ep',hL,r'⟩) hok I.bare
theorem Inv.call {g':Array GenState}{t':Nat}{d':Drawn}{ch:az}(I:Inv X pins σ H s)(u:Un (frs X.stack) ch H H' s.heap h')(hok:HOk X.prog X.w H' h')(hg:UQ g')
  (hch:∀ b∈ch,(b∈X.ex\/X.s₀.heap.objs.size<=b)/\b≠X.env.locals/\(∀ x c,X.env.cells.lookup x=some c->c≠b)/\∀ p∈X.pn++pins,p.1≠b) :
  Inv X pins σ H' { s with heap:=h',gens:=g',drawn:=d',toks:=t' }:=by
 obtain ⟨m,⟨o,es,ep,ho,r⟩,_⟩:=id I.loc
 obtain ⟨sl,hL⟩:=u.any ho I.free fun z=>(hch _ z).2.1 rfl
 exact I.step (ch:=ch) hch (fun b o hL hb hc e n=>u.keep b o e n (fun z=>(Ks.mp (I.stkSub b z)).elim hL hb) hc) (fun b o _ _ hc e n=>u.any e n hc) (fun b o hc e n=>u.free b o e n hc) (fun b o hc e=>u.there b o e hc) u.tups u.frzs u.tbls (fun m' hm=>by
  obtain ⟨o',es',ep',ho',r'⟩:=hm
  rw [ho] at ho';cases ho'
  exact ⟨_,es',ep',hL,r'⟩) hok hg
theorem Inv.turned {t':Nat}{it:Kd}(I:Inv X pins σ H s)(k:∀ b o,b≠it->s.heap.get? b=some o->h'.get? b=some o)(hn:H it=none)(hL:it≠X.env.locals)
  (h1:it∈X.ex\/X.s₀.heap.objs.size<=it) (h2:∀ x c,X.env.cells.lookup x=some c->c≠it) (h3:∀ p∈X.pn++pins,p.1≠it):Inv X pins σ H { s with heap:=h',toks:=t' }:=by
 have nit:∀ b u,H b=some u->b≠it:=fun b u e z=>by rw [z,hn] at e;cases e
 refine I.step (g':=s.gens) (d':=s.drawn) (ch:=[it]) (fun b hb=>?_) (fun b o _ _ hc e _=>k b o (fun z=>hc (by simp [z])) e) (fun b o _ _ hc e _=>⟨o.slots,k b o (fun z=>hc (by simp [z])) e⟩) (fun _ _ _ _ n=>n)
  (fun b o hc e=>⟨o,k b o (fun z=>hc (by simp [z])) e⟩) (fun _ _ e=>e) (fun _ _ _ e=>e) (fun b ps e=>⟨#[],by rw [e];simp⟩) (fun m hm=>?_) (fun b u e=>?_) I.bare
 ·have e:b=it:=by simpa using hb
  subst e
  exact ⟨h1,hL,h2,h3⟩
 ·obtain ⟨o,es,ep,ho,r⟩:=hm
  exact ⟨o,es,ep,k _ o (KN hL) ho,r⟩
 ·refine (I.hok b u e).stay (fun c v hc q=>k c v ?_ q) (fun _ q=>q) fun _ _ q=>q
  rcases hc with z|z
  ·rw [z];exact nit b u e
  ·exact nit c _ z
theorem Inv.tok (I:Inv X pins σ H s)(t:Nat):Inv X pins σ H { s with toks:=t }:=I.un (h':=s.heap) (t':=t) Un.refl I.hok
theorem Inv.kept {t':Nat}(I:Inv X pins σ H s)(k:∀ b u,s.heap.get? b=some u->h'.get? b=some u):Inv X pins σ H { s with heap:=h',toks:=t' }:=I.un (Un.kept k) (I.hok.kept k)
theorem Inv.laid {a:Kd}{o:HO}{t':Nat}(I:Inv X pins σ H s)(k:∀ b u,s.heap.get? b=some u->h'.get? b=some u)(hp:s.heap.objs.size<=a)(new:zy X.prog X.w (upd H a o) h' a o) :
  Inv X pins σ (upd H a o) { s with heap:=h',toks:=t' }:=I.un (Un.laid k hp (I.hok.fresh hp)) (I.hok.laid k hp new)
theorem Inv.write {x e:Kd}{o:HO}{t':Nat}(I:Inv X pins σ H s)(mu:Mut (H x))(he:e=x\/H e=some (.own x))(k:∀ b u,b≠e->s.heap.get? b=some u->h'.get? b=some u)(heo:∃ u,h'.get? e=some u)
  (new:zy X.prog X.w (upd H x o) h' x o):Inv X pins σ (upd H x o) { s with heap:=h',toks:=t' }:=I.un (Un.write mu he k heo) (I.hok.write mu he k heo new)
theorem Inv.pins_of {pins':ag}(I:Inv X pins σ H s)(h:∀ p∈pins',s.heap.get? p.1=some p.2/\H p.1=none/\p.1≠X.env.locals/\p.1∉X.fs/\∀ v,p.2.data≠.cell v):Inv X pins' σ H s :=
 ⟨I.ok,I.os,I.bare,I.base,I.loc,I.cell,I.free,I.freeC,fun p hp=>(Vy.mp hp).elim (fun z=>I.pin p (V0 _ z)) (h p),I.hok,I.len⟩
theorem Yh {N:aA}(hN:N.Nodup){i j:Nat}{x:Str}(a:N[i]?=some x)(b:N[j]?=some x):i=j:=by
 obtain ⟨h1,e1⟩:=Kz.mp a
 obtain ⟨h2,e2⟩:=Kz.mp b
 exact (List.getElem_inj hN).mp (e1.trans e2.symm)
theorem JN {M:Model}{A:KU}{E:aq}{i:Nat}{x:Str}{v:V}{u:Kc}{Q:Unit->Ke->Prop}(I:Inv X pins σ H s)(hN:X.N.Nodup)(hi:X.N[i]?=some x)(hx:Loc X.env.scope x)(r:RelV v u)
  (h:∀ s',Inv X pins (σ.set i (some v)) H s'->(∃ a,Heap.SameBut a s.heap s'.heap/\(a=X.env.locals\/X.env.cells.lookup x=some a))->Q () s') (hf:X.fn x=true\/X.env.scope.names.lookup x=some .local:=by first|exact .inl rfl|exact .inr rfl|assumption):wpAny M A (storeName X.env x u) Q E s:=by
 obtain ⟨m,hn,hl⟩:=id I.loc
 have hcls:(X.env.scope.kind==.class||(X.env.scope.kind==.module&&X.env.locals != X.env.globals))=false:=by rw [I.ok.kind];rfl
 have hiσ:i<σ.length:=by rw [I.len];exact (Kz.mp hi).1
 have cne:=I.cne
 have tracked:∀ {a:Kd} {h':KI},(∃ o,s.heap.get? a=some o/\H a=none)->Heap.SameBut a s.heap h'->HOk X.prog X.w H h':=fun {a h'} ha hs b ob e=>by
  obtain ⟨_,_,hfree⟩:=ha
  refine (I.hok b ob e).stay (fun c w' hc q=>(hs.2 c ?_).trans q) (fun _ q=>q) fun _ _ q=>q
  rintro rfl
  rcases hc with rfl|hc
  ·rw [hfree] at e;cases e
  ·rw [hfree] at hc;cases hc
 rcases hx with hk|hk
 ·refine wpAny_storeName_local hk hn (fun h' hn' hs=>?_) hcls
  obtain ⟨oL,_,_,hoL,_⟩:=id hn
  refine h _ ⟨I.ok,I.os,I.bare,⟨fun b o e n hb hx=>?_,fun b o e n hb hx=>?_,I.base.free,fun b o e hx=>?_,I.base.tups,I.base.frzs,I.base.tbls⟩,⟨_,hn',fun j y v' e1 e2 e3=>?_⟩,fun y c e=>?_,I.free,I.freeC,fun p hp=>?_,tracked ⟨oL,hoL,I.free⟩ hs,by simpa using I.len⟩ ⟨_,hs,.inl rfl⟩
  ·exact (hs.2 b (Vj (Ku (Kw e) I.ok.above))).trans (I.base.keep b o e n hb hx)
  ·obtain ⟨sl,e1⟩:=I.base.slot b o e n hb hx
   exact ⟨sl,(hs.2 b (Vj (Ku (Kw e) I.ok.above))).trans e1⟩
  ·obtain ⟨o',e1⟩:=I.base.there b o e hx
   exact ⟨o',(hs.2 b (Vj (Ku (Kw e) I.ok.above))).trans e1⟩
  ·by_cases hj:j=i
   ·subst hj
    rw [hi] at e1;cases e1
    rw [KZ hiσ] at e2
    cases e2
    exact ⟨u,r,.inl ⟨hk,by simp⟩⟩
   ·rw [V1 (KN hj)] at e2
    obtain ⟨u',r',q⟩:=hl j y v' e1 e2 e3
    refine ⟨u',r',?_⟩
    rcases q with ⟨k,e⟩|⟨k,c,e,z⟩
    ·refine .inl ⟨k,?_⟩
     have:y≠x:=fun e=>hj (Yh hN e1 (e ▸ hi))
     simp [this,e]
    ·exact .inr ⟨k,c,e,z.sameBut hs (cne y c e)⟩
  ·obtain ⟨w',z⟩:=I.cell y c e
   exact ⟨w',z.sameBut hs (cne y c e)⟩
  ·obtain ⟨e,n,ne,nf,d⟩:=I.pin p hp
   exact ⟨(hs.2 p.1 ne).trans e,n,ne,nf,d⟩
 ·have hfn:X.fn x=true:=by
   rcases hf with z|z
   ·exact z
   ·rw [z] at hk;cases hk
  obtain ⟨c,hc⟩:=I.ok.has x (.inl hk)
  obtain ⟨w',z⟩:=I.cell x c hc
  refine wpAny_storeName_cell I.ok.kind hk hc z (fun h' hc' hs=>?_)
  obtain ⟨oc,hoc,hocd⟩:=id z
  refine h { s with heap:=h' } ⟨I.ok,I.os,I.bare,⟨fun b o e n hb hx=>?_,fun b o e n hb hx=>?_,I.base.free,fun b o e hx=>?_,I.base.tups,I.base.frzs,I.base.tbls⟩,⟨m,hn.sameBut hs (KN (cne x c hc)),fun j y v' e1 e2 e3=>?_⟩,fun y c' e=>?_,I.free,I.freeC,fun p hp=>?_,tracked ⟨oc,hoc,I.freeC x c hc⟩ hs,by simpa using I.len⟩ ⟨c,hs,.inr hc⟩
  ·exact (hs.2 b (Vj (Ku (Kw e) (I.ok.cab x c hfn hc)))).trans (I.base.keep b o e n hb hx)
  ·obtain ⟨sl,e1⟩:=I.base.slot b o e n hb hx
   exact ⟨sl,(hs.2 b (Vj (Ku (Kw e) (I.ok.cab x c hfn hc)))).trans e1⟩
  ·obtain ⟨o',e1⟩:=I.base.there b o e hx
   exact ⟨o',(hs.2 b (Vj (Ku (Kw e) (I.ok.cab x c hfn hc)))).trans e1⟩
  ·by_cases hj:j=i
   ·subst hj
    rw [hi] at e1;cases e1
    rw [KZ hiσ] at e2
    cases e2
    exact ⟨u,r,.inr ⟨.inl hk,c,hc,hc'⟩⟩
   ·rw [V1 (KN hj)] at e2
    obtain ⟨u',r',q⟩:=hl j y v' e1 e2 e3
    refine ⟨u',r',?_⟩
    rcases q with q|⟨k,c',e,z'⟩
    ·exact .inl q
    ·refine .inr ⟨k,c',e,z'.sameBut hs ?_⟩
     rintro rfl
     exact hj (Yh hN e1 (I.ok.inj _ _ _ e hc ▸ hi))
  ·by_cases hcc:c'=c
   ·subst hcc;exact ⟨_,hc'⟩
   ·obtain ⟨w2,z2⟩:=I.cell y c' e
    exact ⟨w2,z2.sameBut hs hcc⟩
  ·obtain ⟨e,n,ne,nf,d⟩:=I.pin p hp
   refine ⟨(hs.2 p.1 ?_).trans e,n,ne,nf,d⟩
   intro q
   rw [q,hoc] at e
   have q':oc=p.2:=Va e
   exact d w' (by rw [← q'];exact hocd)
theorem Yw {M:Model}{A:KU}{E:aq}{i:Nat}{x:Str}{v:V}{u:Kc}{Q:Unit->Ke->Prop}(I:Inv X pins σ H s)(hN:X.N.Nodup)(hi:X.N[i]?=some x)(hx:Loc X.env.scope x)(r:RelV v u)
  (h:∀ s',Inv X pins (σ.set i (some v)) H s'->Q () s') (hf:X.fn x=true\/X.env.scope.names.lookup x=some .local:=by first|exact .inl rfl|exact .inr rfl|assumption):wpAny M A (storeName X.env x u) Q E s :=
 JN I hN hi hx r (fun s' I' _=>h s' I') hf
theorem Inv.call' {s':Ke}{ch:az}(I:Inv X pins σ H s)(ho:s'.os=s.os)(u:Un (frs X.stack) ch H H' s.heap s'.heap)(hok:HOk X.prog X.w H' s'.heap)(hg:UQ s'.gens)
  (hch:∀ b∈ch,(b∈X.ex\/X.s₀.heap.objs.size<=b)/\b≠X.env.locals/\(∀ x c,X.env.cells.lookup x=some c->c≠b)/\∀ p∈X.pn++pins,p.1≠b):Inv X pins σ H' s':=by
 obtain ⟨h',g',d',t',o'⟩:=s'
 have e:o'=s.os:=ho
 subst e
 exact I.call (g':=g') (t':=t') (d':=d') u hok hg hch
end
abbrev XK:=Kc->Option Kd->Hp->Prop
noncomputable abbrev St:=List (Option V)
abbrev VK:=V->Hp->Prop
abbrev aZ:=List V->Hp->VK->Prop
abbrev aW:=V->List V->Hp->VK->Prop
abbrev aK:=V->Option Int->Option Int->Hp->VK->Prop
abbrev TE:=St->Hp->VK->Prop
abbrev TT:=St->Hp->(Bool->Hp->Prop)->Prop
abbrev TA:=St->Hp->(List V->Hp->Prop)->Prop
structure Ends where
 nx:St->Hp->Prop
 rt:VK
 bk:St->Hp->Prop:=fun _ _=>False
 ct:St->Hp->Prop:=fun _ _=>False
abbrev TS:=Ends->St->Hp->Prop
def EP (X:Cx)(pins:ag)(σ:St)(Q:VK)(u:Kc)(s':Ke):Prop:=∃ v H',Inv X pins σ H' s'/\RelV v u/\Q v H'
def TP (X:Cx)(pins:ag)(σ:St)(Q:Bool->Hp->Prop)(b:Bool)(s':Ke):Prop:=∃ H',Inv X pins σ H' s'/\Q b H'
def AP (X:Cx)(pins:ag)(σ:St)(Q:List V->Hp->Prop)(us:aw)(s':Ke):Prop:=∃ vs H',Inv X pins σ H' s'/\Vals vs us/\Q vs H'
def SP (X:Cx)(pins:ag)(D:Ends)(f:Flow)(s':Ke):Prop :=
 match f with
 | .next=>∃ σ' H',Inv X pins σ' H' s'/\D.nx σ' H'
 | .brk=>∃ σ' H',Inv X pins σ' H' s'/\D.bk σ' H'
 | .cont=>∃ σ' H',Inv X pins σ' H' s'/\D.ct σ' H'
 | .ret u=>∃ v σ' H',Inv X pins σ' H' s'/\RelV v u/\D.rt v H'
def PE (X:Cx)(e:Kr)(t:TE):Prop :=
 ∀ (pins:ag) (s:Ke) (σ:St) (H:Hp) (Q:VK),Inv X pins σ H s->t σ H Q->wpAny (model X.prog X.w) X.A (eval e X.env) (EP X pins σ Q) X.xe s
def PT (X:Cx)(e:Kr)(t:TT):Prop :=
 ∀ (pins:ag) (s:Ke) (σ:St) (H:Hp) (Q:Bool->Hp->Prop),Inv X pins σ H s->t σ H Q->wpAny (model X.prog X.w) X.A (isTrue e X.env (eval e X.env)) (TP X pins σ Q) X.xe s
def PW (X:Cx)(e:Kr)(t:TT):Prop :=
 ∀ (whole:Sem Kc) (pins:ag) (s:Ke) (σ:St) (H:Hp) (Q:Bool->Hp->Prop),Inv X pins σ H s->t σ H Q->wpAny (model X.prog X.w) X.A (isTrue e X.env whole) (TP X pins σ Q) X.xe s
theorem PW.pt {X:Cx}{e:Kr}{t:TT}(h:PW X e t):PT X e t:=h _
def PA (X:Cx)(es:aH)(t:TA):Prop :=
 ∀ (pos:Pos) (pins:ag) (s:Ke) (σ:St) (H:Hp) (Q:List V->Hp->Prop),Inv X pins σ H s->t σ H Q->wpAny (model X.prog X.w) X.A (spliced (backTo pos (starEach es X.env))) (AP X pins σ Q) X.xe s
def PS (X:Cx)(st:K1)(t:TS):Prop :=
 ∀ (pins:ag) (s:Ke) (σ:St) (H:Hp) (D:Ends),Inv X pins σ H s->t D σ H->wpAny (model X.prog X.w) X.A (exec st X.env) (SP X pins D) X.xe s
def PSs (X:Cx)(st:aY)(t:TS):Prop :=
 ∀ (pins:ag) (s:Ke) (σ:St) (H:Hp) (D:Ends),Inv X pins σ H s->t D σ H->wpAny (model X.prog X.w) X.A (execs st X.env) (SP X pins D) X.xe s
theorem thn {α:Type}{t:Sem α}{Q Q':α->Ke->Prop}{M:Model}{A:KU}{E:aq}{s:Ke}(h:wpAny M A t Q E s)(hQ:∀ a s,Q a s->Q' a s):wpAny M A t Q' E s:=VF h hQ fun _ _ x=>x
section
variable {X:Cx}
def tVar (i:Nat):TE:=fun σ H Q=>∃ v,σ[i]?=some (some v)/\Q v H
def tC (v:V):TE:=fun _ H Q=>Q v H
theorem qbb {i:Nat}{x:Str}{pos:Pos}(hN:X.N[i]?=some x)(hv:Vis X.env.scope x)(hd:(x==("__debug__" : Str))=false:=by decide)(hcd:(x==("__classdict__" : Str))=false:=by decide):PE X (.Name x pos) (tVar i):=by
 intro pins s σ H Q I h
 obtain ⟨v,e,h⟩:=h
 obtain ⟨m,hn,hl⟩:=I.loc
 obtain ⟨u,r,l⟩:=hl i x v hN e hv
 have fin:EP X pins σ Q u s:=⟨v,H,I,r,h⟩
 rcases l with ⟨hk,hm⟩|⟨hk,c,hc,hcell⟩
 ·exact wpAny_Name (wpAny_loadName_local I.ok.kind hk hn hm fin) hd
 ·rcases hk with hk|hk
  ·exact wpAny_Name (wpAny_loadName_cell I.ok.kind hk hc hcell fin) hd
  ·exact wpAny_Name (wpAny_loadName_free I.ok.kind hk hc hcell fin hcd) hd
theorem qdU {i j pos}:PE X (.Constant (.int i) j pos) (tC (.int i)):=fun _ _ _ H _ I h=>wpAny_Constant_int ⟨.int i,H,I.tok _,⟨_,rfl⟩,h⟩
theorem pe_bl {b j pos}:PE X (.Constant (.bool b) j pos) (tC (.bl b)):=fun _ _ _ H _ I h=>Constant_bool ⟨.bl b,H,I,rfl,h⟩
def Gl (X:Cx)(x:Str):Prop:=X.env.kindOf x=some .globalImplicit
theorem qb9 {E:aq}{pins:ag}{s:Ke}{σ:St}{H:Hp}{x:Str}{u:Kc}{pos:Pos}{Q:aq}(I:Inv X pins σ H s)(hg:Gl X x)(hm:X.mg x=some u)(h:Q u s)
  (hd:(x==("__debug__" : Str))=false:=by decide):wpAny (model X.prog X.w) X.A (eval (.Name x pos) X.env) Q E s :=
 Calls.Name_function_global I.ok.kind hg (Calls.loadGlobal_global (by rw [I.ok.glob];exact I.mod.glob.keeps I.bk) hm h) hd
theorem QT {E:aq}{pins:ag}{s:Ke}{σ:St}{H:Hp}{x:Str}{u:Kc}{pos:Pos}{Q:aq}(I:Inv X pins σ H s)(hg:Gl X x)(hm:X.mg x=none)(hv:bootBuiltins x=some u)(h:Q u s)
  (hn:x ≠ "__name__" := by decide) (hd:(x==("__debug__" : Str))=false:=by decide):wpAny (model X.prog X.w) X.A (eval (.Name x pos) X.env) Q E s:=by
 obtain ⟨mb,h1,h2⟩:=I.mod.blt
 exact Calls.Name_function_global I.ok.kind hg (Calls.loadGlobal_builtin (by rw [I.ok.glob];exact I.mod.glob.keeps I.bk) hm (by rw [I.ok.blt];exact h1.keeps I.bk) ((h2 x hn).trans hv) h) hd
theorem qcu {x:Str}{v:V}{u:Kc}{pos:Pos}(hg:Gl X x)(hm:X.mg x=none)(hv:bootBuiltins x=some u)(r:RelV v u)(hn:x ≠ "__name__" := by decide)(hd:(x==("__debug__" : Str))=false:=by decide):PE X (.Name x pos) (tC v) :=
 fun _ _ _ H _ I h=>QT I hg hm hv ⟨v,H,I,r,h⟩ hn hd
variable {a b:Kr}{ta tb:TE}{pos:Pos}
def tB (t:TE):TT:=fun σ H Q=>t σ H fun x H1=>∃ c,x=.bl c/\Q c H1
theorem qd5 {e:Kr}{t:TE}(h:PE X e t)(he:∀ whole,isTrue e X.env whole=(do let v ← whole;standAt e.pos;holding [v] (truthy v)):=by intro _;rfl):PT X e (tB t):=by
 intro pins s σ H Q I hw
 refine isTrue_plain (thn (h pins s σ H _ I hw) fun v s1 ⟨x,H1,I1,r1,q1⟩=>?_) (he _)
 obtain ⟨d,rfl,q⟩:=q1
 cases r1
 exact VX ⟨H1,I1,q⟩
variable {tA tB':TT}{rest:aH}
def tAnd (t u:TT):TT:=fun σ H Q=>t σ H fun c H1=>if c=true then u σ H1 Q else Q false H1
def tOr (t u:TT):TT:=fun σ H Q=>t σ H fun c H1=>if c=true then Q true H1 else u σ H1 Q
def tNot (t:TT):TT:=fun σ H Q=>t σ H fun c H1=>Q (!c) H1
theorem qcG (ha:PT X a tA):PW X (.BoolOp .And [a] pos) tA:=by
 intro wh pins s σ H Q I h
 refine isTrue_and (thn (ha pins s σ H Q I h) fun c s1 e=>?_)
 cases c with
 | true=>exact isTrue_and_nil e
 | false=>exact e
theorem qd7 (ha:PT X a tA):PW X (.BoolOp .Or [a] pos) tA:=by
 intro wh pins s σ H Q I h
 refine isTrue_or (thn (ha pins s σ H Q I h) fun c s1 e=>?_)
 cases c with
 | false=>exact isTrue_or_nil e
 | true=>exact e
theorem qd6 (ha:PT X a tA)(hb:PW X (.BoolOp .And (b::rest) pos) tB'):PW X (.BoolOp .And (a::b::rest) pos) (tAnd tA tB'):=by
 intro wh pins s σ H Q I h
 refine isTrue_and (thn (ha pins s σ H _ I h) fun c s1 ⟨H1,I1,q1⟩=>?_)
 cases c with
 | true=>exact hb wh pins s1 σ H1 Q I1 q1
 | false=>exact ⟨H1,I1,q1⟩
theorem pw_or (ha:PT X a tA)(hb:PW X (.BoolOp .Or (b::rest) pos) tB'):PW X (.BoolOp .Or (a::b::rest) pos) (tOr tA tB'):=by
 intro wh pins s σ H Q I h
 refine isTrue_or (thn (ha pins s σ H _ I h) fun c s1 ⟨H1,I1,q1⟩=>?_)
 cases c with
 | true=>exact ⟨H1,I1,q1⟩
 | false=>exact hb wh pins s1 σ H1 Q I1 q1
theorem qd4 (ha:PT X a tA):PT X (.UnaryOp .Not a pos) (tNot tA):=by
 intro pins s σ H Q I h
 exact isTrue_not (ha pins s σ H (fun c H1=>Q (!c) H1) I h)
def tAndV (ta tb:TE):TE:=fun σ H Q=>ta σ H fun x H1=>∃ c,x=.bl c/\if c=true then tb σ H1 Q else Q (.bl false) H1
def tOrV (ta tb:TE):TE:=fun σ H Q=>ta σ H fun x H1=>∃ c,x=.bl c/\if c=true then Q (.bl true) H1 else tb σ H1 Q
def tNotV (ta:TE):TE:=fun σ H Q=>ta σ H fun x H1=>∃ c,x=.bl c/\Q (.bl (!c)) H1
theorem qdW {op}{t:TE}(h:PE X a t):PE X (.BoolOp op [a] pos) t:=fun pins s σ H Q I hw=>BoolOp_one (h pins s σ H Q I hw)
theorem qdT (ha:PE X a ta)(hb:PE X (.BoolOp .And (b::rest) pos) tb):PE X (.BoolOp .And (a::b::rest) pos) (tAndV ta tb):=by
 intro pins s σ H Q I h
 refine BoolOp_and (thn (ha pins s σ H _ I h) fun v s1 ⟨x,H1,I1,r1,q1⟩=>?_)
 obtain ⟨c,rfl,q1⟩:=q1
 cases r1
 refine VX ?_
 cases c with
 | true=>exact hb pins s1 σ H1 Q I1 q1
 | false=>exact ⟨.bl false,H1,I1,rfl,q1⟩
theorem pe_or (ha:PE X a ta)(hb:PE X (.BoolOp .Or (b::rest) pos) tb):PE X (.BoolOp .Or (a::b::rest) pos) (tOrV ta tb):=by
 intro pins s σ H Q I h
 refine BoolOp_or (thn (ha pins s σ H _ I h) fun v s1 ⟨x,H1,I1,r1,q1⟩=>?_)
 obtain ⟨c,rfl,q1⟩:=q1
 cases r1
 refine VX ?_
 cases c with
 | false=>exact hb pins s1 σ H1 Q I1 q1
 | true=>exact ⟨.bl true,H1,I1,rfl,q1⟩
theorem qdV (ha:PE X a ta):PE X (.UnaryOp .Not a pos) (tNotV ta):=by
 intro pins s σ H Q I h
 refine UnaryOp_ (thn (ha pins s σ H _ I h) fun v s1 ⟨x,H1,I1,r1,q1⟩=>?_)
 obtain ⟨c,rfl,q1⟩:=q1
 cases r1
 exact not_of (VX ⟨.bl (!c),H1,I1,rfl,q1⟩)
end
def SqL (K:Kb)(H:Hp)(a:Kd)(xs:List V):Prop :=
 Rd H a (.lst xs)\/
  ∃ (o:Obj) (its:aU) (n:Nat),K.lookup a=some o/\o.cls=.type "list"/\o.dict=none/\o.data=.seq its n/\its.size<=sizeLine/\Vals xs its.toList
def SqT (K:Kb)(H:Hp)(a:Kd)(xs:List V):Prop :=
 Rd H a (.tup xs)\/
  ∃ (o:Obj) (its:aU) (n:Nat),K.lookup a=some o/\o.cls=.type "tuple"/\o.data=.seq its n/\its.size<=sizeLine/\Vals xs its.toList
noncomputable def absV:Kc->Option V
 | .none=>some .non
 | .bool b=>some (.bl b)
 | .int i _=>some (.int i)
 | .str x _=>some (.str x)
 | .bytes b _=>some (.byt b)
 | .float b _=>some (.flt b)
 | .ref a=>some (.ref a)
 | .type n=>some (.ty n)
 | _=>none
theorem RelV.abs {x:V}{u:Kc}(r:RelV x u):absV u=some x:=by
 cases x with
 | non=>cases r;rfl
 | bl _=>cases r;rfl
 | int _=>obtain ⟨t,rfl⟩:=r;rfl
 | str _=>obtain ⟨t,rfl⟩:=r;rfl
 | byt _=>obtain ⟨t,rfl⟩:=r;rfl
 | flt _=>obtain ⟨t,rfl⟩:=r;rfl
 | ref _=>cases r;rfl
 | ty _=>cases r;rfl
theorem RelV.inj {x y:V}{u:Kc}(r:RelV x u)(q:RelV y u):x=y:=Va (r.abs.symm.trans q.abs)
theorem Vals.inj {xs ys:List V}{us:aw}(h:Vals xs us)(g:Vals ys us):xs=ys:=by
 induction h generalizing ys with
 | nil=>cases g;rfl
 | cons r _ ih =>
  cases g with
  | cons r' t'=>rw [r.inj r',ih t']
section
variable {X:Cx}{pins:ag}{σ:St}{H:Hp}{s:Ke}{a:Kd}{xs ys:List V}
theorem SqL.of {K:Kb}(h:H a=some (.lst xs)):SqL K H a xs:=.inl (.inl h)
theorem SqT.of {K:Kb}(h:H a=some (.tup xs)):SqT K H a xs:=.inl (.inl h)
theorem Inv.list (I:Inv X pins σ H s)(h:SqL X.K H a xs):∃ its:List Kc,Vals xs its/\PlainL s.heap a its.toArray/\xs.length<=sizeLine:=by
 rcases h with h|⟨o,its,n,hk,hc,hd,hs,hz,r⟩
 ·obtain ⟨z,its,n,r,e⟩:=h.ok I.hok
  exact ⟨its,r,⟨_,n,e,rfl,rfl,rfl⟩,z⟩
 ·refine ⟨its.toList,r,⟨o,n,I.kIn a o hk,hc,hd,by simpa using hs⟩,?_⟩
  have e:=r.length
  simp only [Ky] at e
  omega
theorem Inv.tuple (I:Inv X pins σ H s)(h:SqT X.K H a xs):∃ its:List Kc,Vals xs its/\IsTup s.heap a its.toArray/\xs.length<=sizeLine:=by
 rcases h with h|⟨o,its,n,hk,hc,hs,hz,r⟩
 ·obtain ⟨z,its,r,p⟩:=h.ok I.hok
  exact ⟨its,r,p,z⟩
 ·refine ⟨its.toList,r,⟨o,I.kIn a o hk,hc,n,by simpa using hs⟩,?_⟩
  have e:=r.length
  simp only [Ky] at e
  omega
theorem Inv.list_inj (I:Inv X pins σ H s)(h:SqL X.K H a xs)(h':SqL X.K H a ys):xs=ys:=by
 obtain ⟨its,r,⟨o,n,e,_,_,d⟩,_⟩:=I.list h
 obtain ⟨its',r',⟨o',n',e',_,_,d'⟩,_⟩:=I.list h'
 rw [e] at e';cases e'
 rw [d] at d'
 injection d' with d1 _
 have:its=its':=by simpa using congrArg Array.toList d1
 subst this
 exact r.inj r'
theorem Inv.tuple_inj (I:Inv X pins σ H s)(h:SqT X.K H a xs)(h':SqT X.K H a ys):xs=ys:=by
 obtain ⟨its,r,⟨o,e,_,n,d⟩,_⟩:=I.tuple h
 obtain ⟨its',r',⟨o',e',_,n',d'⟩,_⟩:=I.tuple h'
 rw [e] at e';cases e'
 rw [d] at d'
 injection d' with d1 _
 have:its=its':=by simpa using congrArg Array.toList d1
 subst this
 exact r.inj r'
end
noncomputable abbrev Cx.wish (X:Cx)(E:aq):Cx:={ X with xe:=E }
abbrev Cx.nox (X:Cx):Cx:=X.wish fun _ _=>False
theorem Cx.Ok.wish {X:Cx}(ok:X.Ok)(E:aq):(X.wish E).Ok :=
 ⟨ok.mod,ok.kind,ok.glob,ok.blt,ok.above,ok.inj,ok.has,ok.cab,ok.hd,ok.frames,ok.stk,ok.exf,ok.bs,ok.bsz,ok.noex,ok.exfs,ok.funs,ok.frf⟩
theorem Cx.Ok.unwish {X:Cx}{E:aq}(ok:(X.wish E).Ok):X.Ok :=
 ⟨ok.mod,ok.kind,ok.glob,ok.blt,ok.above,ok.inj,ok.has,ok.cab,ok.hd,ok.frames,ok.stk,ok.exf,ok.bs,ok.bsz,ok.noex,ok.exfs,ok.funs,ok.frf⟩
section
variable {X:Cx}{pins:ag}{σ:St}{H:Hp}{s:Ke}{E:aq}
theorem Inv.wish (I:Inv X pins σ H s)(E:aq):Inv (X.wish E) pins σ H s:=⟨I.ok.wish E,I.os,I.bare,I.base,I.loc,I.cell,I.free,I.freeC,I.pin,I.hok,I.len⟩
theorem Inv.unwish (I:Inv (X.wish E) pins σ H s):Inv X pins σ H s:=⟨I.ok.unwish,I.os,I.bare,I.base,I.loc,I.cell,I.free,I.freeC,I.pin,I.hok,I.len⟩
theorem SP.unwish {D:Ends}{f:Flow}{s':Ke}(h:SP (X.wish E) pins D f s'):SP X pins D f s':=by
 cases f with
 | next=>obtain ⟨σ',H',I,q⟩:=h;exact ⟨σ',H',I.unwish,q⟩
 | brk=>obtain ⟨σ',H',I,q⟩:=h;exact ⟨σ',H',I.unwish,q⟩
 | cont=>obtain ⟨σ',H',I,q⟩:=h;exact ⟨σ',H',I.unwish,q⟩
 | ret u=>obtain ⟨v,σ',H',I,r,q⟩:=h;exact ⟨v,σ',H',I.unwish,r,q⟩
theorem PSs.nox {st:aY}{t:TS}(h:PSs X.nox st t):PSs X st t:=fun pins s σ H D I hw =>
 VF (h pins s σ H D (I.wish _) hw) (fun _ _ q=>q.unwish) fun _ _ z=>V2 z
end
section
variable {X:Cx}{st:K1}{rest:aY}{t u:TS}{e:Kr}{te:TE}{pos:Pos}
def tNext:TS:=fun D σ H=>D.nx σ H
def tSeq (t u:TS):TS:=fun D σ H=>t { D with nx:=u D } σ H
theorem qcC:PSs X [] tNext:=fun _ _ σ H _ I h=>UT ⟨σ,H,I,h⟩
theorem qbk (h1:PS X st t)(h2:PSs X rest u):PSs X (st::rest) (tSeq t u):=by
 intro pins s σ H D I h
 refine wpAny_execs_cons (thn (h1 pins s σ H { D with nx:=u D } I h) fun f s1 q=>?_)
 cases f with
 | next =>
  obtain ⟨σ',H',I',q⟩:=q
  exact h2 pins s1 σ' H' D I' q
 | ret v=>exact q
 | brk=>exact q
 | cont=>exact q
theorem qcD (h1:PS X st t):PSs X [st] t:=by
 intro pins s σ H D I h
 refine wpAny_execs_cons (thn (h1 pins s σ H D I h) fun f s1 q=>?_)
 cases f with
 | next=>exact UT q
 | ret v=>exact q
 | brk=>exact q
 | cont=>exact q
theorem Inv.quiet {pins:ag}{σ:St}{H:Hp}{s:Ke}(I:Inv X pins σ H s):interactive X.env=false:=by simp [interactive,I.ok.kind]
def tDrop (te:TE):TS:=fun D σ H=>te σ H fun _ H1=>D.nx σ H1
theorem Wn (he:PE X e te)(hs:swapsWith e none pos.line X.env=pure false:=by rfl):PS X (.Expr e pos) (tDrop te):=by
 intro pins s σ H D I h
 exact wpAny_Expr_any (thn (he pins s σ H _ I h) fun v s1 ⟨x,H1,I1,r1,q1⟩=>⟨σ,H1,I1,q1⟩) I.quiet hs
def tRet (te:TE):TS:=fun D σ H=>te σ H D.rt
theorem qd3 (he:PE X e te):PS X (.Return (some e) pos) (tRet te):=by
 intro pins s σ H D I h
 exact wpAny_Return_some (thn (he pins s σ H _ I h) fun v s1 ⟨x,H1,I1,r1,q1⟩=>⟨x,σ,H1,I1,r1,q1⟩)
def tIfS (c:TT)(t u:TS):TS:=fun D σ H=>c σ H fun b H1=>if b=true then t D σ H1 else u D σ H1
theorem ps_if {c:Kr}{a b:aY}{tc:TT}(hc:PT X c tc)(ha:PSs X a t)(hb:PSs X b u):PS X (.If c a b pos) (tIfS tc t u):=by
 intro pins s σ H D I h
 refine wpAny_If (thn (hc pins s σ H _ I h) fun d s1 ⟨H1,I1,q1⟩=>?_)
 cases d with
 | true=>exact ha pins s1 σ H1 D I1 q1
 | false=>exact hb pins s1 σ H1 D I1 q1
end
abbrev TG:=V->St->Hp->(St->Hp->Prop)->Prop
abbrev TGs:=List V->St->Hp->(St->Hp->Prop)->Prop
def PG (X:Cx)(target:Kr)(t:TG):Prop :=
 ∀ (pins:ag) (s:Ke) (σ:St) (H:Hp) (v:V) (u:Kc) (Q:St->Hp->Prop),Inv X pins σ H s->RelV v u->t v σ H Q->
  wpAny (model X.prog X.w) X.A (assign target X.env u) (fun _ s'=>∃ σ' H',Inv X pins σ' H' s'/\Q σ' H') X.xe s
def PGs (X:Cx)(ts:aH)(t:TGs):Prop :=
 ∀ (pins:ag) (s:Ke) (σ:St) (H:Hp) (vs:List V) (us:aw) (Q:St->Hp->Prop),Inv X pins σ H s->Vals vs us->t vs σ H Q->
  wpAny (model X.prog X.w) X.A (assignInOrder ((assignEach ts X.env).map (·.2)) us) (fun _ s'=>∃ σ' H',Inv X pins σ' H' s'/\Q σ' H') X.xe s
abbrev TSet:=V->V->V->Hp->(Hp->Prop)->Prop
def PSet (X:Cx)(t:TSet):Prop :=
 ∀ (pins:ag) (s:Ke) (σ:St) (H:Hp) (o i v:V) (ov iv u:Kc) (Q:Hp->Prop),Inv X pins σ H s->RelV o ov->RelV i iv->RelV v u->t o i v H Q->
  wpAny (model X.prog X.w) X.A (setItem ov iv u) (fun _ s'=>∃ H',Inv X pins σ H' s'/\Q H') X.xe s
abbrev TIp:=V->V->Hp->VK->Prop
def PIp (X:Cx)(op:Operator)(t:TIp):Prop :=
 ∀ (pins:ag) (s:Ke) (σ:St) (H:Hp) (x y:V) (v u:Kc) (Q:VK),Inv X pins σ H s->RelV x v->RelV y u->t x y H Q->
  wpAny (model X.prog X.w) X.A (inplaceOp op v u) (EP X pins σ Q) X.xe s
section
variable {X:Cx}{pos:Pos}
def Wb (i:Nat):TG:=fun v σ H Q=>Q (σ.set i (some v)) H
theorem Wj {i:Nat}{x:Str}(hN:X.N.Nodup)(hi:X.N[i]?=some x)(hx:Loc X.env.scope x)(hf:X.fn x=true\/X.env.scope.names.lookup x=some .local:=by first|exact .inl rfl|exact .inr rfl|assumption):PG X (.Name x pos) (Wb i):=by
 intro pins s σ H v u Q I r h
 exact wpAny_assign_Name (Yw I hN hi hx r (fun s' I'=>⟨_,H,I',h⟩) hf)
def gNil:TGs:=fun vs σ H Q=>vs=[]/\Q σ H
def gCons (t:TG)(u:TGs):TGs:=fun vs σ H Q=>∃ v r,vs=v::r/\t v σ H fun σ' H'=>u r σ' H' Q
theorem qcy:PGs X [] gNil:=by
 intro pins s σ H vs us Q I r h
 obtain ⟨e,h⟩:=h
 subst e
 cases r
 exact assignInOrder_nil ⟨σ,H,I,h⟩
theorem qbf {e:Kr}{es:aH}{t:TG}{u:TGs}(h1:PG X e t)(h2:PGs X es u)
  (hs:(assignEach (e::es) X.env).map (·.2)=assign e X.env::(assignEach es X.env).map (·.2):=by rfl):PGs X (e::es) (gCons t u):=by
 intro pins s σ H vs us Q I r h
 obtain ⟨v,vr,e1,h⟩:=h
 subst e1
 cases r with
 | cons r rr =>
  rw [hs]
  refine assignInOrder_cons (thn (h1 pins s σ H _ _ _ I r h) fun _ s1 ⟨σ1,H1,I1,q1⟩=>?_)
  exact h2 pins s1 σ1 H1 _ _ Q I1 rr q1
def gTup (K:Kb)(n:Nat)(t:TGs):TG:=fun v σ H Q=>∃ a xs,v=.ref a/\SqT K H a xs/\xs.length=n/\t xs σ H Q
theorem qdZ {es:aH}{k:Nat}{t:TGs}{n:Nat}(hc:X.calm=true)(h:PGs X es t)
  (hn:(assignEach es X.env).length=n:=by rfl) (hst:(assignEach es X.env).findIdx? (·.1)=none:=by rfl):PG X (.Tuple es k pos) (gTup X.K n t):=by
 intro pins s σ H v u Q I r hw
 obtain ⟨a,xs,e1,hq,hl,hw⟩:=hw
 subst e1
 cases r
 obtain ⟨its,rv,ht,hz⟩:=I.tuple hq
 refine assign_Tuple_tuple (I.ok.hd hc) ht (by simp [hn,← hl,rv.length]) hst fun h' hx=>?_
 have I1:Inv X pins σ H { s with heap:=h' }:=I.kept (t':=s.toks) fun b o e=>hx b o (Vj (Kw e)) e
 exact h pins _ σ H xs _ Q I1 (by simpa using rv) hw
def tAsg (te:TE)(g:TG):TS:=fun D σ H=>te σ H fun x H1=>g x σ H1 D.nx
theorem qd2 {tg e:Kr}{te:TE}{g:TG}(he:PE X e te)(hg:PG X tg g)(hs:swapsWithSole [tg] e pos.line X.env=pure false:=by rfl)(hw:swappedStores [tg] e X.env=pure none:=by rfl)
  (h1:(assignEach [tg] X.env).map (·.2)=[assign tg X.env]:=by rfl):PS X (.Assign [tg] e pos) (tAsg te g):=by
 intro pins s σ H D I h
 refine wpAny_Assign_stores (thn (he pins s σ H _ I h) fun v s1 ⟨x,H1,I1,r1,q1⟩=>?_) hs hw
 rw [h1]
 exact thn (hg pins s1 σ H1 x v _ I1 r1 q1) fun _ s2 q=>q
theorem Y7 {i:Nat}{x:Str}{e:Kr}{te:TE}{pos':Pos}(hN:X.N.Nodup)(hi:X.N[i]?=some x)(hx:Loc X.env.scope x)(he:PE X e te)(hs:swapsWith e (some (.Name x pos')) pos.line X.env=pure false:=by rfl)(hf:X.fn x=true\/X.env.scope.names.lookup x=some .local:=by first|exact .inl rfl|exact .inr rfl|assumption) :
  PS X (.Assign [.Name x pos'] e pos) (tAsg te (Wb i)):=by
 intro pins s σ H D I h
 refine wpAny_Assign_Name (thn (he pins s σ H _ I h) fun v s1 ⟨y,H1,I1,r1,q1⟩=>?_) hs
 exact Yw I1 hN hi hx r1 (fun s2 I2=>⟨_,H1,I2,q1⟩) hf
def tAugS (to ti te:TE)(tget:V->V->Hp->VK->Prop)(tip:TIp)(tset:TSet):TS:=fun D σ H=>to σ H fun o H1=>ti σ H1 fun i H2=>tget o i H2 fun x H3=>te σ H3 fun y H4=>tip x y H4 fun z H5=>tset o i z H5 fun H6=>D.nx σ H6
def PGet (X:Cx)(t:V->V->Hp->VK->Prop):Prop :=
 ∀ (pins:ag) (s:Ke) (σ:St) (H:Hp) (o i:V) (ov iv:Kc) (Q:VK),Inv X pins σ H s->RelV o ov->RelV i iv->t o i H Q->
  wpAny (model X.prog X.w) X.A (getItem ov iv) (EP X pins σ Q) X.xe s
theorem qcB {o i e:Kr}{to ti te:TE}{tget:V->V->Hp->VK->Prop}{tip:TIp}{tset:TSet}{op:Operator}{tpos:Pos}(ho:PE X o to)(hi:PE X i ti)(hg:PGet X tget)(he:PE X e te)(hp:PIp X op tip)(hs:PSet X tset)
  (ha:∀ ov iv new,augStore i ov iv new=(do holding [new,ov,iv] (setItem ov iv new);release [new,ov,iv] [];pure .next):=by intros;rfl):PS X (.AugAssign (.Subscript o i tpos) op e pos) (tAugS to ti te tget tip tset):=by
 intro pins s σ H D I h
 refine wpAny_AugAssign_SubscriptAny (thn (ho pins s σ H _ I h) fun ov s1 ⟨x1,H1,I1,r1,q1⟩=>?_) ha
 refine thn (hi pins s1 σ H1 _ I1 q1) fun iv s2 ⟨x2,H2,I2,r2,q2⟩=>?_
 refine thn (hg pins s2 σ H2 x1 x2 ov iv _ I2 r1 r2 q2) fun old s3 ⟨x3,H3,I3,r3,q3⟩=>?_
 refine thn (he pins s3 σ H3 _ I3 q3) fun v s4 ⟨x4,H4,I4,r4,q4⟩=>?_
 refine thn (hp pins s4 σ H4 x3 x4 old v _ I4 r3 r4 q4) fun new s5 ⟨x5,H5,I5,r5,q5⟩=>?_
 exact thn (hs pins s5 σ H5 x1 x2 x5 ov iv new _ I5 r1 r2 r5 q5) fun _ s6 ⟨H6,I6,q6⟩=>⟨σ,H6,I6,q6⟩
def ipI (f:aP):TIp:=fun x y H Q=>∃ i j,x=.int i/\y=.int j/\Q (.int (f i j)) H
theorem qdl:PIp X .Add (ipI fun i j=>i+j):=by
 intro pins s σ H x y v u Q I r1 r2 h
 obtain ⟨i,j,e1,e2,q⟩:=h
 subst e1;subst e2
 obtain ⟨t,rfl⟩:=r1
 obtain ⟨t',rfl⟩:=r2
 exact iadd_int ⟨.int _,H,I.tok _,⟨_,rfl⟩,q⟩
theorem qdm:PIp X .Sub (ipI fun i j=>i-j):=by
 intro pins s σ H x y v u Q I r1 r2 h
 obtain ⟨i,j,e1,e2,q⟩:=h
 subst e1;subst e2
 obtain ⟨t,rfl⟩:=r1
 obtain ⟨t',rfl⟩:=r2
 exact isub_int ⟨.int _,H,I.tok _,⟨_,rfl⟩,q⟩
end
section
variable {X:Cx}{pos:Pos}
def qes (c:TT)(tb:TS):TS:=fun D σ H=>∃ W:Nat->St->Hp->Prop,(∃ m,W m σ H)/\∀ m σ H,W m σ H->
 c σ H fun b H1=>if b=true then ∃ N:St->Hp->Prop,(∀ σ' H',N σ' H'->∃ m',m'<m/\W m' σ' H')/\tb { D with nx:=N,ct:=N,bk:=D.nx } σ H1 else D.nx σ H1
theorem qbj {c:Kr}{body:aY}{tc:TT}{tb:TS}(hp:XF (model X.prog X.w) X.A X.env X.xe)(hc:PT X c tc)(hb:PSs X body tb):PS X (.While c body [] pos) (qes tc tb):=by
 intro pins s σ H D I h
 obtain ⟨W,⟨m0,w0⟩,turn⟩:=h
 refine wpAny_While (codeAny_whileLoop (fun n s'=>∃ σ' H',Inv X pins σ' H' s'/\W n σ' H') ?_ m0 ⟨σ,H,I,w0⟩)
 rintro n s1 ⟨σ1,H1,I1,w1⟩
 refine VT hp (thn (hc pins s1 σ1 H1 _ I1 (turn n σ1 H1 w1)) fun b s2 ⟨H2,I2,q2⟩=>?_)
 cases b with
 | true =>
  obtain ⟨N,hN,q2⟩:=q2
  rw [if_pos rfl]
  refine VT hp (thn (hb pins s2 σ1 H2 _ I2 q2) fun f s3 q3=>?_)
  cases f with
  | next =>
   obtain ⟨σ3,H3,I3,n3⟩:=q3
   obtain ⟨m',hm,w3⟩:=hN σ3 H3 n3
   exact ⟨m',hm,σ3,H3,I3,w3⟩
  | cont =>
   obtain ⟨σ3,H3,I3,n3⟩:=q3
   obtain ⟨m',hm,w3⟩:=hN σ3 H3 n3
   exact ⟨m',hm,σ3,H3,I3,w3⟩
  | brk=>exact q3
  | ret v=>exact q3
 | false =>
  rw [if_neg Vp]
  exact UT ⟨σ1,H2,I2,q2⟩
end
structure It where
 go:Nat->Hp->Prop
 yld:Nat->Hp->V->Hp->Prop
 stop:Nat->Hp->Prop
def FpOk (X:Cx)(pins:ag)(H:Hp)(b:Kd):Prop :=
 H b=none/\b≠X.env.locals/\b∉X.fs/\(b∈X.ex\/X.s₀.heap.objs.size<=b)/\(∀ x c,X.env.cells.lookup x=some c->c≠b)/\∀ p∈X.pn++pins,p.1≠b
theorem Inv.fpOk {X:Cx}{pins:ag}{σ:St}{H H':Hp}{s:Ke}{b:Kd}(I:Inv X pins σ H s)(hb:s.heap.objs.size<=b)(hn:H' b=none):FpOk X pins H' b:=by
 refine ⟨hn,Xm (Ku I.lt hb),I.nofs hb,.inr (K7 I.sz hb),fun x c e z=>?_,fun p hp z=>?_⟩
 ·obtain ⟨v,q⟩:=I.cell x c e
  exact absurd (Ku q.lt (by rw [z];exact hb)) (VA _)
 ·exact absurd (Ku (Kw (I.pin p hp).1) (by rw [z];exact hb)) (VA _)
structure Turn (P:KD)(w:KM)(K:Kb)(tg:Kr)(J:It)(fp:az)(it:Kd)(tn:Nat->KI->Prop):Prop where
 mem:it∈fp
 obj:∀ i h,tn i h->∀ b∈fp,∃ o,h.get? b=some o/\∀ v,o.data≠.cell v
 keep:∀ i h h',tn i h->(∀ b∈fp,∀ o,h.get? b=some o->h'.get? b=some o)->tn i h'
 item:∀ (X:Cx),X.prog=P->X.w=w->X.K=K->X.calm=true->∀ (i:Nat) (pins:ag) (s:Ke) (σ:St) (H:Hp) (E:aq),Inv X pins σ H s->(∀ b∈fp,FpOk X pins H b)->tn i s.heap->J.go i H->
  wpAny (model P w) X.A (pyNext (.ref it)) (fun r s1=>∃ u,r=some u/\
   wpAny (model P w) X.A (letOwnedTupleGo tg (.ref it) u) (fun _ s2=>∃ x H',Inv X pins σ H' s2/\RelV x u/\J.yld i H x H'/\tn (i+1) s2.heap/\∀ b∈fp,H' b=none) E s1) E s
 done:∀ (X:Cx),X.prog=P->X.w=w->X.K=K->X.calm=true->∀ (i:Nat) (pins:ag) (s:Ke) (σ:St) (H:Hp) (E:aq),Inv X pins σ H s->(∀ b∈fp,FpOk X pins H b)->tn i s.heap->J.stop i H->
  wpAny (model P w) X.A (pyNext (.ref it)) (fun r s1=>r=none/\Inv X pins σ H s1) E s
 self:∀ (A:KU) (i:Nat) (s:Ke) (Q:aq) (E:aq),tn i s.heap->Q (.ref it) s->wpAny (model P w) A (pyIter (.ref it)) Q E s
abbrev TI:=St->Hp->(It->Hp->Prop)->Prop
def PIE (X:Cx)(pins:ag)(σ:St)(tg:Kr)(R:It->Hp->Prop)(itv:Kc)(s2:Ke):Prop :=
 ∃ (it:Kd) (fp:az) (tn:Nat->KI->Prop) (J:It) (H':Hp),itv=.ref it/\Inv X pins σ H' s2/\Turn X.prog X.w X.K tg J fp it tn/\tn 0 s2.heap/\(∀ b∈fp,FpOk X pins H' b)/\R J H'
def PI (X:Cx)(tg iter:Kr)(wi:TI):Prop :=
 ∀ (pins:ag) (s:Ke) (σ:St) (H:Hp) (R:It->Hp->Prop),Inv X pins σ H s->wi σ H R->
  wpAny (model X.prog X.w) X.A (eval iter X.env) (fun v s1=>wpAny (model X.prog X.w) X.A (pyIter v) (PIE X pins σ tg R) X.xe s1) X.xe s
theorem qaH {M:Model}{A:KU}{E:aq}{s:Ke}{tg:Kr}{it:Kd}{u:Kc}{o:Obj}{n:String}{vs:aU}{Q:Unit->Ke->Prop}(ho:s.heap.get? it=some o)(hc:o.cls=.type n)(hd:o.data=.fields vs)
  (hn:["enumerate", "zip", "dict_itemiterator", "dict_reverseitemiterator", "odict_iterator", "itertools.zip_longest", "itertools.pairwise"].contains n=false) (hQ:Q () s):wpAny M A (letOwnedTupleGo tg (.ref it) u) Q E s:=by
 unfold letOwnedTupleGo
 cases tg<;>first
  | exact Kx hQ
  | (cases u<;>first
    | exact Kx hQ
    | (
      refine Ki (wpAny_load ho ?_)
      rw [hc,hd]
      show wpAny M A (if (["enumerate", "zip", "dict_itemiterator", "dict_reverseitemiterator", "odict_iterator", "itertools.zip_longest", "itertools.pairwise"].contains n&&vs[0]?==some (rawInt _))=true then _ else _) Q E s
      rw [if_neg (by intro h;rw [hn,Bool.false_and] at h;cases h)]
      exact Kx hQ))
def Itl (K:Kb)(a:Kd):It :=
 ⟨fun i H=>∃ xs x,SqL K H a xs/\xs[i]?=some x,fun i H x H'=>H'=H/\∀ xs,SqL K H a xs->xs[i]?=some x,fun i H=>∃ xs,SqL K H a xs/\xs.length<=i⟩
def Itt (K:Kb)(a:Kd):It :=
 ⟨fun i H=>∃ xs x,SqT K H a xs/\xs[i]?=some x,fun i H x H'=>H'=H/\∀ xs,SqT K H a xs->xs[i]?=some x,fun i H=>∃ xs,SqT K H a xs/\xs.length<=i⟩
noncomputable def Itr (lo:Int)(n:Nat):It:=⟨fun i _=>i<n,fun i H x H'=>H'=H/\x=.int (lo+i),fun i _=>n<=i⟩
theorem qaj {P:KD}{w:KM}{K:Kb}{tg:Kr}(a it:Kd):Turn P w K tg (Itl K a) [it] it (fun i h=>h.IsListIter it a i) where
 mem:=by simp
 obj:=fun i h st b hb=>by
  have e:b=it:=by simpa using hb
  subst e
  obtain ⟨o,e,c,d⟩:=st
  exact ⟨o,e,fun v z=>by rw [d] at z;cases z⟩
 keep:=fun i h h' st k=>st.at fun o e=>k it (by simp) o e
 item:=by
  intro X hP hw hK hc i pins s σ H E I hf st hg
  subst hP hw hK
  obtain ⟨xs,x,hq,hx⟩:=hg
  obtain ⟨its,rv,p,hz⟩:=I.list hq
  obtain ⟨u,hu,ru⟩:=rv.get hx
  obtain ⟨f0,f1,f2,f3,f4,f5⟩:=hf it (by simp)
  refine wpAny_pyNext_list_item st p.isList (x:=u) (by simpa using hu) fun h' st' sb=>?_
  have I1:Inv X pins σ H { s with heap:=h' }:=I.turned (t':=s.toks) (fun b o hb e=>(sb.2 b hb).trans e) f0 f1 f3 f4 f5
  obtain ⟨o,e,c,d⟩:=id st'
  exact ⟨u,rfl,qaH (s:={ s with heap:=h' }) e c d (by decide) ⟨x,H,I1,ru,⟨rfl,fun ys hy=>by rw [I.list_inj hy hq];exact hx⟩,st',fun b hb=>(hf b hb).1⟩⟩
 done:=by
  intro X hP hw hK hc i pins s σ H E I hf st hg
  subst hP hw hK
  obtain ⟨xs,hq,hx⟩:=hg
  obtain ⟨its,rv,p,hz⟩:=I.list hq
  obtain ⟨f0,f1,f2,f3,f4,f5⟩:=hf it (by simp)
  have hl:=rv.length
  exact wpAny_pyNext_list_end (I.ok.hd hc) st p.isList (by simp;omega) fun h' eb=>⟨rfl,I.turned (t':=s.toks) (fun b o hb e=>eb b o hb e) f0 f1 f3 f4 f5⟩
 self:=fun _ _ _ _ _ st h=>wpAny_pyIter_listiter st h
theorem wC {P:KD}{w:KM}{K:Kb}{tg:Kr}(a it:Kd):Turn P w K tg (Itt K a) [it] it (fun i h=>h.IsTupleIter it a i) where
 mem:=by simp
 obj:=fun i h st b hb=>by
  have e:b=it:=by simpa using hb
  subst e
  obtain ⟨o,e,c,d⟩:=st
  exact ⟨o,e,fun v z=>by rw [d] at z;cases z⟩
 keep:=fun i h h' st k=>st.at fun o e=>k it (by simp) o e
 item:=by
  intro X hP hw hK hc i pins s σ H E I hf st hg
  subst hP hw hK
  obtain ⟨xs,x,hq,hx⟩:=hg
  obtain ⟨its,rv,p,hz⟩:=I.tuple hq
  obtain ⟨u,hu,ru⟩:=rv.get hx
  obtain ⟨f0,f1,f2,f3,f4,f5⟩:=hf it (by simp)
  refine wpAny_pyNext_tuple_item st (show s.heap.IsTuple a its.toArray from p) (x:=u) (by simpa using hu) fun h' st' sb=>?_
  have I1:Inv X pins σ H { s with heap:=h' }:=I.turned (t':=s.toks) (fun b o hb e=>(sb.2 b hb).trans e) f0 f1 f3 f4 f5
  obtain ⟨o,e,c,d⟩:=id st'
  exact ⟨u,rfl,qaH (s:={ s with heap:=h' }) e c d (by decide) ⟨x,H,I1,ru,⟨rfl,fun ys hy=>by rw [I.tuple_inj hy hq];exact hx⟩,st',fun b hb=>(hf b hb).1⟩⟩
 done:=by
  intro X hP hw hK hc i pins s σ H E I hf st hg
  subst hP hw hK
  obtain ⟨xs,hq,hx⟩:=hg
  obtain ⟨its,rv,p,hz⟩:=I.tuple hq
  obtain ⟨f0,f1,f2,f3,f4,f5⟩:=hf it (by simp)
  have hl:=rv.length
  exact wpAny_pyNext_tuple_end (I.ok.hd hc) st (show s.heap.IsTuple a its.toArray from p) (by simp;omega) fun h' eb=>⟨rfl,I.turned (t':=s.toks) (fun b o hb e=>eb b o hb e) f0 f1 f3 f4 f5⟩
 self:=fun _ _ _ _ _ st h=>wpAny_pyIter_tupleiter st h
theorem wB {P:KD}{w:KM}{K:Kb}{tg:Kr}(it:Kd)(lo:Int)(n:Nat):Turn P w K tg (Itr lo n) [it] it (fun i h=>IsRangeIter h it (lo+(i:Nat)*1) ((n:Int)-(i:Nat)) 1) where
 mem:=by simp
 obj:=fun i h st b hb=>by
  have e:b=it:=by simpa using hb
  subst e
  exact ⟨_,st,fun v z=>by
   have z':Data.fields _=Data.cell v:=z
   cases z'⟩
 keep:=fun i h h' st k=>k it (by simp) _ st
 item:=by
  intro X hP hw hK hc i pins s σ H E I hf st hg
  subst hP hw hK
  obtain ⟨f0,f1,f2,f3,f4,f5⟩:=hf it (by simp)
  have W:=Walks.range (prog:=X.prog) (w:=X.w) (I.ok.hd hc) it lo 1 n
  refine W.item i s _ _ hg st fun v h' tk hv st' kk=>?_
  obtain ⟨t,rfl⟩:=hv
  have I1:Inv X pins σ H { s with heap:=h',toks:=tk }:=I.turned (fun b o hb e=>kk b o (by simpa using hb) e) f0 f1 f3 f4 f5
  refine ⟨_,rfl,qaH (s:={ s with heap:=h',toks:=tk }) (n := "range_iterator") st' rfl rfl (by decide) ⟨.int (lo+i),H,I1,⟨t,?_⟩,⟨rfl,rfl⟩,st',fun b hb=>(hf b hb).1⟩⟩
  rw [Int.mul_one]
 done:=by
  intro X hP hw hK hc i pins s σ H E I hf st hg
  subst hP hw hK
  obtain ⟨f0,f1,f2,f3,f4,f5⟩:=hf it (by simp)
  exact wpAny_pyNext_range_end (I.ok.hd hc) st (by have:n<=i:=hg;omega) fun h' eb=>⟨rfl,I.turned (t':=s.toks) (fun b o hb e=>eb b o hb e) f0 f1 f3 f4 f5⟩
 self:=fun _ _ _ _ _ st h=>wpAny_pyIter_rangeiter st h
section
variable {X:Cx}{tg:Kr}
theorem Yp {pins:ag}{σ:St}{H:Hp}{s:Ke}{R:It->Hp->Prop}{E:aq}{lo hi:Int}{t u v:Tok}{tk:Nat}(I:Inv X pins σ H s)(h1:-(2 ^ 62)<=lo)(h2:lo<2 ^ 62)(h3:-(2 ^ 62)<=hi)(h4:hi<2 ^ 62)
  (q:R (Itr lo (hi-lo).toNat) H):wpAny (model X.prog X.w) X.A (pyIter (.ref s.heap.objs.size)) (PIE X pins σ tg R) E { s with heap:=s.heap.push { cls:=.type "range", data:=.fields #[.int lo t,.int hi u,.int 1 v] },toks:=tk }:=by
 refine wpAny_pyIter_range (IsRange.new ..) (small_one h1 h2 h3 h4) ?_
 have I1:Inv X pins σ H { s with heap:=s.heap.push { cls:=.type "range", data:=.fields #[.int lo t,.int hi u,.int 1 v] },toks:=tk }:=I.kept fun b o e=>Kp _ e
 refine ⟨(s.heap.push { cls:=.type "range", data:=.fields #[.int lo t,.int hi u,.int 1 v] }).objs.size,[(s.heap.push { cls:=.type "range", data:=.fields #[.int lo t,.int hi u,.int 1 v] }).objs.size],_,_,H,rfl,
  I1.kept (t':=tk) fun b o e=>Kp _ e,wB _ lo (hi-lo).toNat,?_,fun b hb=>?_,q⟩
 ·have e1:lo+((0:Nat):Int)*1=lo:=by simp
  have e2:(((hi-lo).toNat:Nat):Int)-((0:Nat):Int)=Builtin.Range.rangeSize lo hi 1:=by rw [rangeSize_one];split<;>omega
  show IsRangeIter _ _ (lo+((0:Nat):Int)*1) ((((hi-lo).toNat:Nat):Int)-((0:Nat):Int)) 1
  rw [e1,e2]
  exact K5 _ rfl
 ·have e:b=(s.heap.push { cls:=.type "range", data:=.fields #[.int lo t,.int hi u,.int 1 v] }).objs.size:=by simpa using hb
  subst e
  exact I1.fpOk (Ko _) (I1.hok.fresh (Ko _))
def iRng1 (ta:TA):TI:=fun σ H R=>ta σ H fun vs H1=>∃ j:Int,vs=[.int j]/\-(2 ^ 62)<=j/\j<2 ^ 62/\R (Itr 0 j.toNat) H1
def iRng2 (ta:TA):TI:=fun σ H R=>ta σ H fun vs H1=>∃ i j:Int,vs=[.int i,.int j]/\(-(2 ^ 62)<=i/\i<2 ^ 62/\-(2 ^ 62)<=j/\j<2 ^ 62)/\R (Itr i (j-i).toNat) H1
theorem JL {a:Kr}{ta:TA}{p pos:Pos}(hg:Gl X "range")(hm:X.mg "range" = none)(ha:PA X [a] ta)(hs:starEach [a] X.env=[(false,eval a X.env)]:=by rfl):PI X tg (.Call (.Name "range" p) [a] [] pos) (iRng1 ta):=by
 intro pins s σ H R I h
 refine Call_ (QT I hg hm boot_range (Vf (thn (ha pos pins s σ H _ I h) fun us s1 ⟨vs,H1,I1,r1,q1⟩=>?_) hs rfl))
 obtain ⟨j,e,q1,q2,q⟩:=q1
 subst e
 cases r1 with
 | cons r rr =>
  cases rr
  obtain ⟨t,rfl⟩:=r
  exact call_range_1 (Yp I1 (by omega) (by omega) q1 q2 (by simpa using q))
theorem W6 {a b:Kr}{ta:TA}{p pos:Pos}(hg:Gl X "range")(hm:X.mg "range" = none)(ha:PA X [a,b] ta)(hs:starEach [a,b] X.env=[(false,eval a X.env),(false,eval b X.env)]:=by rfl)(hs2:starEach [b] X.env=[(false,eval b X.env)]:=by rfl) :
  PI X tg (.Call (.Name "range" p) [a,b] [] pos) (iRng2 ta):=by
 intro pins s σ H R I h
 refine Call_ (QT I hg hm boot_range (Vf (thn (ha pos pins s σ H _ I h) fun us s1 ⟨vs,H1,I1,r1,q1⟩=>?_) (by rw [hs,hs2]) (by rw [hs2];rfl)))
 obtain ⟨i,j,e,⟨q1,q2,q3,q4⟩,q⟩:=q1
 subst e
 cases r1 with
 | cons r rr =>
  cases rr with
  | cons r' rr =>
   cases rr
   obtain ⟨t,rfl⟩:=r
   obtain ⟨t',rfl⟩:=r'
   exact call_range_2 (Yp I1 q1 q2 q3 q4 q)
def tFor (wi:TI)(g:TG)(tb:TS):TS:=fun D σ H=>wi σ H fun J H1=>∃ W:Nat->Nat->St->Hp->Prop,(∃ m,W 0 m σ H1)/\∀ i m σ H,W i m σ H->
 (J.stop i H/\D.nx σ H)\/(J.go i H/\∃ N:St->Hp->Prop,(∀ σ' H',N σ' H'->∃ m',m'<m/\W (i+1) m' σ' H')/\∀ x H',J.yld i H x H'->g x σ H' fun σ2 H2=>tb { D with nx:=N,ct:=N,bk:=D.nx } σ2 H2)
def Qg (fp:az)(h:KI):List (Kd×Obj):=fp.filterMap fun b=>(h.get? b).map fun o=>(b,o)
theorem zY {fp:az}{h:KI}{b:Kd}{o:Obj}(hb:b∈fp)(e:h.get? b=some o):(b,o)∈Qg fp h:=List.mem_filterMap.mpr ⟨b,hb,by rw [e];rfl⟩
theorem Z9 {fp:az}{h:KI}{p:Kd×Obj}(hp:p∈Qg fp h):p.1∈fp/\h.get? p.1=some p.2:=by
 obtain ⟨b,hb,e⟩:=List.mem_filterMap.mp hp
 cases q:h.get? b with
 | none=>rw [q] at e;cases e
 | some o =>
  rw [q] at e
  have e':(b,o)=p:=Va e
  subst e'
  exact ⟨hb,q⟩
theorem Inv.pinned {pins:ag}{σ:St}{H:Hp}{s:Ke}{fp:az}(I:Inv X pins σ H s)(hf:∀ b∈fp,FpOk X pins H b)(ho:∀ b∈fp,∃ o,s.heap.get? b=some o/\∀ v,o.data≠.cell v):Inv X (pins++Qg fp s.heap) σ H s :=
 I.pins_of fun p hp=>(Vy.mp hp).elim (fun z=>I.pin p (KC _ z)) fun z=>by
  obtain ⟨hb,e⟩:=Z9 z
  obtain ⟨f0,f1,f2,_⟩:=hf p.1 hb
  obtain ⟨o,e',d⟩:=ho p.1 hb
  rw [e] at e';cases e'
  exact ⟨e,f0,f1,f2,d⟩
theorem Inv.unpinned {pins pl:ag}{σ:St}{H:Hp}{s:Ke}(I:Inv X (pins++pl) σ H s):Inv X pins σ H s:=I.pins_of fun p hp=>I.pin p (KC _ (V0 _ hp))
theorem qbi {iter:Kr}{body:aY}{wi:TI}{g:TG}{tb:TS}{pos:Pos}(hp:XF (model X.prog X.w) X.A X.env X.xe)(hc:X.calm=true)(hi:PI X tg iter wi)(hg:PG X tg g)(hb:PSs X body tb)
  (hs:∀ x,foldedSetIterable iter X.env x=pure x:=by intro _;rfl):PS X (.For tg iter body [] pos) (tFor wi g tb):=by
 intro pins s σ H D I h
 refine wpAny_For (thn (hi pins s σ H _ I h) fun v s1 h1=>thn h1 fun itv s2 h2=>?_) hs
 obtain ⟨it,fp,tn,J,H2,e,I2,T,st2,f2,W,⟨m0,w0⟩,turn⟩:=h2
 subst e
 have stat:∀ {H':Hp},(∀ b∈fp,H' b=none)->∀ b∈fp,FpOk X pins H' b:=fun hn b hb=>⟨hn b hb,(f2 b hb).2⟩
 refine codeAny_forLoop_any (fun n s'=>∃ i σ' H',Inv X pins σ' H' s'/\tn i s'.heap/\(∀ b∈fp,H' b=none)/\W i n σ' H') ?_ m0 ⟨0,σ,H2,I2,st2,fun b hb=>(f2 b hb).1,w0⟩
 rintro n s3 ⟨i,σ3,H3,I3,st3,fr3,w3⟩
 rcases turn i n σ3 H3 w3 with ⟨stop,qn⟩|⟨go,N,hN,step⟩
 ·refine VT hp (thn (T.done X rfl rfl rfl hc i pins s3 σ3 H3 X.xe I3 (stat fr3) st3 stop) fun r s4 ⟨hr,I4⟩=>?_)
  subst hr
  exact UT ⟨σ3,H3,I4,qn⟩
 ·refine VT hp (thn (T.item X rfl rfl rfl hc i pins s3 σ3 H3 X.xe I3 (stat fr3) st3 go) fun r s4 ⟨u,hr,h4⟩=>?_)
  subst hr
  refine VT hp (thn h4 fun _ s5 ⟨x,H5,I5,r5,y5,st5,fr5⟩=>?_)
  have I5':=I5.pinned (stat fr5) (T.obj _ _ st5)
  refine VT hp (thn (hg _ s5 σ3 H5 x u _ I5' r5 (step x H5 y5)) fun _ s6 ⟨σ6,H6,I6,q6⟩=>?_)
  refine VT hp (thn (hb _ s6 σ6 H6 _ I6 q6) fun f s7 q7=>?_)
  have again:∀ {σ7:St} {H7:Hp},Inv X (pins++Qg fp s5.heap) σ7 H7 s7->N σ7 H7->∃ m,m<n/\∃ i σ' H',Inv X pins σ' H' s7/\tn i s7.heap/\(∀ b∈fp,H' b=none)/\W i m σ' H':=fun {σ7 H7} I7 n7=>by
   obtain ⟨m',hm,w7⟩:=hN σ7 H7 n7
   refine ⟨m',hm,i+1,σ7,H7,I7.unpinned,T.keep _ _ _ st5 fun b hb o e=>(I7.pin (b,o) (KC _ (KC _ (zY hb e)))).1,fun b hb=>?_,w7⟩
   obtain ⟨o,e,d⟩:=T.obj _ _ st5 b hb
   exact (I7.pin (b,o) (KC _ (KC _ (zY hb e)))).2.1
  cases f with
  | next=>obtain ⟨σ7,H7,I7,n7⟩:=q7;exact again I7 n7
  | cont=>obtain ⟨σ7,H7,I7,n7⟩:=q7;exact again I7 n7
  | brk=>obtain ⟨σ7,H7,I7,q7⟩:=q7;exact ⟨σ7,H7,I7.unpinned,q7⟩
  | ret v=>obtain ⟨x7,σ7,H7,I7,r7,q7⟩:=q7;exact ⟨x7,σ7,H7,I7.unpinned,r7,q7⟩
end
abbrev R2:=V->V->Hp->VK->Prop
def OpR (X:Cx)(f:aJ)(r:R2):Prop :=
 ∀ (pins:ag) (s:Ke) (σ:St) (H:Hp) (x y:V) (v u:Kc) (Q:VK),Inv X pins σ H s->RelV x v->RelV y u->r x y H Q->
  wpAny (model X.prog X.w) X.A (f v u) (EP X pins σ Q) X.xe s
def UnR (X:Cx)(f:Kc->Sem Kc)(r:V->Hp->VK->Prop):Prop :=
 ∀ (pins:ag) (s:Ke) (σ:St) (H:Hp) (x:V) (v:Kc) (Q:VK),Inv X pins σ H s->RelV x v->r x H Q->
  wpAny (model X.prog X.w) X.A (f v) (EP X pins σ Q) X.xe s
def QF (X:Cx)(f:Kc)(r:aZ):Prop :=
 ∀ (pins:ag) (s:Ke) (σ:St) (H:Hp) (xs:List V) (us:aw) (Q:VK),Inv X pins σ H s->Vals xs us->r xs H Q->
  wpAny (model X.prog X.w) X.A (call f us) (EP X pins σ Q) X.xe s
def TruR (X:Cx)(r:V->Hp->(Bool->Hp->Prop)->Prop):Prop :=
 ∀ (pins:ag) (s:Ke) (σ:St) (H:Hp) (x:V) (v:Kc) (Q:Bool->Hp->Prop),Inv X pins σ H s->RelV x v->r x H Q->
  wpAny (model X.prog X.w) X.A (truthy v) (TP X pins σ Q) X.xe s
def tOp (r:R2)(ta tb:TE):TE:=fun σ H Q=>ta σ H fun x H1=>tb σ H1 fun y H2=>r x y H2 Q
def tUn (r:V->Hp->VK->Prop)(ta:TE):TE:=fun σ H Q=>ta σ H fun x H1=>r x H1 Q
def rI (C:Int->Int->Prop)(g:Int->Int->V):R2:=fun x y H Q=>∃ i j,x=.int i/\y=.int j/\C i j/\Q (g i j) H
def rI0 (g:Int->Int->V):R2:=fun x y H Q=>∃ i j,x=.int i/\y=.int j/\Q (g i j) H
def rU (g:Int->V):V->Hp->VK->Prop:=fun x H Q=>∃ i,x=.int i/\Q (g i) H
section
variable {X:Cx}{a b c:Kr}{ta tb tc:TE}{pos:Pos}
theorem binT (ha:PE X a ta)(hb:PE X b tb){pins:ag}{s:Ke}{σ:St}{H:Hp}{R:V->V->Hp->Prop}(I:Inv X pins σ H s)
  (h:ta σ H fun x H1=>tb σ H1 fun y H2=>R x y H2) {Q:aq} {f:aJ}
  (hf:∀ v u s2 x y H2,Inv X pins σ H2 s2->RelV x v->RelV y u->R x y H2->wpAny (model X.prog X.w) X.A (f v u) Q X.xe s2) :
  wpAny (model X.prog X.w) X.A (eval a X.env) (fun v s₁=>wpAny (model X.prog X.w) X.A (eval b X.env) (fun u s₂=>wpAny (model X.prog X.w) X.A (f v u) Q X.xe s₂) X.xe s₁) X.xe s:=by
 refine thn (ha pins s σ H _ I h) fun v s1 ⟨x,H1,I1,r1,q1⟩=>?_
 refine thn (hb pins s1 σ H1 _ I1 q1) fun u s2 ⟨y,H2,I2,r2,q2⟩=>?_
 exact hf v u s2 x y H2 I2 r1 r2 q2
theorem qcX {op:Operator}{r:R2}(ho:OpR X (binaryOp op) r)(ha:PE X a ta)(hb:PE X b tb):PE X (.BinOp a op b pos) (tOp r ta tb):=by
 intro pins s σ H Q I h
 exact wpAny_BinOp (binT ha hb I h fun v u s2 x y H2 I2 rx ry q=>ho pins s2 σ H2 x y v u Q I2 rx ry q)
theorem pe_un {op:UnaryOp}{r:V->Hp->VK->Prop}(ho:UnR X (unaryOp op) r)(ha:PE X a ta):PE X (.UnaryOp op a pos) (tUn r ta):=by
 intro pins s σ H Q I h
 exact UnaryOp_ (thn (ha pins s σ H _ I h) fun v s1 ⟨x,H1,I1,r1,q1⟩=>ho pins s1 σ H1 x v Q I1 r1 q1)
theorem opI {f:aJ}{C:Int->Int->Prop}{g:aP}
  (rule:∀ (i j:Int) (t u:Tok) (s:Ke) (Q:aq) (E:aq),C i j->Q (.int (g i j) s.toks) { s with toks:=s.toks+1 }->wpAny (model X.prog X.w) X.A (f (.int i t) (.int j u)) Q E s) :
  OpR X f (rI C fun i j=>.int (g i j)):=by
 intro pins s σ H x y v u Q I rx ry h
 obtain ⟨i,j,rfl,rfl,hc,q⟩:=h
 obtain ⟨t,rfl⟩:=rx
 obtain ⟨t',rfl⟩:=ry
 exact rule i j t t' s _ _ hc ⟨.int (g i j),H,I.tok _,⟨_,rfl⟩,q⟩
theorem opI0 {f:aJ}{g:aP}
  (rule:∀ (i j:Int) (t u:Tok) (s:Ke) (Q:aq) (E:aq),Q (.int (g i j) s.toks) { s with toks:=s.toks+1 }->wpAny (model X.prog X.w) X.A (f (.int i t) (.int j u)) Q E s) :
  OpR X f (rI0 fun i j=>.int (g i j)):=by
 intro pins s σ H x y v u Q I rx ry h
 obtain ⟨i,j,rfl,rfl,q⟩:=h
 obtain ⟨t,rfl⟩:=rx
 obtain ⟨t',rfl⟩:=ry
 exact rule i j t t' s _ _ ⟨.int (g i j),H,I.tok _,⟨_,rfl⟩,q⟩
theorem opB0 {f:aJ}{g:Int->Int->Bool}
  (rule:∀ (i j:Int) (t u:Tok) (s:Ke) (Q:aq) (E:aq),Q (.bool (g i j)) s->wpAny (model X.prog X.w) X.A (f (.int i t) (.int j u)) Q E s) :
  OpR X f (rI0 fun i j=>.bl (g i j)):=by
 intro pins s σ H x y v u Q I rx ry h
 obtain ⟨i,j,rfl,rfl,q⟩:=h
 obtain ⟨t,rfl⟩:=rx
 obtain ⟨t',rfl⟩:=ry
 exact rule i j t t' s _ _ ⟨.bl (g i j),H,I,rfl,q⟩
def CDiv (i j:Int):Prop:=0<j/\j<1073741824
def CPow (i j:Int):Prop:=0<=j/\j<=1000000/\i.natAbs<2 ^ 64
theorem qdI:OpR X (binaryOp .Add) (rI0 fun i j=>.int (i+j)):=opI0 fun _ _ _ _ _ _ _ q=>add_int q
theorem qdN:OpR X (binaryOp .Sub) (rI0 fun i j=>.int (i-j)):=opI0 fun _ _ _ _ _ _ _ q=>sub_int q
theorem qcm:OpR X (binaryOp .FloorDiv) (rI CDiv fun i j=>.int (i / j)):=opI fun i j _ _ _ _ _ hc q=>by
 have h1:(0:Int)<j:=hc.1
 have h2:j<1073741824:=hc.2
 exact floordiv_int (by omega) (by rw [Int.fdiv_eq_ediv_of_nonneg i (by omega)];exact q) (.inl (PyProof.noPylong_small (by omega)))
theorem qdK:OpR X (binaryOp .Mod) (rI (fun _ j=>0<j) fun i j=>.int (i % j)):=opI fun i j _ _ _ _ _ hc q=>by
 have h1:(0:Int)<j:=hc
 exact mod_int' (by omega) (by rw [Int.fmod_eq_emod_of_nonneg i (by omega)];exact q)
theorem unI {f:Kc->Sem Kc}{g:Int->Int}
  (rule:∀ (i:Int) (t:Tok) (s:Ke) (Q:aq) (E:aq),Q (.int (g i) s.toks) { s with toks:=s.toks+1 }->wpAny (model X.prog X.w) X.A (f (.int i t)) Q E s) :
  UnR X f (rU fun i=>.int (g i)):=by
 intro pins s σ H x v Q I rx h
 obtain ⟨i,rfl,q⟩:=h
 obtain ⟨t,rfl⟩:=rx
 exact rule i t s _ _ ⟨.int (g i),H,I.tok _,⟨_,rfl⟩,q⟩
theorem qey:UnR X (unaryOp .USub) (rU fun i=>.int (-i)):=unI fun _ _ _ _ _ q=>neg_int q
end
section
variable {X:Cx}{a b c:Kr}{ta tb tc:TE}{pos:Pos}
theorem YH {pins:ag}{σ:St}{H:Hp}{s:Ke}{Q:VK}{k k':Bool}(I:Inv X pins σ H s)(q:Q (.bl k) H)(e:k=k'):EP X pins σ Q (.bool k') s:=by
 subst e
 exact ⟨.bl k,H,I,rfl,q⟩
theorem op_le:OpR X (compareOp .LtE) (rI0 fun i j=>.bl (decide (i<=j))):=opB0 fun _ _ _ _ _ _ _ q=>le_int q
theorem op_gt:OpR X (compareOp .Gt) (rI0 fun i j=>.bl (decide (j<i))):=opB0 fun _ _ _ _ _ _ _ q=>gt_int q
theorem op_ge:OpR X (compareOp .GtE) (rI0 fun i j=>.bl (decide (j<=i))):=opB0 fun _ _ _ _ _ _ _ q=>ge_int q
theorem OpR.or {f:aJ}{r r':R2}(h:OpR X f r)(h':OpR X f r'):OpR X f (fun x y H Q=>r x y H Q\/r' x y H Q):=by
 intro pins s σ H x y v u Q I rx ry q
 rcases q with q|q
 ·exact h pins s σ H x y v u Q I rx ry q
 ·exact h' pins s σ H x y v u Q I rx ry q
theorem zp (b:Kr){op:CmpOp}(h:op≠.In:=by decide)(h2:op≠.NotIn:=by decide):behindInMarks op b=false:=by
 have e1:(op==CmpOp.In)=false:=by cases op<;>first|rfl|exact absurd rfl h
 have e2:(op==CmpOp.NotIn)=false:=by cases op<;>first|rfl|exact absurd rfl h2
 cases b<;>simp [behindInMarks,e1,e2]
theorem qcw {op:CmpOp}{r:R2}(ho:OpR X (compareOp op) r)(ha:PE X a ta)(hb:PE X b tb)(hm:behindInMarks op b=false):PE X (.Compare a [op] [b] pos) (tOp r ta tb):=by
 intro pins s σ H Q I h
 exact wpAny_Compare1 (binT ha hb I h fun v u s2 x y H2 I2 rx ry q=>ho pins s2 σ H2 x y v u Q I2 rx ry q) hm
def tTest (t:TE):TT:=fun σ H Q=>t σ H fun x H'=>∃ k,x=.bl k/\Q k H'
theorem qcE {op:CmpOp}{r:R2}(ho:OpR X (compareOp op) r)(ha:PE X a ta)(hb:PE X b tb)(hm:behindInMarks op b=false):PT X (.Compare a [op] [b] pos) (tTest (tOp r ta tb)):=by
 intro pins s σ H Q I h
 refine wpAny_isTrue_Compare1 (thn (ha pins s σ H _ I h) fun v s1 ⟨x,H1,I1,r1,q1⟩=>thn (hb pins s1 σ H1 _ I1 q1) fun u s2 ⟨y,H2,I2,r2,q2⟩ =>
  thn (ho pins s2 σ H2 x y v u _ I2 r1 r2 q2) fun c s3 ⟨z,H3,I3,r3,k,e,q3⟩=>?_) hm
 subst e
 cases r3
 exact VX ⟨H3,I3,q3⟩
def TruV (K:Kb)(x:V)(H:Hp)(k:Bool):Prop :=
 match x with
 | .non=>k=false
 | .bl b=>k=b
 | .int i=>k=(i != 0)
 | .str y=>y.length<=sizeLine/\k=((y.length:Int) != 0)
 | .byt y=>y.size<=sizeLine/\k=((y.size:Int) != 0)
 | .ref p=>(∃ xs,SqL K H p xs/\k=!xs.isEmpty)\/(∃ xs,SqT K H p xs/\k=!xs.isEmpty)\/∃ kvs,H p=some (.dK kvs)/\k=!kvs.isEmpty
 | _=>False
theorem YK {κ:Type}{kvs:List (κ×V)}{vs:List (κ×Value)}(r:KV kvs vs):(!vs.isEmpty)=!kvs.isEmpty:=by
 cases r<;>rfl
theorem jK {xs:List V}{its:aw}(r:Vals xs its):(!its.toArray.isEmpty)=!xs.isEmpty:=by
 cases r<;>simp
theorem Z7:(sizeLine:Nat)<2 ^ 63:=by rw [Uj];decide
theorem qev:TruR X (fun x H Q=>∃ k,TruV X.K x H k/\Q k H):=by
 intro pins s σ H x v Q I rx h
 obtain ⟨k,e,q⟩:=h
 have hl:=Z7
 have hs:sizeLine=16777216:=Uj
 cases x with
 | non =>
  cases rx
  have e':k=false:=e
  subst e'
  exact truthy_none ⟨H,I,q⟩
 | bl b =>
  cases rx
  have e':k=b:=e
  subst e'
  exact VX ⟨H,I,q⟩
 | int i =>
  obtain ⟨t,rfl⟩:=rx
  have e':k=(i != 0):=e
  subst e'
  exact PySem.P.truthy_int ⟨H,I,q⟩
 | str y =>
  obtain ⟨t,rfl⟩:=rx
  obtain ⟨hy,e'⟩:y.length<=sizeLine/\k=((y.length:Int) != 0):=e
  subst e'
  exact PySem.P.truthy_str (by omega) ⟨H,I.tok _,q⟩
 | byt y =>
  obtain ⟨t,rfl⟩:=rx
  obtain ⟨hy,e'⟩:y.size<=sizeLine/\k=((y.size:Int) != 0):=e
  subst e'
  exact PySem.W.truthy_bytes (by omega) ⟨H,I.tok _,q⟩
 | ref p =>
  cases rx
  have e':(∃ xs,SqL X.K H p xs/\k=!xs.isEmpty)\/(∃ xs,SqT X.K H p xs/\k=!xs.isEmpty)\/∃ kvs,H p=some (.dK kvs)/\k=!kvs.isEmpty:=e
  rcases e' with ⟨xs,hx,e'⟩|⟨xs,hx,e'⟩|⟨kvs,hx,e'⟩
  ·subst e'
   obtain ⟨its,r,pl,hz⟩:=I.list hx
   have hlen:=r.length
   exact wpAny_truthy_list pl.isList (by simp only [Km];omega) ⟨H,I.tok _,by rw [jK r];exact q⟩
  ·subst e'
   obtain ⟨its,r,pl,hz⟩:=I.tuple hx
   have hlen:=r.length
   exact truthy_tuple pl (by simp only [Km];omega) ⟨H,I.tok _,by rw [jK r];exact q⟩
  ·subst e'
   obtain ⟨hz,hS,vs,r,m⟩:kvs.length<=sizeLine/\(p==sysModules)=false/\∃ vs,KV kvs vs/\s.heap.DictOf (yo X.prog X.w) p vs:=I.hok p _ hx
   have hlen:kvs.length=vs.length:=Paired.length r
   exact wpAny_truthy_dict hS m (by omega) ⟨H,I.tok _,by rw [YK r];exact q⟩
 | _=>exact (show False from e).elim
theorem qbl (ha:PE X a ta)(he:∀ whole,isTrue a X.env whole=(do let v ← whole;standAt a.pos;holding [v] (truthy v))) :
  PT X a (fun σ H Q=>ta σ H fun x H'=>∃ k,TruV X.K x H' k/\Q k H'):=by
 intro pins s σ H Q I h
 exact isTrue_plain (thn (ha pins s σ H _ I h) fun v s1 ⟨x,H1,I1,r1,q1⟩=>qev pins s1 σ H1 x v Q I1 r1 q1) (he _)
theorem vals1 {x:V}{us:aw}(r:Vals [x] us):∃ u,us=[u]/\RelV x u:=by
 cases r with
 | cons r1 r2=>cases r2;exact ⟨_,rfl,r1⟩
end
structure ObjM (h:KI)(x dx C:Kd)(mA:au):Prop where
 obj:h.get? x=some (XE C dx)
 ns:h.Ns1 dx mA
 ne:dx≠x
theorem WY {h:KI}{dx:Kd}{mA:au}(n:h.Ns1 dx mA):∃ od,h.get? dx=some od/\∀ name,XX name od=some (mA name):=by
 obtain ⟨o,es,ep,ho,hd,hk,_,hm⟩:=n
 refine ⟨o,ho,fun name=>?_⟩
 have e:=hm name
 unfold nsFind findBy at e
 rw [← Array.find?_toList] at e
 unfold XX
 rw [hd]
 dsimp only
 split
 ·rename_i y q
  rw [q] at e
  exact congrArg some e
 ·rename_i q
  rw [q] at e
  have a:es.toList.any (·.refKey)=false:=by
   rw [List.any_eq_false]
   intro y hy
   obtain ⟨z,t,hkey⟩:=hk y (Array.mem_toList_iff.mp hy)
   simp [DictEntry.refKey,hkey]
  have a':¬ es.toList.any (·.refKey)=true:=by rw [a];exact Vp
  rw [if_neg a']
  exact congrArg some e
theorem ObjM.look {h:KI}{x dx C:Kd}{mA:au}(I:ObjM h x dx C mA):∃ od,PySem.W.InstAt h x (XE C dx) C (some od)/\∀ name,XX name od=some (mA name) :=
 let ⟨od,ho,hl⟩:=WY I.ns
 ⟨od,⟨I.obj,rfl,rfl,ho⟩,hl⟩
section
variable {P:KD}{w:KM}{H H':Hp}{h h':KI}{a C dx:Kd}{fs fs':List (Str×V)}
theorem qb6 (hok:HOk P w H h)(e:H a=some (.ins C dx fs)):∃ mA,ObjM h a dx C mA/\(∀ f,RelO (fs.lookup f) (mA f))/\PySem.Within mA (fs.map (·.1))/\fs.length<=1000/\H dx=some (.own a):=by
 obtain ⟨d,z,ne,ob,mA,n,r,q⟩:=(show zy P w H h a (.ins C dx fs) from hok a _ e)
 exact ⟨mA,⟨ob,n,ne⟩,r,q,z,d⟩
end
structure Cls (K:Kb)(C:Kd):Prop where
 pg:Xn K C Str.empty=true
 hd:Na K C=true
 po:Nb K C=true
 sa:Vs K (.ref C) "__setattr__" = some (some (.builtin "object.__setattr__"))
theorem Cls.get {K:Kb}{C:Kd}(c:Cls K C)(f:Str):Xn K C f=true:=c.pg
section
variable {X:Cx}{pins:ag}{σ:St}{H:Hp}{s:Ke}{A:KU}{E:aq}{Q:aq}{c:Kc}{b:Bool}
inductive TyOf (K:Kb)(H:Hp):V->Kc->Prop where
 | non:TyOf K H .non (.type "NoneType")
 | bl (x:Bool):TyOf K H (.bl x) (.type "bool")
 | int (i:Int):TyOf K H (.int i) (.type "int")
 | str (x:Str):TyOf K H (.str x) (.type "str")
 | flt (x:UInt64):TyOf K H (.flt x) (.type "float")
 | lst {a:Kd} {xs:List V} (e:H a=some (.lst xs)):TyOf K H (.ref a) (.type "list")
 | frz {a:Kd} {o:Obj} {xs:List V} (e:H a=some (.frz o (.lst xs))):TyOf K H (.ref a) (.type "list")
 | tup {a:Kd} {xs:List V} (e:H a=some (.tup xs)):TyOf K H (.ref a) (.type "tuple")
 | dK {a:Kd} {kvs:List (Key×V)} (e:H a=some (.dK kvs)):TyOf K H (.ref a) (.type "dict")
 | dT {a:Kd} {kvs:List (List Key×V)} (e:H a=some (.dT kvs)):TyOf K H (.ref a) (.type "dict")
 | ins {a C dx:Kd} {fs:List (Str×V)} (e:H a=some (.ins C dx fs)) (cl:Cls K C) (ha:Vs K (.ref C) "__class__" = some (some (.builtin "object.__class__")))
   (hn:Xd K (.builtin "object.__class__") "__get__" = some (some (.builtin "getset_descriptor.__get__"))) (htk:XG K (.builtin "object.__class__")=some true)
   (hm:Ua K C (.type "object")=some true):TyOf K H (.ref a) (.ref C)
theorem WR {x:V}{u t:Kc}(I:Inv X pins σ H s)(rx:RelV x u)(ty:TyOf X.K H x t)(e:Vt X.K t c=some b)(h:∀ tk,Q (.bool b) { s with toks:=tk }) :
  wpAny (model X.prog X.w) A (call (.builtin "isinstance") [u,c]) Q E s:=by
 cases ty with
 | non=>cases (show u=VM from rx);exact KG Nc I.kIn Ud e (fun z=>nomatch z) h
 | bl y=>cases (show u=Uc y from rx);exact KG Nd I.kIn Ud e (fun z=>nomatch z) h
 | int i=>obtain ⟨t,q⟩:=(show ∃ t,u=UN i t from rx);cases q;exact KG PySem.W.kitx_int I.kIn Ud e (fun z=>nomatch z) h
 | str y=>obtain ⟨t,q⟩:=(show ∃ t,u=UM y t from rx);cases q;exact KG PySem.W.kitx_str I.kIn Ud e (fun z=>nomatch z) h
 | flt y=>obtain ⟨t,q⟩:=(show ∃ t,u=Value.float y t from rx);cases q;exact KG PySem.W.kitx_float I.kIn Ud e (fun z=>nomatch z) h
 | @lst a xs ea =>
  cases (show u=Vh a from rx)
  obtain ⟨_,_,n,_,h1⟩:=(show zy X.prog X.w H s.heap a (.lst xs) from I.hok a _ ea)
  exact KG Xe I.kIn ⟨_,h1,rfl⟩ e (fun z=>nomatch z) h
 | @frz a ob xs ea =>
  cases (show u=Vh a from rx)
  obtain ⟨_,_,_,n,_,h1⟩:=(show zy X.prog X.w H s.heap a (.frz ob (.lst xs)) from I.hok a _ ea)
  exact KG Xe I.kIn ⟨_,h1,rfl⟩ e (fun z=>nomatch z) h
 | @tup a xs ea =>
  cases (show u=Vh a from rx)
  obtain ⟨_,_,_,p⟩:=(show zy X.prog X.w H s.heap a (.tup xs) from I.hok a _ ea)
  obtain ⟨o,h1,h2,_⟩:=p
  exact KG X5 I.kIn ⟨o,h1,h2⟩ e (fun z=>nomatch z) h
 | @dK a kvs ea =>
  cases (show u=Vh a from rx)
  obtain ⟨_,_,vs,_,p⟩:=(show zy X.prog X.w H s.heap a (.dK kvs) from I.hok a _ ea)
  obtain ⟨o,es,ep,h1,h2,_⟩:=p
  exact KG Xf I.kIn ⟨o,h1,h2.1⟩ e (fun z=>nomatch z) h
 | @dT a kvs ea =>
  cases (show u=Vh a from rx)
  obtain ⟨_,_,xs,_,o,es,ep,h1,h2,_⟩:=(show zy X.prog X.w H s.heap a (.dT kvs) from I.hok a _ ea)
  exact KG Xf I.kIn ⟨o,h1,h2.1⟩ e (fun z=>nomatch z) h
 | @ins a C dx fs ea cl ha hn htk hm =>
  cases (show u=Vh a from rx)
  obtain ⟨mA,O,_⟩:=qb6 I.hok ea
  obtain ⟨od,J,_⟩:=O.look
  exact KG (PySem.W.kitx_own (cl.get _) cl.hd ha hn htk hm) I.kIn J e (fun z=>nomatch z) h
end
structure Room (k:Nat)(A:KU):Prop where
 hd:A.handled=none
 dp:A.depth+3*k+5<recursionLimit
 un:A.units+16*k+200<cLine
 gd:A.guards=some []
theorem Room.mono {j k:Nat}{A:KU}(r:Room k A)(h:j<=k):Room j A:=⟨r.hd,by have:=r.dp;omega,by have:=r.un;omega,r.gd⟩
theorem Room.deeper {k:Nat}{A:KU}(r:Room (k+1) A)(env:Env):Room k (A.deeper env) :=
 ⟨r.hd,by have:=r.dp;show A.depth+1+3*k+5<_;omega,by have:=r.un;show A.units+3+16*k+200<_;omega,r.gd⟩
theorem Room.depth {k:Nat}{A:KU}(r:Room k A):A.depth<recursionLimit:=by have:=r.dp;omega
theorem Room.units {k:Nat}{A:KU}(r:Room k A):A.units+64<cLine:=by have:=r.un;omega
def tNil:TA:=fun _ H Q=>Q [] H
def tCons (ta:TE)(tr:TA):TA:=fun σ H Q=>ta σ H fun x H1=>tr σ H1 fun xs H2=>Q (x::xs) H2
section
variable {X:Cx}{e:Kr}{es:aH}{te:TE}{t:TA}{pos:Pos}
theorem Y0:PA X [] tNil:=fun _ _ _ _ H Q I h=>Calls.spliced_nil ⟨[],H,I,.nil,h⟩
theorem jq (ha:PE X e te)(hr:PA X es t)(hs:starEach (e::es) X.env=(false,eval e X.env)::starEach es X.env:=by rfl):PA X (e::es) (tCons te t):=by
 intro pos pins s σ H Q I h
 rw [hs]
 show wpAny _ _ (spliced ((false,eval e X.env)::backTo pos (starEach es X.env))) _ _ s
 refine Calls.spliced_cons (thn (ha pins s σ H _ I h) fun u s1 ⟨x,H1,I1,r1,q1⟩=>?_)
 exact thn (hr pos pins s1 σ H1 _ I1 q1) fun us s2 ⟨xs,H2,I2,r2,q2⟩=>⟨x::xs,H2,I2,.cons r1 r2,q2⟩
def tTup (t:TA):TE:=fun σ H Q=>t σ H fun xs H1=>xs.length<=sizeLine/\∀ p,H1 p=none->Q (.ref p) (upd H1 p (.tup xs))
def tLst (t:TA):TE:=fun σ H Q=>t σ H fun xs H1=>xs.length<=sizeLine/\∀ p,H1 p=none->Q (.ref p) (upd H1 p (.lst xs))
theorem qdX {x1}(h:PA X es t):PE X (.Tuple es x1 pos) (tTup t):=by
 intro pins s σ H Q I hq
 refine wpAny_Tuple_spliced (thn (h pos pins s σ H _ I hq) fun us s1 ⟨xs,H1,I1,r,z,q⟩=>⟨by rw [← r.length];exact z,?_⟩)
 have hf:H1 s1.heap.objs.size=none:=I1.hok.fresh (Ko _)
 refine ⟨.ref s1.heap.objs.size,upd H1 s1.heap.objs.size (.tup xs),I1.laid (t':=s1.toks) (fun b u e=>Kp _ e) (Ko _) ?_,rfl,q _ hf⟩
 exact ⟨z,us,r,⟨_,K5 _ rfl,rfl,_,rfl⟩⟩
theorem qa9 (h:PA X es t):PE X (.List es pos) (tLst t):=by
 intro pins s σ H Q I hq
 refine wpAny_List_spliced (thn (h pos pins s σ H _ I hq) fun us s1 ⟨xs,H1,I1,r,z,q⟩=>⟨by rw [← r.length];exact z,?_⟩)
 have hf:H1 s1.heap.objs.size=none:=I1.hok.fresh (Ko _)
 refine ⟨.ref s1.heap.objs.size,upd H1 s1.heap.objs.size (.lst xs),I1.laid (t':=s1.toks) (fun b u e=>Kp _ e) (Ko _) ?_,rfl,q _ hf⟩
 exact ⟨z,us,0,r,K5 _ rfl⟩
end
abbrev Sp:=List V->Hp->VK->XK->Prop
abbrev CXT:=List Env->Hp->Ke->XK->Kc->Ke->Prop
structure Env0 (P:KD)(w:KM)(K:Kb)(mg:au)(base:KI)(A:KU)(outer:aX)(s:Ke)(H:Hp):Prop where
 frames:A.frames=some outer
 mod:Mod K mg base
 bs:∀ b o,base.get? b=some o->s.heap.get? b=some o/\H b=none
 bsz:base.objs.size<=s.heap.objs.size
 funs:s.heap.FunFrames base outer
 frf:∀ b∈frs outer,H b=none
 hok:HOk P w H s.heap
 bare:UQ s.gens
def CE (outer:aX)(P:KD)(w:KM)(H:Hp)(s:Ke)(Q:VK)(u:Kc)(s':Ke):Prop :=
 ∃ v H',s'.os=s.os/\UQ s'.gens/\Un (frs outer) [] H H' s.heap s'.heap/\HOk P w H' s'.heap/\RelV v u/\Q v H'
def CR (CX:CXT)(outer:aX)(P:KD)(w:KM)(H:Hp)(s:Ke)(Q:VK)(E:XK)(r:Result)(s':Ke):Prop :=
 match r with
 | .ok (.ret u)=>CE outer P w H s Q u s'
 | .ok _=>False
 | .error e=>CX outer H s E e s'
structure FnOk (P:KD)(w:KM)(K:Kb)(mg:au)(base:KI)(CX:CXT)(k:Nat)(f:Kd)(fd:Vq)(ps:aA)(sp:Sp):Prop where
 len:∀ vs H Q E,sp vs H Q E->vs.length=ps.length
 run:∀ (A:KU) (outer:aX) (s:Ke) (H:Hp) (args:Args) (us:aw) (vs:List V) (Q:VK) (E:XK),Room k A->Env0 P w K mg base A outer s H->BindsTo s fd args (ps.zip us)->Vals vs us->sp vs H Q E->
  codeAny (model P w) A (.call (.ref f) args) (CR CX outer P w H s Q E) s
theorem FnOk.imp {P:KD}{w:KM}{K:Kb}{mg:au}{base:KI}{CX:CXT}{k:Nat}{f:Kd}{fd:Vq}{ps:aA}{sp sp':Sp}(F:FnOk P w K mg base CX k f fd ps sp)
  (h:∀ vs H Q E,sp' vs H Q E->sp vs H Q E):FnOk P w K mg base CX k f fd ps sp' :=
 ⟨fun vs H Q E q=>F.len vs H Q E (h _ _ _ _ q),fun A outer s H args us vs Q E hr he hb hv hs=>F.run A outer s H args us vs Q E hr he hb hv (h _ _ _ _ hs)⟩
section
variable {X:Cx}{pins:ag}{σ:St}{H:Hp}{s s':Ke}
theorem Inv.env0 (I:Inv X pins σ H s):Env0 X.prog X.w X.K X.mg X.base X.A X.stack s H :=
 ⟨I.ok.frames,I.ok.mod,I.bs,K7 I.ok.bsz I.sz,I.stack,I.stkFree,I.hok,I.bare⟩
theorem Inv.after {Q:VK}{u:Kc}(I:Inv X pins σ H s)(h:CE X.stack X.prog X.w H s Q u s'):EP X pins σ Q u s':=by
 obtain ⟨v,H',os,bare,un,hok,r,q⟩:=h
 obtain ⟨hh,g,d,t,os'⟩:=s'
 obtain rfl:os'=s.os:=os
 exact ⟨v,H',I.call (h':=hh) (g':=g) (d':=d) (t':=t) (ch:=[]) un hok bare (fun b z=>absurd z (by simp)),r,q⟩
end
def tCall (sp:Sp)(dvs:List V)(E:XK)(t:TA):TE:=fun σ H Q=>t σ H fun vs H1=>sp (vs++dvs) H1 Q E
def Binds (K:Kb)(fd:Vq)(ps:aA)(ds:aw):Prop :=
 ∀ (s:Ke) (us:aw),K.In s.heap->(us++ds).length=ps.length->BindsTo s fd ⟨us,[]⟩ (ps.zip (us++ds))
theorem Binds.all {K:Kb}{fd:Vq}{ps:aA}(h:∀ us:List Kc,us.length=ps.length->bindArgs fd ⟨us,[]⟩=pure (ps.zip us)):Binds K fd ps []:=fun s us _ hl=>by
 rw [Vn] at hl ⊢
 exact .of_eq (h us hl)
def JT (CX:CXT)(X:Cx)(E:XK):Prop:=∀ (pins:ag) (σ:St) (H:Hp) (s:Ke) (e:Kc) (s':Ke),Inv X pins σ H s->CX X.stack H s E e s'->X.xe e s'
section
variable {X:Cx}{CX:CXT}{k:Nat}{f C:Kd}{fd:Vq}{ps:aA}{sp:Sp}{dvs:List V}{ds:aw}{E:XK}{x m:Str}{p pos apos:Pos}{e o:Kr}{es:aH}{ta:TE}{t:TA}
theorem qea {pins:ag}{σ:St}{H:Hp}{s:Ke}{Q:VK}{us:aw}{vs:List V}(F:FnOk X.prog X.w X.K X.mg X.base CX k f fd ps sp)(hr:Room k X.A)(hb:Binds X.K fd ps ds)(hd:Vals dvs ds)(hx:JT CX X E)
  (I:Inv X pins σ H s) (r:Vals vs us) (h:sp (vs++dvs) H Q E):wpAny (model X.prog X.w) X.A (call (.ref f) us) (EP X pins σ Q) X.xe s:=by
 have r2:Vals (vs++dvs) (us++ds):=r.append hd
 have hl:(us++ds).length=ps.length:=by rw [← r2.length];exact F.len _ _ _ _ h
 refine wpAny_call (codeAny_mono (F.run X.A X.stack s H ⟨us,[]⟩ (us++ds) (vs++dvs) Q E hr I.env0 (hb s us I.kIn hl) r2 h) fun r s' hq=>?_)
 cases r with
 | error e=>exact hx pins σ H s e s' I hq
 | ok fl =>
  cases fl with
  | ret u=>exact I.after hq
  | next=>exact V2 hq
  | brk=>exact V2 hq
  | cont=>exact V2 hq
theorem qcv (F:FnOk X.prog X.w X.K X.mg X.base CX k f fd ps sp)(hr:Room k X.A)(hg:Gl X x)(hm:X.mg x=some (.ref f))(hk:VR X.K (.ref f)=true)(hb:Binds X.K fd ps ds)(hd:Vals dvs ds)(hx:JT CX X E)
  (ha:PA X (e::es) t) (hdb:(x==("__debug__" : Str))=false:=by decide) (he:starEach (e::es) X.env=(false,eval e X.env)::starEach es X.env:=by rfl) (hpl:(backTo pos (starEach es X.env)).any (·.1)=false:=by rfl) :
  PE X (.Call (.Name x p) (e::es) [] pos) (tCall sp dvs E t):=by
 intro pins s σ H Q I h
 refine VH (qb9 I hg hm ?_ hdb)
 refine PySem.W.callWith_K (h₀:=X.base) I.ok.mod.kin hk (thn (ha pos pins s σ H _ I h) fun us s1 ⟨vs,H1,I1,r,q⟩=>⟨I1.kIn,?_⟩) he hpl
 exact qea F hr hb hd hx I1 r q
end
structure FnScope (N P:aA)(sc:K3):Prop where
 kind:sc.kind=.function
 co:sc.isCoroutine=false
 gen:sc.isGenerator=false
 nd:N.Nodup
 pre:N.take P.length=P
 par:∀ x∈P,sc.names.lookup x=some .local\/sc.names.lookup x=some .cell
 nofree:∀ y∈sc.names,y.2≠.free
theorem Jo {kindOf:Str->Option Xo}{x:Str}:∀ {binds:List (Str×Value)} {m:au},(∀ v,(x,v)∉binds)->bindL kindOf binds m x=m x
 | [],_,_=>rfl
 | (n,v)::r,m,h=>by
  unfold bindL
  rw [Jo fun w hw=>h w (KY _ hw)]
  split
  ·have:x≠n:=by rintro rfl;exact h v K0
   simp [this]
  ·rfl
theorem Jl {kindOf:Str->Option Xo}{x:Str}:∀ {binds:List (Str×Value)} {m:au},(∀ v,(x,v)∉binds)->bindC kindOf binds m x=m x
 | [],_,_=>rfl
 | (n,v)::r,m,h=>by
  unfold bindC
  rw [Jl fun w hw=>h w (KY _ hw)]
  split
  ·rfl
  ·have:x≠n:=by rintro rfl;exact h v K0
   simp [this]
theorem Jm {kindOf:Str->Option Xo}{x:Str}{v:Kc}:∀ {P:aA} {vs:aw} {i:Nat} {m:au},P.Nodup->P[i]?=some x->vs[i]?=some v->kindOf x=some .local->
  bindL kindOf (P.zip vs) m x=some v
 | [],_,_,_,_,h,_,_=>by simp at h
 | _::_,[],_,_,_,_,h,_=>by simp at h
 | p::P,w::vs,0,m,nd,h1,h2,hk=>by
  simp at h1 h2;subst h1;subst h2
  show bindL kindOf ((p,w)::P.zip vs) m p=_
  unfold bindL
  rw [Jo fun v hv=>(UU.mp nd).1 (XH hv).1,if_pos hk]
  simp
 | p::P,w::vs,i+1,m,nd,h1,h2,hk=>by
  show bindL kindOf ((p,w)::P.zip vs) m x=_
  unfold bindL
  exact Jm (i:=i) (UU.mp nd).2 (by simpa using h1) (by simpa using h2) hk
theorem Jk {kindOf:Str->Option Xo}{x:Str}{v:Kc}:∀ {P:aA} {vs:aw} {i:Nat} {m:au},P.Nodup->P[i]?=some x->vs[i]?=some v->kindOf x≠some .local->
  bindC kindOf (P.zip vs) m x=some v
 | [],_,_,_,_,h,_,_=>by simp at h
 | _::_,[],_,_,_,_,h,_=>by simp at h
 | p::P,w::vs,0,m,nd,h1,h2,hk=>by
  simp at h1 h2;subst h1;subst h2
  show bindC kindOf ((p,w)::P.zip vs) m p=_
  unfold bindC
  rw [Jl fun v hv=>(UU.mp nd).1 (XH hv).1,if_neg hk]
  simp
 | p::P,w::vs,i+1,m,nd,h1,h2,hk=>by
  show bindC kindOf ((p,w)::P.zip vs) m x=_
  unfold bindC
  exact Jk (i:=i) (UU.mp nd).2 (by simpa using h1) (by simpa using h2) hk
def start (N:aA)(vs:List V):St:=vs.map some++Kl (N.length-vs.length) none
def cxOf (CX:CXT)(P:KD)(w:KM)(K:Kb)(mg:au)(base:KI)(N:aA)(qual:Str)(scope:K3)(f:Kd)(cd:Kc)(A:KU)(outer:aX)(s:Ke)(H:Hp)(E:XK):Cx where
 prog:=P
 w:=w
 K:=K
 mg:=mg
 base:=base
 A:=A.deeper (envOfC qual scope s.heap.objs.size f cd)
 N:=N
 s₀:=s
 H₀:=H
 env:=envOfC qual scope s.heap.objs.size f cd
 outer:=outer
 stack:=envOfC qual scope s.heap.objs.size f cd::outer
 ex:=[]
 calm:=true
 fn:=fun _=>true
 pn:=[]
 xe:=fun e s'=>wpAny (model P w) (A.deeper (envOfC qual scope s.heap.objs.size f cd)) (leaving (envOfC qual scope s.heap.objs.size f cd) e) (fun _ s''=>CX outer H s E e s'') (fun e' s''=>CX outer H s E e' s'') s'
theorem yM {sc:K3}{n:Nat}{x:Str}(h:sc.names.lookup x=some .cell):∃ c,(cellsFrom n sc.names []).lookup x=some c:=by
 have q:=XQ sc.names n [] (.inl h)
 exact Option.isSome_iff_exists.mp q
theorem WQ {CX:CXT}{P:KD}{w:KM}{K:Kb}{mg:au}{base:KI}{N ps:aA}{qual:Str}{scope:K3}{f:Kd}{cd:Kc}{A:KU}{outer:aX}{s s1:Ke}{H:Hp}{E:XK}{us:aw}{vs:List V}
  (S:FnScope N ps scope) (hd:A.handled=none) (e0:Env0 P w K mg base A outer s H) (hl:vs.length=ps.length) (r:Vals vs us)
  (x:InCallC s s.heap.objs.size (bindL (envOfC qual scope s.heap.objs.size f cd).kindOf (ps.zip us) fun _=>none) (cellsFrom (s.heap.objs.size+1) scope.names []) (bindC (envOfC qual scope s.heap.objs.size f cd).kindOf (ps.zip us) fun _=>none) s1) :
  Inv (cxOf CX P w K mg base N qual scope f cd A outer s H E) [] (start N vs) H s1:=by
 have hpl:ps.length<=N.length:=by have:=congrArg List.length S.pre;rw [Up] at this;omega
 obtain ⟨h1,tk,rfl,hk⟩:=x.done
 have noA:∀ b:Kd,b∉(cxOf CX P w K mg base N qual scope f cd A outer s H E).ex:=fun b z=>absurd (show b∈([]:List Kd) from z) (by simp)
 refine ⟨⟨e0.mod,S.kind,rfl,rfl,Ko _,fun y z c h1 h2=>?_,fun y hy=>?_,fun y c _ h=>?_,fun _=>hd,Around.frames_deeper e0.frames,.inr ⟨rfl,rfl⟩,fun b z=>absurd z (noA b),e0.bs,e0.bsz,fun b _ _=>noA b,fun b z=>absurd z (noA b),e0.funs,e0.frf⟩,
  rfl,e0.bare,Un.kept hk,⟨_,x.toInCall.ns,fun i y v h1 h2 h3=>?_⟩,fun y c h=>⟨_,x.cell y c h⟩,e0.hok.fresh (Ko _),fun y c h=>?_,fun p hp=>absurd (show p∈([]:List (Kd×Obj)) from hp) (by simp),e0.hok.kept hk,?_⟩
 ·exact name_of_addr x.apart (Vv h1) (Vv h2)
 ·have hy:scope.names.lookup y=some .cell\/scope.names.lookup y=some .free:=hy
  rcases hy with hy|hy
  ·exact yM hy
  ·exact absurd rfl (S.nofree _ (Vv hy))
 ·exact Vk (x.above y c (Vv h))
 ·have hi:i<vs.length:=by
   unfold start at h2
   by_cases hi:i<vs.length
   ·exact hi
   ·rw [VG (by simpa using hi)] at h2
    rw [VP] at h2
    split at h2<;>cases h2
  have ha:vs[i]?=some v:=by
   unfold start at h2
   rw [K8 (by simpa using hi),KW] at h2
   cases e:vs[i]? with
   | none=>rw [e] at h2;cases h2
   | some a=>rw [e] at h2;cases h2;rfl
  obtain ⟨u,hu,rv⟩:=r.get ha
  have hp:ps[i]?=some y:=by
   rw [← S.pre,List.getElem?_take_of_lt (by omega)];exact h1
  have ndP:ps.Nodup:=by rw [← S.pre];exact S.nd.sublist (List.take_sublist _ _)
  refine ⟨u,rv,?_⟩
  rcases S.par y (KO hp) with k|k
  ·exact .inl ⟨k,Jm ndP hp hu k⟩
  ·obtain ⟨c,e⟩:=yM (n:=s.heap.objs.size+1) k
   refine .inr ⟨.inl k,c,e,?_⟩
   have q:=x.cell y c e
   rw [Jk ndP hp hu (by show scope.names.lookup y≠_;rw [k];decide)] at q
   exact q
 ·exact e0.hok.fresh (Vk (x.above y c (Vv h)))
 ·unfold start
  show _=N.length
  rw [Kv,Kg,K4]
  omega
theorem fn_of {CX:CXT}{P:KD}{w:KM}{K:Kb}{mg:au}{base:KI}{k:Nat}{f:Kd}{name qual:Str}{params:Arguments}{body:aY}{scope:K3}{dV kV doc pm cdv ct oc:Kc}{an od:aR}
  {osl:aI} {N ps:aA} {sp:Sp} (lk:K.lookup f=some ⟨oc,od,.func (VN name qual params body scope dV kV doc pm an cdv ct),osl⟩) (hcd:Um K cdv qual=true) (S:FnScope N ps scope)
  (len:∀ vs H Q E,sp vs H Q E->vs.length=ps.length)
  (hbody:∀ (A:KU) (outer:aX) (s:Ke) (H:Hp) (vs:List V) (Q:VK) (E:XK),Room k (A.deeper (envOfC qual scope s.heap.objs.size f cdv))->sp vs H Q E->
   ∃ t,PSs (cxOf CX P w K mg base N qual scope f cdv A outer s H E) body t/\t { nx:=fun _ H'=>Q .non H',rt:=Q } (start N vs) H) :
  FnOk P w K mg base CX (k+1) f (VN name qual params body scope dV kV doc pm an cdv ct) ps sp:=by
 refine ⟨len,fun A outer s H args us vs Q E hr e0 hb r hsp=>?_⟩
 have hl:=len _ _ _ _ hsp
 have KX:K.In s.heap:=e0.mod.kin.keeps fun b o e=>(e0.bs b o e).1
 have lim:s.heap.NoLimit:=e0.mod.nolimit.keeps fun b o e=>(e0.bs b o e).1
 have hkind:∀ y∈ps.zip us,scope.names.lookup y.1=some .local\/(scope.names.lookup y.1=some .cell/\((cellsFrom (s.heap.objs.size+1) scope.names []).lookup y.1).isSome=true):=fun ⟨n,v⟩ hy=>by
  rcases S.par n (XH hy).1 with q|q
  ·exact .inl q
  ·exact .inr ⟨q,XQ _ _ _ (.inl q)⟩
 refine codeAny_call_function hr.depth (KX _ _ lk) rfl S.co S.gen rfl (PySem.W.codeRec_of KX hcd) (hb _ _ _ _ ?_)
 refine wpAny_newFunctionEnv_cells S.kind hkind fun env he s1 x=>?_
 subst he
 refine ⟨lim.keeps x.toInCall.keep,codeAny_func ?_⟩
 obtain ⟨t,ht,hq⟩:=hbody A outer s H vs Q E (hr.deeper _) hsp
 have I:Inv (cxOf CX P w K mg base N qual scope f cdv A outer s H E) [] (start N vs) H s1:=WQ S hr.hd e0 hl r x
 refine VF (ht [] s1 (start N vs) H _ I hq) (fun fl s' hs=>?_) fun e s' hs=>hs
 have fin:∀ {σ':St} {H':Hp} {v:V} {u:Kc},Inv (cxOf CX P w K mg base N qual scope f cdv A outer s H E) [] σ' H' s'->RelV v u->Q v H'->CE outer P w H s Q u s' :=
  fun {σ' H' v u} J rv q=>⟨v,H',J.os,J.bare,J.base,J.hok,rv,q⟩
 cases fl with
 | ret u =>
  obtain ⟨v,σ',H',J,rv,q⟩:=hs
  exact fin J rv q
 | next =>
  obtain ⟨σ',H',J,q⟩:=hs
  exact fin (v:=V.non) (u:=VM) J rfl q
 | brk =>
  obtain ⟨_,_,_,q⟩:=hs
  exact V2 q
 | cont =>
  obtain ⟨_,_,_,q⟩:=hs
  exact V2 q
section
variable {X:Cx}{x:Str}{p pos:Pos}{e:Kr}{es:aH}{t:TA}{id T:String}{r:aZ}
def tCB (r:aZ)(t:TA):TE:=fun σ H Q=>t σ H fun vs H1=>r vs H1 Q
theorem jY (hc:QF X (.builtin id) r)(hg:Gl X x)(hm:X.mg x=none)(hv:bootBuiltins x=some (.builtin id))(ha:PA X (e::es) t)(hn:x ≠ "__name__" := by decide)(hdb:(x==("__debug__" : Str))=false:=by decide)
  (he:starEach (e::es) X.env=(false,eval e X.env)::starEach es X.env:=by rfl) (hpl:(backTo pos (starEach es X.env)).any (·.1)=false:=by rfl):PE X (.Call (.Name x p) (e::es) [] pos) (tCB r t):=by
 intro pins s σ H Q I h
 refine VH (QT I hg hm hv ?_ hn hdb)
 exact PyProof.Rows.callWith_builtin1 (thn (ha pos pins s σ H _ I h) fun us s1 ⟨vs,H1,I1,r1,q1⟩=>hc pins s1 σ H1 vs us Q I1 r1 q1) he hpl
theorem JH (hc:QF X (.type T) r)(hg:Gl X x)(hm:X.mg x=none)(hv:bootBuiltins x=some (.type T))(ha:PA X (e::es) t)(hn:x ≠ "__name__" := by decide)(hdb:(x==("__debug__" : Str))=false:=by decide)
  (he:starEach (e::es) X.env=(false,eval e X.env)::starEach es X.env:=by rfl) (hpl:(backTo pos (starEach es X.env)).any (·.1)=false:=by rfl):PE X (.Call (.Name x p) (e::es) [] pos) (tCB r t):=by
 intro pins s σ H Q I h
 refine VH (QT I hg hm hv ?_ hn hdb)
 exact Vf (thn (ha pos pins s σ H _ I h) fun us s1 ⟨vs,H1,I1,r1,q1⟩=>hc pins s1 σ H1 vs us Q I1 r1 q1) he hpl
end
end L2
namespace HT
open PySem PyProof.Rows
noncomputable def lexLt:List Int->List Int->Bool
 | [],[]=>false
 | [],_::_=>true
 | _::_,[]=>false
 | x::xs,y::ys=>if x=y then lexLt xs ys else decide (x<y)
theorem Qs (x y:Int)(xs ys:List Int):lexLt (x::xs) (y::ys)=if x=y then lexLt xs ys else decide (x<y):=rfl
theorem Yq (A:KU)(s:Ke)(a:Int)(t:Tok)(c:Int)(u:Tok)(prog:KD)(w:KM)(E:Kc->Ke->Prop)(Q:Kc->Ke->Prop)(h:Q (.bool (decide (a<c))) s) :
  wpAny (model prog w) A (richCompare .Lt (.int a t) (.int c u)) Q E s :=
 (PyProof.Rows.lt_int h:wpAny (model prog w) A (compareOp .Lt (.int a t) (.int c u)) Q E s)
section
open PySem.SeqAt
open PySem.AutoSeq1 (wpAny_loadPart')
open PySem.MeetsSeq PySem.MeetsSeq2 PySem.MeetsSeq3
end
section
variable {prog:KD}{w:KM}{A:KU}{E:Kc->Ke->Prop}{s:Ke}
theorem qbM {t b:Kd}{vs ws:List Kc}{Q:Kc->Ke->Prop}(ht:IsTup s.heap t vs.toArray)(hb:IsTup s.heap b ws.toArray)(hv:vs≠[])
  (h1:ws=[]->Q (.ref t) s) (h2:ws≠[]->Q (.ref s.heap.objs.size) { s with heap:=s.heap.push { cls:=.type "tuple", data:=.seq (vs++ws).toArray } })
  (hsz:vs.length+ws.length<=sizeLine):wpAny (model prog w) A (binaryOp .Add (.ref t) (.ref b)) Q E s:=by
 obtain ⟨⟨cls,dd,data,sl⟩,ho,hc,n,hd⟩:=id ht
 obtain ⟨⟨cls2,dd2,data2,sl2⟩,ho2,hc2,n2,hd2⟩:=id hb
 simp only at hc hd hc2 hd2
 subst hc hd hc2 hd2
 have e:vs.toArray++ws.toArray=(vs++ws).toArray:=by simp
 by_cases hw:ws=[]
 ·exact Xp ⟨_,ho,rfl⟩ ⟨_,ho2,rfl⟩ Xq seq_tuple_add UD Uz (Uu _ _)
   (tuple_addW1 t b vs.toArray ws.toArray n n2 dd dd2 sl sl2 (by simpa using hv) (by simp [hw])) ⟨ho,ho2,h1 hw⟩
 ·refine Xp ⟨_,ho,rfl⟩ ⟨_,ho2,rfl⟩ Xq seq_tuple_add UD Uz (Uu _ _)
   (tuple_addW2 t b vs.toArray ws.toArray n n2 dd dd2 sl sl2 (by simpa using hv) (by simpa using hw) (by rw [Km,Km];exact hsz)) ⟨ho,ho2,?_⟩
  rw [e]
  exact h2 hw
noncomputable def sIx (n d:Nat):Option Int->Nat
 | none=>d
 | some v=>if v<0 then (v+(n:Int)).toNat else min v.toNat n
theorem qbo (n d:Nat):sIx n d none=d:=rfl
theorem yx (n d k:Nat):sIx n d (some (k:Int))=min k n:=by
 show (if (k:Int)<0 then ((k:Int)+(n:Int)).toNat else min (k:Int).toNat n)=min k n
 rw [if_neg (by omega),KA]
theorem qee (n d:Nat)(hd:d<=n)(o:Option Int):sIx n d o<=n:=by
 cases o with
 | none=>exact hd
 | some v =>
  show (if v<0 then (v+(n:Int)).toNat else min v.toNat n)<=n
  by_cases hv:v<0
  ·rw [if_pos hv];omega
  ·rw [if_neg hv];exact Nat.min_le_right _ _
theorem wM (v:Int)(n d:Nat):(if v<0 then max (v+(n:Int)) 0 else min v (n:Int))=((sIx n d (some v):Nat):Int):=by
 show (if v<0 then max (v+(n:Int)) 0 else min v (n:Int))=(((if v<0 then (v+(n:Int)).toNat else min v.toNat n):Nat):Int)
 by_cases hv:v<0
 ·simp only [if_pos hv];omega
 ·simp only [if_neg hv];omega
theorem YD (lo hi:Option Int)(n:Nat):Us lo hi 1 (n:Int)=(((sIx n 0 lo:Nat):Int),((sIx n n hi:Nat):Int)):=by
 have h1:¬ ((1:Int)<0):=by omega
 unfold Us
 simp only [h1,if_false]
 refine Prod.ext ?_ ?_
 ·cases lo with
  | none=>rfl
  | some v=>exact wM v n 0
 ·cases hi with
  | none=>rfl
  | some v=>exact wM v n n
theorem Y6 (i j:Nat):V3 (i:Int) (j:Int) 1=j-i:=by
 unfold V3
 have h1:(1:Int) > 0:=by omega
 simp only [h1,if_true,Int.ediv_one]
 split<;>omega
theorem j8 {v:Kc}{o:Option Int}{Q:Option Int->Ke->Prop}(p:IsPart v o)(h:Q o s):wpAny (model prog w) A (Builtin.Slice.slicePartIndex v) Q E s:=by
 cases p with
 | none=>exact slicePart_none h
 | int i t=>exact slicePart_int h
theorem jd {sl:Kd}{vl vu:Kc}{lo hi:Option Int}{n:Nat}{Q:Int×Int×Nat->Ke->Prop}(hs:s.heap.IsSliceOf sl vl vu .none)(pl:IsPart vl lo)(pu:IsPart vu hi)
  (h:Q (((sIx n 0 lo:Nat):Int),1,sIx n n hi-sIx n 0 lo) s):wpAny (model prog w) A (U9 (.ref sl) (pure (n:Int))) Q E s:=by
 obtain ⟨os,hos,hcs,hds⟩:=id hs
 unfold U9 Builtin.Slice.sliceFields
 refine Ki (Ki (wpAny_field hos hds (x:=vl) rfl (Ki (wpAny_field hos hds (x:=vu) rfl (Ki (wpAny_field hos hds (x:=.none) rfl (Kx ?_)))))))
 refine Ki (slicePart_none ?_)
 show wpAny _ _ (if ((1:Int)==0)=true then _ else _) _ _ s
 rw [if_neg (by decide)]
 refine Ki (j8 pl (Ki (j8 pu (Ki (Kx ?_)))))
 show wpAny _ _ (match Us lo hi 1 (n:Int) with | (lo,hi)=>pure (lo,(1:Int),V3 lo hi 1)) _ _ s
 rw [YD lo hi n]
 show wpAny _ _ (pure (((sIx n 0 lo:Nat):Int),(1:Int),V3 ((sIx n 0 lo:Nat):Int) ((sIx n n hi:Nat):Int) 1)) _ _ s
 rw [Y6]
 exact Kx h
theorem qbg (xs:Array Kc)(i k:Nat):((Kf k).filterMap fun (m:Nat)=>xs[((i:Int)+(m:Int)*1).toNat]?).toArray=((xs.toList.drop i).take k).toArray:=by
 have e:(fun (m:Nat)=>xs[((i:Int)+(m:Int)*1).toNat]?)=fun m=>xs[i+m]?:=by
  funext m
  have:((i:Int)+(m:Int)*1).toNat=i+m:=by omega
  rw [this]
 rw [e]
 have:=pick_run xs i k
 rw [List.filterMap_map] at this
 have e2:((fun x=>xs[x]?) ∘ fun x=>i+x)=fun m=>xs[i+m]?:=rfl
 rw [e2] at this
 rw [this]
theorem ZM {t sl:Kd}{items:Array Kc}{vl vu:Kc}{lo hi:Option Int}{Q:Kc->Ke->Prop}(ht:IsTup s.heap t items)(hs:s.heap.IsSliceOf sl vl vu .none)(pl:IsPart vl lo)(pu:IsPart vu hi)
  (hw:¬ (sIx items.size 0 lo=0/\sIx items.size items.size hi=items.size))
  (h:Q (.ref s.heap.objs.size) { s with heap:=s.heap.push { cls:=.type "tuple", data:=.seq ((items.toList.drop (sIx items.size 0 lo)).take (sIx items.size items.size hi-sIx items.size 0 lo)).toArray } })
  (hsz:items.size<=sizeLine):wpAny (model prog w) A (getItem (.ref t) (.ref sl)) Q E s:=by
 have htake:sizeOk (.seq ((items.toList.drop (sIx items.size 0 lo)).take (sIx items.size items.size hi-sIx items.size 0 lo)).toArray):=by
  show ((items.toList.drop (sIx items.size 0 lo)).take (sIx items.size items.size hi-sIx items.size 0 lo)).toArray.size<=sizeLine
  rw [Km,Up,Xr,Ky]
  omega
 have hj:sIx items.size items.size hi<=items.size:=qee _ _ (Ko _) hi
 obtain ⟨os,hos,hcs,hds⟩:=id hs
 have hTs:s.TypeIs (.ref sl) "slice" := ⟨os,hos,hcs⟩
 unfold getItem
 try with_reducible refine UI ?_
 first|refine Ki (Kx ?_)|skip
 refine Ki (wpAny_sequenceKey ht.typeIs (by decide) ?_)
 refine Ki (wpAny_callSpecial?_slot (name:=KR "__getitem__") ht.typeIs VS
  (Xs VS ht.typeIs entry_tuple_getitem ?_ (args_tuple_getitem _ _)))
 show wpAny _ _ (Builtin.Tuple.tupleItemsOf (.ref t) >>= _) _ _ s
 refine Ki (tupleItemsOf_ ht ?_)
 refine Ki (wpAny_typeOf hTs ?_)
 rw [if_pos (by decide)]
 refine Ki (jd hs pl pu ?_)
 have hno:¬ ((((sIx items.size 0 lo:Nat):Int)==0&&(1:Int)==1&&(sIx items.size items.size hi-sIx items.size 0 lo)==items.size)=true):=by
  intro q
  rw [Kt,Kt] at q
  have q1:((sIx items.size 0 lo:Nat):Int)=0:=eq_of_beq q.1.1
  have q2:sIx items.size items.size hi-sIx items.size 0 lo=items.size:=eq_of_beq q.2
  exact hw ⟨by omega,by omega⟩
 show wpAny _ _ (if (((sIx items.size 0 lo:Nat):Int)==0&&(1:Int)==1&&(sIx items.size items.size hi-sIx items.size 0 lo)==items.size)=true then _ else _) _ _ s
 rw [if_neg hno,qbg]
 first
  | exact Ki (m:=V6 _) (Uk (Kx ⟨_,rfl,Kx h⟩) htake)
  | exact Ki (m:=V6 _) (Uk (Ki (Kx (Kx ⟨_,rfl,Kx h⟩))) htake)
  | exact Ki (Ki (m:=V6 _) (Uk (Kx (Kx ⟨_,rfl,Kx h⟩)) htake))
  | exact Ki (Ki (m:=V6 _) (Uk (Kx ⟨_,rfl,Kx h⟩) htake))
end
end HT
namespace L2
open PySem PySem.Spec PyProof.Rows
abbrev TO:=St->Hp->(Option Int->Hp->Prop)->Prop
def PO (X:Cx)(e:Option Kr)(t:TO):Prop :=
 ∀ (pins:ag) (s:Ke) (σ:St) (H:Hp) (Q:Option Int->Hp->Prop),Inv X pins σ H s->t σ H Q->
  wpAny (model X.prog X.w) X.A (evalPart e X.env) (fun u s'=>∃ o H',Inv X pins σ H' s'/\IsPart u o/\Q o H') X.xe s
def qcM:TO:=fun _ H Q=>Q none H
def tPart (t:TE):TO:=fun σ H Q=>t σ H fun x H1=>∃ i,x=.int i/\Q (some i) H1
section
variable {X:Cx}{e:Kr}{te:TE}{lo hi:Option Kr}{tl th:TO}{pos p2:Pos}
theorem qcz:PO X none qcM:=by
 intro pins s σ H Q I h
 rw [evalPart_none]
 exact Kx ⟨none,H,I,.none,h⟩
theorem qcA (h:PE X e te):PO X (some e) (tPart te):=by
 intro pins s σ H Q I hw
 rw [evalPart_some]
 refine thn (h pins s σ H _ I hw) fun u s1 ⟨x,H1,I1,r1,q1⟩=>?_
 obtain ⟨i,rfl,q⟩:=q1
 obtain ⟨t,rfl⟩:=r1
 exact ⟨some i,H1,I1,.int i t,q⟩
def SlR (X:Cx)(r:aK):Prop :=
 ∀ (pins:ag) (s:Ke) (σ:St) (H:Hp) (x:V) (v vl vu:Kc) (lo hi:aO) (sl:Kd) (Q:VK),Inv X pins σ H s->RelV x v->s.heap.IsSliceOf sl vl vu .none->IsPart vl lo->IsPart vu hi->r x lo hi H Q->
  ∃ T id,typeLookup (.type T) "__getitem__" = pure (some (.builtin id))/\s.TypeIs v T/\wpAny (model X.prog X.w) X.A (getItem v (.ref sl)) (EP X pins σ Q) X.xe s
theorem SlR.or {r r':aK}(h:SlR X r)(h':SlR X r'):SlR X (fun x lo hi H Q=>r x lo hi H Q\/r' x lo hi H Q):=by
 intro pins s σ H x v vl vu lo hi sl Q I rx hs pl pu q
 rcases q with q|q
 ·exact h pins s σ H x v vl vu lo hi sl Q I rx hs pl pu q
 ·exact h' pins s σ H x v vl vu lo hi sl Q I rx hs pl pu q
def tSl (r:aK)(te:TE)(tl th:TO):TE:=fun σ H Q=>te σ H fun x H1=>tl σ H1 fun l H2=>th σ H2 fun u H3=>r x l u H3 Q
theorem qba {r:aK}(hr:SlR X r)(he:PE X e te)(hl:PO X lo tl)(hu:PO X hi th):PE X (.Subscript e (.Slice lo hi none p2) pos) (tSl r te tl th):=by
 intro pins s σ H Q I h
 refine Subscript_ (thn (he pins s σ H _ I h) fun v s1 ⟨x,H1,I1,r1,q1⟩=>?_)
 refine wpAny_Slice (thn (hl pins s1 σ H1 _ I1 q1) fun vl s2 ⟨l,H2,I2,pl,q2⟩=>thn (hu pins s2 σ H2 _ I2 q2) fun vu s3 ⟨u,H3,I3,pu,q3⟩=>?_)
 rw [evalPart_none]
 refine Kx ?_
 have I4:Inv X pins σ H3 { s3 with heap:=s3.heap.push { cls:=.type "slice", data:=.fields #[vl,vu,.none] } }:=I3.kept (t':=s3.toks) fun b ob q=>Kp _ q
 obtain ⟨T,id,hT,ht,hg⟩:=hr pins { s3 with heap:=s3.heap.push { cls:=.type "slice", data:=.fields #[vl,vu,.none] } } σ H3 x v vl vu l u s3.heap.objs.size Q I4 r1 (Heap.IsSliceOf.new ..) pl pu q3
 show wpAny (model X.prog X.w) X.A (subscriptTail e (.Slice lo hi none p2) v (.ref s3.heap.objs.size)) (EP X pins σ Q) X.xe { s3 with heap:=s3.heap.push { cls:=.type "slice", data:=.fields #[vl,vu,.none] } }
 exact tail_any (ops:=[.ref s3.heap.objs.size,v]) ht hT hg (by with_unfolding_all rfl)
def cutV (xs:List V)(lo hi:aO):List V:=(xs.drop (HT.sIx xs.length 0 lo)).take (HT.sIx xs.length xs.length hi-HT.sIx xs.length 0 lo)
theorem jh (xs:List V)(lo hi:aO):(cutV xs lo hi).length<=xs.length:=by
 unfold cutV
 rw [Up,Xr]
 omega
def rSlT (K:Kb):V->Option Int->Option Int->Hp->VK->Prop:=fun x lo hi H Q=>∃ a xs,x=.ref a/\SqT K H a xs/\
 ¬ (HT.sIx xs.length 0 lo=0/\HT.sIx xs.length xs.length hi=xs.length)/\∀ p,H p=none->Q (.ref p) (upd H p (.tup (cutV xs lo hi)))
theorem qem:SlR X (rSlT X.K):=by
 intro pins s σ H x v vl vu lo hi sl Q I rx hs pl pu h
 obtain ⟨a,xs,rfl,hx,hw,q⟩:=h
 cases rx
 obtain ⟨its,r,ht,hz⟩:=I.tuple hx
 have hlen:its.toArray.size=xs.length:=by rw [Km];exact r.length.symm
 refine ⟨"tuple", _,VS.lookup,ht.typeIs,?_⟩
 refine HT.ZM ht hs pl pu (by rw [hlen];exact hw) ?_ (by rw [hlen];exact hz)
 rw [hlen]
 refine ⟨.ref s.heap.objs.size,_,I.laid (t':=s.toks) (o:=.tup (cutV xs lo hi)) (fun b ob q=>Kp _ q) (Ko _) ?_,rfl,q _ (I.hok.fresh (Ko _))⟩
 exact ⟨K7 (jh xs lo hi) hz,_,(r.drop (HT.sIx xs.length 0 lo)).take (HT.sIx xs.length xs.length hi-HT.sIx xs.length 0 lo),IsTup.new _ _⟩
def qcY (K:Kb):R2:=fun x y H Q=>∃ a b xs ys,x=.ref a/\y=.ref b/\SqT K H a xs/\SqT K H b ys/\xs≠[]/\xs.length+ys.length<=sizeLine/\
 (ys=[]->Q (.ref a) H)/\(ys≠[]->∀ p,H p=none->Q (.ref p) (upd H p (.tup (xs++ys))))
theorem Vals.nil_iff {xs:List V}{us:aw}(r:Vals xs us):us=[]↔xs=[]:=by
 cases r with
 | nil=>simp
 | cons _ _=>simp
theorem qcl:OpR X (binaryOp .Add) (qcY X.K):=by
 intro pins s σ H x y v u Q I rx ry h
 obtain ⟨a,b,xs,ys,rfl,rfl,ha,hb,hx,hz,q1,q2⟩:=h
 cases rx
 cases ry
 obtain ⟨its,r1,p1,_⟩:=I.tuple ha
 obtain ⟨its2,r2,p2,_⟩:=I.tuple hb
 refine HT.qbM p1 p2 (fun z=>hx (r1.nil_iff.mp z)) (fun z=>⟨.ref a,H,I,rfl,q1 (r2.nil_iff.mp z)⟩) (fun z=>?_) (by rw [← r1.length,← r2.length];exact hz)
 refine ⟨.ref s.heap.objs.size,_,I.laid (t':=s.toks) (o:=.tup (xs++ys)) (fun b ob q=>Kp _ q) (Ko _) ?_,rfl,q2 (fun w=>z (r2.nil_iff.mpr w)) _ (I.hok.fresh (Ko _))⟩
 exact ⟨by rw [Kv];exact hz,_,r1.append r2,IsTup.new _ _⟩
end
noncomputable def ixN (n:Nat)(i:Int):Option Nat:=if 0<=i then (if i<n then some i.toNat else none) else if -(n:Int)<=i then some (i+n).toNat else none
def atI {α:Type}(xs:List α)(i:Int):Option α:=(ixN xs.length i).bind fun j=>xs[j]?
theorem Wc {n:Nat}{i:Int}{j:Nat}(h:ixN n i=some j):seqIndex? i n=some j/\j<n/\-(n:Int)<=i/\i<n:=by
 unfold ixN at h
 by_cases h0:0<=i
 ·rw [if_pos h0] at h
  by_cases h1:i<n
  ·rw [if_pos h1] at h
   have e:i.toNat=j:=Va h
   exact ⟨by rw [U5 h0 h1,e],by omega,by omega,h1⟩
  ·rw [if_neg h1] at h;cases h
 ·rw [if_neg h0] at h
  by_cases h1:-(n:Int)<=i
  ·rw [if_pos h1] at h
   have e:(i+n).toNat=j:=Va h
   exact ⟨by rw [seqIndex_neg (by omega) h1,e],by omega,h1,by omega⟩
  ·rw [if_neg h1] at h;cases h
theorem JW {α:Type}{xs:List α}{i:Int}{v:α}(h:atI xs i=some v):∃ j,seqIndex? i xs.length=some j/\xs[j]?=some v/\j<xs.length/\-(xs.length:Int)<=i/\i<xs.length:=by
 unfold atI at h
 cases e:ixN xs.length i with
 | none=>rw [e] at h;cases h
 | some j =>
  rw [e] at h
  obtain ⟨h1,h2,h3,h4⟩:=Wc e
  exact ⟨j,h1,h,h2,h3,h4⟩
theorem wK {α:Type}{xs:List α}{j:Nat}{v:α}(h:xs[j]?=some v):atI xs (j:Int)=some v:=by
 have hj:j<xs.length:=(Kz.mp h).1
 have e:ixN xs.length (j:Int)=some j:=by
  unfold ixN
  rw [if_pos (by omega),if_pos (by omega)];simp
 unfold atI;rw [e];exact h
def JV (b:Kr):Prop:=∀ o i,subscripted b false o i=operate [o,i] (getItem o i)
def IxR (X:Cx)(r:R2):Prop :=
 ∀ (value slice:Kr) (pins:ag) (s:Ke) (σ:St) (H:Hp) (x y:V) (v u:Kc) (Q:VK),Inv X pins σ H s->RelV x v->RelV y u->r x y H Q->
  subscripted slice false v u=operate [v,u] (getItem v u)->wpAny (model X.prog X.w) X.A (subscriptTail value slice v u) (EP X pins σ Q) X.xe s
def MtR (X:Cx)(id:String)(r:aW):Prop :=
 ∀ (pins:ag) (s:Ke) (σ:St) (H:Hp) (x:V) (xs:List V) (v:Kc) (us:aw) (Q:VK),Inv X pins σ H s->RelV x v->Vals xs us->r x xs H Q->
  wpAny (model X.prog X.w) X.A (call (.builtin id) (v::us)) (EP X pins σ Q) X.xe s
section
variable {X:Cx}{a b:Kr}{ta tb:TE}{pos:Pos}
theorem IxR.or {r r':R2}(h:IxR X r)(h':IxR X r'):IxR X (fun x y H Q=>r x y H Q\/r' x y H Q):=by
 intro value slice pins s σ H x y v u Q I rx ry q hs
 rcases q with q|q
 ·exact h value slice pins s σ H x y v u Q I rx ry q hs
 ·exact h' value slice pins s σ H x y v u Q I rx ry q hs
theorem qcW {r:R2}(hr:IxR X r)(ha:PE X a ta)(hb:PE X b tb)(hs:JV b):PE X (.Subscript a b pos) (tOp r ta tb):=by
 intro pins s σ H Q I h
 exact Subscript_ (binT ha hb I h fun v u s2 x y H2 I2 rx ry q=>hr a b pins s2 σ H2 x y v u Q I2 rx ry q (hs _ _))
def rIxL (K:Kb):R2:=fun x y H Q=>∃ p xs i v,x=.ref p/\y=.int i/\SqL K H p xs/\atI xs i=some v/\Q v H
def rIxT (K:Kb):R2:=fun x y H Q=>∃ p xs i v,x=.ref p/\y=.int i/\SqT K H p xs/\atI xs i=some v/\Q v H
theorem Wd:IxR X (rIxL X.K):=by
 intro value slice pins s σ H x y v u Q I rx ry h hs
 obtain ⟨p,xs,i,z,rfl,rfl,hq,he,q⟩:=h
 cases rx
 obtain ⟨t,rfl⟩:=ry
 obtain ⟨its,r,pl,hz⟩:=I.list hq
 obtain ⟨j,h1,h2,h3,h4,h5⟩:=JW he
 obtain ⟨w,ew,rw'⟩:=r.get h2
 have hl:=r.length
 have hn:=Z7
 have fin:EP X pins σ Q w s:=⟨z,H,I,rw',q⟩
 by_cases h0:0<=i
 ·have hj:i.toNat=j:=by
   rw [U5 h0 h5] at h1
   exact Va h1
  exact item_listR pl.isList h0 (by omega) (by rw [hj];simpa using ew) fin hs
 ·have hj:(i+(its.toArray.size:Int)).toNat=j:=by
   rw [seqIndex_neg (by omega) h4] at h1
   rw [Km,← hl]
   exact Va h1
  exact subscriptTail_builtinR (x:=w) pl.isList.typeIs slot_list_getitem.lookup
   (wpAny_getItem_list_neg (Q:=fun r s'=>r=w/\EP X pins σ Q r s') pl.isList (by omega) (by rw [Km]<;>omega) (by omega) (by rw [hj];simpa using ew) ⟨rfl,fin⟩) hs
theorem qaL:IxR X (rIxT X.K):=by
 intro value slice pins s σ H x y v u Q I rx ry h hs
 obtain ⟨p,xs,i,z,rfl,rfl,hq,he,q⟩:=h
 cases rx
 obtain ⟨t,rfl⟩:=ry
 obtain ⟨its,r,pl,hz⟩:=I.tuple hq
 obtain ⟨j,h1,h2,h3,h4,h5⟩:=JW he
 obtain ⟨w,ew,rw'⟩:=r.get h2
 have hl:=r.length
 have hn:=Z7
 have fin:EP X pins σ Q w s:=⟨z,H,I,rw',q⟩
 exact subscriptTail_builtinR (x:=w) pl.typeIs VS.lookup
  (getItem_tuple (j:=j) (Q:=fun r s'=>r=w/\EP X pins σ Q r s') pl (by omega) (by omega) (by rw [Km,← hl];exact h1) (by simpa using ew) ⟨rfl,fin⟩) hs
theorem YX (its:aw)(n j:Nat)(u:Kc):Vi (·.setIfInBounds j u) { cls:=.type "list", data:=.seq its.toArray n }={ cls:=.type "list", data:=.seq (its.set j u).toArray n }:=by
 simp [Vi]
theorem Inv.lst {pins:ag}{σ:St}{H:Hp}{s:Ke}{p:Kd}{xs:List V}(I:Inv X pins σ H s)(h:H p=some (.lst xs)) :
  ∃ (its:aw) (n:Nat),Vals xs its/\s.heap.get? p=some { cls:=.type "list", data:=.seq its.toArray n }/\xs.length<=sizeLine:=by
 obtain ⟨z,its,n,r,e⟩:=I.hok p _ h
 exact ⟨its,n,r,e,z⟩
theorem Inv.lstUpd {pins:ag}{σ:St}{H:Hp}{s:Ke}{p:Kd}{xs ys:List V}{its its':aw}{n n':Nat}{f:Obj->Obj}(I:Inv X pins σ H s)(h:H p=some (.lst xs))
  (ho:s.heap.get? p=some { cls:=.type "list", data:=.seq its.toArray n }) (hf:f { cls:=.type "list", data:=.seq its.toArray n }={ cls:=.type "list", data:=.seq its'.toArray n' }) (r:Vals ys its') (hz:ys.length<=sizeLine) (t:Nat) :
  Inv X pins σ (upd H p (.lst ys)) { s with heap:=s.heap.update p f,toks:=t }:=by
 have e:(s.heap.update p f).get? p=some { cls:=.type "list", data:=.seq its'.toArray n' }:=by
  rw [Heap.get?_update_self f ho (by rw [hf]<;>rfl),hf]
 refine I.write (x:=p) (e:=p) (by rw [h];trivial) (.inl rfl) (fun b u hb q=>(XR _ _ (KN hb)).trans q) ⟨_,e⟩ ?_
 exact ⟨hz,its',n',r,e⟩
def rSetL:V->V->V->Hp->(Hp->Prop)->Prop:=fun o i v H Q=>∃ p xs k j,o=.ref p/\i=.int k/\H p=some (.lst xs)/\ixN xs.length k=some j/\Q (upd H p (.lst (xs.set j v)))
theorem set_list:PSet X rSetL:=by
 intro pins s σ H o i v ov iv u Q I ro ri rv h
 obtain ⟨p,xs,k,j,rfl,rfl,hp,hj,q⟩:=h
 cases ro
 obtain ⟨t,rfl⟩:=ri
 obtain ⟨its,n,r,ho,hz⟩:=I.lst hp
 obtain ⟨h1,h2,h3,h4⟩:=Wc hj
 have hl:=r.length
 have hn:=Z7
 have I':Inv X pins σ (upd H p (.lst (xs.set j v))) { s with heap:=s.heap.update p (Vi (·.setIfInBounds j u)) } :=
  I.lstUpd hp ho (YX its n j u) (r.set rv j) (by rw [Vo];exact hz) s.toks
 by_cases h0:0<=k
 ·have hk:k.toNat=j:=by
   rw [U5 h0 h4] at h1
   exact Va h1
  exact PySem.W.ki_setAt ho h0 (by omega) (by rw [Km,← hl];exact h4) (by rw [hk];exact ⟨_,I',q⟩)
 ·have hk:(k+(its.toArray.size:Int)).toNat=j:=by
   rw [seqIndex_neg (by omega) h3] at h1
   rw [Km,← hl]
   exact Va h1
  exact PySem.W.ki_setBack ho (by omega) (by rw [Km,← hl];exact h3) (by omega) (by rw [hk];exact ⟨_,I',q⟩)
theorem yC (lo hi:aO)(n:Nat):(sliceBounds lo hi none n).1=((HT.sIx n 0 lo:Nat):Int)/\(sliceBounds lo hi none n).2.1=((HT.sIx n n hi:Nat):Int)/\(sliceBounds lo hi none n).2.2=1:=by
 refine ⟨?_,?_,rfl⟩
 ·cases lo with
  | none=>simp [sliceBounds,HT.sIx]
  | some i =>
   simp only [sliceBounds,HT.sIx,Option.getD_none,show (1:Int) > 0 by decide,if_true]
   by_cases h:i<0
   ·simp only [h,if_true]<;>omega
   ·simp only [h,if_false]<;>omega
 ·cases hi with
  | none=>simp [sliceBounds,HT.sIx]
  | some i =>
   simp only [sliceBounds,HT.sIx,Option.getD_none,show (1:Int) > 0 by decide,if_true]
   by_cases h:i<0
   ·simp only [h,if_true]<;>omega
   ·simp only [h,if_false]<;>omega
theorem Jh (its:aw)(lo hi:aO):slicePick its.toArray lo hi none=((its.drop (HT.sIx its.length 0 lo)).take (HT.sIx its.length its.length hi-HT.sIx its.length 0 lo)).toArray:=by
 obtain ⟨h1,h2,h3⟩:=yC lo hi its.toArray.size
 unfold slicePick
 rw [h1,h2,h3]
 simp only [sliceRange_one,pick_run,Km]<;>rfl
def rSlL (K:Kb):V->Option Int->Option Int->Hp->VK->Prop:=fun x lo hi H Q=>∃ a xs,x=.ref a/\SqL K H a xs/\∀ p,H p=none->Q (.ref p) (upd H p (.lst (cutV xs lo hi)))
theorem qcK:SlR X (rSlL X.K):=by
 intro pins s σ H x v vl vu lo hi sl Q I rx hs pl pu h
 obtain ⟨a,xs,rfl,hx,q⟩:=h
 cases rx
 obtain ⟨its,r,ht,hz⟩:=I.list hx
 have hlen:=r.length
 refine ⟨"list", _,slot_list_getitem.lookup,ht.isList.typeIs,?_⟩
 refine wpAny_getItem_list_slice ht.isList hs pl pu .none (by simp) ?_ (by rw [Km]<;>omega)
 rw [Jh,← hlen]
 refine ⟨.ref s.heap.objs.size,_,I.laid (t':=s.toks) (o:=.lst (cutV xs lo hi)) (fun b ob q=>Kp _ q) (Ko _) ?_,rfl,q _ (I.hok.fresh (Ko _))⟩
 exact ⟨K7 (jh xs lo hi) hz,_,0,(r.drop (HT.sIx xs.length 0 lo)).take (HT.sIx xs.length xs.length hi-HT.sIx xs.length 0 lo),K5 _ rfl⟩
theorem J2:QF X (.builtin "len") (fun xs H Q=>∃ p ys,xs=[.ref p]/\(SqL X.K H p ys\/SqT X.K H p ys)/\Q (.int ys.length) H):=by
 intro pins s σ H xs us Q I r h
 obtain ⟨p,ys,rfl,hq,q⟩:=h
 obtain ⟨u,rfl,rx⟩:=vals1 r
 cases rx
 have hn:=Z7
 rcases hq with hq|hq
 ·obtain ⟨its,r',pl,hz⟩:=I.list hq
  have hlen:=r'.length
  exact Calls.call_len_list pl.isList (by simp only [Km]<;>omega) ⟨.int ys.length,H,I.tok _,⟨s.toks+1,by rw [Km,hlen]⟩,q⟩
 ·obtain ⟨its,r',pl,hz⟩:=I.tuple hq
  have hlen:=r'.length
  exact len_tuple pl (by simp only [Km]<;>omega) ⟨.int ys.length,H,I.tok _,⟨s.toks+1,by rw [Km,hlen]⟩,q⟩
theorem QF.or {f:Kc}{r r':aZ}(h:QF X f r)(h':QF X f r'):QF X f (fun xs H Q=>r xs H Q\/r' xs H Q):=by
 intro pins s σ H xs us Q I rs q
 rcases q with q|q
 ·exact h pins s σ H xs us Q I rs q
 ·exact h' pins s σ H xs us Q I rs q
theorem ZG:QF X (.type "list") (fun xs H Q=>∃ p ys,xs=[.ref p]/\(SqL X.K H p ys\/SqT X.K H p ys)/\∀ l,H l=none->Q (.ref l) (upd H l (.lst ys))):=by
 intro pins s σ H xs us Q I r h
 obtain ⟨p,ys,rfl,hq,q⟩:=h
 obtain ⟨u,rfl,rx⟩:=vals1 r
 cases rx
 have fin:∀ (its:aw),Vals ys its->ys.length<=sizeLine->∀ (h':KI) (c':Nat),(∀ b o',s.heap.get? b=some o'->h'.get? b=some o')->
   h'.get? s.heap.objs.size=some { cls:=.type "list", dict:=none,data:=.seq its.toArray c',slots:=#[] }->EP X pins σ Q (.ref s.heap.objs.size) { s with heap:=h' }:=fun its r' hz h' c' kp e =>
  ⟨.ref s.heap.objs.size,_,I.laid (t':=s.toks) kp (Ko _) (show zy X.prog X.w _ h' _ (.lst ys) from ⟨hz,its,c',r',e⟩),rfl,q _ (I.hok.fresh (Ko _))⟩
 rcases hq with hq|hq
 ·obtain ⟨its,r',pl,hz⟩:=I.list hq
  have hlen:=r'.length
  obtain ⟨o,ho,hc,n,hd⟩:=pl.isList
  exact call_list_seq p (.inl rfl) ho hc hd (fun h' c' kp e=>fin its r' hz h' c' kp e) (by simp only [Km]<;>omega)
 ·obtain ⟨its,r',pl,hz⟩:=I.tuple hq
  have hlen:=r'.length
  obtain ⟨o,ho,hc,n,hd⟩:=pl
  exact call_list_seq p (.inr rfl) ho hc hd (fun h' c' kp e=>fin its r' hz h' c' kp e) (by simp only [Km]<;>omega)
def tyV (K:Kb)(T:String)(x:V)(H:Hp):Prop:=match x with
 | .str _=>T = "str"
 | .int _=>T = "int"
 | .ref p=>(T = "list"/\∃ xs,SqL K H p xs)\/(T = "tuple"/\∃ o,K.lookup p=some o/\o.cls=.type "tuple"/\o.dict=none)\/
   (T = "dict"/\((∃ kvs,H p=some (.dK kvs))\/∃ kvs,H p=some (.dT kvs)))\/(T = "set"/\∃ S n,H p=some (.set S n))
 | _=>False
theorem qex {pins:ag}{σ:St}{H:Hp}{s:Ke}{T:String}{x:V}{v:Kc}(I:Inv X pins σ H s)(r:RelV x v)(ty:tyV X.K T x H) :
  s.TypeIs v T/\∀ a,v=.ref a->∃ ob,s.heap.get? a=some ob/\ob.dict=none:=by
 cases x with
 | str z =>
  obtain ⟨t,rfl⟩:=r
  cases (show T = "str" from ty)
  exact ⟨typeIs_str s z t,fun _ e=>nomatch e⟩
 | int i =>
  obtain ⟨t,rfl⟩:=r
  cases (show T = "int" from ty)
  exact ⟨typeIs_int s i t,fun _ e=>nomatch e⟩
 | ref p =>
  cases r
  rcases ty with ⟨rfl,xs,hq⟩|⟨rfl,o,hk,hc,hd⟩|⟨rfl,hk⟩|⟨rfl,S,n,hk⟩
  ·obtain ⟨its,_,pl,_⟩:=I.list hq
   refine ⟨pl.isList.typeIs,fun a e=>?_⟩
   cases e
   obtain ⟨o,n,e,c,hd,_⟩:=pl
   exact ⟨o,e,hd⟩
  ·refine ⟨⟨o,I.kIn p o hk,hc⟩,fun a e=>?_⟩
   cases e
   exact ⟨o,I.kIn _ o hk,hd⟩
  ·have z:∃ o,s.heap.get? p=some o/\o.ExactDict:=by
    rcases hk with ⟨kvs,hk⟩|⟨kvs,hk⟩
    ·obtain ⟨_,_,_,_,o,_,_,e,ex,_⟩:=I.hok p _ hk
     exact ⟨o,e,ex⟩
    ·obtain ⟨_,_,_,_,o,_,_,e,ex,_⟩:=I.hok p _ hk
     exact ⟨o,e,ex⟩
   obtain ⟨o,e,ex⟩:=z
   refine ⟨⟨o,e,ex.1⟩,fun a e2=>?_⟩
   cases e2
   exact ⟨o,e,ex.2.1⟩
  ·obtain ⟨o,_,_,_,e,ex,_⟩:=I.hok p _ hk
   refine ⟨⟨o,e,ex.1⟩,fun a e2=>?_⟩
   cases e2
   exact ⟨o,e,ex.2.1⟩
 | _=>exact V2 ty
def tBM (K:Kb)(T:String)(r:aW)(to:TE)(t:TA):TE:=fun σ H Q=>to σ H fun x H1=>tyV K T x H1/\t σ H1 fun xs H2=>r x xs H2 Q
variable {o e:Kr}{es:aH}{to:TE}{t:TA}{name:Str}{apos cpos:Pos}{T id:String}{r:aW}
theorem qa8 (pa:PlainAttrs T)(slot:Slot T name id)(hty:typeOf (.builtin id)=pure (.type "method_descriptor"))(hm:MtR X id r)(ho:PE X o to)(ha:PA X (e::es) t)
  (hbase:attributeBase o name X.env (eval o X.env)=eval o X.env:=by rfl)
  (hfew:((backTo cpos (starEach (e::es) X.env)).all (fun x=>!x.1)&&(backToKw cpos (keywordEach [] X.env)).all (fun x=>x.1.isSome)
   && decide ((e::es).length+([]:List U1).length+(if ([]:List U1).isEmpty then 0 else 1)<30))=true:=by rfl)
  (hline:(apos.endLine==cpos.line)=true:=by rfl) (hs:starEach (e::es) X.env=(false,eval e X.env)::starEach es X.env:=by rfl) (hplain:(backTo cpos (starEach es X.env)).any (·.1)=false:=by rfl) :
  PE X (.Call (.Attribute o name apos) (e::es) [] cpos) (tBM X.K T r to t):=by
 intro pins s σ H Q I h
 refine wpAny_Call_method_late hbase hfew hline rfl (thn (ho pins s σ H _ I h) fun v s1 ⟨x,H1,I1,r1,ty,q1⟩=>?_)
 obtain ⟨h1,h2⟩:=qex I1 r1 ty
 refine ⟨T,id,pa,slot,hty,h1,h2,?_⟩
 have hA:=ha cpos pins s1 σ H1 _ I1 q1
 rw [hs] at hA ⊢
 refine Calls.callWith_builtin (by show (false||(backTo cpos (starEach es X.env)).any (·.1))=false;rw [hplain]<;>rfl) (Calls.evalArgs_plain ?_)
 exact thn hA fun us s2 ⟨vs,H2,I2,r2,q2⟩=>hm pins s2 σ H2 x vs v us Q I2 r1 r2 q2
end
def MtM (X:Cx)(id:String)(r:aW):Prop :=
 ∀ (pins:ag) (s:Ke) (σ:St) (H:Hp) (x:V) (xs:List V) (v:Kc) (us:aw) (Q:VK),Inv X pins σ H s->RelV x v->Vals xs us->r x xs H Q->
  wpAny (model X.prog X.w) X.A (call (.builtin id) (v::us)) (EP X pins σ Q) X.xe s
theorem Vals.one {x:V}{us:aw}(h:Vals [x] us):∃ u,us=[u]/\RelV x u:=by
 cases h with
 | cons r t=>cases t;exact ⟨_,rfl,r⟩
theorem Vals.two {x y:V}{us:aw}(h:Vals [x,y] us):∃ u v,us=[u,v]/\RelV x u/\RelV y v:=by
 cases h with
 | cons r t =>
  obtain ⟨v,rfl,q⟩:=Vals.one t
  exact ⟨_,_,rfl,r,q⟩
theorem Vals.eraseIdx:∀ {xs:List V} {us:aw} (i:Nat),Vals xs us->Vals (xs.eraseIdx i) (us.eraseIdx i)
 | _,_,_,.nil=>.nil
 | _,_,0,.cons _ t=>t
 | _,_,i+1,.cons r t=>.cons r (Vals.eraseIdx i t)
theorem Vals.rep {xs:List V}{us:aw}(h:Vals xs us):∀ k:Nat,Vals (Kl k xs).flatten (Kl k us).flatten
 | 0=>.nil
 | k+1=>by
  rw [Vw,Vw,VY,VY]
  exact Vals.append h (Vals.rep h k)
theorem Jx {α:Type}:∀ (l:List α) (i:Nat),(l.eraseIdx i).length<=l.length
 | [],_=>Ko _
 | _::_,0=>UE _
 | _::r,i+1=>Nat.succ_le_succ (Jx r i)
theorem foldl_rep (its:aw):∀ (k:Nat) (acc:aw),
  List.foldl (fun x1 x2=>x1++x2) acc.toArray (Kl k its.toArray)=(acc++(Kl k its).flatten).toArray
 | 0,acc=>by simp
 | k+1,acc=>by
  have e:acc.toArray++its.toArray=(acc++its).toArray:=by simp
  have e2:(acc++its)++(Kl k its).flatten=acc++(Kl (k+1) its).flatten:=by
   rw [Vw,VY,VW]
  rw [← e2,← foldl_rep its k (acc++its),← e,Vw,List.foldl_cons]
section
variable {X:Cx}{pins:ag}{σ:St}{H:Hp}{s:Ke}{l b:Kd}{xs ys zs:List V}
theorem Inv.lset {its its':aw}{n:Nat}{f:Array Kc->Array Kc}{t':Nat}(I:Inv X pins σ H s)(hH:H l=some (.lst xs))
  (e:s.heap.get? l=some { cls:=.type "list", data:=.seq its.toArray n }) (hf:f its.toArray=its'.toArray) (hv:Vals ys its') (hz:ys.length<=sizeLine) :
  Inv X pins σ (upd H l (.lst ys)) { s with heap:=s.heap.update l (Vi f),toks:=t' }:=by
 have q:=PySem.IsL.update e f
 rw [hf] at q
 refine I.write (x:=l) (e:=l) (by rw [hH];exact trivial) (.inl rfl) (fun b' u hb hu=>(XR s.heap (Vi f) (KN hb)).trans hu) ⟨_,q⟩ ?_
 exact ⟨hz,its',_,hv,q⟩
theorem Inv.lnew {its:aw}{t':Nat}(I:Inv X pins σ H s)(hv:Vals ys its)(hz:ys.length<=sizeLine) :
  Inv X pins σ (upd H s.heap.objs.size (.lst ys)) { s with heap:=s.heap.push { cls:=.type "list", data:=.seq its.toArray },toks:=t' } :=
 I.laid (fun _ _ q=>Kp _ q) (Ko _) ⟨hz,its,0,hv,K5 _ rfl⟩
theorem Inv.fresh (I:Inv X pins σ H s):H s.heap.objs.size=none:=I.hok.fresh (Ko _)
theorem Inv.lstM (I:Inv X pins σ H s)(hH:H l=some (.lst xs)):xs.length<=sizeLine/\∃ (its:aw) (n:Nat),Vals xs its/\xs.length=its.length/\s.heap.get? l=some { cls:=.type "list", data:=.seq its.toArray n }:=by
 obtain ⟨z,its,n,r,e⟩:=I.hok l _ hH
 exact ⟨z,its,n,r,r.length,e⟩
theorem qaY {n:Nat}(h:n<=sizeLine):Builtin.List.listTooLong n=false:=by
 unfold Builtin.List.listTooLong
 exact decide_eq_false (by omega)
end
section
variable {X:Cx}
def qcH:V->List V->Hp->VK->Prop:=fun x vs H Q=>∃ l xs y,x=.ref l/\vs=[y]/\H l=some (.lst xs)/\xs.length<sizeLine/\Q .non (upd H l (.lst (xs++[y])))
theorem JD:MtM X "list.append" qcH:=by
 intro pins s σ H x vs v us Q I rx rv h
 obtain ⟨l,xs,y,rfl,rfl,hH,hz,q⟩:=h
 cases rx
 obtain ⟨u,rfl,ru⟩:=rv.one
 obtain ⟨z,its,n,r,hl,e⟩:=I.lstM hH
 refine call_meets UF ⟨_,e,rfl⟩ F.entry_list_append (F.args_list_append_2 _ _) (PySem.list_append l its.toArray n u (by rw [Km];omega)) ⟨e,?_⟩
 refine ⟨.non,_,I.lset (its':=its++[u]) hH e (by simp) (r.append (.cons ru .nil)) ?_,rfl,q⟩
 rw [Kv,KQ]
 omega
def qd8:V->List V->Hp->VK->Prop:=fun x vs H Q=>∃ l xs i k y,x=.ref l/\vs=[.int i]/\H l=some (.lst xs)/\-(2 ^ 63)<=i/\i<2 ^ 63/\seqIndex? i xs.length=some k/\xs[k]?=some y/\Q y (upd H l (.lst (xs.eraseIdx k)))
theorem qaW:MtM X "list.pop" qd8:=by
 intro pins s σ H x vs v us Q I rx rv h
 obtain ⟨l,xs,i,k,y,rfl,rfl,hH,h1,h2,hk,hy,q⟩:=h
 cases rx
 obtain ⟨u,rfl,ru⟩:=rv.one
 obtain ⟨t,rfl⟩:=ru
 obtain ⟨z,its,n,r,hl,e⟩:=I.lstM hH
 obtain ⟨w,hw,rw'⟩:=r.get hy
 refine call_meets F.slot_list_pop ⟨_,e,rfl⟩ F.entry_list_pop (F.args_list_pop_2 _ _)
  (MeetsSeq.list_pop_at l its.toArray n i t k w (fitsIndex_both h1 h2) (by rw [Km,← hl];exact hk) (by rw [← Uo];exact hw) (by rw [Km];omega)) ⟨e,?_⟩
 refine ⟨y,_,I.lset (its':=its.eraseIdx k) hH e ?_ (r.eraseIdx k) ?_,rw',q⟩
 ·show its.toArray.eraseIdxIfInBounds k=(its.eraseIdx k).toArray
  rw [List.eraseIdxIfInBounds_toArray]
 ·have:=Jx xs k
  omega
def rRep:R2:=fun x y H Q=>∃ l k xs,x=.ref l/\y=.int k/\H l=some (.lst xs)/\-(2 ^ 63)<=k/\k<2 ^ 63/\xs.length*k.toNat<=sizeLine/\
 ∀ p,H p=none->Q (.ref p) (upd H p (.lst (Kl k.toNat xs).flatten))
theorem len_rep {α:Type}(xs:List α)(k:Nat):(Kl k xs).flatten.length=k*xs.length:=by
 induction k with
 | zero=>simp
 | succ k ih=>rw [Vw,VY,Kv,ih,Nat.succ_mul,X6]
theorem qdM:OpR X (binaryOp .Mult) rRep:=by
 intro pins s σ H x y v u Q I rx ry h
 obtain ⟨l,k,xs,rfl,rfl,hH,h1,h2,hz,q⟩:=h
 cases rx
 obtain ⟨t,rfl⟩:=ry
 obtain ⟨z,its,n,r,hl,e⟩:=I.lstM hH
 have hlen:its.toArray.size*k.toNat<=sizeLine:=by rw [Km,← hl];exact hz
 have hcap:¬ its.toArray.size*k.toNat > (2 ^ 63-1) / 8:=by
  have:(sizeLine:Nat)<=(2 ^ 63-1) / 8:=by decide
  omega
 have hfit:¬ (!Builtin.List.listFitsIndex k)=true:=by
  rw [fitsIndex_both h1 h2]
  exact Vp
 have hlong:¬ Builtin.List.listTooLong (its.toArray.size*k.toNat)=true:=by
  rw [qaY hlen]
  exact Vp
 have hnew:List.foldl (fun x1 x2=>x1++x2) #[] (Kl (if its.toArray.isEmpty=true then 0 else k.toNat) its.toArray)=(Kl k.toNat its).flatten.toArray:=by
  have f0:∀ m:Nat,List.foldl (fun x1 x2=>x1++x2) #[] (Kl m its.toArray)=(Kl m its).flatten.toArray:=fun m=>by
   have:=foldl_rep its m []
   rw [XI] at this
   exact this
  rw [f0]
  cases its with
  | nil=>simp
  | cons a r'=>rw [if_neg (by simp)]
 refine wpAny_binaryOp_repeat_ref (T := "list") (U := "int") (by decide) ⟨_,e,rfl⟩ (fun s'=>typeIs_int s' k t) noFill_list_mul F.fills_int_mul F.slot_int_rmul repeat_list F.slot_int_index.lookup
  (call_meets F.slot_int_rmul (typeIs_int s k t) F.entry_int_rmul (F.args_int_rmul_2 _ _) (int___rmul___int_list k t l its.toArray n)
   ⟨e,rfl,⟨_,e,rfl⟩,call_meets F.slot_list_mul ⟨_,e,rfl⟩ F.entry_list_mul (F.args_list_mul_2 _ _) (AutoListH.list___mul___list_int_3 l its.toArray n k t hfit hcap hlong) ⟨e,?_⟩⟩)
 rw [hnew]
 exact ⟨.ref _,_,I.lnew (t':=s.toks) (r.rep k.toNat) (by rw [len_rep,Nat.mul_comm];exact hz),rfl,q _ I.fresh⟩
end
section
variable {prog:KD}{w:KM}{A:KU}{E:aq}{s:Ke}
set_option maxRecDepth 100000 in
end
end L2
namespace Att
open PySem PySem.W PySem.Calls PyProof.Rows
theorem jm {P:US}{h:KI}:∀ (ns:List Int) (vs:List Kc),WellAll P h vs (ns.map WData.int)->IntsAre vs ns:=by
 intro ns
 induction ns with
 | nil =>
  intro vs w
  rw [Uv] at w
  cases w
  exact .nil
 | cons n ns ih =>
  intro vs w
  rw [KF] at w
  cases w with
  | cons a b =>
   cases a
   exact .cons _ _ (ih _ b)
theorem qae {l:Xg}{n:Nat}(hn:l.most=some n){P:US}{h:KI}{args:List WData}{vals:List Kc}
  (hpre:l.row.toRowW.claim.pre args=true) (hwl:WellAll P h vals args) :
  ∃ a vs ns,vals=[Vh a]/\args=[WData.list (ns.map WData.int)]/\h.get? a=some { cls:=.type "list", data:=.seq vs.toArray }/\IntsAre vs ns/\ns.length<=n:=by
 have hsh:WShape.hasAll [] args [.list .int]=true:=(pre_splitW hpre).1
 have hc:l.pre.holds [] { args:=args }=true:=(pre_splitW hpre).2
 obtain ⟨d,r,rfl,h1,h2⟩:=hasAllW_cons hsh
 obtain rfl:=hasAllW_nil h2
 obtain ⟨xs,rfl,h3⟩:=hasW_list h1
 obtain ⟨ns,rfl⟩:=items_int h3
 have hlen:ns.length<=n:=by
  unfold OpenLaw.pre at hc
  have h4:(WTm.not (.lt (.lit (.int (n:Int))) (.len (.arg 0)))).holds [] { args:=[.list (ns.map .int)] }=true:=by
   have h4:=(holds_andW hc).1
   rw [hn] at h4
   exact h4
  have h5:=condW_of h4 (w_not (w_lt w_lit (w_len_list (w_arg rfl))))
  rw [Kg] at h5
  refine Nat.le_of_not_lt fun q=>?_
  have q':(n:Int)<((ns.length:Nat):Int):=by omega
  first
   | (rw [decide_eq_true q'] at h5;exact absurd h5 (by decide))
   | (simp at h5;omega)
 cases hwl with
 | cons w1 w2 =>
  cases w2
  cases w1 with
  | list ho hall=>exact ⟨_,_,ns,rfl,rfl,ho,jm ns _ hall,hlen⟩
theorem W8 (l:Xg)(args:List WData):l.row.toRowW.claim.post args (.bool true) args=true :=
 postW_of (r:=l.row.toRowW) (X:=(true==true))
  (show WShape.has [] (.bool true) .bool=true by first|rfl|decide|simp [WShape.has,WShape.arms,WShape.armsAll])
  (show (WTm.eq .res (.lit (.bool true))).value [] { args:=args,res:=some (.bool true),after:=args }=some (.bool (true==true)) from w_eq_bool (w_res rfl) w_lit) rfl
end Att
namespace L2
open PySem PySem.Spec PyProof.Rows
theorem JS:∀ {vs:aw} {ns:aQ},IntsAre vs ns->Vals (ns.map V.int) vs
 | _,_,.nil=>.nil
 | _,_,.cons n t h=>.cons ⟨t,rfl⟩ (JS h)
def Only (H:Hp):Prop:=∀ b,H b=none\/∃ o xs,H b=some (.frz o (.lst xs))
theorem qaO {P:KD}{w:KM}{K:Kb}{mg mb:au}{CX:CXT}{k:Nat}{fa a:Kd}{fd:Vq}{x:Str}{sp:Sp}{s₁:Ke}{vs:aw}{ns:aQ}
  (KX:K.In s₁.heap) (hns:s₁.heap.Ns mainGlobals mg) (hb:s₁.heap.Ns builtinsNs mb) (hbb:∀ x:Str,x ≠ "__name__"->mb x=bootBuiltins x) (hlim:s₁.heap.NoLimit) (hg:s₁.gens=#[])
  (ha:s₁.heap.get? a=some { cls:=.type "list", data:=.seq vs.toArray }) (hi:IntsAre vs ns) (hl:ns.length<=sizeLine) (hr:Room k callerA)
  (F:∀ base:KI,K.In base->base.Ns mainGlobals mg->FnOk P w K mg base CX k fa fd [x] sp) (hbind:∀ (s:Ke) (u:Kc),BindsTo s fd ⟨[u],[]⟩ [(x,u)])
  (hsp:∀ H:Hp,Only H->SqL K H a (ns.map V.int)->sp [.ref a] H (fun v _=>v=.bl true) fun _ _ _=>False)
  (hCX:∀ H e s',CX [] H s₁ (fun _ _ _=>False) e s'->False) :
  codeAny (model P w) callerA (.call (.ref fa) ⟨[.ref a],[]⟩) (fun r s'=>r=.ok (.ret (.bool true))/\OldK s₁.heap s'.heap/\s'.os=s₁.os/\UQ s'.gens) s₁:=by
 have rv:=JS hi
 have lenV:=hi.length
 have core:∀ H:Hp,Only H->SqL K H a (ns.map V.int)->HOk P w H s₁.heap->(∀ b,H b≠none->b=a)->(H a≠none->K.lookup a=none)->
   codeAny (model P w) callerA (.call (.ref fa) ⟨[.ref a],[]⟩) (fun r s'=>r=.ok (.ret (.bool true))/\OldK s₁.heap s'.heap/\s'.os=s₁.os/\UQ s'.gens) s₁:=by
  intro H hO hS hok hA hK
  have base_of:∀ {b:Kd} {o:Obj},s₁.heap.get? b=some o->H b=none->(hidT s₁.heap H).get? b=some o:=fun e n=>qaI e n
  have noA:∀ {b:Kd} {o:Obj} {es:Array XC} {ep:Nat},s₁.heap.get? b=some o->o.data=.dict es ep->H b=none:=fun {b o es ep} e d=>by
   cases q:H b with
   | none=>rfl
   | some u =>
    have e':b=a:=hA b (by rw [q];simp)
    subst e'
    rw [ha] at e;cases e
    have d':Data.seq vs.toArray _=Data.dict es ep:=d
    cases d'
  have nsK:∀ {b:Kd} {m:au},s₁.heap.Ns b m->(hidT s₁.heap H).Ns b m:=fun {b m} ⟨o,es,ep,e,d,r⟩=>⟨o,es,ep,base_of e (noA e d),d,r⟩
  have hKb:K.In (hidT s₁.heap H):=fun b o e=>base_of (KX b o e) (by
   cases q:H b with
   | none=>rfl
   | some u =>
    have e':b=a:=hA b (by rw [q];simp)
    subst e'
    rw [hK (by rw [q];simp)] at e;cases e)
  have hM:Mod K mg (hidT s₁.heap H):=⟨hKb,nsK hns,⟨mb,nsK hb,hbb⟩,let ⟨mc,h1,h2⟩:=hlim;⟨mc,nsK h1,h2⟩⟩
  have e0:Env0 P w K mg (hidT s₁.heap H) callerA [] s₁ H:=⟨rfl,hM,fun b o e=>qch e,Nat.le_of_eq (WN _ _),trivial,fun b hb=>absurd (show b∈([]:List Kd) from hb) (by simp),hok,.of_eq hg⟩
  refine codeAny_mono ((F _ hKb (nsK hns)).run callerA [] s₁ H ⟨[.ref a],[]⟩ [.ref a] [.ref a] _ _ hr e0 (hbind s₁ (.ref a)) (.cons rfl .nil) (hsp H hO hS)) fun r s' h=>?_
  cases r with
  | error e=>exact (hCX H e s' h).elim
  | ok fl =>
   cases fl with
   | next=>exact V2 h
   | brk=>exact V2 h
   | cont=>exact V2 h
   | ret u =>
    obtain ⟨v,H',os,bare,un,hok',r',q⟩:=h
    have q':v=.bl true:=q
    subst q'
    obtain rfl:u=Uc true:=r'
    refine ⟨rfl,OldK.of_keep fun b o e=>?_,os,bare⟩
    cases q:H b with
    | none=>exact un.keep b o e q (by intro z;exact absurd (show b∈([]:List Kd) from z) (by simp)) (by simp)
    | some u =>
     rcases hO b with z|⟨ob,xs,z⟩
     ·rw [q] at z;cases z
     ·have z2:=un.frzs b ob _ z
      obtain ⟨e1,_⟩:=hok b _ z
      obtain ⟨e2,_⟩:=hok' b _ z2
      rw [e] at e1;cases e1
      exact e2
 cases hk:K.lookup a with
 | some o =>
  have e:=KX a o hk
  rw [ha] at e
  cases e
  refine core (fun _=>none) (fun _=>.inl rfl) (.inr ⟨_,vs.toArray,_,hk,rfl,rfl,rfl,by rw [Km,lenV];exact hl,by simpa using rv⟩) (fun b u z=>by have z':(none:Option HO)=some u:=z;cases z') (fun b z=>absurd rfl z) fun z=>absurd rfl z
 | none =>
  refine core (fun b=>if b=a then some (.frz { cls:=.type "list", data:=.seq vs.toArray } (.lst (ns.map V.int))) else none) (fun b=>?_) (.inl (.inr ⟨{ cls:=.type "list", data:=.seq vs.toArray },if_pos rfl⟩)) (fun b u z=>?_) (fun b z=>?_) fun _=>hk
  ·by_cases hb:b=a
   ·exact .inr ⟨_,_,if_pos hb⟩
   ·exact .inl (if_neg hb)
  ·by_cases hb:b=a
   ·have z':=(if_pos hb).symm.trans z
    cases z'
    subst hb
    exact ⟨ha,by rw [Kg];exact hl,vs,_,rv,ha⟩
   ·have z':=(if_neg hb).symm.trans z
    cases z'
  ·by_cases hb:b=a
   ·exact hb
   ·exact absurd (if_neg hb) z
noncomputable def Qw (s:K1):Arguments:=match s with
 | .FunctionDef _ a _ _ _ _ _ _ _ _=>a
 | _=>{ posonlyargs:=[],args:=[],vararg:=none,kwonlyargs:=[],kw_defaults:=[],kwarg:=none,defaults:=[] }
noncomputable def zL (s:K1):List K1:=match s with
 | .FunctionDef _ _ b _ _ _ _ _ _ _=>b
 | _=>[]
noncomputable def qu (s:K1):K3:=match s with
 | .FunctionDef _ _ _ _ _ _ sc _ _ _=>sc
 | _=>{ kind:=.function,names:=[],isGenerator:=false,isCoroutine:=false }
abbrev CX0:CXT:=fun _ _ _ _ _ _=>False
abbrev E0:XK:=fun _ _ _=>False
theorem pass0 {X:Cx}:JT CX0 X E0:=fun _ _ _ _ _ _ _ h=>h.elim
structure Fun (K:Kb)(x qual:Str)(st:K1)(f:Kd)(fd:Vq):Prop where
 ex:∃ (oc:Kc) (od:aR) (kV doc pm:Kc) (an:aR) (cdv ct:Kc) (osl:aI),
  fd=VN x qual (Qw st) (zL st) (qu st) .none kV doc pm an cdv ct/\K.lookup f=some ⟨oc,od,.func fd,osl⟩/\Um K cdv qual=true
 kp:VR K (.ref f)=true
section
variable {P:KD}{w:KM}{K:Kb}{mg:au}{base:KI}
theorem Fun.binds {x qual:Str}{st:K1}{f:Kd}{fd:Vq}{ps:aA}(F:Fun K x qual st f fd)
  (h:∀ (kV doc pm:Kc) (an:aR) (cdv ct:Kc) (us:aw),us.length=ps.length->bindArgs (VN x qual (Qw st) (zL st) (qu st) .none kV doc pm an cdv ct) ⟨us,[]⟩=pure (ps.zip us)):Binds K fd ps []:=by
 obtain ⟨oc,od,kV,doc,pm,an,cdv,ct,osl,rfl,lk,hcd⟩:=F.ex
 exact .all (h kV doc pm an cdv ct)
theorem qaF {x qual:Str}{st:K1}{f:Kd}{oc:Kc}{od an:aR}{osl:aI}{kV doc pm cdv ct:Kc}(l:K.lookup f=some ⟨oc,od,.func (VN x qual (Qw st) (zL st) (qu st) .none kV doc pm an cdv ct),osl⟩)
  (c:Um K cdv qual=true) (k:VR K (.ref f)=true):Fun K x qual st f (VN x qual (Qw st) (zL st) (qu st) .none kV doc pm an cdv ct):=⟨⟨oc,od,kV,doc,pm,an,cdv,ct,osl,rfl,l,c⟩,k⟩
end
theorem q9 {n:Nat}(h:n<=1000):n<sizeLine:=Uw h (by decide)
theorem iteF {A B:Prop}(h:B):if false=true then A else B:=by
 rw [if_neg Vp]
 exact h
theorem iteT {A B:Prop}(h:A):if true=true then A else B:=by
 rw [if_pos rfl]
 exact h
def Same (H H':Hp):Prop:=∀ b o,H b=some o->H' b=some o
theorem Same.refl (H:Hp):Same H H:=fun _ _ h=>h
theorem Same.trans {H H1 H2:Hp}(a:Same H H1)(b:Same H1 H2):Same H H2:=fun c o h=>b c o (a c o h)
theorem Same.free {H H':Hp}(e:Same H H'){l:Kd}(h:H' l=Vr):H l=Vr:=by
 cases q:H l with
 | none=>rfl
 | some o =>
  rw [e l o q] at h
  cases h
theorem Same.seq {K:Kb}{H H':Hp}{a:Kd}{xs:List V}(e:Same H H')(h:SqL K H a xs):SqL K H' a xs:=by
 rcases h with (h|⟨o,h⟩)|h
 ·exact .inl (.inl (e _ _ h))
 ·exact .inl (.inr ⟨o,e _ _ h⟩)
 ·exact .inr h
end L2
set_option maxHeartbeats 4000000
namespace L2
open PySem PySem.Spec PyProof.Rows
theorem yN {env:Env}(body:(Str×NameKind)->List (Str×Addr)->Sem (ForInStep (List (Str×Addr))))
  (hf:∀ n k acc c,k=KJ->env.cells.lookup n=some c->body (n,k) acc=pure (.yield ((n,c)::acc)))
  (hn:∀ n k acc,k≠KJ->body (n,k) acc=pure (.yield acc)) :
  ∀ (names:List (Str×NameKind)) (acc:aG),(∀ y∈names,y.2=.free->∃ c,env.cells.lookup y.1=some c)->
   (∀ y c,acc.lookup y=some c->env.cells.lookup y=some c)->
   ∃ cl,forIn names acc body=pure cl/\(∀ y c,cl.lookup y=some c->env.cells.lookup y=some c)/\(∀ y,(∃ c,acc.lookup y=some c)->∃ c,cl.lookup y=some c)/\∀ y,(y,KJ)∈names->∃ c,cl.lookup y=some c:=by
 intro names
 induction names with
 | nil=>exact fun acc _ ha=>⟨acc,rfl,ha,fun _ h=>h,fun _ h=>by cases h⟩
 | cons p r ih =>
  obtain ⟨n,k⟩:=p
  intro acc h ha
  by_cases hk:k=KJ
  ·obtain ⟨c,hc⟩:=h (n,k) K0 hk
   obtain ⟨cl,e,h1,h2,h3⟩:=ih ((n,c)::acc) (fun y hy=>h y (KY _ hy)) (fun y c' e=>by
    rw [KL] at e
    split at e
    ·rename_i q
     have q':y=n:=by simpa using q
     subst q';cases e;exact hc
    ·exact ha y c' e)
   refine ⟨cl,?_,h1,fun y hy=>h2 y ?_,fun y hy=>?_⟩
   ·rw [List.forIn_cons,hf n k acc c hk hc]
    exact e
   ·obtain ⟨c',e'⟩:=hy
    rw [KL]
    split
    ·exact ⟨_,rfl⟩
    ·exact ⟨_,e'⟩
   ·rcases Ks.mp hy with q|q
    ·cases q
     exact h2 _ ⟨c,by rw [KL];simp⟩
    ·exact h3 y q
  ·obtain ⟨cl,e,h1,h2,h3⟩:=ih acc (fun y hy=>h y (KY _ hy)) ha
   refine ⟨cl,?_,h1,h2,fun y hy=>?_⟩
   ·rw [List.forIn_cons,hn n k acc hk]
    exact e
   ·rcases Ks.mp hy with q|q
    ·cases q;exact absurd rfl hk
    ·exact h3 y q
theorem jz {sc:K3}{env:Env}(h:∀ y∈sc.names,y.2=.free->∃ c,env.cells.lookup y.1=some c) :
  ∃ cl,closureFor sc env=pure cl/\(∀ y c,cl.lookup y=some c->env.cells.lookup y=some c)/\∀ y,(y,KJ)∈sc.names->∃ c,cl.lookup y=some c:=by
 simp only [closureFor]
 obtain ⟨cl,e,h1,_,h3⟩:=yN (env:=env) (fun x cs=>if (x.2==KJ)=true then (do let a ← cellOf env x.1;pure (Ue ((x.1,a)::cs))) else pure (Ue cs)) (fun n k acc c hk hc=>by
   subst hk
   simp only [cellOf,hc,beq_self_eq_true,if_true];rfl) (fun n k acc hk=>by
   have:(k==KJ)=false:=by simpa using hk
   simp only [this,Ug,if_false]) sc.names [] h (fun y c e=>by cases e)
 refine ⟨cl,?_,h1,h3⟩
 exact (congrArg (· >>= fun r=>pure r) e).trans rfl
def qw (X:Cx)(N':aA)(sc:K3)(cl:aG)(C:Kd)(fp:az)(pins:ag)(s:Ke)(H:Hp):Cx where
 prog:=X.prog
 w:=X.w
 K:=X.K
 mg:=X.mg
 base:=X.base
 A:=X.A
 N:=N'
 s₀:=s
 H₀:=H
 env:=compEnvC sc cl C X.env
 outer:=X.stack
 stack:=X.stack
 ex:=fp
 fn:=fun x=>decide (sc.names.lookup x=some .cell)
 calm:=X.calm
 pn:=X.pn++pins
 xe:=fun _ _=>False
def PTs (X:Cx)(ifs:aH)(t:TT):Prop :=
 ∀ (pins:ag) (s:Ke) (σ:St) (H:Hp) (Q:Bool->Hp->Prop),Inv X pins σ H s->t σ H Q->
  wpAny (model X.prog X.w) X.A (forIn ifs true fun c r=>if r=true then do let ok ← isTrue c X.env (eval c X.env);pure (Ue ok) else pure (Ue r)) (TP X pins σ Q) X.xe s
def tTru:TT:=fun _ H Q=>Q true H
theorem qcF {X:Cx}:PTs X [] tTru:=fun _ _ _ H _ I h=>wpAny_tests_nil ⟨H,I,h⟩
theorem thF {α:Type}{t:Sem α}{Q Q':α->Ke->Prop}{M:Model}{A:KU}{E:aq}{s:Ke}(h:wpAny M A t Q (fun _ _=>False) s)(hQ:∀ a s,Q a s->Q' a s):wpAny M A t Q' E s:=VF h hQ fun _ _ x=>x.elim
theorem YW {prog:KD}{w:KM}{A:KU}{R:Result->Ke->Prop}{s:Ke}{elt target iter:Kr}{ifs:aH}{scope:K3}{pos:Pos}{it acc:Kc}{env:Env}(I:Nat->Ke->Prop)
  (turn:∀ n s,I n s->wpAny (model prog w) A (pyNext it) (fun r s₁=>match r with
   | none=>R (.ok .next) s₁
   | some v=>wpAny (model prog w) A (letOwnedTupleGo target it v) (fun _ s₁=>wpAny (model prog w) A (assign target env v) (fun _ s₂ =>
     wpAny (model prog w) A (forIn ifs true fun c r=>if r=true then do let ok ← isTrue c env (eval c env);pure (Ue ok) else pure (Ue r)) (fun ok s₃ =>
      if ok=true then wpAny (model prog w) A (eval elt env) (fun x s₄ =>
       wpAny (model prog w) A (call (.builtin "list.append") [acc,x]) (fun _ s₅=>∃ m,m<n/\I m s₅) (notedBy (model prog w) A env fun e s'=>R (.error e) s') s₄) (notedBy (model prog w) A env fun e s'=>R (.error e) s') s₃
      else ∃ m,m<n/\I m s₃) (notedBy (model prog w) A env fun e s'=>R (.error e) s') s₂) (notedBy (model prog w) A env fun e s'=>R (.error e) s') s₁) (notedBy (model prog w) A env fun e s'=>R (.error e) s') s₁) (notedBy (model prog w) A env fun e s'=>R (.error e) s') s)
  (n:Nat) (h:I n s) :
  codeAny (model prog w) A (.compLoop (.ListComp elt [⟨target,iter,ifs,0⟩] scope pos) 0 it acc env) R s:=by
 refine codeAny_loop rfl I (fun n s hI=>?_) n h
 show wpAny _ A ((compTurn (.ListComp elt [⟨target,iter,ifs,0⟩] scope pos) 0 it acc env).onRaise (fun x=>do noteFrame x env;theTreesLotGoes x)) _ _ s
 refine wpAny_noted ?_
 rw [compTurn_list]
 refine Ki (wpAny_standAt (Ki (VF (turn n s hI) (fun r s₁ h₁=>?_) fun _ _ h'=>h')))
 cases r with
 | none=>exact Kx h₁
 | some v =>
  refine Ki (VF h₁ (fun _ s₁' h₁'=>?_) fun _ _ h'=>h')
  refine Ki (VF h₁' (fun _ s₂ h₂=>Ki (VF h₂ (fun ok s₃ h₃=>?_) fun _ _ h'=>h')) fun _ _ h'=>h')
  cases ok with
  | false=>exact Kx ⟨rfl,h₃⟩
  | true =>
   exact Ki (Ki (VF h₃ (fun x s₄ h₄=>Ki (VF h₄ (fun _ s₅ h₅=>Kx (Kx ⟨rfl,h₅⟩)) fun _ _ h'=>h')) fun _ _ h'=>h'))
structure CompOk (X:Cx)(N':aA)(k:Nat)(sc:K3):Prop where
 calm:X.calm=true
 kind:sc.kind=.function
 nd:X.N.Nodup
 nd':N'.Nodup
 len:N'.length=X.N.length+k
 cells:∀ y∈sc.names,y.2=.cell->sc.names.lookup y.1=some .cell
 names:∀ y∈sc.names,y.2=.local->sc.names.lookup y.1=some .local
 old:∀ i y,i<X.N.length->N'[i]?=some y->(X.N[i]?=some y/\sc.names.lookup y≠some .local/\sc.names.lookup y≠some .cell)\/sc.names.lookup y=none
 free:∀ y∈sc.names,y.2=.free->X.env.kindOf y.1=some .cell\/X.env.kindOf y.1=some .free
theorem cf_ok (lo:Nat):∀ (names:List (Str×NameKind)) (h:KI) (acc:aG),lo<=h.objs.size->(∀ y c,acc.lookup y=some c->lo<=c->c<h.objs.size)->(∀ y z c,lo<=c->acc.lookup y=some c->acc.lookup z=some c->y=z)->
  (∀ y c,(cellsFrom h.objs.size names acc).lookup y=some c->acc.lookup y=some c\/(h.objs.size<=c/\(pushCells h names).IsCell c none))/\(∀ y,(∃ c,acc.lookup y=some c)->∃ c,(cellsFrom h.objs.size names acc).lookup y=some c)/\
  (∀ y,(y,Vb)∈names->∃ c,(cellsFrom h.objs.size names acc).lookup y=some c/\h.objs.size<=c)/\(∀ y,(y,Vb)∉names->(cellsFrom h.objs.size names acc).lookup y=acc.lookup y)/\
  ∀ y z c,lo<=c->(cellsFrom h.objs.size names acc).lookup y=some c->(cellsFrom h.objs.size names acc).lookup z=some c->y=z:=by
 intro names
 induction names with
 | nil=>exact fun h acc _ _ inj=>⟨fun _ _ e=>.inl e,fun _ e=>e,(fun _ e=>by cases e),fun _ _=>rfl,inj⟩
 | cons p r ih =>
  obtain ⟨name,kind⟩:=p
  intro h acc hl hb inj
  by_cases hk:kind=.cell
  ·subst hk
   have sz:(h.push { cls:=.type "cell", data:=.cell none }).objs.size=h.objs.size+1:=U2 ..
   have lk:∀ y,U6 y ((name,h.objs.size)::acc)=if y=name then some h.objs.size else acc.lookup y:=fun y=>by
    rw [KL]
    by_cases q:y=name
    ·rw [if_pos q,beq_iff_eq.mpr q]
    ·rw [if_neg q,beq_eq_false_iff_ne.mpr q]
   obtain ⟨a1,a2,a3,a4,a5⟩:=ih (h.push { cls:=.type "cell", data:=.cell none }) ((name,h.objs.size)::acc) (by omega) (fun y c e q=>by
     rw [lk] at e
     rw [sz]
     split at e
     ·cases e;exact Xt _
     ·exact Ul (hb y c e q)) (fun y z c q e1 e2=>by
     rw [lk] at e1 e2
     split at e1<;>split at e2
     ·rename_i u v;rw [u,v]
     ·cases e1;exact absurd (hb z _ e2 q) (VA _)
     ·cases e2;exact absurd (hb y _ e1 q) (VA _)
     ·exact inj y z c q e1 e2)
   rw [sz] at a1 a2 a3 a4 a5
   have e0:cellsFrom h.objs.size ((name,Vb)::r) acc=cellsFrom (h.objs.size+1) r ((name,h.objs.size)::acc):=rfl
   have e1:pushCells h ((name,Vb)::r)=pushCells (h.push { cls:=.type "cell", data:=.cell none }) r:=rfl
   rw [e0,e1]
   have b1:∀ y c,(cellsFrom (h.objs.size+1) r ((name,h.objs.size)::acc)).lookup y=some c->acc.lookup y=some c\/(h.objs.size<=c/\(pushCells (h.push { cls:=.type "cell", data:=.cell none }) r).IsCell c none):=fun y c e=>by
    rcases a1 y c e with q|⟨q1,q2⟩
    ·rw [lk] at q
     split at q
     ·cases q
      exact .inr ⟨Ko _,_,XJ r _ _ _ (K5 _ rfl),rfl⟩
     ·exact .inl q
    ·exact .inr ⟨by omega,q2⟩
   refine ⟨b1,fun y e=>a2 y ?_,fun y e=>?_,fun y e=>?_,a5⟩
   ·obtain ⟨c,e⟩:=e
    rw [lk]
    split
    ·exact ⟨_,rfl⟩
    ·exact ⟨_,e⟩
   ·rcases Ks.mp e with q|q
    ·cases q
     obtain ⟨c,q⟩:=a2 name ⟨h.objs.size,by rw [lk,if_pos rfl]⟩
     refine ⟨c,q,?_⟩
     rcases a1 name c q with z|z
     ·rw [lk,if_pos rfl] at z;cases z;exact Ko _
     ·omega
    ·obtain ⟨c,q1,q2⟩:=a3 y q
     exact ⟨c,q1,by omega⟩
   ·rw [a4 y fun z=>e (KY _ z),lk,if_neg fun z=>e (by rw [z];exact K0)]
  ·have hb':(kind==Vb)=false:=beq_eq_false_iff_ne.mpr hk
   have e0:cellsFrom h.objs.size ((name,kind)::r) acc=cellsFrom h.objs.size r acc:=by rw [cellsFrom,hb'];rfl
   have e1:pushCells h ((name,kind)::r)=pushCells h r:=by rw [pushCells,hb'];rfl
   rw [e0,e1]
   obtain ⟨a1,a2,a3,a4,a5⟩:=ih h acc hl hb inj
   refine ⟨a1,a2,fun y e=>?_,fun y e=>a4 y fun z=>e (KY _ z),a5⟩
   rcases Ks.mp e with q|q
   ·cases q;exact absurd rfl hk
   ·exact a3 y q
theorem qcg {M:Model}{A:KU}{E:aq}{s:Ke}{sc:K3}{gl:Kd}{cl:aG}{qual:Str}{func:aR}{code:Kc}{env:Env}{bl:Kd}{Q:Env->Ke->Prop}
  (hQ:Q (newEnv sc s.heap.objs.size gl (cellsFrom (s.heap.objs.size+1) sc.names cl) qual func code (some env) bl) { s with heap:=pushCells (s.heap.push { cls:=.type "dict", data:=.dict #[] }) sc.names }) :
  wpAny M A (newFunctionEnv sc gl cl [] qual func code (some env) bl) Q E s:=by
 simp only [newFunctionEnv,Option.isSome_some,if_true]
 refine Ki (wpAny_alloc (Ki (wpAny_layCells _ (fun name kind cells=>by cases hkc:kind==Vb<;>simp [hkc]) _ _ _ _ ?_)))
 rw [show ({ s with heap:=s.heap.push { cls:=.type "dict", data:=.dict #[] } }:Ke).heap.objs.size=s.heap.objs.size+1 from U2 ..]
 rw [List.forIn_nil]
 exact Ki (Kx (Kx hQ))
structure ClOk (X:Cx)(sc:K3)(cl:aG)(n:Nat)(h:KI):Prop where
 old:∀ y c,cl.lookup y=some c->X.env.cells.lookup y=some c\/(n<c/\∃ v,h.IsCell c v)
 free:∀ y,sc.names.lookup y=some .free->∃ c,cl.lookup y=some c/\X.env.cells.lookup y=some c
 cell:∀ y,sc.names.lookup y=some .cell->∃ c,cl.lookup y=some c/\n<c
 inj:∀ y z c,cl.lookup y=some c->cl.lookup z=some c->y=z
def qbx (J:It)(wg:TG)(tt:TT)(te:TE)(W:Nat->Nat->List V->St->Hp->Prop)(i m:Nat)(ys:List V)(σ:St)(H:Hp):Prop :=
 ∀ x H2,J.yld i H x H2->wg x σ H2 fun σ3 H3=>tt σ3 H3 fun b H4=>if b=true then te σ3 H4 fun v H5=>ys.length<sizeLine/\∃ m',m'<m/\W (i+1) m' (ys++[v]) σ3 H5
  else ∃ m',m'<m/\W (i+1) m' ys σ3 H4
def qby (k:Nat)(J:It)(wg:TG)(tt:TT)(te:TE)(σ:St)(H:Hp)(Q:VK):Prop :=
 ∃ W:Nat->Nat->List V->St->Hp->Prop,(∃ m,W 0 m [] (σ++Kl k none) H)/\∀ i m ys σ' H',W i m ys σ' H'->
  (J.stop i H'/\∀ D,H' D=none->Q (.ref D) (upd H' D (.lst ys)))\/(J.go i H'/\qbx J wg tt te W i m ys σ' H')
def JP (k:Nat)(wi:TI)(wg:TG)(tt:TT)(te:TE):TE:=fun σ H Q=>wi σ H fun J H1=>qby k J wg tt te σ H1 Q
theorem zR {env:Env}:∀ {names:List (Str×NameKind)} {x:Str} {k:Xo},
  (names.map fun (n,k)=>if (k==KJ&&env.scope.kind==.function&&env.kindOf n==some .cell) then (n,Vb) else (n,k)).lookup x=some k->
   (names.lookup x=some k)\/(k=.cell/\names.lookup x=some .free):=by
 intro names x k
 induction names with
 | nil=>intro h;cases h
 | cons q r ih =>
  intro h
  obtain ⟨n,k'⟩:=q
  have h':U6 x ((if (k'==KJ&&env.scope.kind==.function&&env.kindOf n==some .cell)=true then (n,Vb) else (n,k'))::(r.map fun (n,k)=>if (k==KJ&&env.scope.kind==.function&&env.kindOf n==some .cell) then (n,Vb) else (n,k)))=some k:=h
  cases hx:x==n with
  | true =>
   by_cases hc:(k'==KJ&&env.scope.kind==.function&&env.kindOf n==some .cell)=true
   ·rw [if_pos hc] at h'
    simp only [KL,hx] at h' ⊢
    cases h'
    have:k'=.free:=by
     rw [Kt,Kt] at hc
     simpa using hc.1.1
    subst this
    exact .inr ⟨rfl,rfl⟩
   ·rw [if_neg hc] at h'
    simp only [KL,hx] at h' ⊢
    exact .inl h'
  | false =>
   by_cases hc:(k'==KJ&&env.scope.kind==.function&&env.kindOf n==some .cell)=true
   ·rw [if_pos hc] at h'
    simp only [KL,hx] at h' ⊢
    exact ih h'
   ·rw [if_neg hc] at h'
    simp only [KL,hx] at h' ⊢
    exact ih h'
section
variable {X:Cx}{elt iter:Kr}{ifs:aH}{tg:Kr}{N':aA}{sc:K3}{pos:Pos}{wi:TI}{wg:TG}{tt:TT}{te:TE}{k:Nat}
theorem qaz {pins:ag}{σ:St}{H:Hp}{s s':Ke}{cl:aG}{fp:az}{m:au}(O:CompOk X N' k sc)(I:Inv X pins σ H s)(cK:ClOk X sc cl s.heap.objs.size s'.heap)
  (hf:∀ b∈fp,FpOk X pins H b) (hlt:∀ b∈fp,b<s.heap.objs.size) (hos:s'.os=s.os) (hg:s'.gens=s.gens) (hk:∀ b o,s.heap.get? b=some o->s'.heap.get? b=some o) (hns:s'.heap.Ns s.heap.objs.size m) :
  Inv (qw X N' sc cl s.heap.objs.size fp pins s H) [] (σ++Kl k none) H s':=by
 have stk:∀ b,b≠X.env.locals->b∉X.fs->b∉frs X.stack:=fun b h1 h2 hb=>by
  rcases Ks.mp (I.stkSub b hb) with z|z
  ·exact h1 z
  ·exact h2 z
 have hr:∀ {y:Str},(relabel sc X.env).names.lookup y=some .cell\/(relabel sc X.env).names.lookup y=some .free->sc.names.lookup y=some .free\/sc.names.lookup y=some .cell:=fun {y} h=>by
  rcases h with h|h
  ·rcases zR h with q|q
   ·exact .inr q
   ·exact .inl q.2
  ·rcases zR h with q|q
   ·exact .inl q
   ·exact .inl q.2
 refine ⟨⟨I.ok.mod,O.kind,I.ok.glob,I.ok.blt,Ko _,cK.inj,fun y hy=>?_,fun y c z e=>?_,I.ok.hd,I.ok.frames,.inl rfl,fun b hb=>?_,I.bs,K7 I.ok.bsz I.sz,fun b o e hb=>?_,fun b hb=>?_,I.stack,I.stkFree⟩,
  hos,?_,Un.kept hk,⟨m,hns,fun i y v h1 h2 h3=>?_⟩,fun y c h=>?_,I.hok.fresh (Ko _),fun y c h=>(cK.old y c h).elim (I.freeC y c) fun z=>I.hok.fresh (Vk z.1),fun p hp=>?_,I.hok.kept hk,?_⟩
 ·rcases hr hy with q|q
  ·obtain ⟨c,e,_⟩:=cK.free y q;exact ⟨c,e⟩
  ·obtain ⟨c,e,_⟩:=cK.cell y q;exact ⟨c,e⟩
 ·obtain ⟨c',e',q⟩:=cK.cell y (of_decide_eq_true z)
  have e:cl.lookup y=some c:=e
  rw [e'] at e;cases e
  exact Vk q
 ·have q:=hf b hb
  exact ⟨Vj (hlt b hb),fun z c e=>(cK.old z c e).elim (q.2.2.2.2.1 z c) fun w=>Xm (X7 (hlt b hb) w.1)⟩
 ·have hb':b∈fp:=hb
  rcases (hf b hb').2.2.2.1 with z|z
  ·exact I.ok.noex b o e z
  ·exact absurd (Ku (Kw (I.ok.bs b o e).1) z) (VA _)
 ·exact stk b (hf b hb).2.1 (hf b hb).2.2.1
 ·rw [hg];exact I.bare
 ·have hl:=I.len
  have hi:i<X.N.length:=by
   by_cases hi:i<X.N.length
   ·exact hi
   ·rw [VG (by omega)] at h2
    have:=VP (a:=(none:Option V)) (n:=k) (i:=i-σ.length)
    rw [this] at h2
    split at h2<;>cases h2
  have h1':X.N[i]?=some y/\sc.names.lookup y≠some .local/\sc.names.lookup y≠some .cell:=by
   rcases O.old i y hi h1 with q|q
   ·exact q
   ·have no:∀ kk,(relabel sc X.env).names.lookup y≠some kk:=fun kk z=>by
     rcases zR z with w|w
     ·rw [q] at w;cases w
     ·rw [q] at w;cases w.2
    rcases h3 with h3|h3|h3
    ·exact absurd h3 (no _)
    ·exact absurd h3 (no _)
    ·exact absurd h3 (no _)
  obtain ⟨h1',h1n,h1c⟩:=h1'
  have h2':σ[i]?=some (some v):=by
   rw [K8 (by omega)] at h2
   exact h2
  have key:sc.names.lookup y=some .free/\((relabel sc X.env).names.lookup y=some .cell\/(relabel sc X.env).names.lookup y=some .free):=by
   rcases h3 with h3|h3|h3
   ·rcases zR h3 with q|q
    ·exact absurd q h1n
    ·cases q.1
   ·exact ⟨(hr (.inl h3)).resolve_right h1c,.inl h3⟩
   ·exact ⟨(hr (.inr h3)).resolve_right h1c,.inr h3⟩
  obtain ⟨q,kd⟩:=key
  have mem:=Vv q
  have kx:=O.free _ mem rfl
  obtain ⟨m0,hn,hl'⟩:=I.loc
  obtain ⟨u,r,l⟩:=hl' i y v h1' h2' (by rcases kx with z|z;exact .inr (.inl z);exact .inr (.inr z))
  rcases l with ⟨l,_⟩|⟨_,c,e,z⟩
  ·rcases kx with z|z
   ·rw [l] at z;cases z
   ·rw [l] at z;cases z
  ·obtain ⟨c',e',e2⟩:=cK.free y q
   rw [e] at e2;cases e2
   obtain ⟨o,ho,hd⟩:=z
   exact ⟨u,r,.inr ⟨kd,c,e',o,hk _ _ ho,hd⟩⟩
 ·rcases cK.old y c h with z|z
  ·obtain ⟨v,o,ho,hd⟩:=I.cell y c z
   exact ⟨v,o,hk _ _ ho,hd⟩
  ·exact z.2
 ·have hp':p∈X.pn++pins:=by
   rcases Vy.mp hp with z|z
   ·exact z
   ·cases z
  obtain ⟨e,n,ne,nf,d⟩:=I.pin p hp'
  exact ⟨hk _ _ e,n,Vj (Kw e),stk p.1 ne nf,d⟩
 ·show (σ++Kl k none).length=N'.length
  rw [Kv,K4,I.len,O.len]
theorem comp_back {pins:ag}{σ σ':St}{H H':Hp}{s s1:Ke}{cl:aG}{fp:az}{C:Kd}(I:Inv X pins σ H s)(hf:∀ b∈fp,FpOk X pins H b)
  (J:Inv (qw X N' sc cl C fp pins s H) [] σ' H' s1):Inv X pins σ H' s1 :=
 I.call' (ch:=fp) J.os J.base J.hok J.bare fun b hb=>⟨(hf b hb).2.2.2.1,(hf b hb).2.1,(hf b hb).2.2.2.2.1,(hf b hb).2.2.2.2.2⟩
theorem Inv.track {pins:ag}{σ:St}{H:Hp}{s:Ke}{D:Kd}{o:HO}(I:Inv X pins σ H s)(hn:H D=none)(hL:D≠X.env.locals)(h1:D∈X.ex\/X.s₀.heap.objs.size<=D)(h2:∀ x c,X.env.cells.lookup x=some c->c≠D)(h3:∀ p∈X.pn++pins,p.1≠D)
  (ok:zy X.prog X.w (upd H D o) s.heap D o):Inv X pins σ (upd H D o) s:=by
 have ne:∀ b u,H b=some u->b≠D:=fun b u e=>zH e hn
 exact I.step (g':=s.gens) (d':=s.drawn) (t':=s.toks) (ch:=[D]) (h':=s.heap) (fun b hb=>by
   have e:b=D:=by simpa using hb
   subst e
   exact ⟨h1,hL,h2,h3⟩) (fun b o _ _ _ e _=>e) (fun b o _ _ _ e _=>⟨o.slots,e⟩) (fun b o hc e n=>by rw [qp (fun z=>hc (by simp [z]))];exact n) (fun b o _ e=>⟨o,e⟩)
  (fun b xs e=>by rw [qp (ne b _ e)];exact e) (fun b o u e=>by rw [qp (ne b _ e)];exact e) (fun b ps e=>⟨#[],by rw [qp (ne b _ e),e];simp⟩) (fun m hm=>hm) (fun b u e=>by
   by_cases hb:b=D
   ·subst hb;rw [qM] at e;cases e;exact ok
   ·rw [qp hb] at e
    exact (I.hok b u e).stay (fun c v _ q=>q) (fun c q=>by rw [qp (ne c _ q)];exact q) fun c xs q=>by rw [qp (ne c _ q)];exact q) I.bare
theorem WD {pins:ag}{σ:St}{H:Hp}{s s':Ke}{cl:aG}{fp:az}{m:au}{it D:Kd}{tn:Nat->KI->Prop}{J:It}{R:Result->Ke->Prop}{Qd:List V->Hp->Prop}(O:CompOk X N' k sc)
  (I:Inv X pins σ H s) (cK:ClOk X sc cl s.heap.objs.size s'.heap) (hf:∀ b∈D::fp,FpOk X pins H b) (hlt:∀ b∈D::fp,b<s.heap.objs.size)
  (hos:s'.os=s.os) (hg:s'.gens=s.gens) (hk:∀ b o,s.heap.get? b=some o->s'.heap.get? b=some o) (hns:s'.heap.Ns s.heap.objs.size m)
  (T:Turn X.prog X.w X.K tg J fp it tn) (hDf:D∉fp) (st:tn 0 s'.heap) (hD:s'.heap.PlainList D #[])
  (pg:PG (qw X N' sc cl s.heap.objs.size (D::fp) pins s H) tg wg) (hq:PTs (qw X N' sc cl s.heap.objs.size (D::fp) pins s H) ifs tt) (he:PE (qw X N' sc cl s.heap.objs.size (D::fp) pins s H) elt te)
  (W:Nat->Nat->List V->St->Hp->Prop) (m0:Nat) (w0:W 0 m0 [] (σ++Kl k none) H) (turn:∀ i m ys σ' H',W i m ys σ' H'->(J.stop i H'/\Qd ys H')\/(J.go i H'/\qbx J wg tt te W i m ys σ' H'))
  (fin:∀ s1 H1 σ1 (ys:List V) (its:aw),Inv (qw X N' sc cl s.heap.objs.size (D::fp) pins s H) [] σ1 H1 s1->H1 D=none->s1.heap.PlainList D its.toArray->Vals ys its->ys.length<=sizeLine->Qd ys H1->R (.ok .next) s1) :
  codeAny (model X.prog X.w) X.A (.compLoop (.ListComp elt [⟨tg,iter,ifs,0⟩] sc pos) 0 (.ref it) (.ref D) (compEnvC sc cl s.heap.objs.size X.env)) R s':=by
 have I0:Inv (qw X N' sc cl s.heap.objs.size (D::fp) pins s H) [] (σ++Kl k none) H s':=qaz O I cK hf hlt hos hg hk hns
 have stk:∀ b,b≠X.env.locals->b∉X.fs->b∉frs X.stack:=fun b h1 h2 hb=>by
  rcases Ks.mp (I.stkSub b hb) with z|z
  ·exact h1 z
  ·exact h2 z
 have stat:∀ {H':Hp},(∀ b∈D::fp,H' b=none)->∀ b∈D::fp,FpOk (qw X N' sc cl s.heap.objs.size (D::fp) pins s H) [] H' b:=fun hn b hb =>
  ⟨hn b hb,Vj (hlt b hb),stk b (hf b hb).2.1 (hf b hb).2.2.1,.inl hb,fun z c e=>(cK.old z c e).elim ((hf b hb).2.2.2.2.1 z c) fun w=>Xm (X7 (hlt b hb) w.1),fun p hp=>by
   have hp':p∈X.pn++pins:=by
    rcases Vy.mp hp with z|z
    ·exact z
    ·cases z
   exact (hf b hb).2.2.2.2.2 p hp'⟩
 have statF:∀ {H':Hp},(∀ b∈D::fp,H' b=none)->∀ b∈fp,FpOk (qw X N' sc cl s.heap.objs.size (D::fp) pins s H) [] H' b:=fun hn b hb=>stat hn b (KY _ hb)
 refine YW (fun kk s1=>∃ i ys its σ' H',Inv (qw X N' sc cl s.heap.objs.size (D::fp) pins s H) [] σ' H' s1/\tn i s1.heap/\(∀ b∈D::fp,H' b=none)/\s1.heap.PlainList D its.toArray/\Vals ys its/\ys.length<=sizeLine/\W i kk ys σ' H') ?_ m0 ⟨0,[],[],σ++Kl k none,H,I0,st,fun b hb=>(hf b hb).1,hD,.nil,Vu _,w0⟩
 rintro kk s3 ⟨i,ys,its,σ3,H3,I3,st3,fr3,pl3,rv3,hz3,w3⟩
 rcases turn i kk ys σ3 H3 w3 with ⟨stop,qn⟩|⟨go,step⟩
 ·have J3:=I3.pinned (fp:=[D]) (fun b hb=>by
   have e:b=D:=by simpa using hb
   subst e
   exact stat fr3 b K0) (fun b hb=>by
   have e:b=D:=by simpa using hb
   subst e
   obtain ⟨n,e⟩:=pl3
   exact ⟨_,e,fun v z=>by cases z⟩)
  have fpo:∀ b∈fp,FpOk (qw X N' sc cl s.heap.objs.size (D::fp) pins s H) ([]++Qg [D] s3.heap) H3 b:=fun b hb=>by
   obtain ⟨a1,a2,a3,a4,a5,a6⟩:=statF fr3 b hb
   refine ⟨a1,a2,a3,a4,a5,fun p hp=>?_⟩
   rcases Vy.mp hp with z|z
   ·exact a6 p (V0 _ z)
   ·have z':p∈Qg [D] s3.heap:=by simpa using z
    have:=(Z9 z').1
    have e:p.1=D:=by simpa using this
    rw [e]
    intro z2
    subst z2
    exact hDf hb
  refine thn (T.done (qw X N' sc cl s.heap.objs.size (D::fp) pins s H) rfl rfl rfl O.calm i _ s3 σ3 H3 _ J3 fpo st3 stop) fun r s4 ⟨hr,I4⟩=>?_
  subst hr
  obtain ⟨n,e⟩:=pl3
  have e4:=(I4.pin (D,_) (KC _ (KC _ (zY (by simp) e)))).1
  exact fin s4 H3 σ3 ys its I4.unpinned (fr3 D K0) ⟨n,e4⟩ rv3 hz3 qn
 ·have J3:=I3.pinned (fp:=[D]) (fun b hb=>by
   have e:b=D:=by simpa using hb
   subst e
   exact stat fr3 b K0) (fun b hb=>by
   have e:b=D:=by simpa using hb
   subst e
   obtain ⟨n,e⟩:=pl3
   exact ⟨_,e,fun v z=>by cases z⟩)
  have fpo:∀ {H':Hp},(∀ b∈fp,H' b=none)->∀ b∈fp,FpOk (qw X N' sc cl s.heap.objs.size (D::fp) pins s H) ([]++Qg [D] s3.heap) H' b:=fun {H'} hn b hb=>by
   obtain ⟨_,a2,a3,a4,a5,a6⟩:=statF fr3 b hb
   refine ⟨hn b hb,a2,a3,a4,a5,fun p hp=>?_⟩
   rcases Vy.mp hp with z|z
   ·exact a6 p (V0 _ z)
   ·have z':p∈Qg [D] s3.heap:=by simpa using z
    have:=(Z9 z').1
    have e:p.1=D:=by simpa using this
    rw [e]
    intro z2
    subst z2
    exact hDf hb
  refine thn (T.item (qw X N' sc cl s.heap.objs.size (D::fp) pins s H) rfl rfl rfl O.calm i _ s3 σ3 H3 _ J3 (fpo fun b hb=>fr3 b (KY _ hb)) st3 go) fun r s4 ⟨u,hr,h4⟩=>?_
  subst hr
  refine thn h4 fun _ s5 ⟨y,H5,I5,r5,y5,st5,fr5⟩=>?_
  have I5':=I5.pinned (fpo fr5) (T.obj _ _ st5)
  have step':=step y H5 y5
  obtain ⟨n3,e3⟩:=pl3
  have dpin:∀ {σ7:St} {H7:Hp} {s7:Ke},Inv (qw X N' sc cl s.heap.objs.size (D::fp) pins s H) ([]++Qg [D] s3.heap++Qg fp s5.heap) σ7 H7 s7->s7.heap.get? D=some { cls:=.type "list", data:=.seq its.toArray n3 }/\H7 D=none:=fun {σ7 H7 s7} I7=>by
   have q:=I7.pin (D,_) (KC _ (V0 _ (KC _ (zY (by simp) e3))))
   exact ⟨q.1,q.2.1⟩
  have tkeep:∀ {σ7:St} {H7:Hp} {s7:Ke},Inv (qw X N' sc cl s.heap.objs.size (D::fp) pins s H) ([]++Qg [D] s3.heap++Qg fp s5.heap) σ7 H7 s7->tn (i+1) s7.heap/\∀ b∈D::fp,H7 b=none:=fun {σ7 H7 s7} I7=>by
   refine ⟨T.keep _ _ _ st5 fun b hb o e=>(I7.pin (b,o) (KC _ (KC _ (zY hb e)))).1,fun b hb=>?_⟩
   rcases Ks.mp hb with rfl|hb
   ·exact (dpin I7).2
   ·obtain ⟨o,e,d⟩:=T.obj _ _ st5 b hb
    exact (I7.pin (b,o) (KC _ (KC _ (zY hb e)))).2.1
  refine thF (pg _ s5 σ3 H5 y u _ I5' r5 step') fun _ s6 ⟨σ6,H6,I6,step6⟩=>?_
  refine thF (hq _ s6 _ H6 _ I6 step6) fun b s7 ⟨H7,I7,q7⟩=>?_
  cases b with
  | false =>
   simp only [Ug,if_false] at q7 ⊢
   obtain ⟨m',hm,w8⟩:=q7
   obtain ⟨t8,f8⟩:=tkeep I7
   exact ⟨m',hm,i+1,ys,its,_,H7,I7.unpinned.unpinned,t8,f8,⟨n3,(dpin I7).1⟩,rv3,hz3,w8⟩
  | true =>
   simp only [if_true] at q7 ⊢
   refine thF (he _ s7 _ H7 _ I7 q7) fun v s8 ⟨vv,H8,I8,r8,hz,m',hm,w8⟩=>?_
   have hlen:=rv3.length
   refine wpAny_list_append_plain ⟨n3,(dpin I8).1⟩ (fun h9 pl9 sb9=>?_) (by rw [Km];omega)
   obtain ⟨t8,f8⟩:=tkeep I8
   have st8:=stat f8 D K0
   have I9:Inv (qw X N' sc cl s.heap.objs.size (D::fp) pins s H) [] σ6 H8 { s8 with heap:=h9 } :=
    I8.unpinned.unpinned.turned (t':=s8.toks) (fun b o hb e=>(sb9.2 b hb).trans e) st8.1 st8.2.1 st8.2.2.2.1 st8.2.2.2.2.1 st8.2.2.2.2.2
   refine ⟨m',hm,i+1,ys++[vv],its++[v],_,H8,I9,T.keep _ _ _ t8 fun b hb o e=>(sb9.2 b (fun z=>hDf (z ▸ hb))).trans e,f8,by simpa using pl9,rv3.append (.cons r8 .nil),?_,w8⟩
   rw [Kv,KQ]
   omega
theorem jC {E:aq}{pins:ag}{σ:St}{H:Hp}{s:Ke}{cl:aG}{fp:az}{it:Kd}{tn:Nat->KI->Prop}{J:It}{RR:Kc->Kd->Result->Ke->Prop}{Qd:V->Hp->Prop}(O:CompOk X N' k sc)
  (I:Inv X pins σ H s) (hcl1:∀ y c,cl.lookup y=some c->X.env.cells.lookup y=some c) (hcl2:∀ y,(y,KJ)∈sc.names->∃ c,cl.lookup y=some c) (hf:∀ b∈fp,FpOk X pins H b)
  (T:Turn X.prog X.w X.K tg J fp it tn) (st:tn 0 s.heap)
  (hg:∀ cl C fp pins s H,PG (qw X N' sc cl C fp pins s H) tg wg) (hq:∀ cl C fp pins s H,PTs (qw X N' sc cl C fp pins s H) ifs tt) (he:∀ cl C fp pins s H,PE (qw X N' sc cl C fp pins s H) elt te)
  (turn:qby k J wg tt te σ H Qd)
  (fin:∀ D C s1 H1 m,Inv X pins σ H1 s1->s1.heap.Ns C m->H1 C=none->C≠X.env.locals->(X.s₀.heap.objs.size<=C)->(∀ z c,X.env.cells.lookup z=some c->c≠C)->(∀ p∈X.pn++pins,p.1≠C)->Qd (.ref D) H1->RR (.ref D) C (.ok .next) s1) :
  wpAny (model X.prog X.w) X.A (newList []) (fun acc s₃=>wpAny (model X.prog X.w) X.A (newFunctionEnv sc X.env.globals cl [] X.env.qual none .none (some X.env)) (fun cenv s₄ =>
   codeAny (model X.prog X.w) X.A (.compStart (.ListComp elt [⟨tg,iter,ifs,0⟩] sc pos) 0 (.ref it) acc { cenv with scope:=relabel sc X.env }) (RR acc cenv.locals) s₄) E s₃) E s:=by
 refine Uk (qcg ?_)
 dsimp only
 have hD:=I.hok.fresh (Ko s.heap.objs.size)
 have I3:Inv X pins σ H { s with heap:=s.heap.push { cls:=.type "list", dict:=none,data:=.seq ([]:List Kc).toArray } } :=
  I.kept (t':=s.toks) (fun b u e=>Kp _ e)
 have fpl:∀ b∈fp,b<s.heap.objs.size:=fun b hb=>by
  obtain ⟨o,e,_⟩:=T.obj _ _ st b hb
  exact Kw e
 have fD:FpOk X pins H s.heap.objs.size:=I.fpOk (Ko _) hD
 have hf3:∀ b∈s.heap.objs.size::fp,FpOk X pins H b:=fun b hb=>by
  rcases Ks.mp hb with rfl|hb
  ·exact fD
  ·exact hf b hb
 have eD:(s.heap.push { cls:=.type "list", dict:=none,data:=.seq ([]:List Kc).toArray }).get? s.heap.objs.size=some { cls:=.type "list", dict:=none,data:=.seq ([]:List Kc).toArray }:=K5 _ rfl
 generalize hH2:s.heap.push { cls:=.type "list", dict:=none,data:=.seq ([]:List Kc).toArray }=H2 at I3 eD ⊢
 have hC:H2.objs.size=s.heap.objs.size+1:=by rw [← hH2,U2]
 have sz2:(H2.push { cls:=.type "dict", data:=.dict #[] }).objs.size=H2.objs.size+1:=U2 ..
 obtain ⟨a1,a2,a3,a4,a5⟩:=cf_ok H2.objs.size sc.names (H2.push { cls:=.type "dict", data:=.dict #[] }) cl (by omega) (fun y c e q=>by
  obtain ⟨v,z⟩:=I3.cell y c (hcl1 y c e)
  exact Ku z.lt (by rw [sz2];exact UE _)) (fun y z c q e1 e2=>I3.ok.inj y z c (hcl1 _ _ e1) (hcl1 _ _ e2))
 rw [sz2] at a1 a2 a3 a4 a5
 generalize hcl':cellsFrom (H2.objs.size+1) sc.names cl=cl' at a1 a2 a3 a4 a5 ⊢
 have old3:∀ b o,H2.get? b=some o->(pushCells (H2.push { cls:=.type "dict", data:=.dict #[] }) sc.names).get? b=some o:=fun b o e=>XJ _ _ _ _ (Kp _ e)
 have hns₁:(pushCells (H2.push { cls:=.type "dict", data:=.dict #[] }) sc.names).Ns H2.objs.size (fun _=>none):=(Heap.Ns.new H2 (.type "dict")).keeps (XJ _ _)
 have cK:ClOk X sc cl' H2.objs.size (pushCells (H2.push { cls:=.type "dict", data:=.dict #[] }) sc.names):=by
  have fr:∀ y,sc.names.lookup y=some .free->∃ c,cl'.lookup y=some c/\X.env.cells.lookup y=some c:=fun y e=>by
   obtain ⟨c,q⟩:=hcl2 y (Vv e)
   refine ⟨c,?_,hcl1 y c q⟩
   rw [a4 y fun z=>by have:=O.cells _ z rfl;rw [e] at this;cases this]
   exact q
  have ol:∀ y c,cl'.lookup y=some c->X.env.cells.lookup y=some c\/(H2.objs.size<c/\∃ v,(pushCells (H2.push { cls:=.type "dict", data:=.dict #[] }) sc.names).IsCell c v):=fun y c e=>by
   rcases a1 y c e with z|⟨z1,z2⟩
   ·exact .inl (hcl1 y c z)
   ·exact .inr ⟨by omega,none,z2⟩
  refine ⟨ol,fr,fun y e=>?_,fun y z c e1 e2=>?_⟩
  ·obtain ⟨c,q1,q2⟩:=a3 y (Vv e)
   exact ⟨c,q1,by omega⟩
  ·by_cases hc:H2.objs.size<=c
   ·exact a5 y z c hc e1 e2
   ·rcases ol y c e1 with q|q
    ·rcases ol z c e2 with r|r
     ·exact I3.ok.inj y z c q r
     ·omega
    ·omega
 generalize pushCells (H2.push { cls:=.type "dict", data:=.dict #[] }) sc.names=h₁ at *
 have old2:∀ b o,s.heap.get? b=some o->H2.get? b=some o:=fun b o e=>hH2 ▸ Kp _ e
 obtain ⟨W,⟨m0,w0⟩,tr⟩:=turn
 have st1:tn 0 h₁:=T.keep _ _ _ st fun b _ o e=>old3 b o (old2 b o e)
 have loop:codeAny (model X.prog X.w) X.A (.compLoop (.ListComp elt [⟨tg,iter,ifs,0⟩] sc pos) 0 (.ref it) (.ref s.heap.objs.size) (compEnvC sc cl' H2.objs.size X.env)) (RR (.ref s.heap.objs.size) H2.objs.size)
   { s with heap:=h₁ }:=by
  refine WD (s:={ s with heap:=H2 }) (s':={ s with heap:=h₁ }) (Qd:=fun ys H'=>∀ D,H' D=none->Qd (.ref D) (upd H' D (.lst ys))) O I3 cK hf3 (fun b hb=>?_) rfl rfl old3 hns₁ T (fun z=>VA _ (fpl _ z)) st1 ⟨0,old3 _ _ eD⟩ (hg _ _ _ _ _ _) (hq _ _ _ _ _ _) (he _ _ _ _ _ _) W m0 w0 tr ?_
  ·show b<H2.objs.size
   rw [hC]
   rcases Ks.mp hb with hb|hb
   ·rw [hb];exact Xt _
   ·exact Ul (fpl b hb)
  intro s1 H1 σ1 ys its J1 hD1 pl1 rv1 hz1 q1
  obtain ⟨m,hn1,_⟩:=J1.loc
  obtain ⟨n1,e1⟩:=pl1
  have I4:=(comp_back I3 hf3 J1).track (D:=s.heap.objs.size) (o:=.lst ys) hD1 fD.2.1 fD.2.2.2.1 fD.2.2.2.2.1 fD.2.2.2.2.2 ⟨hz1,its,n1,rv1,e1⟩
  refine fin _ _ s1 _ m I4 hn1 (by rw [qp (by show H2.objs.size≠s.heap.objs.size;omega)];exact J1.free) (Xm I3.lt) I3.sz (fun z c e h=>?_) (fun p hp h=>?_) (q1 _ hD1)
  ·obtain ⟨v,q⟩:=I3.cell z c e
   have:=q.lt
   rw [h] at this
   exact VA _ this
  ·have:=Kw (I3.pin p hp).1
   rw [h] at this
   exact VA _ this
 exact codeAny_compStart_list loop (T.self _ 0 _ _ _ st1 loop)
theorem qcx (O:CompOk X N' k sc)(hi:PI X tg iter wi)(hg:∀ cl C fp pins s H,PG (qw X N' sc cl C fp pins s H) tg wg)(hq:∀ cl C fp pins s H,PTs (qw X N' sc cl C fp pins s H) ifs tt)(he:∀ cl C fp pins s H,PE (qw X N' sc cl C fp pins s H) elt te)
  (hs:∀ v,foldedSetIterable iter X.env v=pure v:=by intro _;rfl):PE X (.ListComp elt [⟨tg,iter,ifs,0⟩] sc pos) (JP k wi wg tt te):=by
 intro pins s σ H Q I h
 rw [eval_ListComp]
 obtain ⟨cl,hcl,hcl1,hcl2⟩:=jz (sc:=sc) (env:=X.env) (fun y hy hf=>I.ok.has y.1 (O.free y hy hf))
 refine wpAny_comprehension_free (use:=none) rfl hs hcl O.kind O.names ?_
 refine thn (hi pins s σ H _ I h) fun v s1 h1=>thn h1 fun itv s2 h2=>?_
 obtain ⟨it,fp,tn,J,H2,e,I2,T,st2,f2,q⟩:=h2
 subst e
 refine jC (RR:=fun acc C=>compPost (model X.prog X.w) X.A X.xe none (EP X pins σ Q) acc C) (Qd:=Q) O I2 hcl1 hcl2 f2 T st2 hg hq he q ?_
 intro D C s3 H3 m I3 hn3 hC3 hL hsz hcl3 hp3 q3
 exact ⟨m,hn3,fun h' sb=>⟨.ref D,H3,I3.turned (t':=s3.toks) (fun b o hb e=>(sb.2 b hb).trans e) hC3 hL (.inr hsz) hcl3 hp3,rfl,q3⟩⟩
theorem Wm {j:Nat}{y:Str}{py spos:Pos}(O:CompOk X N' k sc)(hj:X.N[j]?=some y)(hy:X.env.scope.names.lookup y=some .local)(hi:PI X tg iter wi)(hg:∀ cl C fp pins s H,PG (qw X N' sc cl C fp pins s H) tg wg)(hq:∀ cl C fp pins s H,PTs (qw X N' sc cl C fp pins s H) ifs tt)(he:∀ cl C fp pins s H,PE (qw X N' sc cl C fp pins s H) elt te)
  (hsw:swapsWith (.ListComp elt [⟨tg,iter,ifs,0⟩] sc pos) (some (.Name y py)) spos.line X.env=pure true:=by rfl)
  (hs:∀ v,foldedSetIterable iter X.env v=pure v:=by intro _;rfl):PS X (.Assign [.Name y py] (.ListComp elt [⟨tg,iter,ifs,0⟩] sc pos) spos) (tAsg (JP k wi wg tt te) (Wb j)):=by
 intro pins s σ H D I h
 rw [exec_Assign_Name_used _ _ _ _ hsw]
 refine Ki (wpAny_standAt (Ki ?_))
 show wpAny _ X.A (do let _ ← comprehension (.ListComp elt [⟨tg,iter,ifs,0⟩] sc pos) sc X.env _ (newList []) false (eval iter X.env) (some (assign (.Name y py) X.env))) _ _ s
 obtain ⟨cl,hcl,hcl1,hcl2⟩:=jz (sc:=sc) (env:=X.env) (fun y hy hf=>I.ok.has y.1 (O.free y hy hf))
 refine Ki (VF (wpAny_comprehension_free (use:=some (assign (.Name y py) X.env)) (Q:=fun _ s'=>SP X pins D .next s') rfl hs hcl O.kind O.names ?_) (fun _ s' hq=>Kx (Kx hq)) fun _ _ e=>e)
 refine thn (hi pins s σ H _ I h) fun v s1 h1=>thn h1 fun itv s2 h2=>?_
 obtain ⟨it,fp,tn,J,H2,e,I2,T,st2,f2,q⟩:=h2
 subst e
 refine jC (RR:=fun acc C=>compPost (model X.prog X.w) X.A X.xe (some (assign (.Name y py) X.env)) (fun _ s'=>SP X pins D .next s') acc C) (Qd:=fun x H1=>Wb j x σ H1 D.nx) O I2 hcl1 hcl2 f2 T st2 hg hq he q ?_
 intro B C s3 H3 m I3 hn3 hC3 hL hsz hcl3 hp3 q3
 refine wpAny_assign_Name (JN I3 O.nd hj (.inl hy) (v:=.ref B) rfl (fun s4 I4 ⟨a,sb,ha⟩=>?_) (.inr hy))
 have hCa:C≠a:=by
  rcases ha with ha|ha
  ·rw [ha];exact hL
  ·exact KN (hcl3 _ _ ha)
 refine ⟨m,hn3.sameBut sb hCa,fun h' sb'=>⟨_,H3,I4.turned (t':=s4.toks) (fun b o hb e=>(sb'.2 b hb).trans e) hC3 hL (.inr hsz) hcl3 hp3,q3⟩⟩
end
noncomputable abbrev K2:=List (Int ⊕ List Int)
noncomputable def k2D (k:Int ⊕ List Int):Ka:=match k with
 | .inl i=>.int i
 | .inr js=>.tuple (js.map .int)
def k2T (ks:K2):Ka:=.tuple (ks.map k2D)
noncomputable def k2H (k:Int ⊕ List Int):Int:=match k with
 | .inl i=>hashInt i
 | .inr js=>reduceHash (Xi (js.map hashInt))
def qdu (ks:K2):Int:=reduceHash (Xi (ks.map k2H))
abbrev KX:=Int ⊕ K2
def kxD (k:KX):Ka:=match k with
 | .inl i=>.int i
 | .inr ks=>k2T ks
def kxV (k:KX)(b:Kd):V:=match k with
 | .inl i=>.int i
 | .inr _=>.ref b
noncomputable def isIntD:Ka->Bool
 | .int _=>true
 | _=>false
abbrev PkT (p:KX×Addr×V)(q:K2×Addr×Value):Prop:=p.1=.inr q.1/\p.2.1=q.2.1/\RelV p.2.2 q.2.2
abbrev PkI (p:KX×Addr×V)(q:Int×Value):Prop:=p.1=.inl q.1/\RelV p.2.2 q.2
abbrev EnI (e:XC)(q:Int×Value):Prop:=e.hash=hashInt q.1/\(∃ t,e.key=.int q.1 t)/\e.val=q.2
def DctT (a:Kd)(kvs:List (KX×Addr×V))(ep:Nat)(h:KI):Prop :=
 ∃ xs:List (K2×Addr×Value),UC PkT kvs xs/\∃ o es,h.get? a=some o/\o.ExactDict/\o.data=.dict es ep/\es.toList=xs.map (fun x=>(⟨qdu x.1,.ref x.2.1,x.2.2⟩:XC))/\(xs.map (·.1)).Nodup
def DctI (a:Kd)(kvs:List (KX×Addr×V))(ep:Nat)(h:KI):Prop :=
 ∃ vs:List (Int×Value),UC PkI kvs vs/\∃ o es,h.get? a=some o/\o.ExactDict/\o.data=.dict es ep/\UC EnI es.toList vs/\(vs.map (·.1)).Nodup
def Ji (a:Kd)(kvs:List (KX×Addr×V))(ep:Nat)(h:KI):Prop :=
 kvs.length<=sizeLine/\(a==sysModules)=false/\(DctT a kvs ep h\/DctI a kvs ep h)
def DctO (a:Kd)(kvs:List (KX×Addr×V))(ep:Nat):HO:=.ext (Ji a kvs ep)
theorem Ji.of {P:KD}{w:KM}{H:Hp}{h:KI}{a:Kd}{kvs:List (KX×Addr×V)}{ep:Nat}(x:zy P w H h a (DctO a kvs ep)):Ji a kvs ep h:=x.1
def dkv (kvs:List (KX×Addr×V))(ds:aj):List (Ka×PyData):=(kvs.map fun p=>kxD p.1).zip ds
theorem qbh {kvs:List (KX×Addr×V)}{xs:List (K2×Addr×Value)}(r:UC PkT kvs xs):Vals (kvs.map fun p=>kxV p.1 p.2.1) (xs.map fun x=>Vh x.2.1)/\Vals (kvs.map (·.2.2)) (xs.map (·.2.2)):=by
 induction r with
 | nil=>exact ⟨.nil,.nil⟩
 | cons h t ih=>exact ⟨.cons (by dsimp only;rw [h.1,h.2.1];rfl) ih.1,.cons h.2.2 ih.2⟩
theorem Yn:∀ {kvs:List (KX×Addr×V)} {vs:List (Int×Value)} {es:List XC},UC PkI kvs vs->UC EnI es vs->Vals (kvs.map fun p=>kxV p.1 p.2.1) (es.map (·.key))/\Vals (kvs.map (·.2.2)) (es.map (·.val))
 | _,_,_,.nil,.nil=>⟨.nil,.nil⟩
 | _,_,_,.cons h t,.cons g u=>by
  obtain ⟨i1,i2⟩:=Yn t u
  obtain ⟨_,⟨tk,g1⟩,g2⟩:=g
  exact ⟨.cons (by dsimp only;rw [h.1,g1];exact ⟨tk,rfl⟩) i1,.cons (by dsimp only;rw [g2];exact h.2) i2⟩
theorem Ji.vals {h:KI}{a:Kd}{kvs:List (KX×Addr×V)}{ep:Nat}(d:Ji a kvs ep h):∃ o es,h.get? a=some o/\o.ExactDict/\o.data=.dict es ep/\Vals (kvs.map fun p=>kxV p.1 p.2.1) (es.toList.map (·.key))/\Vals (kvs.map (·.2.2)) (es.toList.map (·.val)):=by
 obtain ⟨_,_,⟨xs,r,o,es,g1,g2,g3,g4,_⟩|⟨vs,r,o,es,g1,g2,g3,g4,_⟩⟩:=d
 ·refine ⟨o,es,g1,g2,g3,?_⟩
  rw [g4,Vl,Vl]
  exact qbh r
 ·exact ⟨o,es,g1,g2,g3,Yn r g4⟩
noncomputable def ZL:List String:=["int", "bool", "tuple", "list", "str"]
def xcB (K:Kb)(C:Kd):Bool :=
 (PySem.W.clsIn K C).isSome&&(Vs K (.ref C) "__getattribute__" == some (some (.builtin "BaseException.__getattribute__")))&&(Vs K (.ref C) "__getattr__" == some none)
 && (Vs K (.ref C) "__class__" == some (some (.builtin "object.__class__")))&&(Ua K C (.type "object")==some true)&&(Ua K C (.type "BaseException")==some true)
 && ZL.all fun T=>Vt K (.ref C) (.type T)==some false
structure XcK (K:Kb)(C:Kd):Prop where
 cls:(PySem.W.clsIn K C).isSome=true
 ga:Vs K (.ref C) "__getattribute__" = some (some (.builtin "BaseException.__getattribute__"))
 gt:Vs K (.ref C) "__getattr__" = some none
 cl:Vs K (.ref C) "__class__" = some (some (.builtin "object.__class__"))
 mo:Ua K C (.type "object")=some true
 mb:Ua K C (.type "BaseException")=some true
 ts:∀ T∈ZL,Vt K (.ref C) (.type T)=some false
theorem qbE {K:Kb}{C:Kd}(h:xcB K C=true):XcK K C:=by
 unfold xcB at h
 simp only [Kt,beq_iff_eq,Vc] at h
 obtain ⟨⟨⟨⟨⟨⟨h1,h2⟩,h3⟩,h4⟩,h5⟩,h6⟩,h7⟩:=h
 exact ⟨h1,h2,h3,h4,h5,h6,h7⟩
section
variable {prog:KD}{w:KM}{A:KU}{E:aq}{s:Ke}{K:Kb}{x C:Kd}
def OfC (h:KI)(x C:Kd):Prop:=∃ o,h.get? x=some o/\o.cls=.ref C
theorem OfC.ty {h:KI}{M:Model}(I:OfC h x C):PySem.W.Looks M h (typeOf (.ref x)) (.ref C):=by
 obtain ⟨o,h1,h2⟩:=I
 exact h2 ▸ (PySem.W.Looks.ld h1).andThen .now
open PySem.W in
theorem J8 {M:Model}{nameV:Kc}{Q:Unit->Ke->Prop}(Z:XcK K C)(X:K.In s.heap)(I:OfC s.heap x C)(hq:Q () s) :
  wpAny M A (checkBuiltinCall "BaseException.__getattribute__" ⟨[.ref x,nameV],[]⟩) Q E s:=by
 obtain ⟨hh,g,d,t,os⟩:=s
 have hk:builtinKind "BaseException.__getattribute__" = some .slot:=by decide +kernel
 have hs:splitId "BaseException.__getattribute__" = some ("BaseException", "__getattribute__"):=by decide +kernel
 have L0:=I.ty (M:=M)
 have L1:=looks_mroIn (M:=M) X Z.mb
 have ha:=F.args_bexc_ga (.ref x) nameV
 simp only [checkBuiltinCall,hk,hs]
 refine Ki ?_
 unfold isInstance
 repeat (first|with_reducible refine Looks.at (by assumption) ?_|wp_step)
 exact hq
open PySem.W in
theorem Jd {R:Result->Ke->Prop}(Z:XcK K C)(X:K.In s.heap)(I:OfC s.heap x C)(hq:R (.ok (.ret (.ref C))) s) :
  codeAny (model prog w) A (.call (.builtin "getset_descriptor.__get__") ⟨[.builtin "object.__class__", .ref x,.ref C],[]⟩) R s:=by
 obtain ⟨hh,g,d,t,os⟩:=s
 have hT5:(⟨hh,g,d,t,os⟩:Ke).TypeIs (.builtin "object.__class__") "getset_descriptor" := UR
 have L0:=I.ty (M:=model prog w)
 have L1:Looks (model prog w) hh (isSubtype (.ref C) (.type (".".intercalate ("object.__class__".cutAt '.').dropLast))) true:=by
  rw [F.owner_object_class]
  exact looks_mroIn (M:=model prog w) X Z.mo
 refine codeAny_call_builtin X4.plain F.entry_gs_get (X4.check _ _ _ _ _ _ _ _ hT5 (F.args_gs_get _ _ _) ?_)
 repeat (any_goals (first|assumption|with_reducible refine Looks.at (by assumption) ?_|wp_step))
 refine ⟨Code.quiet_builtin _ (by decide +kernel),XM F.entry_object_class ?_⟩
 repeat (any_goals (first|assumption|with_reducible refine Looks.at (by assumption) ?_|wp_step))
open PySem.W in
theorem jl {tk:Tok}{Q:Fin->Ke->Prop}(Z:XcK K C)(X:K.In s.heap)(I:OfC s.heap x C)(hq:Q (.done (.ret (.ref C))) s) :
  wpAny (model prog w) A (UO.«object.__getattribute__» ⟨[.ref x,.str "__class__" tk],[]⟩) Q E s:=by
 obtain ⟨hh,g,d,t,os⟩:=s
 have hT5:(⟨hh,g,d,t,os⟩:Ke).TypeIs (.builtin "object.__class__") "getset_descriptor" := UR
 have L0:=I.ty (M:=model prog w)
 have L1:=looks_findIn (M:=model prog w) X Z.cl
 have f5:=UR;have f6:=X4.lookup;have f7:=F.slot_gs_set.lookup
 repeat (any_goals (first|assumption|with_reducible refine Looks.at (by assumption) ?_|wp_step))
 refine Jd Z X I ?_
 repeat (any_goals (first|assumption|wp_step))
open PySem.W in
theorem J7 {tk:Tok}{Q:aq}(Z:XcK K C)(X:K.In s.heap)(I:OfC s.heap x C)(hq:Q (.ref C) s) :
  wpAny (model prog w) A (getAttrBy (.ref x) (.str "__class__" tk) false) Q E s:=by
 obtain ⟨hh,g,d,t,os⟩:=s
 have L0:=I.ty (M:=model prog w)
 have L1:=looks_findIn (M:=model prog w) X Z.ga
 have L2:=looks_findIn (M:=model prog w) X Z.gt
 have f3:=F.excAttr_ValueError.ga.bind (.ref x)
 have hx2:(Ur "BaseException.__getattribute__" == Ur "object.__getattribute__")=false:=by decide +kernel
 have hx1:(onTheHeap (Vh C)&&Ur "BaseException.__getattribute__" == Ur "object.__getattribute__")=false:=by rw [hx2];exact Bool.and_false _
 repeat (any_goals (first|assumption|with_reducible refine Looks.at (by assumption) ?_|wp_step))
 refine codeAny_call_builtin F.excAttr_ValueError.ga.plain F.entry_bexc_ga (J8 Z X I (jl Z X I ?_))
 repeat (any_goals (first|assumption|wp_step))
open PySem.W in
theorem WM {Q:Option Kc->Ke->Prop}(Z:XcK K C)(X:K.In s.heap)(I:OfC s.heap x C)(hq:Q (some (.ref C)) { s with toks:=s.toks+1 }) :
  wpAny (model prog w) A (getAttr? (.ref x) "__class__") Q E s:=by
 obtain ⟨hh,g,d,t,os⟩:=s
 unfold getAttr? getAttrBy?
 refine Ki (wpAny_mkText (Ki (wpAny_attempt (J7 (s:=⟨hh,g,d,t+1,os⟩) Z X I ?_))))
 exact Kx hq
end
open PySem.W in
theorem qaN {K:Kb}{a C:Kd}(Z:XcK K C):KitX K (.ref a) (.ref C) (fun h=>OfC h a C) where
 ty:=fun _ _ _ I=>I.ty
 it:=fun _ _ X _=>by
  have z:=Z.cls
  unfold clsIn at z
  split at z
  ·rename_i c' d' cd' sl' ho
   intro A' Q' E' s' k q;unfold isType loadHead
   exact Ki (wpAny_loadPart (k _ _ (X _ _ ho)) (Kx q))
  ·cases z
 ne:=fun h tp dd its n sl X htp=>by
  have z:=Z.cls
  refine Xh.mpr fun q=>?_
  have e:C=tp:=Value.ref.inj (beq_iff_eq.mp q)
  subst e;unfold clsIn at z
  split at z
  ·rename_i c' d' cd' sl' ho
   have y:=(X _ _ ho).symm.trans htp
   cases y
  ·cases z
 ca:=fun X I k=>WM Z X I k
def icB (K:Kb)(C:Kd):Bool :=
 Xn K C Str.empty&&Na K C&&Nb K C&&(Vs K (.ref C) "__setattr__" == some (some (.builtin "object.__setattr__")))
 && (Vs K (.ref C) "__class__" == some (some (.builtin "object.__class__")))&&(Xd K (.builtin "object.__class__") "__get__" == some (some (.builtin "getset_descriptor.__get__")))
 && (XG K (.builtin "object.__class__")==some true)&&(Ua K C (.type "object")==some true)&&ZL.all fun T=>Vt K (.ref C) (.type T)==some false
structure IcK (K:Kb)(C:Kd):Prop where
 cl:Cls K C
 ha:Vs K (.ref C) "__class__" = some (some (.builtin "object.__class__"))
 hn:Xd K (.builtin "object.__class__") "__get__" = some (some (.builtin "getset_descriptor.__get__"))
 tk:XG K (.builtin "object.__class__")=some true
 mo:Ua K C (.type "object")=some true
 ts:∀ T∈ZL,Vt K (.ref C) (.type T)=some false
theorem qaJ {K:Kb}{C:Kd}(h:icB K C=true):IcK K C:=by
 unfold icB at h
 simp only [Kt,beq_iff_eq,Vc] at h
 obtain ⟨⟨⟨⟨⟨⟨⟨⟨h1,h2⟩,h3⟩,h4⟩,h5⟩,h6⟩,h7⟩,h8⟩,h9⟩:=h
 exact ⟨⟨h1,h2,h3,h4⟩,h5,h6,h7,h8,h9⟩
theorem IcK.ty {K:Kb}{H:Hp}{a C dx:Kd}{fs:List (Str×V)}(Z:IcK K C)(e:H a=some (.ins C dx fs)):TyOf K H (.ref a) (.ref C):=.ins e Z.cl Z.ha Z.hn Z.tk Z.mo
abbrev Av:=Kd->Prop
noncomputable def Q7:HO->Bool
 | .lst _=>true
 | .dK _=>true
 | .dT _=>true
 | .ext _=>true
 | _=>false
def Dm (S:Av)(H:Hp):Prop:=∀ a,S a->∃ o,H a=some o/\Q7 o=true
def Off (S:Av)(H H':Hp):Prop:=∀ b o,¬ S b->H b=some o->H' b=some o
def KqL (K:Kb)(a:Kd)(xs:List V):Prop:=∃ (o:Obj) (its:aU) (n:Nat),K.lookup a=some o/\o.cls=.type "list"/\o.dict=none/\o.data=.seq its n/\its.size<=sizeLine/\Vals xs its.toList
def SqLS (K:Kb)(H:Hp)(S:Av)(a:Kd)(xs:List V):Prop:=(Rd H a (.lst xs)/\¬ S a)\/KqL K a xs
def ExcO (K:Kb)(o:Obj)(c:Str):Prop:=∃ C vs,o.cls=.ref C/\o.data=.fields vs/\Vm K mainGlobals c=some (some (.ref C))/\xcB K C=true
noncomputable def excD (c:Str)(d:Ka):Ka:=.dict [(.str c,d),(.int 0,.none)]
noncomputable def objD (c:Str):Ka:=.dict [(.str c,.none),(.int 1,.none)]
mutual
inductive Den (K:Kb)(H:Hp)(S:Av):V->Ka->Prop
 | none:Den K H S .non .none
 | bool (b:Bool):Den K H S (.bl b) (.bool b)
 | int (i:Int):Den K H S (.int i) (.int i)
 | str (x:Str):Den K H S (.str x) (.str x)
 | list {a:Kd} {xs:List V} {ds:aj}:SqLS K H S a xs->DenL K H S xs ds->Den K H S (.ref a) (.list ds)
 | tuple {a:Kd} {xs:List V} {ds:aj}:SqT K H a xs->DenL K H S xs ds->Den K H S (.ref a) (.tuple ds)
 | dict {a:Kd} {kvs:List (KX×Addr×V)} {ep:Nat} {ds:aj}:(H a=some (DctO a kvs ep)/\¬ S a)->DenL K H S (kvs.map fun p=>kxV p.1 p.2.1) (kvs.map fun p=>kxD p.1)->DenL K H S (kvs.map (·.2.2)) ds->Den K H S (.ref a) (.dict (dkv kvs ds))
 | exc0 {a:Kd} {o:Obj} {c:Str}:H a=some (.frz o (.own a))->ExcO K o c->Den K H S (.ref a) (excD c .none)
 | exc1 {a dx:Kd} {o:Obj} {c n:Str} {v:V} {d:Ka}:H a=some (.frz o (.own a))->ExcO K o c->o.dict=some dx->H dx=some (.xd [(n,v)])->Den K H S v d->Den K H S (.ref a) (excD c (.tuple [.str n,d]))
 | ins {a dx C:Kd} {c:Str}:H a=some (.ins C dx [])->(Vm K mainGlobals c=some (some (.ref C))/\icB K C=true)->Den K H S (.ref a) (objD c)
inductive DenL (K:Kb)(H:Hp)(S:Av):List V->List Ka->Prop
 | nil:DenL K H S [] []
 | cons {x:V} {d:Ka} {xs:List V} {ds:aj}:Den K H S x d->DenL K H S xs ds->DenL K H S (x::xs) (d::ds)
end
mutual
def flat:Ka->Bool
 | .none=>true
 | .bool _=>true
 | .int _=>true
 | .str _=>true
 | .list _=>false
 | .tuple ds=>Jt ds
 | .dict _=>false
def Jt:List Ka->Bool
 | []=>true
 | d::ds=>flat d&&Jt ds
end
section
variable {K:Kb}{H H':Hp}{S S':Av}
theorem SqLS.sq {a:Kd}{xs:List V}(h:SqLS K H S a xs):SqL K H a xs:=h.imp (·.1) id
theorem SqLS.new {a:Kd}{xs:List V}(h:H a=some (.lst xs))(n:¬ S a):SqLS K H S a xs:=.inl ⟨.inl h,n⟩
theorem Dm.free {p:Kd}(m:Dm S H)(h:H p=none):¬ S p:=fun q=>by
 obtain ⟨o,e,_⟩:=m p q
 rw [h] at e;cases e
theorem Dm.same (e:Same H H')(m:Dm S H):Dm S H':=fun a q=>by
 obtain ⟨o,h,w⟩:=m a q
 exact ⟨o,e a o h,w⟩
theorem Dm.sub (m:Dm S H)(h:∀ a,S' a->S a):Dm S' H:=fun a q=>m a (h a q)
theorem Dm.tup {a:Kd}{xs:List V}(m:Dm S H)(h:Rd H a (.tup xs)):¬ S a:=fun q=>by
 obtain ⟨o,e,w⟩:=m a q
 rcases h with h|⟨u,h⟩
 ·rw [h] at e;cases e;cases w
 ·rw [h] at e;cases e;cases w
theorem Dm.not {a:Kd}{u:HO}(m:Dm S H)(h:H a=some u)(n:Q7 u=false):¬ S a:=fun q=>by
 obtain ⟨o,e,w⟩:=m a q
 rw [h] at e;cases e;rw [n] at w;cases w
theorem Rd.off {a:Kd}{o:HO}(e:Off S H H')(n:¬ S a)(h:Rd H a o):Rd H' a o:=by
 rcases h with h|⟨u,h⟩
 ·exact .inl (e _ _ n h)
 ·exact .inr ⟨u,e _ _ n h⟩
theorem Rd.dom {a:Kd}{o:HO}(h:Rd H a o):H a≠none:=by
 rcases h with h|⟨u,h⟩<;>(rw [h];exact fun z=>nomatch z)
theorem Same.off (e:Same H H'):Off S H H':=fun b o _ h=>e b o h
theorem Same.sqT {a:Kd}{xs:List V}(e:Same H H')(h:SqT K H a xs):SqT K H' a xs:=by
 rcases h with (h|⟨o,h⟩)|h
 ·exact .inl (.inl (e _ _ h))
 ·exact .inl (.inr ⟨o,e _ _ h⟩)
 ·exact .inr h
theorem Same.lay {p:Kd}{o:HO}(hn:H p=none):Same H (L2.upd H p o):=fun b u q=>by rw [qp (zH q hn)];exact q
theorem Same.lay' {H0:Hp}{p:Kd}{o:HO}(e:Same H0 H)(hn:H p=none):Same H0 (L2.upd H p o):=e.trans (Same.lay hn)
theorem Den.off (m:Dm S H)(e:Off S H H'){v:V}{d:Ka}(h:Den K H S v d):Den K H' S v d :=
 Den.rec (motive_1:=fun v d _=>Den K H' S v d) (motive_2:=fun vs ds _=>DenL K H' S vs ds) .none .bool .int .str (fun h _ t=>.list (h.imp (fun q=>⟨q.1.off e q.2,q.2⟩) id) t) (fun h _ t=>.tuple (h.imp (fun q=>q.off e (m.tup q)) id) t)
  (fun h _ _ k t=>.dict ⟨e _ _ h.2 h.1,h.2⟩ k t) (fun h o=>.exc0 (e _ _ (m.not h rfl) h) o) (fun h o x y _ t=>.exc1 (e _ _ (m.not h rfl) h) o x (e _ _ (m.not y rfl) y) t) (fun h o=>.ins (e _ _ (m.not h rfl) h) o) .nil (fun _ _ h t=>.cons h t) h
theorem DenL.byE {K:Kb}{H:Hp}{S:Av}{P:List V->List Ka->Prop}(n:P [] [])(c:∀ {x:V} {d:Ka} {xs:List V} {ds:aj},Den K H S x d->DenL K H S xs ds->P xs ds->P (x::xs) (d::ds)){vs:List V}{ds:aj}(h:DenL K H S vs ds):P vs ds :=
 DenL.rec (motive_1:=fun _ _ _=>True) (motive_2:=fun vs ds _=>P vs ds) trivial (fun _=>trivial) (fun _=>trivial) (fun _=>trivial) (fun _ _ _=>trivial) (fun _ _ _=>trivial) (fun _ _ _ _ _=>trivial) (fun _ _=>trivial) (fun _ _ _ _ _ _=>trivial) (fun _ _=>trivial) n (fun h t _ p=>c h t p) h
theorem DenL.off (m:Dm S H)(e:Off S H H'){vs:List V}{ds:aj}(h:DenL K H S vs ds):DenL K H' S vs ds:=h.byE (P:=fun vs ds=>DenL K H' S vs ds) .nil fun h _ t=>.cons (h.off m e) t
theorem Den.same (e:Same H H'){v:V}{d:Ka}(h:Den K H S v d):Den K H' S v d :=
 Den.rec (motive_1:=fun v d _=>Den K H' S v d) (motive_2:=fun vs ds _=>DenL K H' S vs ds) .none .bool .int .str (fun h _ t=>.list (h.imp (fun q=>⟨q.1.off (S:=S) e.off q.2,q.2⟩) id) t) (fun h _ t=>.tuple (e.sqT h) t)
  (fun h _ _ k t=>.dict ⟨e _ _ h.1,h.2⟩ k t) (fun h o=>.exc0 (e _ _ h) o) (fun h o x y _ t=>.exc1 (e _ _ h) o x (e _ _ y) t) (fun h o=>.ins (e _ _ h) o) .nil (fun _ _ h t=>.cons h t) h
theorem DenL.same (e:Same H H'){vs:List V}{ds:aj}(h:DenL K H S vs ds):DenL K H' S vs ds:=h.byE (P:=fun vs ds=>DenL K H' S vs ds) .nil fun h _ t=>.cons (h.same e) t
theorem Den.sub (e:∀ a,H a≠Vr->S' a->S a){v:V}{d:Ka}(h:Den K H S v d):Den K H S' v d :=
 Den.rec (motive_1:=fun v d _=>Den K H S' v d) (motive_2:=fun vs ds _=>DenL K H S' vs ds) .none .bool .int .str (fun h _ t=>.list (h.imp (fun q=>⟨q.1,fun z=>q.2 (e _ q.1.dom z)⟩) id) t) (fun h _ t=>.tuple h t)
  (fun h _ _ k t=>.dict ⟨h.1,fun z=>h.2 (e _ (by rw [h.1];exact fun y=>nomatch y) z)⟩ k t) (fun h o=>.exc0 h o) (fun h o x y _ t=>.exc1 h o x y t) (fun h o=>.ins h o) .nil (fun _ _ h t=>.cons h t) h
theorem DenL.sub (e:∀ a,H a≠none->S' a->S a){vs:List V}{ds:aj}(h:DenL K H S vs ds):DenL K H S' vs ds:=h.byE (P:=fun vs ds=>DenL K H S' vs ds) .nil fun h _ t=>.cons (h.sub e) t
theorem Den.flat {v:V}{d:Ka}(f:L2.flat d=true)(h:Den K H S v d):Den K H S' v d :=
 Den.rec (motive_1:=fun v d _=>L2.flat d=true->Den K H S' v d) (motive_2:=fun vs ds _=>Jt ds=true->DenL K H S' vs ds) (fun _=>.none) (fun b _=>.bool b) (fun i _=>.int i) (fun x _=>.str x) (fun _ _ _ f=>nomatch f) (fun h _ t f=>.tuple h (t (by rw [L2.flat] at f;exact f)))
  (fun _ _ _ _ _ f=>nomatch f) (fun _ _ f=>nomatch f) (fun _ _ _ _ _ _ f=>nomatch f) (fun _ _ f=>nomatch f) (fun _=>.nil) (fun _ _ h t f=>by rw [Jt,Kt] at f;exact .cons (h f.1) (t f.2)) h f
theorem DenL.length {vs:List V}{ds:aj}(h:DenL K H S vs ds):vs.length=ds.length:=h.byE (P:=fun vs ds=>vs.length=ds.length) rfl fun _ _ t=>by rw [Kk,Kk,t]
theorem DenL.append {vs ws:List V}{ds es:aj}(h:DenL K H S vs ds)(q:DenL K H S ws es):DenL K H S (vs++ws) (ds++es):=h.byE (P:=fun vs ds=>DenL K H S (vs++ws) (ds++es)) q fun h _ t=>.cons h t
theorem DenL.snoc {vs:List V}{ds:aj}{v:V}{d:Ka}(h:DenL K H S vs ds)(q:Den K H S v d):DenL K H S (vs++[v]) (ds++[d]):=h.append (.cons q .nil)
theorem DenL.get:∀ {vs:List V} {ds:aj} {i:Nat} {d:Ka},DenL K H S vs ds->ds[i]?=some d->∃ v,vs[i]?=some v/\Den K H S v d
 | _,_,_,_,.nil,e=>by simp at e
 | _,_,0,_,.cons h _,e=>by simp at e;subst e;exact ⟨_,rfl,h⟩
 | _,_,i+1,d,.cons _ t,e=>by
  obtain ⟨v,h1,h2⟩:=DenL.get (i:=i) (d:=d) t (by simpa using e)
  exact ⟨v,by simpa using h1,h2⟩
theorem DenL.drop:∀ {vs:List V} {ds:aj} (n:Nat),DenL K H S vs ds->DenL K H S (vs.drop n) (ds.drop n)
 | _,_,0,h=>h
 | _,_,_+1,.nil=>.nil
 | _,_,n+1,.cons _ t=>t.drop n
theorem DenL.take:∀ {vs:List V} {ds:aj} (n:Nat),DenL K H S vs ds->DenL K H S (vs.take n) (ds.take n)
 | _,_,0,_=>.nil
 | _,_,_+1,.nil=>.nil
 | _,_,n+1,.cons h t=>.cons h (t.take n)
theorem DenL.ints:∀ ns:List Int,DenL K H S (ns.map V.int) (ns.map Kh)
 | []=>.nil
 | n::ns=>.cons (.int n) (DenL.ints ns)
theorem Den.int_inv {v:V}{i:Int}(h:Den K H S v (.int i)):v=.int i:=by cases h;rfl
theorem Den.bool_inv {v:V}{b:Bool}(h:Den K H S v (.bool b)):v=.bl b:=by cases h;rfl
theorem Den.list_inv {v:V}{ds:aj}(h:Den K H S v (.list ds)):∃ a xs,v=.ref a/\SqLS K H S a xs/\DenL K H S xs ds:=by
 cases h with
 | list h t=>exact ⟨_,_,rfl,h,t⟩
theorem Den.tuple_inv {v:V}{ds:aj}(h:Den K H S v (.tuple ds)):∃ a xs,v=.ref a/\SqT K H a xs/\DenL K H S xs ds:=by
 cases h with
 | tuple h t=>exact ⟨_,_,rfl,h,t⟩
theorem DenL.inv1 {vs:List V}{d:Ka}(h:DenL K H S vs [d]):∃ v,vs=[v]/\Den K H S v d:=by
 cases h with
 | cons a t=>cases t;exact ⟨_,rfl,a⟩
theorem DenL.inv2 {vs:List V}{d e:Ka}(h:DenL K H S vs [d,e]):∃ v w,vs=[v,w]/\Den K H S v d/\Den K H S w e:=by
 cases h with
 | cons a t=>obtain ⟨w,rfl,b⟩:=t.inv1;exact ⟨_,w,rfl,a,b⟩
end
section
variable {X:Cx}{pins:ag}{σ:St}{H:Hp}{s:Ke}{S:Av}
theorem DenL.readsE (I:Inv X pins σ H s){vs:List V}{ds:aj}(h:DenL X.K H S vs ds)(f:∀ {x:V} {d:Ka} {u:Kc},Den X.K H S x d->d.canLay0=true->RelV x u->∃ as,Reads s.heap u d as){us:aw}(c:Kn ds=true)(r:Vals vs us):∃ as,VV s.heap us ds as :=
 h.byE (P:=fun vs ds=>∀ us,Kn ds=true->Vals vs us->∃ as,VV s.heap us ds as) (fun _ _ r=>by cases r;exact ⟨_,.nil⟩) (fun h _ t _ c r=>by
  cases r with
  | cons r rr =>
   rw [Kn,Kt] at c
   obtain ⟨as,q⟩:=f h c.1 r
   obtain ⟨bs,q'⟩:=t _ c.2 rr
   exact ⟨_,.cons q q'⟩) us c r
theorem Den.reads (I:Inv X pins σ H s){v:V}{d:Ka}{u:Kc}(h:Den X.K H S v d)(c:d.canLay0=true)(r:RelV v u):∃ as,Reads s.heap u d as :=
 Den.rec (motive_1:=fun v d _=>∀ u,d.canLay0=true->RelV v u->∃ as,Reads s.heap u d as) (motive_2:=fun vs ds _=>∀ us,Kn ds=true->Vals vs us->∃ as,VV s.heap us ds as)
  (fun u _ r=>by cases (show u=VM from r);exact ⟨_,.none⟩) (fun b u _ r=>by cases (show u=Uc b from r);exact ⟨_,.bool b⟩) (fun i u _ r=>by obtain ⟨t,e⟩:=(show ∃ t,u=UN i t from r);cases e;exact ⟨_,.int i t⟩) (fun x u _ r=>by obtain ⟨t,e⟩:=(show ∃ t,u=UM x t from r);cases e;exact ⟨_,.str x t⟩)
  (@fun a xs ds h _ t u c0 r=>by
   cases (show u=Vh a from r)
   obtain ⟨its,rv,⟨o,n,e,c,_,d⟩,_⟩:=I.list h.sq
   obtain ⟨as,q⟩:=t its (by rw [KP] at c0;exact c0) rv
   exact ⟨_,.list e c d (by rw [List.toList_toArray];exact q)⟩)
  (@fun a xs ds h _ t u c0 r=>by
   cases (show u=Vh a from r)
   obtain ⟨its,rv,⟨o,e,c,n,d⟩,_⟩:=I.tuple h
   obtain ⟨as,q⟩:=t its (by rw [KP] at c0;exact c0) rv
   exact ⟨_,.tuple e c d (by rw [List.toList_toArray];exact q)⟩)
  (fun _ _ _ _ _ _ c0 _=>by rw [KP] at c0;cases c0) (fun _ _ _ c0 _=>by unfold excD at c0;rw [KP] at c0;cases c0) (fun _ _ _ _ _ _ _ c0 _=>by unfold excD at c0;rw [KP] at c0;cases c0) (fun _ _ _ c0 _=>by unfold objD at c0;rw [KP] at c0;cases c0)
  (fun _ _ r=>by cases r;exact ⟨_,.nil⟩) (fun _ _ h t _ c r=>by
   cases r with
   | cons r rr =>
    rw [Kn,Kt] at c
    obtain ⟨as,q⟩:=h _ c.1 r
    obtain ⟨bs,q'⟩:=t _ c.2 rr
    exact ⟨_,.cons q q'⟩) h u c r
theorem DenL.reads (I:Inv X pins σ H s){vs:List V}{ds:aj}{us:aw}(h:DenL X.K H S vs ds)(c:Kn ds=true)(r:Vals vs us):∃ as,VV s.heap us ds as:=h.readsE I (fun h c r=>h.reads I c r) c r
end
section
variable {X:Cx}{pins:ag}{σ:St}{H:Hp}{s:Ke}
def rEqD (K:Kb):R2:=fun x y H Q=>∃ S d e,Den K H S x d/\Den K H S y e/\Vz d=true/\Vz e=true/\Q (.bl (Uh d e)) H
def rNeD (K:Kb):R2:=fun x y H Q=>∃ S d e,Den K H S x d/\Den K H S y e/\Vz d=true/\Vz e=true/\Q (.bl (!PyData.eqv d e)) H
theorem qdJ {k:Nat}(hr:Room k X.A):OpR X (compareOp .Eq) (rEqD X.K):=by
 intro pins s σ H x y v u Q I rx ry h
 obtain ⟨S,d,e,h1,h2,s1,s2,q⟩:=h
 obtain ⟨as,q1⟩:=h1.reads I (Vg s1) rx
 obtain ⟨bs,q2⟩:=h2.reads I (Vg s2) ry
 exact eq_dataH q1 q2 s1 s2 hr.units (YH I q rfl)
theorem qdL {k:Nat}(hr:Room k X.A):OpR X (compareOp .NotEq) (rNeD X.K):=by
 intro pins s σ H x y v u Q I rx ry h
 obtain ⟨S,d,e,h1,h2,s1,s2,q⟩:=h
 obtain ⟨as,q1⟩:=h1.reads I (Vg s1) rx
 obtain ⟨bs,q2⟩:=h2.reads I (Vg s2) ry
 exact ne_dataH q1 q2 s1 s2 hr.units (YH I q rfl)
theorem qcn:OpR X (binaryOp .Mult) (rI U3 fun i j=>.int (i*j)):=opI fun _ _ _ _ _ _ _ hc q=>mul_int q hc
inductive TyD (K:Kb)(H:Hp):V->String->Prop
 | non:TyD K H .non "NoneType"
 | bl (b:Bool):TyD K H (.bl b) "bool"
 | int (i:Int):TyD K H (.int i) "int"
 | str (x:Str):TyD K H (.str x) "str"
 | lst {a:Kd} {xs:List V} (h:SqL K H a xs):TyD K H (.ref a) "list"
 | tup {a:Kd} {xs:List V} (h:SqT K H a xs):TyD K H (.ref a) "tuple"
 | dct {a:Kd} {kvs:List (KX×Addr×V)} {ep:Nat} (h:H a=some (DctO a kvs ep)):TyD K H (.ref a) "dict"
def rIsi (K:Kb):List V->Hp->VK->Prop:=fun vs H Q=>∃ x T t b,vs=[x,.ty T]/\TyD K H x t/\Vt K (.type t) (.type T)=some b/\Q (.bl b) H
theorem qat:QF X (.builtin "isinstance") (rIsi X.K):=by
 intro pins s σ H xs us Q I r h
 obtain ⟨x,T,t,b,rfl,ty,e,q⟩:=h
 obtain ⟨u,c,rfl,ru,rc⟩:=r.two
 cases (show c=VC T from rc)
 have fin:∀ tk,EP X pins σ Q (.bool b) { s with toks:=tk }:=fun tk=>⟨.bl b,H,I.tok tk,rfl,q⟩
 cases ty with
 | non=>cases (show u=VM from ru);exact KG Nc I.kIn Ud e (fun z=>nomatch z) fin
 | bl y=>cases (show u=Uc y from ru);exact KG Nd I.kIn Ud e (fun z=>nomatch z) fin
 | int i=>obtain ⟨t,q⟩:=(show ∃ t,u=UN i t from ru);cases q;exact KG PySem.W.kitx_int I.kIn Ud e (fun z=>nomatch z) fin
 | str y=>obtain ⟨t,q⟩:=(show ∃ t,u=UM y t from ru);cases q;exact KG PySem.W.kitx_str I.kIn Ud e (fun z=>nomatch z) fin
 | @lst a xs ea =>
  cases (show u=Vh a from ru)
  obtain ⟨_,_,⟨o,n,h1,h2,_⟩,_⟩:=I.list ea
  exact KG Xe I.kIn ⟨o,h1,h2⟩ e (fun z=>nomatch z) fin
 | @tup a xs ea =>
  cases (show u=Vh a from ru)
  obtain ⟨_,_,⟨o,h1,h2,_⟩,_⟩:=I.tuple ea
  exact KG X5 I.kIn ⟨o,h1,h2⟩ e (fun z=>nomatch z) fin
 | @dct a kvs ep ea =>
  cases (show u=Vh a from ru)
  obtain ⟨o,_,h1,h2,_⟩:=(Ji.of (I.hok a _ ea)).vals
  exact KG Xf I.kIn ⟨o,h1,h2.1⟩ e (fun z=>nomatch z) fin
def ExcH (K:Kb)(H:Hp)(a:Kd)(c:Str):Prop:=∃ o,H a=some (.frz o (.own a))/\ExcO K o c
theorem Inv.excAt {a:Kd}{c:Str}(I:Inv X pins σ H s)(h:ExcH X.K H a c):∃ C,Vm X.K mainGlobals c=some (some (.ref C))/\xcB X.K C=true/\OfC s.heap a C:=by
 obtain ⟨o,ha,C,vs,h1,h2,h3,h4⟩:=h
 exact ⟨C,h3,h4,o,(I.hok a _ ha).1,h1⟩
def qc0 (K:Kb):List V->Hp->VK->Prop:=fun vs H Q=>∃ a c T b,vs=[.ref a,.ty T]/\ExcH K H a c/\(∀ C,xcB K C=true->Vt K (.ref C) (.type T)=some b)/\Q (.bl b) H
theorem Wy:QF X (.builtin "isinstance") (qc0 X.K):=by
 intro pins s σ H xs us Q I r h
 obtain ⟨a,c,T,b,rfl,hx,e,q⟩:=h
 obtain ⟨u,c',rfl,ru,rc⟩:=r.two
 cases (show c'=VC T from rc)
 cases (show u=Vh a from ru)
 obtain ⟨C,_,h4,IA⟩:=I.excAt hx
 exact KG (qaN (qbE h4)) I.kIn IA (e C h4) (fun z=>nomatch z) fun tk=>⟨.bl b,H,I.tok tk,rfl,q⟩
def qcZ (K:Kb):List V->Hp->VK->Prop:=fun vs H Q=>∃ a C dx T b,vs=[.ref a,.ty T]/\H a=some (.ins C dx [])/\icB K C=true/\Vt K (.ref C) (.type T)=some b/\Q (.bl b) H
theorem Wx:QF X (.builtin "isinstance") (qcZ X.K):=by
 intro pins s σ H xs us Q I r h
 obtain ⟨a,C,dx,T,b,rfl,hx,hc,e,q⟩:=h
 obtain ⟨u,c',rfl,ru,rc⟩:=r.two
 cases (show c'=VC T from rc)
 exact WR I ru ((qaJ hc).ty hx) e fun tk=>⟨.bl b,H,I.tok tk,rfl,q⟩
end
noncomputable abbrev Rho:=List (Option Ka)
abbrev aV:=Rho->Option (Option Int)
abbrev aE:=List Ka->Rho->Option Rho
abbrev ah:=Rho->Option Bool
abbrev af:=Ka->Rho->Option Rho
abbrev ae:=Rho->Option (List Ka)
abbrev aa:=Rho->Option Ka
def DenS (K:Kb)(H:Hp)(S:Av)(M:ar)(σ:St)(ρ:Rho):Prop:=Dm S H/\σ.length=ρ.length/\∀ (i:Nat) (d:Ka),i∉M->ρ[i]?=some (some d)->∃ v,σ[i]?=some (some v)/\Den K H S v d
section
variable {K:Kb}{H H':Hp}{S:Av}{M:ar}{σ:St}{ρ:Rho}{v:V}{d:Ka}
theorem DenS.same (e:Same H H')(h:DenS K H S M σ ρ):DenS K H' S M σ ρ:=⟨h.1.same e,h.2.1,fun i d n q=>let ⟨v,a,b⟩:=h.2.2 i d n q;⟨v,a,b.same e⟩⟩
theorem DenS.set (h:DenS K H S M σ ρ)(q:Den K H S v d)(i:Nat):DenS K H S M (σ.set i (some v)) (ρ.set i (some d)):=by
 refine ⟨h.1,by rw [Vo,Vo];exact h.2.1,fun j e n he=>?_⟩
 by_cases hj:i=j
 ·subst hj
  by_cases hi:i<ρ.length
  ·rw [KZ hi] at he
   cases he
   exact ⟨v,KZ (by rw [h.2.1];exact hi),q⟩
  ·rw [List.set_eq_of_length_le (by omega)] at he
   exact absurd (Kz.mp he).1 hi
 ·rw [V1 hj] at he
  obtain ⟨w,a,b⟩:=h.2.2 j e n he
  exact ⟨w,by rw [V1 hj];exact a,b⟩
theorem DenS.start {vs:List V}{ds:aj}(m:Dm S H)(h:DenL K H S vs ds)(N:aA):DenS K H S [] (start N vs) (ds.map some++Kl (N.length-ds.length) none):=by
 have hl:=h.length
 refine ⟨m,?_,fun j e _ he=>?_⟩
 ·unfold L2.start
  rw [Kv,Kv,Kg,Kg,K4,K4,hl]
 ·by_cases hj:j<ds.length
  ·rw [K8 (by simpa using hj),KW] at he
   cases e1:ds[j]? with
   | none=>rw [e1] at he;cases he
   | some d =>
    rw [e1] at he
    cases he
    obtain ⟨v,a,b⟩:=h.get e1
    refine ⟨v,?_,b⟩
    unfold L2.start
    rw [K8 (by rw [Kg];omega),KW,a]
    rfl
  ·rw [VG (by simpa using hj),VP] at he
   split at he<;>cases he
end
def tD (K:Kb)(M:ar)(f:aa):TE:=fun σ H Q=>∃ S ρ d,DenS K H S M σ ρ/\f ρ=some d/\∀ v H',Same H H'->Den K H' S v d->Q v H'
def tDA (K:Kb)(M:ar)(f:ae):TA:=fun σ H Q=>∃ S ρ ds,DenS K H S M σ ρ/\f ρ=some ds/\∀ vs H',Same H H'->DenL K H' S vs ds->Q vs H'
def tDT (K:Kb)(M:ar)(f:ah):TT:=fun σ H Q=>∃ S ρ b,DenS K H S M σ ρ/\f ρ=some b/\∀ H',Same H H'->Q b H'
inductive Out where
 | nx (ρ:Rho)|rt (d:Ka)|bk (ρ:Rho)|ct (ρ:Rho)
abbrev ao:=Rho->Option Out
def PD (X:Cx)(M:ar)(e:Kr)(f:aa):Prop:=PE X e (tD X.K M f)
def PDA (X:Cx)(M:ar)(es:aH)(f:ae):Prop:=PA X es (tDA X.K M f)
def PDT (X:Cx)(M:ar)(e:Kr)(f:ah):Prop:=PT X e (tDT X.K M f)
theorem PE.weak {X:Cx}{e:Kr}{t t':TE}(h:PE X e t)(w:∀ σ H Q,t' σ H Q->t σ H Q):PE X e t':=fun pins s σ H Q I q=>h pins s σ H Q I (w σ H Q q)
theorem PT.weak {X:Cx}{e:Kr}{t t':TT}(h:PT X e t)(w:∀ σ H Q,t' σ H Q->t σ H Q):PT X e t':=fun pins s σ H Q I q=>h pins s σ H Q I (w σ H Q q)
theorem PW.weak {X:Cx}{e:Kr}{t t':TT}(h:PW X e t)(w:∀ σ H Q,t' σ H Q->t σ H Q):PW X e t':=fun wh pins s σ H Q I q=>h wh pins s σ H Q I (w σ H Q q)
theorem PA.weak {X:Cx}{e:aH}{t t':TA}(h:PA X e t)(w:∀ σ H Q,t' σ H Q->t σ H Q):PA X e t':=fun pos pins s σ H Q I q=>h pos pins s σ H Q I (w σ H Q q)
theorem PS.weak {X:Cx}{e:K1}{t t':TS}(h:PS X e t)(w:∀ D σ H,t' D σ H->t D σ H):PS X e t':=fun pins s σ H D I q=>h pins s σ H D I (w D σ H q)
theorem PSs.weak {X:Cx}{e:aY}{t t':TS}(h:PSs X e t)(w:∀ D σ H,t' D σ H->t D σ H):PSs X e t':=fun pins s σ H D I q=>h pins s σ H D I (w D σ H q)
noncomputable def ob {α β:Type}(a:Option α)(f:α->Option β):Option β:=match a with | some x=>f x|none=>none
theorem qd {α β:Type}{a:Option α}{f:α->Option β}{y:β}(h:ob a f=some y):∃ x,a=some x/\f x=some y:=by
 cases a with
 | none=>cases h
 | some x=>exact ⟨x,rfl,h⟩
noncomputable def visB (sc:K3)(x:Str):Bool:=decide (sc.names.lookup x=some .local)||decide (sc.names.lookup x=some .cell)||decide (sc.names.lookup x=some .free)
noncomputable def locB (sc:K3)(x:Str):Bool:=decide (sc.names.lookup x=some .local)||decide (sc.names.lookup x=some .cell)
noncomputable def glB (sc:K3)(x:Str):Bool:=decide (sc.names.lookup x=some .globalImplicit)
theorem qbD {sc:K3}{x:Str}(h:visB sc x=true):Vis sc x:=by
 unfold visB at h
 simp only [UV,decide_eq_true_eq] at h
 rcases h with (h|h)|h
 ·exact .inl h
 ·exact .inr (.inl h)
 ·exact .inr (.inr h)
theorem qaR {sc:K3}{x:Str}(h:locB sc x=true):Loc sc x:=by
 unfold locB at h
 simp only [UV,decide_eq_true_eq] at h
 exact h
theorem gl_fn {X:Cx}{x:Str}(sc:K3)(hs:X.env.scope=sc)(h:glB sc x=true):Gl X x:=by
 subst hs
 have h':X.env.scope.names.lookup x=some .globalImplicit:=of_decide_eq_true h
 exact h'
theorem QX {env:Env}:∀ {names:List (Str×NameKind)} {x:Str} {k:Xo},names.lookup x=some k->
  (names.map fun (n,k)=>if (k==KJ&&env.scope.kind==.function&&env.kindOf n==some .cell) then (n,Vb) else (n,k)).lookup x=some k\/
  (k=.free/\(names.map fun (n,k)=>if (k==KJ&&env.scope.kind==.function&&env.kindOf n==some .cell) then (n,Vb) else (n,k)).lookup x=some .cell):=by
 intro names x k
 induction names with
 | nil=>intro h;cases h
 | cons q r ih =>
  intro h
  obtain ⟨n,k'⟩:=q
  show U6 x ((if (k'==KJ&&env.scope.kind==.function&&env.kindOf n==some .cell)=true then (n,Vb) else (n,k'))::_)=_\/(_/\U6 x ((if (k'==KJ&&env.scope.kind==.function&&env.kindOf n==some .cell)=true then (n,Vb) else (n,k'))::_)=_)
  cases hx:x==n with
  | true =>
   simp only [KL,hx] at h
   have hk:k'=k:=Va h
   subst hk
   by_cases hc:(k'==KJ&&env.scope.kind==.function&&env.kindOf n==some .cell)=true
   ·rw [if_pos hc]
    rw [Kt,Kt] at hc
    exact .inr ⟨by simpa using hc.1.1,by simp [KL,hx]⟩
   ·rw [if_neg hc]
    exact .inl (by simp [KL,hx])
  | false =>
   simp only [KL,hx] at h
   by_cases hc:(k'==KJ&&env.scope.kind==.function&&env.kindOf n==some .cell)=true
   ·rw [if_pos hc]
    simp only [KL,hx]
    exact ih h
   ·rw [if_neg hc]
    simp only [KL,hx]
    exact ih h
section
variable {X:Cx}{x:Str}{N':aA}{sc:K3}{cl:aG}{C:Kd}{fp:az}{pins:ag}{s:Ke}{H:Hp}
theorem qI (h:visB sc x=true):Vis (qw X N' sc cl C fp pins s H).env.scope x:=by
 rcases qbD h with h|h|h
 ·rcases QX (env:=X.env) h with q|q
  ·exact .inl q
  ·cases q.1
 ·rcases QX (env:=X.env) h with q|q
  ·exact .inr (.inl q)
  ·cases q.1
 ·rcases QX (env:=X.env) h with q|q
  ·exact .inr (.inr q)
  ·exact .inr (.inl q.2)
theorem ZP (h:glB sc x=true):Gl (qw X N' sc cl C fp pins s H) x:=by
 rcases QX (env:=X.env) (of_decide_eq_true h) with q|q
 ·exact q
 ·cases q.1
end
def vr (i:Nat):Rho->Option Ka:=fun ρ=>(ρ[i]?).join
def kd (d:Ka):Rho->Option Ka:=fun _=>some d
def ev1 (fa:aa)(g:Ka->Option Ka):Rho->Option Ka:=fun ρ=>ob (fa ρ) g
def aN:Rho->Option (List Ka):=fun _=>some []
def aC (fa:aa)(fs:ae):Rho->Option (List Ka):=fun ρ=>ob (fa ρ) fun x=>ob (fs ρ) fun xs=>some (x::xs)
def evA (fs:ae)(h:av):Rho->Option Ka:=fun ρ=>ob (fs ρ) h
def evC (n:Nat)(fs:ae)(h:av):Rho->Option Ka:=fun ρ=>ob (fs ρ) fun ds=>if ds.length=n then h ds else none
def evC0 (h:av):Rho->Option Ka:=fun _=>h []
section
variable {X:Cx}{M:ar}{a b c:Kr}{es:aH}{f g fa fb:aa}{pos:Pos}
theorem qQ (i:Nat){x:Str}(hv:Vis X.env.scope x)(hM:i∉M)(hN:X.N[i]?=some x:=by rfl)(hd:(x==("__debug__" : Str))=false:=by decide +kernel)
  (hcd:(x==("__classdict__" : Str))=false:=by decide +kernel):PD X M (.Name x pos) (vr i) :=
 (qbb hN hv hd hcd).weak fun σ H Q ⟨S,ρ,d,hs,e,q⟩=>by
  have e:(ρ[i]?).join=some d:=e
  have e':ρ[i]?=some (some d):=by
   cases h:ρ[i]? with
   | none=>rw [h] at e;cases e
   | some o=>rw [h] at e;exact congrArg some e
  obtain ⟨v,h1,h2⟩:=hs.2.2 i d hM e'
  exact ⟨v,h1,q v H (Same.refl H) h2⟩
theorem qi {i j p}:PD X M (.Constant (.int i) j p) (kd (.int i)):=qdU.weak fun σ H Q ⟨S,_,d,_,e,q⟩=>by cases e;exact q _ H (Same.refl H) (.int i)
theorem pd_bl {i j p}:PD X M (.Constant (.bool i) j p) (kd (.bool i)):=pe_bl.weak fun σ H Q ⟨S,_,d,_,e,q⟩=>by cases e;exact q _ H (Same.refl H) (.bool i)
def rD2 (K:Kb)(g:aF):R2:=fun x y H Q=>∃ S dx dy d,Dm S H/\Den K H S x dx/\Den K H S y dy/\g dx dy=some d/\∀ v H',Same H H'->Den K H' S v d->Q v H'
def OpD (X:Cx)(f:aJ)(g:aF):Prop:=OpR X f (rD2 X.K g)
def UnD (X:Cx)(f:Kc->Sem Kc)(g:Ka->Option Ka):Prop:=UnR X f (fun x H Q=>∃ S dx d,Dm S H/\Den X.K H S x dx/\g dx=some d/\∀ v H',Same H H'->Den X.K H' S v d->Q v H')
def CallD (X:Cx)(f:Kc)(g:av):Prop:=QF X f (fun vs H Q=>∃ S ds d,Dm S H/\DenL X.K H S vs ds/\g ds=some d/\∀ v H',Same H H'->Den X.K H' S v d->Q v H')
def ev2 (fa fb:aa)(g:aF)(ρ:Rho):Option Ka:=ob (fa ρ) fun x=>ob (fb ρ) fun y=>g x y
theorem tD2 {K:Kb}{g:aF}:∀ σ H Q,tD K M (ev2 fa fb g) σ H Q->tOp (rD2 K g) (tD K M fa) (tD K M fb) σ H Q:=by
 intro σ H Q ⟨S,ρ,d,hs,e,q⟩
 obtain ⟨x,e1,e⟩:=qd e
 obtain ⟨y,e2,e⟩:=qd e
 exact ⟨S,ρ,x,hs,e1,fun v H1 g1 d1=>⟨S,ρ,y,hs.same g1,e2,fun w H2 g2 d2=>⟨S,x,y,d,hs.1.same (g1.trans g2),d1.same g2,d2,e,fun z H3 g3 d3=>q z H3 (g1.trans (g2.trans g3)) d3⟩⟩⟩
theorem qx {op:Operator}{g:aF}(ho:OpD X (binaryOp op) g)(ha:PD X M a fa)(hb:PD X M b fb):PD X M (.BinOp a op b pos) (ev2 fa fb g):=(qcX ho ha hb).weak tD2
theorem qa0 {op:CmpOp}{g:aF}(ho:OpD X (compareOp op) g)(ha:PD X M a fa)(hb:PD X M b fb)(hm:behindInMarks op b=false):PD X M (.Compare a [op] [b] pos) (ev2 fa fb g):=(qcw ho ha hb hm).weak tD2
theorem pd_un {op:UnaryOp}{g:Ka->Option Ka}(ho:UnD X (unaryOp op) g)(ha:PD X M a fa):PD X M (.UnaryOp op a pos) (ev1 fa g) :=
 (pe_un ho ha).weak fun σ H Q ⟨S,ρ,d,hs,e,q⟩=>by
  obtain ⟨x,e1,e⟩:=qd e
  exact ⟨S,ρ,x,hs,e1,fun v H1 g1 d1=>⟨S,x,d,hs.1.same g1,d1,e,fun z H3 g3 d3=>q z H3 (g1.trans g3) d3⟩⟩
def ixD:Ka->Ka->Option Ka
 | .tuple ds,.int i=>atI ds i
 | .list ds,.int i=>atI ds i
 | _,_=>none
theorem DenL.atI {K:Kb}{H:Hp}{S:Av}{vs:List V}{ds:aj}{i:Int}{d:Ka}(h:DenL K H S vs ds)(e:atI ds i=some d):∃ v,L2.atI vs i=some v/\Den K H S v d:=by
 unfold L2.atI at e ⊢
 rw [h.length]
 cases q:ixN ds.length i with
 | none=>rw [q] at e;cases e
 | some j=>rw [q] at e;exact h.get e
theorem zf (ha:PD X M a fa)(hb:PD X M b fb)(hs:JV b:=by intro _ _;rfl):PD X M (.Subscript a b pos) (ev2 fa fb ixD) :=
 (qcW (r:=fun x y H Q=>rIxL X.K x y H Q\/rIxT X.K x y H Q) (Wd.or qaL) ha hb hs).weak fun σ H Q ⟨S,ρ,d,hs,e,q⟩=>by
  obtain ⟨x,e1,e⟩:=qd e
  obtain ⟨y,e2,e⟩:=qd e
  refine ⟨S,ρ,x,hs,e1,fun v H1 g1 d1=>⟨S,ρ,y,hs.same g1,e2,fun w H2 g2 d2=>?_⟩⟩
  have d1':=d1.same g2
  cases d1' with
  | list h t =>
   cases d2 with
   | int i=>obtain ⟨z,z1,z2⟩:=t.atI e;exact .inl ⟨_,_,_,_,rfl,rfl,h.sq,z1,q z H2 (g1.trans g2) z2⟩
   | _=>cases e
  | tuple h t =>
   cases d2 with
   | int i=>obtain ⟨z,z1,z2⟩:=t.atI e;exact .inr ⟨_,_,_,_,rfl,rfl,h,z1,q z H2 (g1.trans g2) z2⟩
   | _=>cases e
  | _=>cases e
theorem QW:PDA X M [] aN:=Y0.weak fun σ H Q ⟨S,_,d,_,e,q⟩=>by cases e;exact q [] H (Same.refl H) .nil
theorem Zh {fs:ae}(ha:PD X M a fa)(hr:PDA X M es fs)(hs:starEach (a::es) X.env=(false,eval a X.env)::starEach es X.env:=by rfl):PDA X M (a::es) (aC fa fs) :=
 (jq ha hr hs).weak fun σ H Q ⟨S,ρ,d,hs,e,q⟩=>by
  obtain ⟨x,e1,e⟩:=qd e
  obtain ⟨xs,e2,e⟩:=qd e
  cases e
  exact ⟨S,ρ,x,hs,e1,fun v H1 g1 d1=>⟨S,ρ,xs,hs.same g1,e2,fun vs H2 g2 d2=>q _ H2 (g1.trans g2) (.cons (d1.same g2) d2)⟩⟩
def tupD (ds:aj):Option Ka:=if ds.length<=1000 then some (.tuple ds) else none
def lstD (ds:aj):Option Ka:=if ds.length<=1000 then some (.list ds) else none
theorem qai {ds:aj}{d:Ka}(h:tupD ds=some d):ds.length<=1000/\d=.tuple ds:=by
 unfold tupD at h
 split at h
 ·rename_i q;cases h;exact ⟨q,rfl⟩
 ·cases h
theorem JB {ds:aj}{d:Ka}(h:lstD ds=some d):ds.length<=1000/\d=.list ds:=by
 unfold lstD at h
 split at h
 ·rename_i q;cases h;exact ⟨q,rfl⟩
 ·cases h
theorem zZ {fs:ae}{x1}(h:PDA X M es fs):PD X M (.Tuple es x1 pos) (evA fs tupD) :=
 (qdX h).weak fun σ H Q ⟨S,ρ,d,hs,e,q⟩=>by
  obtain ⟨xs,e1,e⟩:=qd e
  obtain ⟨hz,rfl⟩:=qai e
  refine ⟨S,ρ,xs,hs,e1,fun vs H1 g1 d1=>⟨Vk (q9 (by rw [d1.length];exact hz)),fun p hp=>?_⟩⟩
  exact q _ _ (g1.lay' hp) (.tuple (SqT.of qM) (d1.same (Same.lay hp)))
theorem jT {fs:ae}(h:PDA X M es fs):PD X M (.List es pos) (evA fs lstD) :=
 (qa9 h).weak fun σ H Q ⟨S,ρ,d,hs,e,q⟩=>by
  obtain ⟨xs,e1,e⟩:=qd e
  obtain ⟨hz,rfl⟩:=JB e
  refine ⟨S,ρ,xs,hs,e1,fun vs H1 g1 d1=>⟨Vk (q9 (by rw [d1.length];exact hz)),fun p hp=>?_⟩⟩
  exact q _ _ (g1.lay' hp) (.list (SqLS.new qM ((hs.1.same g1).free hp)) (d1.same (Same.lay hp)))
def spF (K:Kb)(n:Nat)(f:av):Sp:=fun vs H Q _=>∃ S ds d,Dm S H/\DenL K H S vs ds/\ds.length=n/\f ds=some d/\∀ v H',Same H H'->Den K H' S v d->Q v H'
theorem qco {CX:CXT}{k n:Nat}{fn:Kd}{fd:Vq}{ps:aA}{h:av}{E:XK}{x:Str}{p:Pos}{fs:ae}(F:FnOk X.prog X.w X.K X.mg X.base CX k fn fd ps (spF X.K n h))(hr:Room k X.A)(hg:Gl X x)(hm:X.mg x=some (.ref fn))(hk:VR X.K (.ref fn)=true)
  (hb:Binds X.K fd ps []) (hx:JT CX X E) (ha:PDA X M (a::es) fs) (hl:(a::es).length=n) (hdb:(x==("__debug__" : Str))=false:=by decide +kernel) (he:starEach (a::es) X.env=(false,eval a X.env)::starEach es X.env:=by rfl) (hpl:(backTo pos (starEach es X.env)).any (·.1)=false:=by rfl) :
  PD X M (.Call (.Name x p) (a::es) [] pos) (evC n fs h) :=
 (qcv F hr hg hm hk hb .nil hx ha hdb he hpl).weak fun σ H Q ⟨S,ρ,d,hs,e,q⟩=>by
  obtain ⟨ds,e1,e⟩:=qd e
  have e:(if ds.length=n then h ds else none)=some d:=e
  split at e
  ·rename_i hn
   exact ⟨S,ρ,ds,hs,e1,fun vs H1 g1 d1=>⟨S,ds,d,hs.1.same g1,by rw [Vn];exact d1,hn,e,fun v H' g2 d2=>q v H' (g1.trans g2) d2⟩⟩
  ·cases e
theorem zU {id:String}{x:Str}{p:Pos}{h:av}{fs:ae}(hc:CallD X (.builtin id) h)(hg:Gl X x)(hm:X.mg x=none)(hv:bootBuiltins x=some (.builtin id))(ha:PDA X M (a::es) fs)(hn:x ≠ "__name__" := by decide +kernel)(hdb:(x==("__debug__" : Str))=false:=by decide +kernel)
  (he:starEach (a::es) X.env=(false,eval a X.env)::starEach es X.env:=by rfl) (hpl:(backTo pos (starEach es X.env)).any (·.1)=false:=by rfl):PD X M (.Call (.Name x p) (a::es) [] pos) (evA fs h) :=
 (jY hc hg hm hv ha hn hdb he hpl).weak fun σ H Q ⟨S,ρ,d,hs,e,q⟩=>by
  obtain ⟨ds,e1,e⟩:=qd e
  exact ⟨S,ρ,ds,hs,e1,fun vs H1 g1 d1=>⟨S,ds,d,hs.1.same g1,d1,e,fun v H' g2 d2=>q v H' (g1.trans g2) d2⟩⟩
theorem W2 {T:String}{x:Str}{p:Pos}{h:av}{fs:ae}(hc:CallD X (.type T) h)(hg:Gl X x)(hm:X.mg x=none)(hv:bootBuiltins x=some (.type T))(ha:PDA X M (a::es) fs)(hn:x ≠ "__name__" := by decide +kernel)(hdb:(x==("__debug__" : Str))=false:=by decide +kernel)
  (he:starEach (a::es) X.env=(false,eval a X.env)::starEach es X.env:=by rfl) (hpl:(backTo pos (starEach es X.env)).any (·.1)=false:=by rfl):PD X M (.Call (.Name x p) (a::es) [] pos) (evA fs h) :=
 (JH hc hg hm hv ha hn hdb he hpl).weak fun σ H Q ⟨S,ρ,d,hs,e,q⟩=>by
  obtain ⟨ds,e1,e⟩:=qd e
  exact ⟨S,ρ,ds,hs,e1,fun vs H1 g1 d1=>⟨S,ds,d,hs.1.same g1,d1,e,fun v H' g2 d2=>q v H' (g1.trans g2) d2⟩⟩
noncomputable def tyS:Ka->String
 | .none => "NoneType" | .bool _ => "bool" | .int _ => "int" | .str _ => "str" | .list _ => "list" | .tuple _ => "tuple" | .dict _ => "dict"
noncomputable def isiT (T:String):Ka->Bool
 | .none=>T == "NoneType" || T == "object"
 | .bool _=>T == "bool" || T == "int" || T == "object"
 | .int _=>T == "int" || T == "object"
 | .str _=>T == "str" || T == "object"
 | .list _=>T == "list" || T == "object"
 | .tuple _=>T == "tuple" || T == "object"
 | .dict _=>T == "dict" || T == "object"
def isiD (T:String)(d:Ka):Option Ka:=some (.bool (isiT T d))
def qam (K:Kb)(T:String):Prop:=∀ d:Ka,Vt K (.type (tyS d)) (.type T)=some (isiT T d)
theorem qb8 (K:Kb):qam K "int" := fun d=>by cases d<;>rfl
theorem qaM (K:Kb):qam K "bool" := fun d=>by cases d<;>rfl
theorem w6 {K:Kb}{T:String}{C:Kd}{c:Str}{d:Ka}(hT:T∈ZL)(h:xcB K C=true):Vt K (.ref C) (.type T)=some (isiT T (excD c d)):=by
 rw [(qbE h).ts T hT]
 have:(T == "dict" || T == "object")=false:=by
  simp only [ZL,Ks,List.not_mem_nil,or_false] at hT
  rcases hT with rfl|rfl|rfl|rfl|rfl<;>decide +kernel
 exact congrArg some this.symm
theorem qb7 {K:Kb}{T:String}{C:Kd}{c:Str}(hT:T∈ZL)(h:icB K C=true):Vt K (.ref C) (.type T)=some (isiT T (objD c)):=by
 rw [(qaJ h).ts T hT]
 have:(T == "dict" || T == "object")=false:=by
  simp only [ZL,Ks,List.not_mem_nil,or_false] at hT
  rcases hT with rfl|rfl|rfl|rfl|rfl<;>decide +kernel
 exact congrArg some this.symm
theorem qa2 {T:String}{p p2:Pos}(kit:qam X.K T)(hg:Gl X "isinstance")(hm:X.mg "isinstance" = none)(hgT:Gl X (KR T))(hmT:X.mg (KR T)=none)(hvT:bootBuiltins (KR T)=some (.type T))(hv:bootBuiltins "isinstance" = some (.builtin "isinstance"))(ha:PD X M a fa)(hnT:KR T ≠ "__name__" := by decide +kernel)(hdT:(KR T==("__debug__" : Str))=false:=by decide +kernel)(hT:T∈ZL:=by decide +kernel)
  (he:starEach [a,.Name (KR T) p2] X.env=(false,eval a X.env)::starEach [.Name (KR T) p2] X.env:=by rfl) (hpl:(backTo pos (starEach [.Name (KR T) p2] X.env)).any (·.1)=false:=by rfl)
  (hs2:starEach [.Name (KR T) p2] X.env=(false,eval (.Name (KR T) p2) X.env)::starEach [] X.env:=by rfl) :
  PD X M (.Call (.Name "isinstance" p) [a,.Name (KR T) p2] [] pos) (ev1 fa (isiD T)) :=
 (jY (qat.or (Wy.or Wx)) hg hm hv (jq ha (jq (qcu (v:=.ty T) hgT hmT hvT rfl hnT hdT) Y0 hs2) he) (by decide +kernel) (by decide +kernel) he hpl).weak fun σ H Q ⟨S,ρ,d,hs,e,q⟩=>by
  obtain ⟨x,e1,e⟩:=qd e
  cases e
  refine ⟨S,ρ,x,hs,e1,fun v H1 g1 d1=>?_⟩
  have fin:=q (.bl (isiT T x)) H1 g1 (.bool _)
  have k:=kit x
  show rIsi X.K [v,.ty T] H1 Q\/qc0 X.K [v,.ty T] H1 Q\/qcZ X.K [v,.ty T] H1 Q
  cases d1 with
  | none=>exact .inl ⟨_,_,_,_,rfl,.non,k,fin⟩
  | bool y=>exact .inl ⟨_,_,_,_,rfl,.bl y,k,fin⟩
  | int y=>exact .inl ⟨_,_,_,_,rfl,.int y,k,fin⟩
  | str y=>exact .inl ⟨_,_,_,_,rfl,.str y,k,fin⟩
  | list h t=>exact .inl ⟨_,_,_,_,rfl,.lst h.sq,k,fin⟩
  | tuple h t=>exact .inl ⟨_,_,_,_,rfl,.tup h,k,fin⟩
  | dict h k2 t=>exact .inl ⟨_,_,_,_,rfl,.dct h.1,k,fin⟩
  | exc0 h o=>exact .inr (.inl ⟨_,_,_,_,rfl,⟨_,h,o⟩,fun C z=>w6 hT z,fin⟩)
  | exc1 h o x y t=>exact .inr (.inl ⟨_,_,_,_,rfl,⟨_,h,o⟩,fun C z=>w6 hT z,fin⟩)
  | ins h o=>exact .inr (.inr ⟨_,_,_,_,_,rfl,h,o.2,qb7 hT o.2,fin⟩)
theorem Zv {f:aJ}{g:aF}{r:R2}(h:OpR X f r)(w:∀ x y dx dy d H S (Q:VK),Dm S H->Den X.K H S x dx->Den X.K H S y dy->g dx dy=some d->(∀ v H',Same H H'->Den X.K H' S v d->Q v H')->r x y H Q):OpD X f g :=
 fun pins s σ H x y v u Q I rx ry ⟨S,dx,dy,d,m,h1,h2,e,q⟩=>h pins s σ H x y v u Q I rx ry (w x y dx dy d H S Q m h1 h2 e q)
noncomputable def iiD (h:Int->Int->Option Ka):Ka->Ka->Option Ka
 | .int i,.int j=>h i j
 | _,_=>none
theorem ZQ {h:Int->Int->Option Ka}{x y d:Ka}(e:iiD h x y=some d):∃ i j,x=.int i/\y=.int j/\h i j=some d:=by
 cases x<;>cases y<;>first|exact ⟨_,_,rfl,rfl,e⟩|cases e
theorem qci {f:aJ}{gi:aP}(h:OpR X f (rI0 fun i j=>.int (gi i j))):OpD X f (iiD fun i j=>some (.int (gi i j))) :=
 Zv h fun x y dx dy d H S Q m h1 h2 e q=>by
  obtain ⟨i,j,rfl,rfl,e⟩:=ZQ e
  cases h1;cases h2;cases e
  exact ⟨i,j,rfl,rfl,q _ H (Same.refl H) (.int _)⟩
theorem ZW {f:aJ}{C:Int->Int->Prop}[∀ i j,Decidable (C i j)]{gi:aP}(h:OpR X f (rI C fun i j=>.int (gi i j))):OpD X f (iiD fun i j=>if C i j then some (.int (gi i j)) else none) :=
 Zv h fun x y dx dy d H S Q m h1 h2 e q=>by
  obtain ⟨i,j,rfl,rfl,e'⟩:=ZQ e
  split at e'
  ·rename_i c
   cases h1;cases h2;cases e'
   exact ⟨i,j,rfl,rfl,c,q _ H (Same.refl H) (.int _)⟩
  ·cases e'
theorem jR {f:aJ}{gi:Int->Int->Bool}(h:OpR X f (rI0 fun i j=>.bl (gi i j))):OpD X f (iiD fun i j=>some (.bool (gi i j))) :=
 Zv h fun x y dx dy d H S Q m h1 h2 e q=>by
  obtain ⟨i,j,rfl,rfl,e⟩:=ZQ e
  cases h1;cases h2;cases e
  exact ⟨i,j,rfl,rfl,q _ H (Same.refl H) (.bool _)⟩
noncomputable instance (i j:Int):Decidable (U3 i j):=by unfold U3;exact inferInstance
noncomputable instance (i j:Int):Decidable (CDiv i j):=by unfold CDiv;exact inferInstance
noncomputable instance (i j:Int):Decidable (CPow i j):=by unfold CPow;exact inferInstance
def subD:Ka->Ka->Option Ka:=iiD fun i j=>some (.int (i-j))
def mulD:Ka->Ka->Option Ka:=iiD fun i j=>if U3 i j then some (.int (i*j)) else none
def Zf:Ka->Ka->Option Ka:=iiD fun i j=>if CDiv i j then some (.int (i / j)) else none
def modD:Ka->Ka->Option Ka:=iiD fun i j=>if 0<j then some (.int (i % j)) else none
theorem ZJ:OpD X (binaryOp .Sub) subD:=qci qdN
theorem ji:OpD X (binaryOp .Mult) mulD:=ZW qcn
theorem Zc:OpD X (binaryOp .FloorDiv) Zf:=ZW qcm
theorem QG:OpD X (binaryOp .Mod) modD:=ZW (C:=fun _ j=>0<j) qdK
def leD:Ka->Ka->Option Ka:=iiD fun i j=>some (.bool (decide (i<=j)))
def gtD:Ka->Ka->Option Ka:=iiD fun i j=>some (.bool (decide (j<i)))
def geD:Ka->Ka->Option Ka:=iiD fun i j=>some (.bool (decide (j<=i)))
theorem d_le:OpD X (compareOp .LtE) leD:=jR op_le
theorem d_gt:OpD X (compareOp .Gt) gtD:=jR op_gt
theorem d_ge:OpD X (compareOp .GtE) geD:=jR op_ge
noncomputable def eqD (x y:Ka):Option Ka:=if Vz x=true/\Vz y=true then some (.bool (Uh x y)) else none
noncomputable def neD (x y:Ka):Option Ka:=if Vz x=true/\Vz y=true then some (.bool (!PyData.eqv x y)) else none
theorem d_eq {k:Nat}(hr:Room k X.A):OpD X (compareOp .Eq) eqD:=Zv (qdJ hr) fun x y dx dy d H S Q m h1 h2 e q=>by
 unfold eqD at e
 split at e
 ·rename_i c;cases e;exact ⟨S,dx,dy,h1,h2,c.1,c.2,q _ H (Same.refl H) (.bool _)⟩
 ·cases e
theorem d_ne {k:Nat}(hr:Room k X.A):OpD X (compareOp .NotEq) neD:=Zv (qdL hr) fun x y dx dy d H S Q m h1 h2 e q=>by
 unfold neD at e
 split at e
 ·rename_i c;cases e;exact ⟨S,dx,dy,h1,h2,c.1,c.2,q _ H (Same.refl H) (.bool _)⟩
 ·cases e
noncomputable def negD:Ka->Option Ka
 | .int i=>some (.int (-i))
 | _=>none
theorem d_neg:UnD X (unaryOp .USub) negD:=fun pins s σ H x v Q I rx ⟨S,dx,d,m,h1,e,q⟩=>qey pins s σ H x v Q I rx (by
 cases h1<;>first|(cases e;exact ⟨_,rfl,q _ H (Same.refl H) (.int _)⟩)|cases e)
noncomputable def lenD:List Ka->Option Ka
 | [.list ds]=>some (.int ds.length)
 | [.tuple ds]=>some (.int ds.length)
 | _=>none
theorem DenL.seq1 {K:Kb}{H:Hp}{S:Av}{xs:List V}{ds:aj}(h1:DenL K H S xs ds){F:List Ka->Ka}{g:av}(hg:∀ ds d,g ds=some d->(∃ l,ds=[.list l]/\d=F l)\/∃ l,ds=[.tuple l]/\d=F l){d:Ka}(e:g ds=some d):∃ a ys l,xs=[.ref a]/\d=F l/\DenL K H S ys l/\(SqL K H a ys\/SqT K H a ys):=by
 rcases hg _ _ e with ⟨l,rfl,rfl⟩|⟨l,rfl,rfl⟩
 ·obtain ⟨v,rfl,hv⟩:=h1.inv1
  obtain ⟨a,ys,rfl,hs,t⟩:=hv.list_inv
  exact ⟨a,ys,l,rfl,rfl,t,.inl hs.sq⟩
 ·obtain ⟨v,rfl,hv⟩:=h1.inv1
  obtain ⟨a,ys,rfl,hs,t⟩:=hv.tuple_inv
  exact ⟨a,ys,l,rfl,rfl,t,.inr hs⟩
theorem WX (ds:aj)(d:Ka)(e:lenD ds=some d):(∃ l,ds=[.list l]/\d=.int (l.length:Nat))\/∃ l,ds=[.tuple l]/\d=.int (l.length:Nat):=by
 unfold lenD at e
 split at e
 ·cases e;exact .inl ⟨_,rfl,rfl⟩
 ·cases e;exact .inr ⟨_,rfl,rfl⟩
 ·cases e
theorem ZF:CallD X (.builtin "len") lenD:=fun pins s σ H xs us Q I r ⟨S,ds,d,m,h1,e,q⟩=>J2 pins s σ H xs us Q I r (by
 obtain ⟨a,ys,l,rfl,rfl,t,h⟩:=h1.seq1 WX e
 exact ⟨_,_,rfl,h,by rw [t.length];exact q _ H (Same.refl H) (.int _)⟩)
noncomputable def jk:List Ka->Option Ka
 | [.list ds]=>some (.list ds)
 | [.tuple ds]=>some (.list ds)
 | _=>none
theorem YT (ds:aj)(d:Ka)(e:jk ds=some d):(∃ l,ds=[.list l]/\d=.list l)\/∃ l,ds=[.tuple l]/\d=.list l:=by
 unfold jk at e
 split at e
 ·cases e;exact .inl ⟨_,rfl,rfl⟩
 ·cases e;exact .inr ⟨_,rfl,rfl⟩
 ·cases e
theorem qc9:CallD X (.type "list") jk:=fun pins s σ H xs us Q I r ⟨S,ds,d,m,h1,e,q⟩=>ZG pins s σ H xs us Q I r (by
 obtain ⟨a,ys,l,rfl,rfl,t,h⟩:=h1.seq1 YT e
 exact ⟨_,_,rfl,h,fun l hl=>q _ _ (Same.lay hl) (.list (SqLS.new qM (m.free hl)) (t.same (Same.lay hl)))⟩)
end
noncomputable def Zo:Ka->Option Bool
 | .bool b=>some b
 | _=>none
def tV (f:aa):Rho->Option Bool:=fun ρ=>ob (f ρ) Zo
def tN (p:ah):Rho->Option Bool:=fun ρ=>ob (p ρ) fun b=>some (!b)
def tA (p q:ah):Rho->Option Bool:=fun ρ=>ob (p ρ) fun c=>if c=true then q ρ else some false
def tO (p q:ah):Rho->Option Bool:=fun ρ=>ob (p ρ) fun c=>if c=true then some true else q ρ
def tT:Rho->Option Bool:=fun _=>some true
def vA (fa fb:aa):Rho->Option Ka:=fun ρ=>ob (fa ρ) fun x=>ob (Zo x) fun c=>if c=true then fb ρ else some (.bool false)
def vO (fa fb:aa):Rho->Option Ka:=fun ρ=>ob (fa ρ) fun x=>ob (Zo x) fun c=>if c=true then some (.bool true) else fb ρ
def vN (fa:aa):Rho->Option Ka:=fun ρ=>ob (fa ρ) fun x=>ob (Zo x) fun c=>some (.bool (!c))
def evI (f:aa)(h:Ka->Option (List Ka)):Rho->Option (List Ka):=fun ρ=>ob (f ρ) h
def evR (fs:ae)(h:List Ka->Option (List Ka)):Rho->Option (List Ka):=fun ρ=>ob (fs ρ) h
def sN:Rho->Option Out:=fun ρ=>some (.nx ρ)
def sRet (f:aa):Rho->Option Out:=fun ρ=>ob (f ρ) fun d=>some (.rt d)
def sIf (p:ah)(u w:ao):Rho->Option Out:=fun ρ=>ob (p ρ) fun b=>if b=true then u ρ else w ρ
def sSet (i:Nat)(f:aa):Rho->Option Out:=fun ρ=>ob (f ρ) fun d=>some (.nx (ρ.set i (some d)))
def sAsg (f:aa)(g:af):Rho->Option Out:=fun ρ=>ob (f ρ) fun d=>ob (g d ρ) fun ρ'=>some (.nx ρ')
def gNm (i:Nat):Ka->Rho->Option Rho:=fun d ρ=>some (ρ.set i (some d))
def gsN:List Ka->Rho->Option Rho:=fun ds ρ=>match ds with | []=>some ρ|_=>none
def gsC (g1:af)(g2:aE):List Ka->Rho->Option Rho:=fun ds ρ=>match ds with | d::r=>ob (g1 d ρ) fun ρ'=>g2 r ρ'|[]=>none
def sBk:Rho->Option Out:=fun ρ=>some (.bk ρ)
def sCt:Rho->Option Out:=fun ρ=>some (.ct ρ)
section
variable {X:Cx}{M:ar}{a b c:Kr}{es rest:aH}{f g fa fb:aa}{p q:ah}{pos:Pos}
theorem Qm {d:Ka}{b:Bool}(h:Zo d=some b):d=.bool b:=by cases d<;>first|(cases h;rfl)|cases h
theorem qcs (h:PD X M a f)(he:∀ whole,isTrue a X.env whole=(do let v ← whole;standAt a.pos;holding [v] (truthy v)):=by intro _;rfl):PDT X M a (tV f) :=
 (qd5 h he).weak fun σ H Q ⟨S,ρ,d,hs,e,q⟩=>by
  obtain ⟨x,e1,e⟩:=qd e
  cases Qm e
  exact ⟨S,ρ,_,hs,e1,fun v H1 g1 d1=>⟨d,d1.bool_inv,q H1 g1⟩⟩
theorem zb {op:CmpOp}{g:aF}(ho:OpD X (compareOp op) g)(ha:PD X M a fa)(hb:PD X M b fb)(hm:behindInMarks op b=false):PDT X M (.Compare a [op] [b] pos) (tV (ev2 fa fb g)) :=
 (qcE ho ha hb hm).weak fun σ H Q ⟨S,ρ,d,hs,e,q⟩=>by
  obtain ⟨x,e1,e⟩:=qd e
  cases Qm e
  exact tD2 σ H _ ⟨S,ρ,_,hs,e1,fun v H1 g1 d1=>⟨d,d1.bool_inv,q H1 g1⟩⟩
theorem qcq (h:PDT X M a p):PDT X M (.UnaryOp .Not a pos) (tN p) :=
 (qd4 h).weak fun σ H Q ⟨S,ρ,d,hs,e,q⟩=>by
  obtain ⟨x,e1,e⟩:=qd e
  cases e
  exact ⟨S,ρ,x,hs,e1,fun H1 g1=>q H1 g1⟩
def PDW (X:Cx)(M:ar)(e:Kr)(f:ah):Prop:=PW X e (tDT X.K M f)
theorem PDW.pdt (h:PDW X M a p):PDT X M a p:=PW.pt h
theorem Yk (h:PDT X M a p):PDW X M (.BoolOp .And [a] pos) p:=qcG h
theorem qct (h:PDT X M a p):PDW X M (.BoolOp .Or [a] pos) p:=qd7 h
theorem Wi (ha:PDT X M a p)(hb:PDW X M (.BoolOp .And (b::rest) pos) q):PDW X M (.BoolOp .And (a::b::rest) pos) (tA p q) :=
 (qd6 ha hb).weak fun σ H Q ⟨S,ρ,d,hs,e,w⟩=>by
  obtain ⟨x,e1,e⟩:=qd e
  refine ⟨S,ρ,x,hs,e1,fun H1 g1=>?_⟩
  cases x with
  | true=>exact iteT ⟨S,ρ,d,hs.same g1,e,fun H2 g2=>w H2 (g1.trans g2)⟩
  | false=>cases e;exact iteF (w H1 g1)
theorem qdS (ha:PDT X M a p)(hb:PDW X M (.BoolOp .Or (b::rest) pos) q):PDW X M (.BoolOp .Or (a::b::rest) pos) (tO p q) :=
 (pw_or ha hb).weak fun σ H Q ⟨S,ρ,d,hs,e,w⟩=>by
  obtain ⟨x,e1,e⟩:=qd e
  refine ⟨S,ρ,x,hs,e1,fun H1 g1=>?_⟩
  cases x with
  | true=>cases e;exact iteT (w H1 g1)
  | false=>exact iteF ⟨S,ρ,d,hs.same g1,e,fun H2 g2=>w H2 (g1.trans g2)⟩
theorem qa3 {op}(h:PD X M a f):PD X M (.BoolOp op [a] pos) f:=qdW h
theorem qdQ (ha:PD X M a fa)(hb:PD X M (.BoolOp .And (b::rest) pos) fb):PD X M (.BoolOp .And (a::b::rest) pos) (vA fa fb) :=
 (qdT ha hb).weak fun σ H Q ⟨S,ρ,d,hs,e,w⟩=>by
  obtain ⟨x,e1,e⟩:=qd e
  obtain ⟨c,e2,e⟩:=qd e
  cases Qm e2
  refine ⟨S,ρ,_,hs,e1,fun v H1 g1 d1=>⟨c,d1.bool_inv,?_⟩⟩
  cases c with
  | true=>exact iteT ⟨S,ρ,d,hs.same g1,e,fun v H2 g2 d2=>w v H2 (g1.trans g2) d2⟩
  | false=>cases e;exact iteF (w _ H1 g1 (.bool false))
theorem pd_or (ha:PD X M a fa)(hb:PD X M (.BoolOp .Or (b::rest) pos) fb):PD X M (.BoolOp .Or (a::b::rest) pos) (vO fa fb) :=
 (pe_or ha hb).weak fun σ H Q ⟨S,ρ,d,hs,e,w⟩=>by
  obtain ⟨x,e1,e⟩:=qd e
  obtain ⟨c,e2,e⟩:=qd e
  cases Qm e2
  refine ⟨S,ρ,_,hs,e1,fun v H1 g1 d1=>⟨c,d1.bool_inv,?_⟩⟩
  cases c with
  | true=>cases e;exact iteT (w _ H1 g1 (.bool true))
  | false=>exact iteF ⟨S,ρ,d,hs.same g1,e,fun v H2 g2 d2=>w v H2 (g1.trans g2) d2⟩
theorem qdR (ha:PD X M a fa):PD X M (.UnaryOp .Not a pos) (vN fa) :=
 (qdV ha).weak fun σ H Q ⟨S,ρ,d,hs,e,w⟩=>by
  obtain ⟨x,e1,e⟩:=qd e
  obtain ⟨c,e2,e⟩:=qd e
  cases Qm e2
  cases e
  exact ⟨S,ρ,_,hs,e1,fun v H1 g1 d1=>⟨c,d1.bool_inv,w _ H1 g1 (.bool _)⟩⟩
structure IsIt (K:Kb)(S:Av)(J:It)(H:Hp)(ds:aj):Prop where
 go:∀ (i:Nat) (H':Hp),Same H H'->i<ds.length->J.go i H'
 yld:∀ (i:Nat) (H':Hp) (x:V) (H2:Hp),Same H H'->J.yld i H' x H2->Same H' H2/\∀ d,ds[i]?=some d->∀ S':Av,(∀ y e,Den K H S y e->Den K H2 S' y e)->Den K H2 S' x d
 stop:∀ H':Hp,Same H H'->J.stop ds.length H'
theorem IsIt.lst {K:Kb}{H:Hp}{S:Av}{l:Kd}{xs:List V}{ds:aj}(h:SqL K H l xs)(t:DenL K H S xs ds):IsIt K S (Itl K l) H ds where
 go:=fun i H' e hi=>by
  have hi':i<xs.length:=by rw [t.length];exact hi
  exact ⟨xs,xs[i],e.seq h,Kj hi'⟩
 yld:=fun i H' x H2 e ⟨e2,q⟩=>⟨by rw [e2];exact Same.refl _,fun d hd S' w=>by
  obtain ⟨v,h1,h2⟩:=t.get hd
  have:=q xs (e.seq h)
  rw [h1] at this
  cases this
  exact w _ _ h2⟩
 stop:=fun H' e=>⟨xs,e.seq h,by rw [t.length];exact Ko _⟩
theorem IsIt.tup {K:Kb}{H:Hp}{S:Av}{l:Kd}{xs:List V}{ds:aj}(h:SqT K H l xs)(t:DenL K H S xs ds):IsIt K S (Itt K l) H ds where
 go:=fun i H' e hi=>by
  have hi':i<xs.length:=by rw [t.length];exact hi
  exact ⟨xs,xs[i],e.sqT h,Kj hi'⟩
 yld:=fun i H' x H2 e ⟨e2,q⟩=>⟨by rw [e2];exact Same.refl _,fun d hd S' w=>by
  obtain ⟨v,h1,h2⟩:=t.get hd
  have:=q xs (e.sqT h)
  rw [h1] at this
  cases this
  exact w _ _ h2⟩
 stop:=fun H' e=>⟨xs,e.sqT h,by rw [t.length];exact Ko _⟩
theorem SqLS.off {K:Kb}{H H':Hp}{S:Av}{a:Kd}{xs:List V}(e:Off S H H')(h:SqLS K H S a xs):SqLS K H' S a xs:=h.imp (fun q=>⟨q.1.off e q.2,q.2⟩) id
theorem SqT.off {K:Kb}{H H':Hp}{S:Av}{a:Kd}{xs:List V}(m:Dm S H)(e:Off S H H')(h:SqT K H a xs):SqT K H' a xs:=h.imp (fun q=>q.off e (m.tup q)) id
noncomputable def rngL:Int->Nat->List Ka
 | _,0=>[]
 | lo,n+1=>.int lo::rngL (lo+1) n
theorem Zi:∀ (lo:Int) (n:Nat),(rngL lo n).length=n
 | _,0=>rfl
 | lo,n+1=>by rw [rngL,Kk,Zi]
theorem Yr:∀ (lo:Int) (n i:Nat) (d:Ka),(rngL lo n)[i]?=some d->d=.int (lo+i)
 | _,0,_,_,h=>by simp [rngL] at h
 | lo,n+1,0,d,h=>by simp [rngL] at h;subst h;simp
 | lo,n+1,i+1,d,h=>by
  have:=Yr (lo+1) n i d (by simpa [rngL] using h)
  rw [this]
  congr 1
  omega
theorem IsIt.rng {K:Kb}{H:Hp}{S:Av}(lo:Int)(n:Nat):IsIt K S (Itr lo n) H (rngL lo n) where
 go:=fun i H' e hi=>by rw [Zi] at hi;exact hi
 yld:=fun i H' x H2 e ⟨e2,q⟩=>⟨by rw [e2];exact Same.refl _,fun d hd _ _=>by
  have q':x=.int (lo+i):=q
  rw [Yr lo n i d hd,q']
  exact .int _⟩
 stop:=fun H' e=>by rw [Zi];exact Ko n
def tDI (K:Kb)(M:ar)(f:ae):TI:=fun σ H R=>∃ S ρ ds,DenS K H S M σ ρ/\f ρ=some ds/\∀ J H',Same H H'->(∀ H2,Off S H' H2->IsIt K S J H2 ds)->R J H'
def PDI (X:Cx)(M:ar)(tg iter:Kr)(f:ae):Prop:=PI X tg iter (tDI X.K M f)
theorem PI.weak {X:Cx}{tg e:Kr}{t t':TI}(h:PI X tg e t)(w:∀ σ H R,t' σ H R->t σ H R):PI X tg e t':=fun pins s σ H Q I q=>h pins s σ H Q I (w σ H Q q)
def iSeq (K:Kb)(tl:TE):TI:=fun σ H R=>tl σ H fun x H1=>∃ a,x=.ref a/\(((∃ xs,SqL K H1 a xs)/\R (Itl K a) H1)\/((∃ xs,SqT K H1 a xs)/\R (Itt K a) H1))
theorem qd0 {tg l:Kr}{tl:TE}(hl:PE X l tl):PI X tg l (iSeq X.K tl):=by
 intro pins s σ H R I h
 refine thn (hl pins s σ H _ I h) fun v s1 ⟨x,H1,I1,r1,q1⟩=>?_
 obtain ⟨a,e,q1⟩:=q1
 subst e
 cases r1
 have fp:∀ b∈[s1.heap.objs.size],FpOk X pins H1 b:=fun b hb=>by
  have e:b=s1.heap.objs.size:=by simpa using hb
  subst e
  exact I1.fpOk (Ko _) (I1.hok.fresh (Ko _))
 rcases q1 with ⟨⟨xs,hq⟩,q⟩|⟨⟨xs,hq⟩,q⟩
 ·obtain ⟨its,rv,p,hz⟩:=I1.list hq
  refine wpAny_pyIter_list p.isList ?_
  exact ⟨s1.heap.objs.size,[s1.heap.objs.size],_,_,H1,rfl,I1.kept (t':=s1.toks) fun b o e=>Kp _ e,qaj a _,⟨_,K5 _ rfl,rfl,rfl⟩,fp,q⟩
 ·obtain ⟨its,rv,p,hz⟩:=I1.tuple hq
  refine wpAny_pyIter_tuple (show s1.heap.IsTuple a its.toArray from p) ?_
  exact ⟨s1.heap.objs.size,[s1.heap.objs.size],_,_,H1,rfl,I1.kept (t':=s1.toks) fun b o e=>Kp _ e,wC a _,⟨_,K5 _ rfl,rfl,rfl⟩,fp,q⟩
noncomputable def seqD:Ka->Option (List Ka)
 | .list ds=>some ds
 | .tuple ds=>some ds
 | _=>none
theorem ZZ {tg:Kr}(h:PD X M a f):PDI X M tg a (evI f seqD) :=
 (qd0 h).weak fun σ H R ⟨S,ρ,ds,hs,e,w⟩=>by
  obtain ⟨x,e1,e⟩:=qd e
  refine ⟨S,ρ,x,hs,e1,fun v H1 g1 d1=>?_⟩
  cases d1 with
  | list h t=>cases e;exact ⟨_,rfl,.inl ⟨⟨_,h.sq⟩,w _ _ g1 fun H2 o=>IsIt.lst (h.off o).sq (t.off (hs.1.same g1) o)⟩⟩
  | tuple h t=>cases e;exact ⟨_,rfl,.inr ⟨⟨_,h⟩,w _ _ g1 fun H2 o=>IsIt.tup (h.off (hs.1.same g1) o) (t.off (hs.1.same g1) o)⟩⟩
  | _=>cases e
def zj:List Ka->Option (List Ka)
 | [.int j]=>if -1000<=j/\j<=1000 then some (rngL 0 j.toNat) else none
 | _=>none
def Zr:List Ka->Option (List Ka)
 | [.int i,.int j]=>if (-1000<=i/\i<=1000)/\(-1000<=j/\j<=1000) then some (rngL i (j-i).toNat) else none
 | _=>none
theorem Qt {tg:Kr}{fs:ae}{p:Pos}(hg:Gl X "range")(hm:X.mg "range" = none)(ha:PDA X M [a] fs)(hs:starEach [a] X.env=[(false,eval a X.env)]:=by rfl):PDI X M tg (.Call (.Name "range" p) [a] [] pos) (evR fs zj) :=
 (JL hg hm ha hs).weak fun σ H R ⟨S,ρ,ds,hs,e,w⟩=>by
  obtain ⟨xs,e1,e⟩:=qd e
  refine ⟨S,ρ,xs,hs,e1,fun vs H1 g1 d1=>?_⟩
  unfold zj at e
  split at e
  ·rename_i j
   split at e
   ·rename_i hj
    cases e
    obtain ⟨v,rfl,q⟩:=d1.inv1
    cases q
    exact ⟨j,rfl,by omega,by omega,w _ _ g1 fun _ _=>IsIt.rng 0 _⟩
   ·cases e
  ·cases e
theorem Y4 {tg:Kr}{fs:ae}{p:Pos}(hg:Gl X "range")(hm:X.mg "range" = none)(ha:PDA X M [a,b] fs)(hs:starEach [a,b] X.env=[(false,eval a X.env),(false,eval b X.env)]:=by rfl)(hs2:starEach [b] X.env=[(false,eval b X.env)]:=by rfl):PDI X M tg (.Call (.Name "range" p) [a,b] [] pos) (evR fs Zr) :=
 (W6 hg hm ha hs hs2).weak fun σ H R ⟨S,ρ,ds,hs,e,w⟩=>by
  obtain ⟨xs,e1,e⟩:=qd e
  refine ⟨S,ρ,xs,hs,e1,fun vs H1 g1 d1=>?_⟩
  unfold Zr at e
  split at e
  ·rename_i i j
   split at e
   ·rename_i hj
    cases e
    obtain ⟨v,w',rfl,q,q'⟩:=d1.inv2
    cases q;cases q'
    exact ⟨i,j,rfl,⟨by omega,by omega,by omega,by omega⟩,w _ _ g1 fun _ _=>IsIt.rng i _⟩
   ·cases e
  ·cases e
def zc (tt:ah)(te:aa)(ρ:Rho):List Ka->Option (List Ka)
 | []=>some []
 | d::ds=>ob (tt (ρ++[some d])) fun b=>if b=true then ob (te (ρ++[some d])) fun y=>ob (zc tt te ρ ds) fun ys=>some (y::ys) else zc tt te ρ ds
def Qo (n:Nat)(fi:ae)(tt:ah)(te:aa)(ρ:Rho):Option Ka :=
 ob (fi ρ) fun ds=>if ρ.length=n/\ds.length<=1000 then ob (zc tt te ρ ds) fun ys=>some (.list ys) else none
def PDTs (X:Cx)(M:ar)(ifs:aH)(p:ah):Prop:=PTs X ifs (tDT X.K M p)
theorem Qc:PDTs X M [] tT:=fun pins s σ H Q I ⟨S,ρ,b,hs,e,q⟩=>by
 cases e
 exact qcF pins s σ H Q I (q H (Same.refl H))
noncomputable def lc1 (sc:K3)(x:Str):Bool:=decide (sc.names.lookup x=some .local)||decide (sc.names.lookup x=some .cell)
theorem yw {env:Env}:∀ {names:List (Str×NameKind)} {x:Str},names.lookup x=some .cell->
  (names.map fun (n,k)=>if (k==KJ&&env.scope.kind==.function&&env.kindOf n==some .cell) then (n,Vb) else (n,k)).lookup x=some .cell:=by
 intro names x
 induction names with
 | nil=>intro h;cases h
 | cons q r ih =>
  intro h
  obtain ⟨n,k⟩:=q
  show U6 x ((if (k==KJ&&env.scope.kind==.function&&env.kindOf n==some .cell)=true then (n,Vb) else (n,k))::_)=_
  rw [KL] at h
  by_cases hx:(x==n)=true
  ·rw [hx] at h;cases h
   split<;>rw [KL,hx]
  ·rw [Xh.mpr hx] at h
   split<;>rw [KL,Xh.mpr hx]<;>exact ih h
def tDGc (K:Kb)(M:ar)(g:af):TG:=fun v σ H Q=>∃ S ρ d ρ',DenS K H S M σ ρ/\Den K H S v d/\g d ρ=some ρ'/\∀ σ' H',Same H H'->DenS K H' S M σ' ρ'->Q σ' H'
def PDGc (X:Cx)(M:ar)(t:Kr)(g:af):Prop:=PG X t (tDGc X.K M g)
theorem PG.weak {X:Cx}{e:Kr}{t t':TG}(h:PG X e t)(w:∀ v σ H Q,t' v σ H Q->t v σ H Q):PG X e t':=fun pins s σ H v u Q I r q=>h pins s σ H v u Q I r (w v σ H Q q)
theorem PGs.weak {X:Cx}{e:aH}{t t':TGs}(h:PGs X e t)(w:∀ v σ H Q,t' v σ H Q->t v σ H Q):PGs X e t':=fun pins s σ H v u Q I r q=>h pins s σ H v u Q I r (w v σ H Q q)
def unpD (n:Nat)(g:aE):Ka->Rho->Option Rho
 | .tuple ds,ρ=>if ds.length=n then g ds ρ else none
 | _,_=>none
theorem JF (i:Nat){x:Str}(hN:X.N.Nodup)(hx:Loc X.env.scope x)(hi:X.N[i]?=some x)(hf:X.fn x=true\/X.env.scope.names.lookup x=some .local):PDGc X M (.Name x pos) (gNm i) :=
 (Wj hN hi hx hf).weak fun v σ H Q ⟨S,ρ,d,ρ',hs,hd,e,q⟩=>by
  cases e
  exact q _ H (Same.refl H) (hs.set hd i)
def GIn (n k:Nat)(g:af):Prop:=∀ d (ρ r ρ1:Rho),ρ.length=n->r.length=k->g d (ρ++r)=some ρ1->∃ r',r'.length=k/\ρ1=ρ++r'
theorem jJ {n k i:Nat}(h:n<=i):GIn n k (gNm i):=fun d ρ r ρ1 h1 h2 e=>by
 cases e
 refine ⟨r.set (i-n) (some d),by rw [Vo];exact h2,?_⟩
 rw [XY _ _ (by omega),h1]
def zA (k:Nat)(g:af)(tt:ah)(te:aa)(ρ:Rho):List Ka->Option (List Ka)
 | []=>some []
 | d::ds=>ob (g d (ρ++Kl k none)) fun ρ1=>ob (tt ρ1) fun b=>if b=true then ob (te ρ1) fun y=>ob (zA k g tt te ρ ds) fun ys=>some (y::ys) else zA k g tt te ρ ds
def Q6 (n k:Nat)(fi:ae)(g:af)(tt:ah)(te:aa)(ρ:Rho):Option Ka :=
 ob (fi ρ) fun ds=>if ρ.length=n/\ds.length<=1000 then ob (zA k g tt te ρ ds) fun ys=>some (.list ys) else none
theorem jB {tt:ah}{te:aa}{ρ:Rho}{n:Nat}(hn:ρ.length=n):∀ ds,zA 1 (gNm n) tt te ρ ds=zc tt te ρ ds
 | []=>rfl
 | d::ds=>by
  have e:gNm n d (ρ++Kl 1 none)=some (ρ++[some d]):=by
   show some ((ρ++[none]).set n (some d))=_
   rw [← hn,XY _ _ (Ko _)]
   simp
  rw [zA,zc,e]
  show (ob (tt (ρ++[some d])) fun b=>_)=_
  rw [jB hn ds]
theorem jA (n:Nat)(fi:ae)(tt:ah)(te:aa):Qo n fi tt te=Q6 n 1 fi (gNm n) tt te:=by
 funext ρ
 unfold Qo Q6
 cases fi ρ with
 | none=>rfl
 | some ds =>
  show (if ρ.length=n/\ds.length<=1000 then _ else none)=(if ρ.length=n/\ds.length<=1000 then _ else none)
  split
  ·rename_i h
   rw [jB h.1]
  ·rfl
theorem DenS.forget {K:Kb}{H:Hp}{S:Av}{σ:St}{ρ r':Rho}{k:Nat}(h:DenS K H S M σ (ρ++r'))(hk:r'.length=k):DenS K H S M σ (ρ++Kl k none):=by
 refine ⟨h.1,by rw [h.2.1,Kv,Kv,K4,hk],fun i d hi e=>?_⟩
 by_cases hlt:i<ρ.length
 ·rw [K8 hlt] at e
  exact h.2.2 i d hi (by rw [K8 hlt];exact e)
 ·rw [VG (by omega)] at e
  have:=VP (a:=(none:aB)) (n:=k) (i:=i-ρ.length)
  rw [this] at e
  split at e<;>cases e
theorem DenS.more {K:Kb}{H:Hp}{S:Av}{σ:St}{ρ:Rho}(k:Nat)(h:DenS K H S M σ ρ):DenS K H S M (σ++Kl k none) (ρ++Kl k none):=by
 refine ⟨h.1,by rw [Kv,Kv,h.2.1,K4,K4],fun i d hi e=>?_⟩
 by_cases hlt:i<ρ.length
 ·rw [K8 hlt] at e
  obtain ⟨v,a,b⟩:=h.2.2 i d hi e
  exact ⟨v,by rw [K8 (by rw [h.2.1];exact hlt)];exact a,b⟩
 ·rw [VG (by omega)] at e
  have:=VP (a:=(none:aB)) (n:=k) (i:=i-ρ.length)
  rw [this] at e
  split at e<;>cases e
theorem Ws {K:Kb}{n k:Nat}{fi:ae}{g:af}(hg:GIn n k g):∀ σ H Q S ρ ds ys,DenS K H S M σ ρ->fi ρ=some ds->ρ.length=n->ds.length<=1000->zA k g p f ρ ds=some ys->(∀ H' zs,Same H H'->DenL K H' S zs ys->∀ D,H' D=none->Q (.ref D) (upd H' D (.lst zs)))->JP k (tDI K M fi) (tDGc K M g) (tDT K M p) (tD K M f) σ H Q:=by
 intro σ H Q S ρ ds ys hs e1 hn hz e2 q
 refine ⟨S,ρ,ds,hs,e1,fun J H1 g1 hJ0=>?_⟩
 have hJ:=hJ0 H1 fun _ _ _ z=>z
 have z1000:1000<sizeLine:=q9 (Ko _)
 refine ⟨fun i m zs σ' H'=>m=ds.length-i/\i<=ds.length/\zs.length<=i/\Same H1 H'/\DenS K H' S M σ' (ρ++Kl k none)/\∃ pre rest,DenL K H' S zs pre/\zA k g p f ρ (ds.drop i)=some rest/\pre++rest=ys,⟨ds.length,by simp,Vu _,Ko _,Same.refl _,(hs.same g1).more k,[],ys,.nil,e2,rfl⟩,?_⟩
 rintro i m zs σ' H' ⟨rfl,hi,hzi,g2,hS,pre,rest,dl,er,rfl⟩
 by_cases hlt:i<ds.length
 ·refine .inr ⟨hJ.go i H' g2 hlt,fun x H2 y=>?_⟩
  obtain ⟨g2',yd⟩:=hJ.yld i H' x H2 g2 y
  have hd:=yd _ (Kj hlt) S fun y e q=>q.same (g2.trans g2')
  rw [K9 hlt] at er
  obtain ⟨ρ1,r1,er⟩:=qd er
  obtain ⟨bb,b1,er⟩:=qd er
  obtain ⟨r',hr',rfl⟩:=hg _ ρ _ ρ1 hn (K4) r1
  have g2:=g2.trans g2'
  have dl:=dl.same g2'
  refine ⟨S,_,_,_,hS.same g2',hd,r1,fun σ3 H3 g3 hS3=>⟨S,_,bb,hS3,b1,fun H4 g4=>?_⟩⟩
  cases bb with
  | true =>
   rw [if_pos rfl] at er
   obtain ⟨y1,e3,er⟩:=qd er
   obtain ⟨ys1,e4,er⟩:=qd er
   cases er
   refine iteT ⟨S,_,y1,hS3.same g4,e3,fun v H5 g5 d5=>⟨by omega,ds.length-(i+1),by omega,rfl,hlt,by rw [Kv,KQ];omega,g2.trans (g3.trans (g4.trans g5)),(hS3.same (g4.trans g5)).forget hr',pre++[y1],ys1,(dl.same (g3.trans (g4.trans g5))).snoc d5,e4,by simp⟩⟩
  | false =>
   rw [if_neg Vp] at er
   exact iteF ⟨ds.length-(i+1),by omega,rfl,hlt,by omega,g2.trans (g3.trans g4),(hS3.same g4).forget hr',pre,rest,dl.same (g3.trans g4),er,rfl⟩
 ·have hi':i=ds.length:=by omega
  subst hi'
  rw [UK] at er
  cases er
  refine .inl ⟨hJ.stop H' g2,fun D hD=>q H' zs (g1.trans g2) (by rw [Vn];exact dl) D hD⟩
theorem Zu {n k:Nat}{fi:ae}{g:af}{tt:ah}{te:aa}{ρ:Rho}{d:Ka}(e:Q6 n k fi g tt te ρ=some d):∃ ds ys,fi ρ=some ds/\ρ.length=n/\ds.length<=1000/\zA k g tt te ρ ds=some ys/\d=.list ys:=by
 obtain ⟨ds,e1,e⟩:=qd e
 split at e
 ·rename_i hc
  obtain ⟨ys,e2,e⟩:=qd e
  cases e
  exact ⟨ds,ys,e1,hc.1,hc.2,e2,rfl⟩
 ·cases e
theorem qeq {K:Kb}{n k:Nat}{fi:ae}{g:af}(hg:GIn n k g):∀ σ H Q,tD K M (Q6 n k fi g p f) σ H Q->JP k (tDI K M fi) (tDGc K M g) (tDT K M p) (tD K M f) σ H Q:=by
 intro σ H Q ⟨S,ρ,d,hs,e,q⟩
 obtain ⟨ds,ys,e1,hn,hz,e2,rfl⟩:=Zu e
 exact Ws hg σ H Q S ρ ds ys hs e1 hn hz e2 fun H' zs g2 dl D hD=>q _ _ (g2.lay' hD) (.list (SqLS.new qM ((hs.1.same g2).free hD)) (dl.same (Same.lay hD)))
section
variable {elt iter tg:Kr}{ifs:aH}{x:Str}{N':aA}{px:Pos}{sc:K3}{n k:Nat}{fi:ae}{g:af}
theorem yu {i:Nat}(O:CompOk X N' k sc)(hx:N'[i]?=some x)(hl:lc1 sc x=true)(cl:aG)(C:Kd)(fp:az)(pins:ag)(s:Ke)(H:Hp):PDGc (qw X N' sc cl C fp pins s H) M (.Name x px) (gNm i) :=
 (Bool.or_eq_true_iff.mp hl).elim (fun hl =>
  have hloc:(relabel sc X.env).names.lookup x=some .local:=lookup_relabel_local (of_decide_eq_true hl)
  JF (X:=qw X N' sc cl C fp pins s H) i O.nd' (.inl hloc) hx (.inr hloc)) fun hl =>
  have hloc:(relabel sc X.env).names.lookup x=some .cell:=yw (of_decide_eq_true hl)
  JF (X:=qw X N' sc cl C fp pins s H) i O.nd' (.inr hloc) hx (.inl hl)
theorem qa1 (O:CompOk X N' k sc)(gi:GIn n k g)(hi:PDI X M tg iter fi)(hg:∀ cl C fp pins s H,PDGc (qw X N' sc cl C fp pins s H) M tg g)(hq:∀ cl C fp pins s H,PDTs (qw X N' sc cl C fp pins s H) M ifs p)(he:∀ cl C fp pins s H,PD (qw X N' sc cl C fp pins s H) M elt f)
  (hs:∀ v,foldedSetIterable iter X.env v=pure v:=by intro _;rfl):PD X M (.ListComp elt [⟨tg,iter,ifs,0⟩] sc pos) (Q6 n k fi g p f) :=
 (qcx (wg:=tDGc X.K M g) (tt:=tDT X.K M p) (te:=tD X.K M f) O hi hg hq he hs).weak (qeq gi)
theorem jr (O:CompOk X N' 1 sc)(hx:N'[n]?=some x)(hl:lc1 sc x=true)(hi:PDI X M (.Name x px) iter fi)(hq:∀ cl C fp pins s H,PDTs (qw X N' sc cl C fp pins s H) M ifs p)(he:∀ cl C fp pins s H,PD (qw X N' sc cl C fp pins s H) M elt f)
  (hs:∀ v,foldedSetIterable iter X.env v=pure v:=by intro _;rfl):PD X M (.ListComp elt [⟨.Name x px,iter,ifs,0⟩] sc pos) (Qo n fi p f):=by
 rw [jA]
 exact qa1 O (jJ (Ko _)) hi (yu O hx hl) hq he hs
end
end
structure Gm where
 H0:Hp
 S0:Av
 lk:Nat->Kd×PyData
def insA (S:Av)(p:Kd):Av:=fun a=>S a\/a=p
inductive OwnO (K:Kb)(H:Hp)(S:Av)(p:Kd):Ka->Prop
 | lst {xs:List V} {ds:aj}:H p=some (.lst xs)->DenL K H S xs ds->OwnO K H S p (.list ds)
 | dct {kvs:List (KX×Addr×V)} {ep:Nat} {ds:aj}:H p=some (DctO p kvs ep)->DenL K H S (kvs.map fun p=>kxV p.1 p.2.1) (kvs.map fun p=>kxD p.1)->DenL K H S (kvs.map (·.2.2)) ds->OwnO K H S p (.dict (dkv kvs ds))
section
variable {K:Kb}{H H':Hp}{S S':Av}{p:Kd}{d:Ka}
theorem OwnO.same (e:Same H H')(h:OwnO K H S p d):OwnO K H' S p d:=by
 cases h with
 | lst h t=>exact .lst (e _ _ h) (t.same e)
 | dct h k t=>exact .dct (e _ _ h) (k.same e) (t.same e)
theorem OwnO.sub (e:∀ a,H a≠none->S' a->S a)(h:OwnO K H S p d):OwnO K H S' p d:=by
 cases h with
 | lst h t=>exact .lst h (t.sub e)
 | dct h k t=>exact .dct h (k.sub e) (t.sub e)
theorem OwnO.mut (h:OwnO K H S p d):∃ o,H p=some o/\Q7 o=true:=by
 cases h with
 | lst h t=>exact ⟨_,h,rfl⟩
 | dct h k t=>exact ⟨_,h,rfl⟩
theorem OwnO.dom (h:OwnO K H S p d):H p≠none:=by
 obtain ⟨o,e,_⟩:=h.mut
 rw [e];exact fun z=>nomatch z
theorem OwnO.den (h:OwnO K H S p d)(n:¬ S' p)(e:∀ a,H a≠none->S' a->S a):Den K H S' (.ref p) d:=by
 cases h with
 | lst h t=>exact .list (SqLS.new h n) (t.sub e)
 | dct h k t=>exact .dict ⟨h,n⟩ (k.sub e) (t.sub e)
theorem OwnO.upd {q:Kd}{o:HO}(m:Dm S H)(h:OwnO K H S p d)(hq:S q)(hm:Q7 o=true)(ne:p≠q):OwnO K (upd H q o) S p d:=by
 have off:Off S H (L2.upd H q o):=fun b u n e=>by
  rw [qp (fun z=>n (by rw [z];exact hq))];exact e
 cases h with
 | lst h t=>exact .lst (by rw [qp ne];exact h) (t.off m off)
 | dct h k t=>exact .dct (by rw [qp ne];exact h) (k.off m off) (t.off m off)
theorem Dm.upd {q:Kd}{o:HO}(m:Dm S H)(hm:Q7 o=true):Dm S (upd H q o):=fun a ha=>by
 by_cases e:a=q
 ·subst e;exact ⟨o,qM,hm⟩
 ·rw [qp e];exact m a ha
theorem Dm.ins (m:Dm S H)(h:∃ o,H p=some o/\Q7 o=true):Dm (insA S p) H:=fun a ha=>by
 rcases ha with ha|rfl
 ·exact m a ha
 ·exact h
end
inductive Kids (K:Kb)(H:Hp)(S:Av):List Kd->List Ka->Prop
 | nil:Kids K H S [] []
 | cons {q:Kd} {xs:List V} {es:aj} {qs:az} {ds:aj}:H q=some (.lst xs)->DenL K H S xs es->q∉qs->Kids K H S qs ds->Kids K H S (q::qs) (.list es::ds)
inductive Mx (K:Kb)(H:Hp)(S:Av):List Kd->List V->List Ka->Prop
 | nil:Mx K H S [] [] []
 | kid {q:Kd} {xs:List V} {es:aj} {qs:az} {vs:List V} {ds:aj}:H q=some (.lst xs)->DenL K H S xs es->q∉qs->Mx K H S qs vs ds->Mx K H S (q::qs) (.ref q::vs) (.list es::ds)
 | flt {v:V} {d:Ka} {qs:az} {vs:List V} {ds:aj}:Den K H S v d->flat d=true->Mx K H S qs vs ds->Mx K H S qs (v::vs) (d::ds)
inductive DeepO (K:Kb)(H:Hp)(S:Av):List Kd->Kd->Ka->Prop
 | tpl {p:Kd} {qs:az} {vs:List V} {ds:aj}:H p=some (.tup vs)->Mx K H S qs vs ds->DeepO K H S qs p (.tuple ds)
 | lst {p:Kd} {qs:az} {ds:aj}:H p=some (.lst (qs.map V.ref))->p∉qs->Kids K H S qs ds->DeepO K H S (p::qs) p (.list ds)
 | dct {p:Kd} {kvs:List (KX×Addr×V)} {ep:Nat} {qs:az} {ds:aj}:H p=some (DctO p kvs ep)->DenL K H S (kvs.map fun p=>kxV p.1 p.2.1) (kvs.map fun p=>kxD p.1)->kvs.map (·.2.2)=qs.map V.ref->p∉qs->Kids K H S qs ds->DeepO K H S (p::qs) p (.dict (dkv kvs ds))
section
variable {K:Kb}{H H':Hp}{S S':Av}{p:Kd}{d:Ka}{fp qs:az}{ds:aj}
theorem Kids.same (e:Same H H')(h:Kids K H S qs ds):Kids K H' S qs ds:=by
 induction h with
 | nil=>exact .nil
 | cons h t n _ r=>exact .cons (e _ _ h) (t.same e) n r
theorem Kids.sub (e:∀ a,H a≠none->S' a->S a)(h:Kids K H S qs ds):Kids K H S' qs ds:=by
 induction h with
 | nil=>exact .nil
 | cons h t n _ r=>exact .cons h (t.sub e) n r
theorem Kids.mx (h:Kids K H S qs ds):Mx K H S qs (qs.map V.ref) ds:=by
 induction h with
 | nil=>exact .nil
 | cons h t n _ r=>exact .kid h t n r
theorem Mx.same {vs:List V}(e:Same H H')(h:Mx K H S qs vs ds):Mx K H' S qs vs ds:=by
 induction h with
 | nil=>exact .nil
 | kid h t n _ r=>exact .kid (e _ _ h) (t.same e) n r
 | flt a f _ r=>exact .flt (a.same e) f r
theorem Mx.sub {vs:List V}(e:∀ a,H a≠none->S' a->S a)(h:Mx K H S qs vs ds):Mx K H S' qs vs ds:=by
 induction h with
 | nil=>exact .nil
 | kid h t n _ r=>exact .kid h (t.sub e) n r
 | flt a f _ r=>exact .flt (a.sub e) f r
theorem Mx.mut {vs:List V}(h:Mx K H S qs vs ds)(q:Kd)(hq:q∈qs):∃ o,H q=some o/\Q7 o=true:=by
 induction h with
 | nil=>exact nomatch hq
 | kid h t n _ r=>exact (Ks.mp hq).elim (fun e=>by rw [e];exact ⟨_,h,rfl⟩) r
 | flt a f _ r=>exact r hq
theorem Kids.mut (h:Kids K H S qs ds):∀ q∈qs,∃ o,H q=some o/\Q7 o=true:=h.mx.mut
theorem Mx.den {vs:List V}(e:∀ a,H a≠none->S' a->S a)(n:∀ q∈qs,¬ S' q)(h:Mx K H S qs vs ds):DenL K H S' vs ds:=by
 induction h with
 | nil=>exact .nil
 | kid h t _ _ r=>exact .cons (.list (SqLS.new h (n _ (.head _))) (t.sub e)) (r fun q hq=>n q (.tail _ hq))
 | flt a f _ r=>exact .cons (a.sub e) (r n)
theorem Kids.den (e:∀ a,H a≠none->S' a->S a)(n:∀ q∈qs,¬ S' q)(h:Kids K H S qs ds):DenL K H S' (qs.map V.ref) ds:=h.mx.den e n
theorem Kids.upd {q:Kd}{o:HO}(m:Dm S H)(hq:S q)(n:q∉qs)(h:Kids K H S qs ds):Kids K (upd H q o) S qs ds:=by
 induction h with
 | nil=>exact .nil
 | cons h t n' _ r=>exact .cons (by rw [qp (fun z=>n (by rw [z];exact .head _))];exact h) (t.off m fun b u z e=>by rw [qp (fun y=>z (by rw [y];exact hq))];exact e) n' (r fun z=>n (.tail _ z))
theorem Mx.upd {q:Kd}{o:HO}{vs:List V}(m:Dm S H)(hq:S q)(n:q∉qs)(h:Mx K H S qs vs ds):Mx K (upd H q o) S qs vs ds:=by
 have off:Off S H (L2.upd H q o):=fun b u z e=>by rw [qp (fun y=>z (by rw [y];exact hq))];exact e
 induction h with
 | nil=>exact .nil
 | kid h t n' _ r=>exact .kid (by rw [qp (fun z=>n (by rw [z];exact .head _))];exact h) (t.off m off) n' (r fun z=>n (.tail _ z))
 | flt a f _ r=>exact .flt (a.off m off) f (r n)
theorem Mx.length {vs:List V}(h:Mx K H S qs vs ds):vs.length=ds.length:=by
 induction h with
 | nil=>rfl
 | kid _ _ _ _ r=>rw [Kk,Kk,r]
 | flt _ _ _ r=>rw [Kk,Kk,r]
theorem DeepO.same (e:Same H H')(h:DeepO K H S fp p d):DeepO K H' S fp p d:=by
 cases h with
 | tpl h t=>exact .tpl (e _ _ h) (t.same e)
 | lst h n t=>exact .lst (e _ _ h) n (t.same e)
 | dct h k v n t=>exact .dct (e _ _ h) (k.same e) v n (t.same e)
theorem DeepO.sub (e:∀ a,H a≠none->S' a->S a)(h:DeepO K H S fp p d):DeepO K H S' fp p d:=by
 cases h with
 | tpl h t=>exact .tpl h (t.sub e)
 | lst h n t=>exact .lst h n (t.sub e)
 | dct h k v n t=>exact .dct h (k.sub e) v n (t.sub e)
theorem DeepO.mut (h:DeepO K H S fp p d):∀ q∈fp,∃ o,H q=some o/\Q7 o=true:=by
 cases h with
 | tpl h t=>exact t.mut
 | lst h n t=>exact fun q hq=>(Ks.mp hq).elim (fun e=>by rw [e];exact ⟨_,h,rfl⟩) (t.mut q)
 | dct h k v n t=>exact fun q hq=>(Ks.mp hq).elim (fun e=>by rw [e];exact ⟨_,h,rfl⟩) (t.mut q)
theorem DeepO.den (h:DeepO K H S fp p d)(n:∀ q∈fp,¬ S' q)(e:∀ a,H a≠none->S' a->S a):Den K H S' (.ref p) d:=by
 cases h with
 | tpl h t=>exact .tuple (.inl (.inl h)) (t.den e n)
 | lst h _ t=>exact .list (SqLS.new h (n _ (.head _))) (t.den e fun q hq=>n q (.tail _ hq))
 | dct h k v _ t=>exact .dict ⟨h,n _ (.head _)⟩ (k.sub e) (by rw [v];exact t.den e fun q hq=>n q (.tail _ hq))
theorem DeepO.upd {q:Kd}{o:HO}(m:Dm S H)(h:DeepO K H S fp p d)(hq:S q)(ne:q∉fp):DeepO K (upd H q o) S fp p d:=by
 have off:Off S H (L2.upd H q o):=fun b u n e=>by
  rw [qp (fun z=>n (by rw [z];exact hq))];exact e
 cases h with
 | tpl h t=>exact .tpl (by rw [qp (fun z=>m.tup (.inl h) (by rw [z];exact hq))];exact h) (t.upd m hq ne)
 | lst h n t=>exact .lst (by rw [qp (fun z=>ne (by rw [z];exact .head _))];exact h) n (t.upd m hq fun z=>ne (.tail _ z))
 | dct h k v n t=>exact .dct (by rw [qp (fun z=>ne (by rw [z];exact .head _))];exact h) (k.off m off) v n (t.upd m hq fun z=>ne (.tail _ z))
end
abbrev Flt (M:ar)(i:Nat):Prop:=i∈M/\i+1000∉M
abbrev Dp (M:ar)(i:Nat):Prop:=i∈M/\i+1000∈M
abbrev Out0 (M:ar)(i:Nat):Prop:=i∉M/\i+1000∉M/\i<1000
structure SubM (A B:ar):Prop where
 sub:∀ i∈A,i∈B
 dp:∀ i∈A,i+1000∈B->i+1000∈A
theorem SubM.flt {A B:ar}{i:Nat}(h:SubM A B)(q:Flt A i):Flt B i:=⟨h.sub i q.1,fun z=>q.2 (h.dp i q.1 z)⟩
theorem SubM.deep {A B:ar}{i:Nat}(h:SubM A B)(q:Dp A i):Dp B i:=⟨h.sub i q.1,h.sub _ q.2⟩
def Has (ρ:Rho)(i:Nat):Prop:=∃ d:Ka,ρ[i]?=some (some d)
structure DeepF (K:Kb)(G:Gm)(M:ar)(H:Hp)(S:Av)(σ:St)(ρ:Rho)(F:Nat->List Kd):Prop where
 own:∀ i,Dp M i->∀ d,ρ[i]?=some (some d)->∃ p,σ[i]?=some (some (.ref p))/\DeepO K H S (F i) p d/\∀ q∈F i,S q/\¬ G.S0 q/\G.H0 q=none
 disj:∀ i,Dp M i->∀ j,Dp M j->Has ρ i->Has ρ j->∀ q,q∈F i->q∈F j->i=j
 flat:∀ i,Flt M i->∀ j,Dp M j->Has ρ i->Has ρ j->∀ p,σ[i]?=some (some (.ref p))->p∉F j
structure OwnS (K:Kb)(G:Gm)(M L:ar)(H:Hp)(S:Av)(σ:St)(ρ:Rho):Prop where
 ds:DenS K H S M σ ρ
 s0:∀ a,G.S0 a->S a
 h0:Same G.H0 H
 own:∀ i,Flt M i->∀ d,ρ[i]?=some (some d)->∃ p,σ[i]?=some (some (.ref p))/\OwnO K H S p d/\S p/\¬ G.S0 p/\(i∉L->G.H0 p=none)/\(i∈L->(p,d)=G.lk i)
 apart:∀ i,Flt M i->∀ j,Flt M j->∀ d e p,ρ[i]?=some (some d)->ρ[j]?=some (some e)->σ[i]?=some (some (.ref p))->σ[j]?=some (some (.ref p))->i=j
 bnd:∀ a,S a->G.S0 a\/G.H0 a=none\/∃ i∈L,a=(G.lk i).1
 lkd:∀ i∈L,Flt M i/\ρ[i]?=some (some (G.lk i).2)
 deep:∃ F,DeepF K G M H S σ ρ F
section
variable {K:Kb}{G:Gm}{M M' L:ar}{H H':Hp}{S:Av}{σ:St}{ρ:Rho}{v:V}{d:Ka}
theorem OwnS.same (e:Same H H')(h:OwnS K G M L H S σ ρ):OwnS K G M L H' S σ ρ :=
 ⟨h.ds.same e,h.s0,h.h0.trans e,fun i hi d q=>let ⟨p,a,b,c⟩:=h.own i hi d q;⟨p,a,b.same e,c⟩,h.apart,h.bnd,h.lkd,let ⟨F,f⟩:=h.deep;⟨F,fun i hi d q=>let ⟨p,a,b,c⟩:=f.own i hi d q;⟨p,a,b.same e,c⟩,f.disj,f.flat⟩⟩
theorem OwnS.lks (h:OwnS K G M L H S σ ρ):∀ i∈L,S (G.lk i).1:=fun i hi=>by
 obtain ⟨hm,e⟩:=h.lkd i hi
 obtain ⟨p,_,_,c,_,_,w⟩:=h.own i hm _ e
 rw [← w hi];exact c
theorem OwnS.den (h:OwnS K G M L H S σ ρ):DenS K H G.S0 [] σ ρ:=by
 refine ⟨h.ds.1.sub h.s0,h.ds.2.1,fun i d _ q=>?_⟩
 by_cases hi:i∈M
 ·by_cases hk:i+1000∈M
  ·obtain ⟨F,f⟩:=h.deep
   obtain ⟨p,a,b,c⟩:=f.own i ⟨hi,hk⟩ d q
   exact ⟨_,a,b.den (fun q hq=>(c q hq).2.1) fun a _ z=>h.s0 a z⟩
  ·obtain ⟨p,a,b,c,n,_⟩:=h.own i ⟨hi,hk⟩ d q
   exact ⟨_,a,b.den n fun a _ z=>h.s0 a z⟩
 ·obtain ⟨v,a,b⟩:=h.ds.2.2 i d hi q
  exact ⟨v,a,b.sub fun a _ z=>h.s0 a z⟩
theorem qj {α:Type}{xs:List α}{i j:Nat}{x:α}(h:i≠j):(xs.set i x)[j]?=xs[j]?:=V1 h
theorem OwnS.set (h:OwnS K G M L H S σ ρ)(q:Den K H S v d){i:Nat}(hi:i∉M):OwnS K G M L H S (σ.set i (some v)) (ρ.set i (some d)):=by
 have ne:∀ j∈M,i≠j:=fun j hj e=>hi (by rw [e];exact hj)
 obtain ⟨F,f⟩:=h.deep
 refine ⟨h.ds.set q i,h.s0,h.h0,fun j hj e he=>?_,fun j hj k hk e e' p h1 h2 h3 h4=>?_,h.bnd,fun j hj=>⟨(h.lkd j hj).1,by rw [qj (ne j (h.lkd j hj).1.1)];exact (h.lkd j hj).2⟩,F,fun j hj e he=>?_,fun j hj k hk h1 h2=>?_,fun j hj k hk h1 h2 p h3=>?_⟩
 ·rw [qj (ne j hj.1)] at he ⊢
  exact h.own j hj e he
 ·rw [qj (ne j hj.1)] at h1 h3
  rw [qj (ne k hk.1)] at h2 h4
  exact h.apart j hj k hk e e' p h1 h2 h3 h4
 ·rw [qj (ne j hj.1)] at he ⊢
  exact f.own j hj e he
 ·unfold Has at h1 h2
  rw [qj (ne j hj.1)] at h1
  rw [qj (ne k hk.1)] at h2
  exact f.disj j hj k hk h1 h2
 ·unfold Has at h1 h2
  rw [qj (ne j hj.1)] at h1 h3
  rw [qj (ne k hk.1)] at h2
  exact f.flat j hj k hk h1 h2 p h3
theorem OwnS.frz (h:OwnS K G M L H S σ ρ)(hs:SubM M' M)(hl:∀ i∈L,i∈M->i∈M'):∃ S',OwnS K G M' L H S' σ ρ:=by
 obtain ⟨F,f⟩:=h.deep
 have sb:∀ a,(S a/\(¬ ∃ i,Flt M i/\i∉M'/\Has ρ i/\σ[i]?=some (some (.ref a)))/\¬ ∃ i,Dp M i/\i∉M'/\Has ρ i/\a∈F i)->S a:=fun a z=>z.1
 refine ⟨fun a=>S a/\(¬ ∃ i,Flt M i/\i∉M'/\Has ρ i/\σ[i]?=some (some (.ref a)))/\¬ ∃ i,Dp M i/\i∉M'/\Has ρ i/\a∈F i,⟨?_,?_,?_⟩,?_,h.h0,?_,?_,?_,fun i hi=>⟨⟨hl i hi (h.lkd i hi).1.1,fun z=>(h.lkd i hi).1.2 (hs.sub _ z)⟩,(h.lkd i hi).2⟩,F,?_,?_,?_⟩
 ·exact h.ds.1.sub fun a z=>z.1
 ·exact h.ds.2.1
 ·intro i d hi q
  by_cases hm:i∈M
  ·by_cases hk:i+1000∈M
   ·obtain ⟨p,a,b,c⟩:=f.own i ⟨hm,hk⟩ d q
    exact ⟨_,a,b.den (fun r hr z=>z.2.2 ⟨i,⟨hm,hk⟩,hi,⟨d,q⟩,hr⟩) fun a _ z=>z.1⟩
   ·obtain ⟨p,a,b,c,_⟩:=h.own i ⟨hm,hk⟩ d q
    exact ⟨_,a,b.den (fun z=>z.2.1 ⟨i,⟨hm,hk⟩,hi,⟨d,q⟩,a⟩) fun a _ z=>z.1⟩
  ·obtain ⟨v,a,b⟩:=h.ds.2.2 i d hm q
   exact ⟨v,a,b.sub fun a _ z=>z.1⟩
 ·intro a ha
  refine ⟨h.s0 a ha,fun ⟨i,hm,hi,⟨d,q⟩,e⟩=>?_,fun ⟨i,hm,hi,⟨d,q⟩,e⟩=>?_⟩
  ·obtain ⟨p,e',b,c,n,_⟩:=h.own i hm d q
   rw [e] at e';cases e'
   exact n ha
  ·obtain ⟨p,e',b,c⟩:=f.own i hm d q
   exact (c a e).2.1 ha
 ·intro i hi d q
  obtain ⟨p,a,b,c,n,w,w'⟩:=h.own i (hs.flt hi) d q
  refine ⟨p,a,b.sub fun a _ z=>z.1,⟨c,fun ⟨j,hj,hj',⟨e,q'⟩,a'⟩=>?_,fun ⟨j,hj,hj',q',a'⟩=>?_⟩,n,w,w'⟩
  ·have:=h.apart i (hs.flt hi) j hj d e p q q' a a'
   subst this
   exact hj' hi.1
  ·exact f.flat i (hs.flt hi) j hj ⟨d,q⟩ q' p a a'
 ·exact fun i hi j hj=>h.apart i (hs.flt hi) j (hs.flt hj)
 ·exact fun a z=>h.bnd a z.1
 ·intro i hi d q
  obtain ⟨p,a,b,c⟩:=f.own i (hs.deep hi) d q
  refine ⟨p,a,b.sub fun a _ z=>z.1,fun r hr=>⟨⟨(c r hr).1,fun ⟨j,hj,hj',q',a'⟩=>?_,fun ⟨j,hj,hj',q',a'⟩=>?_⟩,(c r hr).2⟩⟩
  ·exact f.flat j hj i (hs.deep hi) q' ⟨d,q⟩ r a' hr
  ·have:=f.disj i (hs.deep hi) j hj ⟨d,q⟩ q' r hr a'
   subst this
   exact hj' hi.1
 ·exact fun i hi j hj=>f.disj i (hs.deep hi) j (hs.deep hj)
 ·exact fun i hi j hj=>f.flat i (hs.flt hi) j (hs.deep hj)
theorem qdh {i j:Nat}(hi:Out0 M i)(hj:Flt M j):Flt (i::M) j:=⟨.tail _ hj.1,fun z=>by rcases Ks.mp z with e|z;(have:=hi.2.2;omega);exact hj.2 z⟩
theorem Z6 {i j:Nat}(hj:Flt (i::M) j)(ne:i≠j):Flt M j:=⟨(Ks.mp hj.1).resolve_left fun z=>ne z.symm,fun z=>hj.2 (.tail _ z)⟩
theorem w5 {i j:Nat}(hi:Out0 M i)(hj:Dp (i::M) j):Dp M j:=by
 have q:j+1000∈M:=(Ks.mp hj.2).resolve_left fun z=>by have:=hi.2.2;omega
 refine ⟨(Ks.mp hj.1).resolve_left fun z=>hi.2.1 (by rw [← z];exact q),q⟩
theorem OwnS.take (h:OwnS K G M L H S σ ρ){p:Kd}{i:Nat}(hn:H p=none)(e:Same H H')(o:OwnO K H' (insA S p) p d)(hi:Out0 M i)(hl:i∉L)(hz:i<ρ.length):OwnS K G (i::M) L H' (insA S p) (σ.set i (some (.ref p))) (ρ.set i (some d)):=by
 have np:¬ S p:=h.ds.1.free hn
 have sub:∀ a,H a≠none->insA S p a->S a:=fun a ha z=>by
  rcases z with z|rfl
  ·exact z
  ·exact absurd hn ha
 have ne:∀ j∈M,i≠j:=fun j hj e=>hi.1 (by rw [e];exact hj)
 have hz':i<σ.length:=by rw [h.ds.2.1];exact hz
 have gi:(ρ.set i (some d))[i]?=some (some d):=KZ hz
 have gi':(σ.set i (some (.ref p)))[i]?=some (some (.ref p)):=KZ hz'
 obtain ⟨F,f⟩:=h.deep
 refine ⟨⟨(h.ds.1.same e).ins o.mut,by rw [Vo,Vo];exact h.ds.2.1,fun j d' hj q=>?_⟩,fun a z=>.inl (h.s0 a z),h.h0.trans e,fun j hj d' q=>?_,fun j hj k hk d1 d2 q h1 h2 h3 h4=>?_,fun a z=>?_,fun j hj=>⟨qdh hi (h.lkd j hj).1,by rw [qj (fun z=>hl (by rw [z];exact hj))];exact (h.lkd j hj).2⟩,
  F,fun j hj d' q=>?_,fun j hj k hk h1 h2=>?_,fun j hj k hk h1 h2 r h3=>?_⟩
 ·have hij:i≠j:=fun z=>hj (by rw [z];exact .head _)
  rw [qj hij] at q ⊢
  obtain ⟨v,a,b⟩:=h.ds.2.2 j d' (fun z=>hj (.tail _ z)) q
  exact ⟨v,a,(b.sub sub).same e⟩
 ·by_cases hij:i=j
  ·subst hij
   rw [gi] at q;cases q
   exact ⟨p,gi',o,.inr rfl,fun z=>np (h.s0 p z),fun _=>h.h0.free hn,fun z=>absurd z hl⟩
  ·rw [qj hij] at q ⊢
   obtain ⟨q',a,b,c,n,w⟩:=h.own j (Z6 hj hij) d' q
   exact ⟨q',a,(b.sub sub).same e,.inl c,n,w⟩
 ·have key:∀ m,Flt M m->∀ (d':Ka) (q:Kd),(ρ.set i (some d))[m]?=some (some d')->(σ.set i (some (.ref p)))[m]?=some (some (.ref q))->q≠p:=fun m hm d' q e1 e2 z=>by
   rw [qj (ne m hm.1)] at e1 e2
   obtain ⟨q',a,b,_⟩:=h.own m hm d' e1
   rw [e2] at a;cases a
   subst z
   exact b.dom hn
  by_cases ej:i=j
  ·by_cases ek:i=k
   ·rw [← ej,← ek]
   ·rw [← ej,gi'] at h3
    cases h3
    exact absurd rfl (key k (Z6 hk ek) d2 p h2 h4)
  ·by_cases ek:i=k
   ·rw [← ek,gi'] at h4
    cases h4
    exact absurd rfl (key j (Z6 hj ej) d1 p h1 h3)
   ·rw [qj ej] at h1 h3
    rw [qj ek] at h2 h4
    exact h.apart j (Z6 hj ej) k (Z6 hk ek) d1 d2 q h1 h2 h3 h4
 ·rcases z with z|rfl
  ·exact h.bnd a z
  ·exact .inr (.inl (h.h0.free hn))
 ·have hj':=w5 hi hj
  rw [qj (ne j hj'.1)] at q ⊢
  obtain ⟨q',a,b,c⟩:=f.own j hj' d' q
  exact ⟨q',a,(b.sub sub).same e,fun r hr=>⟨.inl (c r hr).1,(c r hr).2⟩⟩
 ·have hj':=w5 hi hj
  have hk':=w5 hi hk
  unfold Has at h1 h2
  rw [qj (ne j hj'.1)] at h1
  rw [qj (ne k hk'.1)] at h2
  exact f.disj j hj' k hk' h1 h2
 ·have hk':=w5 hi hk
  unfold Has at h1 h2
  rw [qj (ne k hk'.1)] at h2
  by_cases ej:i=j
  ·rw [← ej,gi'] at h3
   cases h3
   obtain ⟨d2,e2⟩:=h2
   obtain ⟨q',a,b,c⟩:=f.own k hk' d2 e2
   intro z
   obtain ⟨o2,z2,_⟩:=b.mut p z
   rw [hn] at z2;cases z2
  ·rw [qj ej] at h1 h3
   exact f.flat j (Z6 hj ej) k hk' h1 h2 r h3
def insL (S:Av)(fp:az):Av:=fun a=>S a\/a∈fp
theorem Dm.insL {fp:az}(m:Dm S H)(h:∀ q∈fp,∃ o,H q=some o/\Q7 o=true):Dm (insL S fp) H:=fun a ha=>by
 rcases ha with ha|ha
 ·exact m a ha
 ·exact h a ha
theorem qbB {i j:Nat}(hj:j∈i::(i+1000)::M)(ne:i≠j)(n2:j≠i+1000):j∈M:=(Ks.mp ((Ks.mp hj).resolve_left fun z=>ne z.symm)).resolve_left n2
theorem ju {i j:Nat}(hj:Flt (i::(i+1000)::M) j)(n2:j≠i+1000):i≠j/\Flt M j:=by
 have ne:i≠j:=fun z=>hj.2 (by rw [← z];exact .tail _ (.head _))
 exact ⟨ne,qbB hj.1 ne n2,fun z=>hj.2 (.tail _ (.tail _ z))⟩
theorem wD {i j:Nat}(hi:i<1000)(hj:Dp (i::(i+1000)::M) j)(ne:i≠j)(n2:j≠i+1000):Dp M j:=by
 refine ⟨qbB hj.1 ne n2,?_⟩
 rcases Ks.mp hj.2 with z|z
 ·omega
 ·rcases Ks.mp z with z|z
  ·omega
  ·exact z
theorem qew {i j:Nat}(hi:i<1000)(hj:Flt M j)(ne:i≠j):Flt (i::(i+1000)::M) j:=⟨.tail _ (.tail _ hj.1),fun z=>by
 rcases Ks.mp z with z|z
 ·omega
 ·rcases Ks.mp z with z|z
  ·omega
  ·exact hj.2 z⟩
theorem qdk {i:Nat}(h:Has ρ i):i<ρ.length:=by
 obtain ⟨d,e⟩:=h
 exact (Kz.mp e).1
theorem OwnS.takeD (h:OwnS K G M L H S σ ρ){p:Kd}{fp:az}{i:Nat}(hn:∀ q∈fp,H q=none)(e:Same H H')(o:DeepO K H' (insL S fp) fp p d)(hi:Out0 M i)(hl:i∉L)(hz:i<ρ.length)(hz2:ρ.length<=1000) :
  OwnS K G (i::(i+1000)::M) L H' (insL S fp) (σ.set i (some (.ref p))) (ρ.set i (some d)):=by
 have sub:∀ a,H a≠none->insL S fp a->S a:=fun a ha z=>by
  rcases z with z|z
  ·exact z
  ·exact absurd (hn a z) ha
 have hz':i<σ.length:=by rw [h.ds.2.1];exact hz
 have gi:(ρ.set i (some d))[i]?=some (some d):=KZ hz
 have gi':(σ.set i (some (.ref p)))[i]?=some (some (.ref p)):=KZ hz'
 have n2:∀ j,Has (ρ.set i (some d)) j->j≠i+1000:=fun j hj=>by
  have:=qdk hj
  rw [Vo] at this
  omega
 obtain ⟨F,f⟩:=h.deep
 have fne:∀ j,j≠i->(if j=i then fp else F j)=F j:=fun j hj=>if_neg hj
 refine ⟨⟨(h.ds.1.same e).insL o.mut,by rw [Vo,Vo];exact h.ds.2.1,fun j d' hj q=>?_⟩,fun a z=>.inl (h.s0 a z),h.h0.trans e,fun j hj d' q=>?_,fun j hj k hk d1 d2 q h1 h2 h3 h4=>?_,fun a z=>?_,fun j hj=>?_,
  fun j=>if j=i then fp else F j,fun j hj d' q=>?_,fun j hj k hk h1 h2=>?_,fun j hj k hk h1 h2 r h3=>?_⟩
 ·have hij:i≠j:=fun z=>hj (by rw [z];exact .head _)
  rw [qj hij] at q ⊢
  obtain ⟨v,a,b⟩:=h.ds.2.2 j d' (fun z=>hj (.tail _ (.tail _ z))) q
  exact ⟨v,a,(b.sub sub).same e⟩
 ·obtain ⟨hij,hj'⟩:=ju hj (n2 j ⟨d',q⟩)
  rw [qj hij] at q ⊢
  obtain ⟨q',a,b,c,n,w⟩:=h.own j hj' d' q
  exact ⟨q',a,(b.sub sub).same e,.inl c,n,w⟩
 ·obtain ⟨ej,hj'⟩:=ju hj (n2 j ⟨d1,h1⟩)
  obtain ⟨ek,hk'⟩:=ju hk (n2 k ⟨d2,h2⟩)
  rw [qj ej] at h1 h3
  rw [qj ek] at h2 h4
  exact h.apart j hj' k hk' d1 d2 q h1 h2 h3 h4
 ·rcases z with z|z
  ·exact h.bnd a z
  ·exact .inr (.inl (h.h0.free (hn a z)))
 ·have ne:i≠j:=fun z=>hl (by rw [z];exact hj)
  exact ⟨qew hi.2.2 (h.lkd j hj).1 ne,by rw [qj ne];exact (h.lkd j hj).2⟩
 ·by_cases hij:i=j
  ·subst hij
   rw [gi] at q;cases q
   rw [if_pos rfl]
   exact ⟨p,gi',o,fun r hr=>⟨.inr hr,fun z=>h.ds.1.free (hn r hr) (h.s0 r z),h.h0.free (hn r hr)⟩⟩
  ·rw [fne j (KN hij)]
   have hj':=wD hi.2.2 hj hij (n2 j ⟨d',q⟩)
   rw [qj hij] at q ⊢
   obtain ⟨q',a,b,c⟩:=f.own j hj' d' q
   exact ⟨q',a,(b.sub sub).same e,fun r hr=>⟨.inl (c r hr).1,(c r hr).2⟩⟩
 ·have old:∀ j,i≠j->Dp (i::(i+1000)::M) j->Has (ρ.set i (some d)) j->Has ρ j/\Dp M j/\∀ r∈F j,r∉fp:=fun j ne hj h1=>by
   have hj':=wD hi.2.2 hj ne (n2 j h1)
   unfold Has at h1
   rw [qj ne] at h1
   refine ⟨h1,hj',fun r hr z=>?_⟩
   obtain ⟨d2,e2⟩:=h1
   obtain ⟨q',a,b,c⟩:=f.own j hj' d2 e2
   obtain ⟨o2,z2,_⟩:=b.mut r hr
   rw [hn r z] at z2;cases z2
  intro r hr hr'
  by_cases ej:i=j
  ·by_cases ek:i=k
   ·rw [← ej,← ek]
   ·rw [if_pos ej.symm] at hr
    rw [fne k (KN ek)] at hr'
    exact absurd hr ((old k ek hk h2).2.2 r hr')
  ·rw [fne j (KN ej)] at hr
   by_cases ek:i=k
   ·rw [if_pos ek.symm] at hr'
    exact absurd hr' ((old j ej hj h1).2.2 r hr)
   ·rw [fne k (KN ek)] at hr'
    exact f.disj j (old j ej hj h1).2.1 k (old k ek hk h2).2.1 (old j ej hj h1).1 (old k ek hk h2).1 r hr hr'
 ·obtain ⟨ej,hj'⟩:=ju hj (n2 j h1)
  obtain ⟨d1,e1⟩:=h1
  rw [qj ej] at e1 h3
  by_cases ek:i=k
  ·rw [if_pos ek.symm]
   intro z
   obtain ⟨q',a,b,c⟩:=h.own j hj' d1 e1
   rw [h3] at a;cases a
   exact b.dom (hn _ z)
  ·rw [fne k (KN ek)]
   have hk':=wD hi.2.2 hk ek (n2 k h2)
   unfold Has at h2
   rw [qj ek] at h2
   exact f.flat j hj' k hk' ⟨d1,e1⟩ h2 r h3
theorem OwnS.write (h:OwnS K G M L H S σ ρ){p:Kd}{i:Nat}{o:HO}{d₀:Ka}(hi:Flt M i)(hl:i∉L)(e0:ρ[i]?=some (some d₀))(e1:σ[i]?=some (some (.ref p)))(hm:Q7 o=true)(ow:OwnO K (upd H p o) S p d):OwnS K G M L (upd H p o) S σ (ρ.set i (some d)):=by
 obtain ⟨p',a,b,c,n,w,_⟩:=h.own i hi d₀ e0
 rw [e1] at a;cases a
 have off:Off S H (upd H p o):=fun b u z e=>by
  rw [qp (fun y=>z (by rw [y];exact c))];exact e
 have hz:i<ρ.length:=(Kz.mp e0).1
 have get:∀ m d',(ρ.set i (some d))[m]?=some (some d')->∃ d'',ρ[m]?=some (some d''):=fun m d' q=>by
  by_cases him:i=m
  ·subst him;exact ⟨_,e0⟩
  ·rw [qj him] at q;exact ⟨_,q⟩
 have get2:∀ m,Has (ρ.set i (some d)) m->Has ρ m:=fun m ⟨d',q⟩=>get m d' q
 have dne:∀ j,Dp M j->i≠j:=fun j hj z=>hi.2 (by rw [z];exact hj.2)
 obtain ⟨F,f⟩:=h.deep
 refine ⟨⟨h.ds.1.upd hm,by rw [Vo];exact h.ds.2.1,fun j d' hj q=>?_⟩,h.s0,fun a u q=>?_,fun j hj d' q=>?_,fun j hj k hk d1 d2 q h1 h2 h3 h4=>?_,h.bnd,fun j hj=>⟨(h.lkd j hj).1,by rw [qj (fun z=>hl (by rw [z];exact hj))];exact (h.lkd j hj).2⟩,
  F,fun j hj d' q=>?_,fun j hj k hk h1 h2=>f.disj j hj k hk (get2 j h1) (get2 k h2),fun j hj k hk h1 h2=>f.flat j hj k hk (get2 j h1) (get2 k h2)⟩
 ·have hij:i≠j:=fun z=>hj (by rw [← z];exact hi.1)
  rw [qj hij] at q
  obtain ⟨v,a,b⟩:=h.ds.2.2 j d' hj q
  exact ⟨v,a,b.off h.ds.1 off⟩
 ·have:a≠p:=fun z=>by subst z;rw [w hl] at q;cases q
  rw [qp this]
  exact h.h0 a u q
 ·by_cases hij:i=j
  ·subst hij
   rw [KZ hz] at q;cases q
   exact ⟨p,e1,ow,c,n,w,fun z=>absurd z hl⟩
  ·rw [qj hij] at q
   obtain ⟨q',a,b',c',n',w'⟩:=h.own j hj d' q
   have:q'≠p:=fun z=>by subst z;exact hij (h.apart i hi j hj d₀ d' q' e0 q e1 a)
   exact ⟨q',a,b'.upd h.ds.1 c hm this,c',n',w'⟩
 ·obtain ⟨x1,y1⟩:=get j d1 h1
  obtain ⟨x2,y2⟩:=get k d2 h2
  exact h.apart j hj k hk x1 x2 q y1 y2 h3 h4
 ·rw [qj (dne j hj)] at q
  obtain ⟨q',a,b',c'⟩:=f.own j hj d' q
  exact ⟨q',a,b'.upd h.ds.1 c (f.flat i hi j hj ⟨_,e0⟩ ⟨_,q⟩ p e1),c'⟩
theorem OwnS.writeD (h:OwnS K G M L H S σ ρ){F:Nat->List Kd}(f:DeepF K G M H S σ ρ F){p q2:Kd}{i:Nat}{o:HO}{d₀:Ka}(hi:Dp M i)(e0:ρ[i]?=some (some d₀))(e1:σ[i]?=some (some (.ref p)))(hq:q2∈F i)(hm:Q7 o=true)(ow:DeepO K (upd H q2 o) S (F i) p d) :
  OwnS K G M L (upd H q2 o) S σ (ρ.set i (some d)):=by
 obtain ⟨p',a,b,cc⟩:=f.own i hi d₀ e0
 rw [e1] at a;cases a
 obtain ⟨c,n,w⟩:=cc q2 hq
 have off:Off S H (upd H q2 o):=fun b u z e=>by
  rw [qp (fun y=>z (by rw [y];exact c))];exact e
 have hz:i<ρ.length:=(Kz.mp e0).1
 have get:∀ m d',(ρ.set i (some d))[m]?=some (some d')->∃ d'',ρ[m]?=some (some d''):=fun m d' q=>by
  by_cases him:i=m
  ·subst him;exact ⟨_,e0⟩
  ·rw [qj him] at q;exact ⟨_,q⟩
 have get2:∀ m,Has (ρ.set i (some d)) m->Has ρ m:=fun m ⟨d',q⟩=>get m d' q
 have dne:∀ j,Flt M j->i≠j:=fun j hj z=>hj.2 (by rw [← z];exact hi.2)
 refine ⟨⟨h.ds.1.upd hm,by rw [Vo];exact h.ds.2.1,fun j d' hj q=>?_⟩,h.s0,fun a u q=>?_,fun j hj d' q=>?_,fun j hj k hk d1 d2 q h1 h2 h3 h4=>?_,h.bnd,fun j hj=>⟨(h.lkd j hj).1,by rw [qj (dne j (h.lkd j hj).1)];exact (h.lkd j hj).2⟩,
  F,fun j hj d' q=>?_,fun j hj k hk h1 h2=>f.disj j hj k hk (get2 j h1) (get2 k h2),fun j hj k hk h1 h2=>f.flat j hj k hk (get2 j h1) (get2 k h2)⟩
 ·have hij:i≠j:=fun z=>hj (by rw [← z];exact hi.1)
  rw [qj hij] at q
  obtain ⟨v,a,b⟩:=h.ds.2.2 j d' hj q
  exact ⟨v,a,b.off h.ds.1 off⟩
 ·have e2:=h.h0 a u q
  by_cases ne:a=q2
  ·rw [ne,w] at q;cases q
  ·rw [qp ne];exact e2
 ·rw [qj (dne j hj)] at q
  obtain ⟨q',a,b',c',n',w'⟩:=h.own j hj d' q
  exact ⟨q',a,b'.upd h.ds.1 c hm (fun z=>by subst z;exact f.flat j hj i hi ⟨_,q⟩ ⟨_,e0⟩ _ a hq),c',n',w'⟩
 ·rw [qj (dne j hj)] at h1
  rw [qj (dne k hk)] at h2
  exact h.apart j hj k hk d1 d2 q h1 h2 h3 h4
 ·by_cases hij:i=j
  ·subst hij
   rw [KZ hz] at q;cases q
   exact ⟨p,e1,ow,cc⟩
  ·rw [qj hij] at q
   obtain ⟨q',a,b',c'⟩:=f.own j hj d' q
   exact ⟨q',a,b'.upd h.ds.1 c (fun z=>hij (f.disj i hi j hj ⟨_,e0⟩ ⟨_,q⟩ _ hq z)),c'⟩
noncomputable def cut (P:Prop)(o:Option HO):Option HO:=@ite _ P (Classical.propDecidable P) none o
theorem jo {P:Prop}{o:Option HO}(h:P):cut P o=none:=if_pos h
theorem J4 {P:Prop}{o:Option HO}(h:¬ P):cut P o=o:=if_neg h
noncomputable def Gm.base (G:Gm)(S:Av)(H:Hp):Gm:={ G with H0:=fun a=>cut (S a/\G.H0 a=none) (H a) }
theorem Ww (h:Same G.H0 H):Same G.H0 (G.base S H).H0:=fun a o q=>(J4 (fun z=>by rw [q] at z;cases z.2)).trans (h a o q)
theorem qao:Off S H (G.base S H).H0:=fun a o n q=>(J4 (fun z=>n z.1)).trans q
theorem qbG:Same (G.base S H).H0 H:=fun a o q=>by
 have q:cut (S a/\G.H0 a=none) (H a)=some o:=q
 by_cases h:S a/\G.H0 a=none
 ·rw [jo h] at q;cases q
 ·rw [J4 h] at q;exact q
theorem OwnS.base (h:OwnS K G M L H S σ ρ):OwnS K (G.base S H) M L H S σ ρ:=by
 obtain ⟨F,f⟩:=h.deep
 refine ⟨h.ds,h.s0,qbG,fun i hi d q=>?_,h.apart,fun a z=>?_,h.lkd,F,fun i hi d q=>let ⟨p,a,b,c⟩:=f.own i hi d q;⟨p,a,b,fun r hr=>⟨(c r hr).1,(c r hr).2.1,jo ⟨(c r hr).1,(c r hr).2.2⟩⟩⟩,f.disj,f.flat⟩
 ·obtain ⟨p,a,b,c,n,w,w'⟩:=h.own i hi d q
  exact ⟨p,a,b,c,n,fun hl=>jo ⟨c,w hl⟩,w'⟩
 ·rcases h.bnd a z with y|y|y
  ·exact .inl y
  ·exact .inr (.inl (jo ⟨z,y⟩))
  ·exact .inr (.inr y)
theorem OwnS.unbase {G':Gm}(s:Same G.H0 G'.H0)(e:G'.S0=G.S0)(e':G'.lk=G.lk)(h:OwnS K G' M L H S σ ρ):OwnS K G M L H S σ ρ:=by
 obtain ⟨F,f⟩:=h.deep
 refine ⟨h.ds,by rw [← e];exact h.s0,s.trans h.h0,fun i hi d q=>?_,h.apart,fun a z=>?_,by rw [← e'];exact h.lkd,F,fun i hi d q=>let ⟨p,a,b,c⟩:=f.own i hi d q;⟨p,a,b,fun r hr=>⟨(c r hr).1,by rw [← e];exact (c r hr).2.1,s.free (c r hr).2.2⟩⟩,f.disj,f.flat⟩
 ·obtain ⟨p,a,b,c,n,w,w'⟩:=h.own i hi d q
  exact ⟨p,a,b,c,by rw [← e];exact n,fun hl=>s.free (w hl),by rw [← e'];exact w'⟩
 ·rcases h.bnd a z with y|y|y
  ·exact .inl (by rw [← e];exact y)
  ·exact .inr (.inl (s.free y))
  ·exact .inr (.inr (by rw [← e'];exact y))
theorem OwnS.turn {G':Gm}{S':Av}{x:V}(s0:∀ a,G'.S0 a->S a)(sl:∀ i∈L,S (G'.lk i).1)(h:OwnS K G' M L H S' σ ρ)(q:Den K G'.H0 S x d):Den K H S' x d:=by
 refine (q.sub fun a ha z=>?_).same h.h0
 rcases h.bnd a z with y|y|⟨i,hi,rfl⟩
 ·exact s0 a y
 ·exact absurd y ha
 ·exact sl i hi
end
inductive Fr where
 | pl|nw|dp
def OutQ (K:Kb)(G:Gm)(M' Mb L:ar)(fr:Fr)(D:Ends):Out->Prop
 | .nx ρ=>∀ σ' H' S',OwnS K G M' L H' S' σ' ρ->D.nx σ' H'
 | .rt d=>match fr with
  | .nw=>∀ p H',Same G.H0 H'->G.H0 p=none->¬ G.S0 p->OwnO K H' (insA G.S0 p) p d->D.rt (.ref p) H'
  | .dp=>∀ p fp H',Same G.H0 H'->(∀ q∈fp,G.H0 q=none/\¬ G.S0 q)->DeepO K H' (insL G.S0 fp) fp p d->D.rt (.ref p) H'
  | .pl=>∀ v H',Same G.H0 H'->Den K H' G.S0 v d->D.rt v H'
 | .bk ρ=>∀ σ' H' S',OwnS K G Mb L H' S' σ' ρ->D.bk σ' H'
 | .ct ρ=>∀ σ' H' S',OwnS K G Mb L H' S' σ' ρ->D.ct σ' H'
def tDS (K:Kb)(G:Gm)(M L M' Mb:ar)(fr:Fr)(f:ao):TS:=fun D σ H=>∃ S ρ o,OwnS K G M L H S σ ρ/\f ρ=some o/\OutQ K G M' Mb L fr D o
def PDS (X:Cx)(G:Gm)(M L M' Mb:ar)(fr:Fr)(s:K1)(f:ao):Prop:=PS X s (tDS X.K G M L M' Mb fr f)
def PDSs (X:Cx)(G:Gm)(M L M' Mb:ar)(fr:Fr)(s:aY)(f:ao):Prop:=PSs X s (tDS X.K G M L M' Mb fr f)
def tF (K:Kb)(M:ar)(f:aa):TE:=fun σ H Q=>∃ S ρ d,DenS K H S M σ ρ/\f ρ=some d/\∀ p H',Same H H'->H p=none->OwnO K H' (insA S p) p d->Q (.ref p) H'
def PF (X:Cx)(M:ar)(e:Kr)(f:aa):Prop:=PE X e (tF X.K M f)
def Wa (f:aa):Rho->Option Ka:=fun ρ=>ob (f ρ) fun d=>if flat d=true then some d else none
noncomputable def flatO:Ka->Bool
 | .list ds=>Jt ds
 | _=>false
def seqO (u w:ao)(ρ:Rho):Option Out:=ob (u ρ) fun o=>match o with | .nx ρ'=>w ρ'|o=>some o
section
variable {X:Cx}{G:Gm}{M M1 M2 M' Mb L:ar}{fr:Fr}{a b c:Kr}{es:aH}{f g:aa}{p:ah}{pos:Pos}{s1:K1}{ss st1 st2:aY}{u w:ao}
theorem ZX (h:PF X M a f):PD X M a f:=h.weak fun σ H Q ⟨S,ρ,d,hs,e,q⟩=>⟨S,ρ,d,hs,e,fun p H' g n o=>q _ H' g (o.den (hs.1.free n) fun a _ z=>.inl z)⟩
theorem zF:PDSs X G M L M Mb fr [] sN:=qcC.weak fun D σ H ⟨S,ρ,o,hs,e,q⟩=>by cases e;exact q σ H S hs
theorem qm (h1:PDS X G M L M1 Mb fr s1 u)(h2:PDSs X G M1 L M2 Mb fr ss w):PDSs X G M L M2 Mb fr (s1::ss) (seqO u w) :=
 (qbk h1 h2).weak fun D σ H ⟨S,ρ,o,hs,e,q⟩=>by
  obtain ⟨o1,e1,e⟩:=qd e
  refine ⟨S,ρ,o1,hs,e1,?_⟩
  cases o1 with
  | nx ρ'=>exact fun σ' H' S' hs'=>⟨S',ρ',o,hs',e,q⟩
  | rt d=>cases e;exact q
  | bk d=>cases e;exact q
  | ct d=>cases e;exact q
theorem qC (h1:PDS X G M L M' Mb fr s1 u):PDSs X G M L M' Mb fr [s1] u:=qcD h1
def subB (A B:ar):Bool:=A.all fun i=>B.contains i&&(!(B.contains (i+1000))||A.contains (i+1000))
theorem qbu {A B:ar}(h:subB A B=true):∀ i∈A,i∈B:=fun i hi=>by
 have:=Vc.mp h i hi
 rw [Kt] at this
 simpa using this.1
theorem qcL {A B:ar}(h:subB A B=true):SubM A B:=⟨qbu h,fun i hi hk=>by
 have:=Vc.mp h i hi
 rw [Kt,UV] at this
 rcases this.2 with z|z
 ·rw [Bool.not_eq_true',← Bool.not_eq_true] at z
  exact absurd (by simpa using hk) z
 ·simpa using z⟩
theorem OutQ.drop {K:Kb}{D:Ends}{o:Out}(h1:subB M1 M'=true)(h2:subB L M1=true)(q:OutQ K G M1 Mb L fr D o):OutQ K G M' Mb L fr D o:=by
 cases o with
 | nx ρ=>exact fun σ' H' S' hs=>let ⟨S2,hs2⟩:=hs.frz (qcL h1) fun i hi _=>qbu h2 i hi;q σ' H' S2 hs2
 | rt d=>exact q
 | bk ρ=>exact q
 | ct ρ=>exact q
theorem qcp (h:PDSs X G M L M' Mb fr ss u)(h1:subB M1 M'=true:=by decide)(h2:subB L M1=true:=by decide):PDSs X G M L M1 Mb fr ss u :=
 h.weak fun D σ H ⟨S,ρ,o,hs,e,q⟩=>⟨S,ρ,o,hs,e,q.drop h1 h2⟩
theorem qP (h:PD X [] a f):PDS X G M L M' Mb .pl (.Return (some a) pos) (sRet f) :=
 (qd3 h).weak fun D σ H ⟨S,ρ,o,hs,e,q⟩=>by
  obtain ⟨d,e1,e⟩:=qd e
  cases e
  exact ⟨G.S0,ρ,d,hs.den,e1,fun v H' g1 d1=>q v H' (hs.h0.trans g1) d1⟩
theorem yr (i:Nat){x:Str}(hv:Vis X.env.scope x)(hN:X.N[i]?=some x:=by rfl)(hd:(x==("__debug__" : Str))=false:=by decide +kernel)
  (hcd:(x==("__classdict__" : Str))=false:=by decide +kernel):PE X (.Name x pos) (fun σ H Q=>∃ v,σ[i]?=some (some v)/\Q v H):=qbb hN hv hd hcd
theorem Qa {i:Nat}{ρ:Rho}{d:Ka}(e:vr i ρ=some d):ρ[i]?=some (some d):=by
 have e:(ρ[i]?).join=some d:=e
 cases h:ρ[i]? with
 | none=>rw [h] at e;cases e
 | some o=>rw [h] at e;exact congrArg some e
theorem Qf (hc:PDT X [] c p)(h1:PDSs X G M L M' Mb fr st1 u)(h2:PDSs X G M L M' Mb fr st2 w):PDS X G M L M' Mb fr (.If c st1 st2 pos) (sIf p u w) :=
 (ps_if hc h1 h2).weak fun D σ H ⟨S,ρ,o,hs,e,q⟩=>by
  obtain ⟨d,e1,e⟩:=qd e
  refine ⟨G.S0,ρ,d,hs.den,e1,fun H1 g1=>?_⟩
  cases d with
  | true=>exact iteT ⟨S,ρ,o,hs.same g1,e,q⟩
  | false=>exact iteF ⟨S,ρ,o,hs.same g1,e,q⟩
def tDG (K:Kb)(G:Gm)(M L:ar)(g:af):TG:=fun v σ H Q=>∃ S ρ d ρ',OwnS K G M L H S σ ρ/\Den K H S v d/\g d ρ=some ρ'/\∀ σ' H',Same H H'->OwnS K G M L H' S σ' ρ'->Q σ' H'
def tDGs (K:Kb)(G:Gm)(M L:ar)(g:aE):TGs:=fun vs σ H Q=>∃ S ρ ds ρ',OwnS K G M L H S σ ρ/\DenL K H S vs ds/\g ds ρ=some ρ'/\∀ σ' H',Same H H'->OwnS K G M L H' S σ' ρ'->Q σ' H'
def PDG (X:Cx)(G:Gm)(M L:ar)(t:Kr)(g:af):Prop:=PG X t (tDG X.K G M L g)
def PDGs (X:Cx)(G:Gm)(M L:ar)(t:aH)(g:aE):Prop:=PGs X t (tDGs X.K G M L g)
theorem qa4 (i:Nat){x:Str}(hN:X.N.Nodup)(hx:Loc X.env.scope x)(hM:i∉M)(hi:X.N[i]?=some x:=by rfl)(hf:X.fn x=true\/X.env.scope.names.lookup x=some .local:=by first|exact .inl rfl|exact .inr rfl|assumption):PDG X G M L (.Name x pos) (gNm i) :=
 (Wj hN hi hx hf).weak fun v σ H Q ⟨S,ρ,d,ρ',hs,hd,e,q⟩=>by
  cases e
  exact q _ H (Same.refl H) (hs.set hd hM)
theorem jU:PDGs X G M L [] gsN :=
 qcy.weak fun v σ H Q ⟨S,ρ,d,ρ',hs,hd,e,q⟩=>by
  cases hd with
  | nil=>cases e;exact ⟨rfl,q _ H (Same.refl H) hs⟩
  | cons a t=>cases e
theorem zJ {t:Kr}{ts:aH}{g1:af}{g2:aE}(h1:PDG X G M L t g1)(h2:PDGs X G M L ts g2)(hs:(assignEach (t::ts) X.env).map (·.2)=assign t X.env::(assignEach ts X.env).map (·.2):=by rfl) :
  PDGs X G M L (t::ts) (gsC g1 g2) :=
 (qbf h1 h2 hs).weak fun v σ H Q ⟨S,ρ,d,ρ',hs,hd,e,q⟩=>by
  cases hd with
  | nil=>cases e
  | cons a t =>
   obtain ⟨ρ1,e1,e⟩:=qd e
   exact ⟨_,_,rfl,S,ρ,_,ρ1,hs,a,e1,fun σ' H' g1 hs'=>⟨S,ρ1,_,ρ',hs',t.same g1,e,fun σ2 H2 g2 hs2=>q σ2 H2 (g1.trans g2) hs2⟩⟩
theorem yp {ts:aH}{k:Nat}{n:Nat}{g:aE}(hc:X.calm=true)(h:PDGs X G M L ts g)(hn:(assignEach ts X.env).length=n:=by rfl)(hst:(assignEach ts X.env).findIdx? (·.1)=none:=by rfl):PDG X G M L (.Tuple ts k pos) (unpD n g) :=
 (qdZ hc h hn hst).weak fun v σ H Q ⟨S,ρ,d,ρ',hs,hd,e,q⟩=>by
  cases hd with
  | @tuple a xs ds h t =>
   have e:(if ds.length=n then g ds ρ else none)=some ρ':=e
   split at e
   ·rename_i hl
    exact ⟨_,_,rfl,h,by rw [t.length];exact hl,S,ρ,_,ρ',hs,t,e,q⟩
   ·cases e
  | _=>cases e
theorem Wh {tg:Kr}{g:af}(he:PD X M a f)(hg:PDG X G M L tg g)(hs:swapsWithSole [tg] a pos.line X.env=pure false:=by rfl)(hw:swappedStores [tg] a X.env=pure none:=by rfl)
  (h1:(assignEach [tg] X.env).map (·.2)=[assign tg X.env]:=by rfl):PDS X G M L M Mb fr (.Assign [tg] a pos) (sAsg f g) :=
 (qd2 he hg hs hw h1).weak fun D σ H ⟨S,ρ,o,hs,e,q⟩=>by
  obtain ⟨d,e1,e⟩:=qd e
  obtain ⟨ρ',e2,e⟩:=qd e
  cases e
  exact ⟨S,ρ,d,hs.ds,e1,fun v H1 g1 d1=>⟨S,ρ,d,ρ',hs.same g1,d1,e2,fun σ2 H2 g2 hs2=>q σ2 H2 S hs2⟩⟩
theorem qF (i:Nat){x:Str}{p':Pos}(hN:X.N.Nodup)(hx:Loc X.env.scope x)(hi:X.N[i]?=some x)(hs:swapsWith a (some (.Name x p')) pos.line X.env=pure false)(hf:X.fn x=true\/X.env.scope.names.lookup x=some .local)(hM:i∉M)(he:PD X M a f) :
  PDS X G M L M Mb fr (.Assign [.Name x p'] a pos) (sSet i f) :=
 (Y7 hN hi hx he hs hf).weak fun D σ H ⟨S,ρ,o,hs,e,q⟩=>by
  obtain ⟨d,e1,e⟩:=qd e
  cases e
  exact ⟨S,ρ,d,hs.ds,e1,fun v H1 g1 d1=>q _ H1 S ((hs.same g1).set d1 hM)⟩
theorem qa7 (i:Nat){x:Str}{p':Pos}(hN:X.N.Nodup)(hx:Loc X.env.scope x)(hi:X.N[i]?=some x)(hs:swapsWith a (some (.Name x p')) pos.line X.env=pure false)(hf:X.fn x=true\/X.env.scope.names.lookup x=some .local)(hM:i∉M)(he:PD X [] a f) :
  PDS X G M L M Mb fr (.Assign [.Name x p'] a pos) (sSet i (Wa f)) :=
 (Y7 hN hi hx he hs hf).weak fun D σ H ⟨S,ρ,o,hs,e,q⟩=>by
  obtain ⟨d,e1,e⟩:=qd e
  cases e
  obtain ⟨d',e3,e4⟩:=qd e1
  split at e4
  ·rename_i hf
   cases e4
   exact ⟨G.S0,ρ,d,hs.den,e3,fun v H1 g1 d1=>q _ H1 S ((hs.same g1).set (d1.flat hf) hM)⟩
  ·cases e4
def Qz (i:Nat)(f:aa):Rho->Option Out:=fun ρ=>if i<ρ.length then ob (f ρ) fun d=>some (.nx (ρ.set i (some d))) else none
theorem Z0 (i:Nat){x:Str}{p':Pos}(hN:X.N.Nodup)(hx:Loc X.env.scope x)(hi:X.N[i]?=some x)(hs:swapsWith a (some (.Name x p')) pos.line X.env=pure false)(hf:X.fn x=true\/X.env.scope.names.lookup x=some .local)(hM:Out0 M i)(hL:i∉L)(he:PF X M a f) :
  PDS X G M L (i::M) Mb fr (.Assign [.Name x p'] a pos) (Qz i f) :=
 (Y7 hN hi hx he hs hf).weak fun D σ H ⟨S,ρ,o,hs,e,q⟩=>by
  unfold Qz at e
  split at e
  ·rename_i hz
   obtain ⟨d,e1,e⟩:=qd e
   cases e
   exact ⟨S,ρ,d,hs.ds,e1,fun p H1 g1 n o=>q _ H1 _ (hs.take n g1 o hM hL hz)⟩
  ·cases e
def forD (g:af)(body:ao):List Ka->Rho->Option Out
 | [],ρ=>some (.nx ρ)
 | d::ds,ρ=>ob (g d ρ) fun ρ1=>ob (body ρ1) fun o=>match o with
  | .nx ρ'=>forD g body ds ρ'
  | .ct ρ'=>forD g body ds ρ'
  | .bk ρ'=>some (.nx ρ')
  | .rt r=>some (.rt r)
def sFor (fi:ae)(g:af)(u:ao):Rho->Option Out:=fun ρ=>ob (fi ρ) fun ds=>forD g u ds ρ
theorem OutQ.based {K:Kb}{G':Gm}{D:Ends}{o:Out}(s:Same G.H0 G'.H0)(e:G'.S0=G.S0)(e':G'.lk=G.lk)(q:OutQ K G M' Mb L fr D o):OutQ K G' M' Mb L fr D o:=by
 cases o with
 | nx ρ=>exact fun σ' H' S' hs=>q σ' H' S' (hs.unbase s e e')
 | rt d =>
  cases fr with
  | nw=>exact fun p H' h0 n n' o=>q p H' (s.trans h0) (s.free n) (by rw [← e];exact n') (by rw [← e];exact o)
  | dp=>exact fun p fp H' h0 n o=>q p fp H' (s.trans h0) (fun r hr=>⟨s.free (n r hr).1,by rw [← e];exact (n r hr).2⟩) (by rw [← e];exact o)
  | pl=>exact fun v H' h0 d=>q v H' (s.trans h0) (by rw [← e];exact d)
 | bk ρ=>exact fun σ' H' S' hs=>q σ' H' S' (hs.unbase s e e')
 | ct ρ=>exact fun σ' H' S' hs=>q σ' H' S' (hs.unbase s e e')
theorem yq {tg iter:Kr}{body:aY}{fi:ae}{g:af}(hp:XF (model X.prog X.w) X.A X.env X.xe)(hc:X.calm=true)(hi:PDI X M tg iter fi)(hg:∀ G,PDG X G M L tg g)(hb:∀ G,PDSs X G M L M M fr body u)
  (hs:∀ x,foldedSetIterable iter X.env x=pure x:=by intro _;rfl):PDS X G M L M Mb fr (.For tg iter body [] pos) (sFor fi g u):=by
 have hg':PG X tg (fun v σ H Q=>∃ G,tDG X.K G M L g v σ H Q):=fun pins s σ H v u Q I r ⟨G,q⟩=>hg G pins s σ H v u Q I r q
 have hb':PSs X body (fun D σ H=>∃ G,tDS X.K G M L M M fr u D σ H):=fun pins s σ H D I ⟨G,q⟩=>hb G pins s σ H D I q
 refine (qbi hp hc hi hg' hb' hs).weak fun D σ H ⟨S,ρ,o,os,e,q⟩=>?_
 obtain ⟨ds,e1,e⟩:=qd e
 refine ⟨S,ρ,ds,os.ds,e1,fun J H1 g1 hJ0=>?_⟩
 have os1:=os.same g1
 have hJ:IsIt X.K S J ((G.base S H1).H0) ds:=hJ0 _ qao
 have bs:Same G.H0 (G.base S H1).H0:=Ww os1.h0
 have bo:=os1.base
 have sl:=os1.lks
 generalize hG:G.base S H1=G1 at hJ bs bo
 have eS:G1.S0=G.S0:=by rw [← hG];rfl
 have eL:G1.lk=G.lk:=by rw [← hG];rfl
 have sl1:∀ i∈L,S (G1.lk i).1:=by rw [eL];exact sl
 have s01:∀ a,G1.S0 a->S a:=by rw [eS];exact os.s0
 refine ⟨fun i m σ' H'=>m=ds.length-i/\i<=ds.length/\∃ S' ρ o,OwnS X.K G1 M L H' S' σ' ρ/\forD g u (ds.drop i) ρ=some o/\OutQ X.K G M Mb L fr D o,⟨ds.length,by simp,Vu _,S,ρ,o,bo,e,q⟩,?_⟩
 rintro i m σ' H' ⟨rfl,hi,S',ρ',o',hs',e',q'⟩
 by_cases hlt:i<ds.length
 ·rw [K9 hlt] at e'
  obtain ⟨ρ1,e2,e'⟩:=qd e'
  obtain ⟨o1,e3,e'⟩:=qd e'
  have key:∀ N:St->Hp->Prop,OutQ X.K G1 M M L fr { D with nx:=N,ct:=N,bk:=D.nx } o1->∀ x H2,J.yld i H' x H2->∃ G,tDG X.K G M L g x σ' H2 fun σ2 H2=>∃ G,tDS X.K G M L M M fr u { D with nx:=N,ct:=N,bk:=D.nx } σ2 H2:=fun N hN x H2 y=>by
   obtain ⟨e4,yd⟩:=hJ.yld i H' x H2 hs'.h0 y
   exact ⟨G1,S',ρ',_,ρ1,hs'.same e4,yd _ (Kj hlt) S' fun y e q=>(hs'.turn s01 sl1 q).same e4,e2,fun σ2 H3 g3 hs3=>⟨G1,S',ρ1,o1,hs3,e3,hN⟩⟩
  refine .inr ⟨hJ.go i H' hs'.h0 hlt,?_⟩
  have next:∀ ρ2,forD g u (ds.drop (i+1)) ρ2=some o'->∃ N:St->Hp->Prop,(∀ σ' H'',N σ' H''->∃ m',m'<ds.length-i/\(m'=ds.length-(i+1)/\i+1<=ds.length/\∃ S' ρ o,OwnS X.K G1 M L H'' S' σ' ρ/\forD g u (ds.drop (i+1)) ρ=some o/\OutQ X.K G M Mb L fr D o))/\∀ σ2 H2 S2,OwnS X.K G1 M L H2 S2 σ2 ρ2->N σ2 H2:=fun ρ2 e4 =>
   ⟨fun σ2 H2=>∃ S2,OwnS X.K G1 M L H2 S2 σ2 ρ2,fun σ2 H2 ⟨S2,hs3⟩=>⟨ds.length-(i+1),by omega,rfl,hlt,S2,ρ2,o',hs3,e4,q'⟩,fun σ2 H2 S2 hs3=>⟨S2,hs3⟩⟩
  cases o1 with
  | nx ρ2 =>
   obtain ⟨N,n1,n2⟩:=next ρ2 e'
   exact ⟨N,n1,key N fun σ3 H3 S3 hs3=>n2 σ3 H3 S3 hs3⟩
  | ct ρ2 =>
   obtain ⟨N,n1,n2⟩:=next ρ2 e'
   exact ⟨N,n1,key N fun σ3 H3 S3 hs3=>n2 σ3 H3 S3 hs3⟩
  | bk ρ2 =>
   cases e'
   exact ⟨fun _ _=>False,fun _ _ z=>z.elim,key _ fun σ3 H3 S3 hs3=>q' σ3 H3 S3 (hs3.unbase bs eS eL)⟩
  | rt r =>
   cases e'
   refine ⟨fun _ _=>False,fun _ _ z=>z.elim,key _ ?_⟩
   have q2:OutQ X.K G1 M Mb L fr D (.rt r):=q'.based bs eS eL
   exact q2
 ·have hi':i=ds.length:=by omega
  subst hi'
  rw [UK] at e'
  cases e'
  exact .inl ⟨hJ.stop H' hs'.h0,q' σ' H' S' (hs'.unbase bs eS eL)⟩
end
noncomputable def outD:Out->Option Ka
 | .rt d=>some d
 | .nx _=>some .none
 | _=>none
def rho0 (n:Nat)(ds:aj):Rho:=ds.map some++Kl (n-ds.length) none
def G0 (H:Hp)(S:Av):Gm:=⟨H,S,fun _=>(0,.none)⟩
theorem OwnS.start {K:Kb}{H:Hp}{S:Av}{vs:List V}{ds:aj}(m:Dm S H)(h:DenL K H S vs ds)(N:aA):OwnS K (G0 H S) [] [] H S (start N vs) (rho0 N.length ds) :=
 ⟨DenS.start m h N,fun _ z=>z,Same.refl _,(fun _ h=>nomatch h.1),(fun _ h=>nomatch h.1),fun _ z=>.inl z,(fun _ h=>nomatch h),fun _=>[],(fun _ h=>nomatch h.1),(fun _ h=>nomatch h.1),(fun _ h=>nomatch h.1)⟩
structure FunG (K:Kb)(x qual:Str)(st:K1)(f:Kd)(fd:Vq):Prop where
 ex:∃ (oc dV:Kc) (od:aR) (kV doc pm:Kc) (an:aR) (cdv ct:Kc) (osl:aI),
  fd=VN x qual (Qw st) (zL st) (qu st) dV kV doc pm an cdv ct/\K.lookup f=some ⟨oc,od,.func fd,osl⟩/\Um K cdv qual=true
 kp:VR K (.ref f)=true
theorem Fun.g {K:Kb}{x qual:Str}{st:K1}{f:Kd}{fd:Vq}(F:Fun K x qual st f fd):FunG K x qual st f fd:=by
 obtain ⟨oc,od,kV,doc,pm,an,cdv,ct,osl,e,lk,hcd⟩:=F.ex
 exact ⟨⟨oc,_,od,kV,doc,pm,an,cdv,ct,osl,e,lk,hcd⟩,F.kp⟩
section
variable {P:KD}{w:KM}{K:Kb}{mg:au}{base:KI}
theorem FunG.ok {x qual:Str}{st:K1}{f:Kd}{fd:Vq}{N ps:aA}{k:Nat}{sp:Sp}(F:FunG K x qual st f fd)(S:FnScope N ps (qu st))(len:∀ vs H Q E,sp vs H Q E->vs.length=ps.length)
  (hbody:∀ (cdv:Kc) (A:KU) (outer:aX) (s:Ke) (H:Hp) (vs:List V) (Q:VK) (E:XK),Room k (A.deeper (envOfC qual (qu st) s.heap.objs.size f cdv))->sp vs H Q E->
   ∃ t,PSs (cxOf CX0 P w K mg base N qual (qu st) f cdv A outer s H E).nox (zL st) t/\t { nx:=fun _ H'=>Q .non H',rt:=Q } (start N vs) H):FnOk P w K mg base CX0 (k+1) f fd ps sp:=by
 obtain ⟨oc,dV,od,kV,doc,pm,an,cdv,ct,osl,rfl,lk,hcd⟩:=F.ex
 refine fn_of lk hcd S len fun A outer s H vs Q E hr hsp=>?_
 obtain ⟨t,h,q⟩:=hbody cdv A outer s H vs Q E hr hsp
 exact ⟨t,h.nox,q⟩
theorem FunG.pure {x qual:Str}{st:K1}{f:Kd}{fd:Vq}{N ps:aA}{k n:Nat}{u:ao}{M':ar}(F:FunG K x qual st f fd)(S:FnScope N ps (qu st))(hn:ps.length=n)
  (hbody:∀ (cdv:Kc) (A:KU) (outer:aX) (s:Ke) (H:Hp) (E:XK),Room k (A.deeper (envOfC qual (qu st) s.heap.objs.size f cdv))->∀ G:Gm,
   PDSs (cxOf CX0 P w K mg base N qual (qu st) f cdv A outer s H E).nox G [] [] M' [] .pl (zL st) u) :
  FnOk P w K mg base CX0 (k+1) f fd ps (spF K n fun ds=>ob (u (rho0 N.length ds)) outD):=by
 refine F.ok S (fun vs H Q E h=>?_) (fun cdv A outer s H vs Q E hr h=>?_)
 ·obtain ⟨_,ds,d,_,h1,h2,_⟩:=h
  rw [h1.length,h2,hn]
 ·obtain ⟨Sv,ds,d,m,h1,h2,e,q⟩:=h
  obtain ⟨o,e1,e⟩:=qd e
  refine ⟨_,hbody cdv A outer s H E hr (G0 H Sv),Sv,rho0 N.length ds,o,OwnS.start m h1 N,e1,?_⟩
  cases o with
  | rt r=>cases e;exact q
  | nx ρ=>cases e;exact fun σ' H' S' hs=>q _ H' hs.h0 .none
  | bk ρ=>cases e
  | ct ρ=>cases e
theorem Fun.pure {x qual:Str}{st:K1}{f:Kd}{fd:Vq}{N ps:aA}{k n:Nat}{u:ao}{M':ar}(F:Fun K x qual st f fd)(S:FnScope N ps (qu st))(hn:ps.length=n)
  (hbody:∀ (cdv:Kc) (A:KU) (outer:aX) (s:Ke) (H:Hp) (E:XK),Room k (A.deeper (envOfC qual (qu st) s.heap.objs.size f cdv))->∀ G:Gm,
   PDSs (cxOf CX0 P w K mg base N qual (qu st) f cdv A outer s H E).nox G [] [] M' [] .pl (zL st) u) :
  FnOk P w K mg base CX0 (k+1) f fd ps (spF K n fun ds=>ob (u (rho0 N.length ds)) outD) :=
 F.g.pure S hn hbody
structure Known (P:KD)(w:KM)(K:Kb)(mg:au)(base:KI)(x:Str)(n k:Nat)(h:av):Prop where
 ex:∃ (f:Kd) (fd:Vq) (ps:aA),FnOk P w K mg base CX0 k f fd ps (spF K n h)/\mg x=some (.ref f)/\VR K (.ref f)=true/\Binds K fd ps []
end
section
variable {X:Cx}{G:Gm}{M M' Mb L:ar}{fr:Fr}{a b c:Kr}{es:aH}{f g:aa}{p:ah}{pos:Pos}{u:ao}
theorem qJ {x:Str}{p:Pos}{n k k':Nat}{h:av}{fs:ae}(F:Known X.prog X.w X.K X.mg X.base x n k h)(hr:Room k' X.A)(hk:k<=k')(hg:Gl X x)(ha:PDA X M (a::es) fs)(hl:(a::es).length=n)
  (hdb:(x==("__debug__" : Str))=false:=by decide +kernel) (he:starEach (a::es) X.env=(false,eval a X.env)::starEach es X.env:=by rfl) (hpl:(backTo pos (starEach es X.env)).any (·.1)=false:=by rfl) :
  PD X M (.Call (.Name x p) (a::es) [] pos) (evC n fs h):=by
 obtain ⟨f,fd,ps,F,m,kp,b⟩:=F.ex
 exact qco F (hr.mono hk) hg m kp b pass0 ha hl hdb he hpl
theorem OwnO.laid {K:Kb}{H:Hp}{S:Av}{p:Kd}{vs:List V}{ds:aj}(n:H p=none)(t:DenL K H S vs ds):OwnO K (L2.upd H p (.lst vs)) (insA S p) p (.list ds) :=
 .lst qM ((t.sub fun a ha z=>z.elim id fun y=>absurd (by rw [y];exact n) ha).same (Same.lay n))
theorem yt {fs:ae}(h:PDA X M es fs):PF X M (.List es pos) (evA fs lstD) :=
 (qa9 h).weak fun σ H Q ⟨S,ρ,d,hs,e,q⟩=>by
  obtain ⟨xs,e1,e⟩:=qd e
  obtain ⟨hz,rfl⟩:=JB e
  exact ⟨S,ρ,xs,hs,e1,fun vs H1 g1 d1=>⟨Vk (q9 (by rw [d1.length];exact hz)),fun p hp=>q _ _ (g1.lay' hp) (g1.free hp) (OwnO.laid hp d1)⟩⟩
def wG (X:Cx)(f:Kc)(g:av):Prop:=QF X f (fun vs H Q=>∃ S ds d,Dm S H/\DenL X.K H S vs ds/\g ds=some d/\∀ p H',Same H H'->H p=none->OwnO X.K H' (insA S p) p d->Q (.ref p) H')
theorem qbd {id:String}{x:Str}{p:Pos}{h:av}{fs:ae}(hc:wG X (.builtin id) h)(hg:Gl X x)(hm:X.mg x=none)(hv:bootBuiltins x=some (.builtin id))(ha:PDA X M (a::es) fs)(hn:x ≠ "__name__" := by decide +kernel)(hdb:(x==("__debug__" : Str))=false:=by decide +kernel)
  (he:starEach (a::es) X.env=(false,eval a X.env)::starEach es X.env:=by rfl) (hpl:(backTo pos (starEach es X.env)).any (·.1)=false:=by rfl):PF X M (.Call (.Name x p) (a::es) [] pos) (evA fs h) :=
 (jY hc hg hm hv ha hn hdb he hpl).weak fun σ H Q ⟨S,ρ,d,hs,e,q⟩=>by
  obtain ⟨ds,e1,e⟩:=qd e
  exact ⟨S,ρ,ds,hs,e1,fun vs H1 g1 d1=>⟨S,ds,d,hs.1.same g1,d1,e,fun p H' g2 n o=>q p H' (g1.trans g2) (g1.free n) o⟩⟩
theorem W5 {T:String}{x:Str}{p:Pos}{h:av}{fs:ae}(hc:wG X (.type T) h)(hg:Gl X x)(hm:X.mg x=none)(hv:bootBuiltins x=some (.type T))(ha:PDA X M (a::es) fs)(hn:x ≠ "__name__" := by decide +kernel)(hdb:(x==("__debug__" : Str))=false:=by decide +kernel)
  (he:starEach (a::es) X.env=(false,eval a X.env)::starEach es X.env:=by rfl) (hpl:(backTo pos (starEach es X.env)).any (·.1)=false:=by rfl):PF X M (.Call (.Name x p) (a::es) [] pos) (evA fs h) :=
 (JH hc hg hm hv ha hn hdb he hpl).weak fun σ H Q ⟨S,ρ,d,hs,e,q⟩=>by
  obtain ⟨ds,e1,e⟩:=qd e
  exact ⟨S,ρ,ds,hs,e1,fun vs H1 g1 d1=>⟨S,ds,d,hs.1.same g1,d1,e,fun p H' g2 n o=>q p H' (g1.trans g2) (g1.free n) o⟩⟩
theorem qdF:wG X (.type "list") jk:=fun pins s σ H xs us Q I r ⟨S,ds,d,m,h1,e,q⟩=>ZG pins s σ H xs us Q I r (by
 cases h1 with
 | nil=>cases e
 | cons a t =>
  cases t with
  | cons a' t'=>cases a<;>cases e
  | nil =>
   cases a with
   | list h t=>cases e;exact ⟨_,_,rfl,.inl h.sq,fun l hl=>q _ _ (Same.lay hl) hl (OwnO.laid hl t)⟩
   | tuple h t=>cases e;exact ⟨_,_,rfl,.inr h,fun l hl=>q _ _ (Same.lay hl) hl (OwnO.laid hl t)⟩
   | _=>cases e)
noncomputable def appD:Ka->Ka->Option Ka
 | .list ds,d=>if ds.length<1000 then some (.list (ds++[d])) else none
 | _,_=>none
def sApp (i:Nat)(f:aa):Rho->Option Out:=fun ρ=>ob (vr i ρ) fun l=>ob (f ρ) fun d=>ob (appD l d) fun l'=>some (.nx (ρ.set i (some l')))
theorem Jj {l d l':Ka}(e:appD l d=some l'):∃ ds,l=.list ds/\ds.length<1000/\l'=.list (ds++[d]):=by
 unfold appD at e
 split at e
 ·split at e
  ·rename_i hz;cases e;exact ⟨_,rfl,hz,rfl⟩
  ·cases e
 ·cases e
theorem Off.upd {S:Av}{H:Hp}{p:Kd}{o:HO}(c:S p):Off S H (L2.upd H p o):=fun b u z e=>by
 rw [qp (fun y=>z (by rw [y];exact c))];exact e
theorem Wg (i:Nat){x:Str}{px apos cpos:Pos}(hv:Vis X.env.scope x)(hM:Flt M i)(hL:i∉L)(he:PD X M a f)(hN:X.N[i]?=some x:=by rfl)(hd:(x==("__debug__" : Str))=false:=by decide +kernel)(hcd:(x==("__classdict__" : Str))=false:=by decide +kernel)
  (hbase:attributeBase (.Name x px) "append" X.env (eval (.Name x px) X.env)=eval (.Name x px) X.env:=by rfl)
  (hfew:((backTo cpos (starEach [a] X.env)).all (fun x=>!x.1)&&(backToKw cpos (keywordEach [] X.env)).all (fun x=>x.1.isSome)
   && decide ([a].length+([]:List U1).length+(if ([]:List U1).isEmpty then 0 else 1)<30))=true:=by rfl)
  (hline:(apos.endLine==cpos.line)=true:=by rfl) (hs:starEach [a] X.env=(false,eval a X.env)::starEach [] X.env:=by rfl) (hplain:(backTo cpos (starEach [] X.env)).any (·.1)=false:=by rfl)
  (hsw:swapsWith (.Call (.Attribute (.Name x px) "append" apos) [a] [] cpos) none pos.line X.env=pure false:=by rfl) :
  PDS X G M L M Mb fr (.Expr (.Call (.Attribute (.Name x px) "append" apos) [a] [] cpos) pos) (sApp i f) :=
 (Wn (qa8 UA UF Xu JD (yr i hv hN hd hcd) (Zh he QW hs) hbase hfew hline hs hplain) hsw).weak fun D σ H ⟨S,ρ,o,os,e,q⟩=>by
  obtain ⟨l,e1,e⟩:=qd e
  obtain ⟨d,e2,e⟩:=qd e
  obtain ⟨l',e3,e⟩:=qd e
  cases e
  obtain ⟨ds,rfl,hz,rfl⟩:=Jj e3
  obtain ⟨pp,a1,b1,c1,n1,w1,_⟩:=os.own i hM _ (Qa e1)
  cases b1 with
  | @lst xs _ h t =>
   refine ⟨_,a1,.inl ⟨rfl,_,SqL.of h⟩,S,ρ,[d],os.ds,by show ob (f ρ) _=_;rw [e2];rfl,fun vs H2 g2 dl=>?_⟩
   obtain ⟨v,rfl,dv⟩:=dl.inv1
   have os2:=os.same g2
   refine ⟨pp,xs,v,rfl,rfl,g2 _ _ h,Ku (by rw [t.length];exact hz) (Vk (q9 (Ko _))),?_⟩
   exact q _ _ _ (os2.write hM hL (Qa e1) a1 rfl (.lst qM (((t.same g2).snoc dv).off os2.ds.1 (Off.upd c1))))
end
section
variable {X:Cx}{G:Gm}{M M' Mb L:ar}{fr:Fr}{a b c:Kr}{es:aH}{f g:aa}{p:ah}{pos:Pos}{u:ao}
def z7 (t:ah)(body:ao):Nat->Rho->Option Out
 | 0,_=>none
 | n+1,ρ=>ob (t ρ) fun b=>if b=true then ob (body ρ) fun o=>match o with
   | .nx ρ'=>z7 t body n ρ'
   | .ct ρ'=>z7 t body n ρ'
   | .bk ρ'=>some (.nx ρ')
   | .rt r=>some (.rt r)
  else some (.nx ρ)
def j6 (t:ah)(body:ao):Rho->Option Out:=z7 t body 1000000
theorem JG {body:aY}(hp:XF (model X.prog X.w) X.A X.env X.xe)(hc:PDT X [] c p)(hb:PDSs X G M L M M fr body u):PDS X G M L M Mb fr (.While c body [] pos) (j6 p u) :=
 (qbj hp hc hb).weak fun D σ H ⟨S,ρ,o,os,e,q⟩=>by
  refine ⟨fun m σ' H'=>∃ S' ρ' o',OwnS X.K G M L H' S' σ' ρ'/\z7 p u m ρ'=some o'/\OutQ X.K G M Mb L fr D o',⟨1000000,S,ρ,o,os,e,q⟩,?_⟩
  rintro m σ' H' ⟨S',ρ',o',os',e',q'⟩
  cases m with
  | zero=>cases e'
  | succ m =>
   obtain ⟨b,e1,e'⟩:=qd e'
   refine ⟨G.S0,ρ',b,os'.den,e1,fun H1 g1=>?_⟩
   have os1:=os'.same g1
   cases b with
   | false =>
    cases e'
    exact iteF (q' σ' H1 S' os1)
   | true =>
    rw [if_pos rfl] at e'
    obtain ⟨o1,e2,e'⟩:=qd e'
    refine iteT ?_
    have next:∀ ρ2,z7 p u m ρ2=some o'->∃ N:St->Hp->Prop,(∀ σ' H'',N σ' H''->∃ m',m'<m+1/\∃ S' ρ' o',OwnS X.K G M L H'' S' σ' ρ'/\z7 p u m' ρ'=some o'/\OutQ X.K G M Mb L fr D o')/\∀ σ2 H2 S2,OwnS X.K G M L H2 S2 σ2 ρ2->N σ2 H2:=fun ρ2 e4 =>
     ⟨fun σ2 H2=>∃ S2,OwnS X.K G M L H2 S2 σ2 ρ2,fun σ2 H2 ⟨S2,hs3⟩=>⟨m,Xt m,S2,ρ2,o',hs3,e4,q'⟩,fun σ2 H2 S2 hs3=>⟨S2,hs3⟩⟩
    cases o1 with
    | nx ρ2 =>
     obtain ⟨N,n1,n2⟩:=next ρ2 e'
     exact ⟨N,n1,S',ρ',_,os1,e2,fun σ3 H3 S3 hs3=>n2 σ3 H3 S3 hs3⟩
    | ct ρ2 =>
     obtain ⟨N,n1,n2⟩:=next ρ2 e'
     exact ⟨N,n1,S',ρ',_,os1,e2,fun σ3 H3 S3 hs3=>n2 σ3 H3 S3 hs3⟩
    | bk ρ2 =>
     cases e'
     exact ⟨fun _ _=>False,fun _ _ z=>z.elim,S',ρ',_,os1,e2,fun σ3 H3 S3 hs3=>q' σ3 H3 S3 hs3⟩
    | rt r =>
     cases e'
     have q2:OutQ X.K G M Mb L fr D (.rt r):=q'
     exact ⟨fun _ _=>False,fun _ _ z=>z.elim,S',ρ',_,os1,e2,q2⟩
noncomputable def intD:Ka->Option Int
 | .int i=>some i
 | _=>none
def PDO (X:Cx)(M:ar)(e:Option Kr)(f:aV):Prop:=PO X e (fun σ H Q=>∃ S ρ i,DenS X.K H S M σ ρ/\f ρ=some i/\∀ H',Same H H'->Q i H')
def oN:Rho->Option (Option Int):=fun _=>some none
def oS (f:aa):Rho->Option (Option Int):=fun ρ=>ob (f ρ) fun d=>ob (intD d) fun i=>some (some i)
theorem WP {d:Ka}{i:Int}(h:intD d=some i):d=.int i:=by cases d<;>first|(cases h;rfl)|cases h
theorem qa5:PDO X M none oN:=fun pins s σ H Q I ⟨S,ρ,i,hs,e,q⟩=>by
 cases e
 exact qcz pins s σ H Q I (q H (Same.refl H))
theorem jV (h:PD X M a f):PDO X M (some a) (oS f):=fun pins s σ H Q I ⟨S,ρ,i,hs,e,q⟩=>by
 obtain ⟨d,e1,e⟩:=qd e
 obtain ⟨j,e2,e⟩:=qd e
 cases e
 cases WP e2
 exact qcA h pins s σ H Q I ⟨S,ρ,_,hs,e1,fun v H' g d=>⟨j,d.int_inv,q H' g⟩⟩
def cutD (ds:aj)(lo hi:aO):List Ka:=(ds.drop (HT.sIx ds.length 0 lo)).take (HT.sIx ds.length ds.length hi-HT.sIx ds.length 0 lo)
def sliD (x:Ka)(lo hi:aO):Option Ka:=match x with
 | .list ds=>some (.list (cutD ds lo hi))
 | .tuple ds=>if HT.sIx ds.length 0 lo=0/\HT.sIx ds.length ds.length hi=ds.length then none else some (.tuple (cutD ds lo hi))
 | _=>none
def evS (fa:aa)(fl fh:aV):Rho->Option Ka:=fun ρ=>ob (fa ρ) fun x=>ob (fl ρ) fun l=>ob (fh ρ) fun h=>sliD x l h
theorem yQ {K:Kb}{H:Hp}{S:Av}{vs:List V}{ds:aj}(t:DenL K H S vs ds)(lo hi:aO):DenL K H S (cutV vs lo hi) (cutD ds lo hi):=by
 unfold cutV cutD
 rw [t.length]
 exact (t.drop _).take _
theorem Yi {lo hi:Option Kr}{fl fh:aV}{p2:Pos}(ha:PD X M a f)(hl:PDO X M lo fl)(hh:PDO X M hi fh):PD X M (.Subscript a (.Slice lo hi none p2) pos) (evS f fl fh) :=
 (qba (r:=fun x lo hi H Q=>rSlL X.K x lo hi H Q\/rSlT X.K x lo hi H Q) (qcK.or qem) ha hl hh).weak fun σ H Q ⟨S,ρ,d,hs,e,q⟩=>by
  obtain ⟨x,e1,e⟩:=qd e
  obtain ⟨l,e2,e⟩:=qd e
  obtain ⟨h,e3,e⟩:=qd e
  refine ⟨S,ρ,x,hs,e1,fun v H1 g1 d1=>⟨S,ρ,l,hs.same g1,e2,fun H2 g2=>⟨S,ρ,h,hs.same (g1.trans g2),e3,fun H3 g3=>?_⟩⟩⟩
  have g13:=g1.trans (g2.trans g3)
  have d3:=d1.same (g2.trans g3)
  cases d3 with
  | list hq t =>
   cases e
   exact .inl ⟨_,_,rfl,hq.sq,fun p hp=>q _ _ (g13.lay' hp) (.list (SqLS.new qM ((hs.1.same g13).free hp)) ((yQ t l h).same (Same.lay hp)))⟩
  | @tuple a' xs ds hq t =>
   have e:(if HT.sIx ds.length 0 l=0/\HT.sIx ds.length ds.length h=ds.length then none else some (PyData.tuple (cutD ds l h)))=some d:=e
   split at e
   ·cases e
   ·rename_i hc
    cases e
    refine .inr ⟨_,_,rfl,hq,by rw [t.length];exact hc,fun p hp=>q _ _ (g13.lay' hp) (.tuple (SqT.of qM) ((yQ t l h).same (Same.lay hp)))⟩
  | _=>cases e
noncomputable def wH (x y:Ka):Option Ka:=match x,y with
 | .int i,.int j=>some (.int (i+j))
 | .tuple ds,.tuple es=>if ds.length+es.length<=1000 then some (.tuple (ds++es)) else none
 | _,_=>none
theorem qav {prog:KD}{w:KM}{A:KU}{E:aq}{s:Ke}{t b:Kd}{vs ws:aw}{Q:aq}(ht:IsTup s.heap t vs.toArray)(hb:IsTup s.heap b ws.toArray)(hv:vs=[])(h:Q (.ref b) s) :
  wpAny (model prog w) A (binaryOp .Add (.ref t) (.ref b)) Q E s:=by
 obtain ⟨⟨cls,dd,data,sl⟩,ho,hc,n,hd⟩:=id ht
 obtain ⟨⟨cls2,dd2,data2,sl2⟩,ho2,hc2,n2,hd2⟩:=id hb
 simp only at hc hd hc2 hd2
 subst hc hd hc2 hd2
 exact Xp ⟨_,ho,rfl⟩ ⟨_,ho2,rfl⟩ Xq seq_tuple_add UD Uz (Uu _ _) (tuple_addW0 t b vs.toArray ws.toArray n n2 dd dd2 sl sl2 (by simp [hv])) ⟨ho,ho2,h⟩
theorem qcj:OpR X (binaryOp .Add) (fun x y H Q=>∃ a b ys,x=.ref a/\y=.ref b/\SqT X.K H a []/\SqT X.K H b ys/\Q (.ref b) H):=by
 intro pins s σ H x y v u Q I rx ry h
 obtain ⟨a,b,ys,rfl,rfl,ha,hb,q⟩:=h
 cases rx
 cases ry
 obtain ⟨its,r1,p1,_⟩:=I.tuple ha
 obtain ⟨its2,r2,p2,_⟩:=I.tuple hb
 exact qav p1 p2 (r1.nil_iff.mpr rfl) ⟨.ref b,H,I,rfl,q⟩
theorem qaA:OpD X (binaryOp .Add) wH:=by
 refine Zv (r:=fun x y H Q=>rI0 (fun i j=>.int (i+j)) x y H Q\/(qcY X.K x y H Q\/(∃ a b ys,x=.ref a/\y=.ref b/\SqT X.K H a []/\SqT X.K H b ys/\Q (.ref b) H))) (qdI.or (qcl.or qcj)) fun x y dx dy d H S Q m h1 h2 e q=>?_
 unfold wH at e
 split at e
 ·cases e;cases h1;cases h2
  exact .inl ⟨_,_,rfl,rfl,q _ H (Same.refl H) (.int _)⟩
 ·split at e
  ·rename_i ds es hc
   cases e
   cases h1 with
   | tuple a1 t1 =>
    cases h2 with
    | tuple a2 t2 =>
     cases ds with
     | nil =>
      cases t1
      exact .inr (.inr ⟨_,_,_,rfl,rfl,a1,a2,q _ H (Same.refl H) (.tuple a2 t2)⟩)
     | cons d0 ds =>
      refine .inr (.inl ⟨_,_,_,_,rfl,rfl,a1,a2,fun z=>?_,?_,fun z=>?_,fun z p hp=>q _ _ (Same.lay hp) (.tuple (SqT.of qM) ((t1.append t2).same (Same.lay hp)))⟩)
      ·subst z;cases t1
      ·rw [t1.length,t2.length]
       exact Vk (q9 hc)
      ·subst z;cases t2
       rw [Vn] at q
       exact q _ H (Same.refl H) (.tuple a1 t1)
  ·cases e
 ·cases e
end
section
variable {X:Cx}{G:Gm}{M M1 M' Mb L:ar}{fr:Fr}{a b c:Kr}{es:aH}{f g:aa}{p:ah}{pos:Pos}{u:ao}{ss:aY}{s1:K1}
def PDR (X:Cx)(tg iter:Kr)(f:ae):Prop:=PI X tg iter (fun σ H R=>∃ S ρ ds,DenS X.K H S [] σ ρ/\f ρ=some ds/\∀ J H',Same H H'->(∀ H2 S2,IsIt X.K S2 J H2 ds)->R J H')
theorem Zw {tg:Kr}{fs:ae}{p:Pos}(hg:Gl X "range")(hm:X.mg "range" = none)(ha:PDA X [] [a] fs)(hs:starEach [a] X.env=[(false,eval a X.env)]:=by rfl):PDR X tg (.Call (.Name "range" p) [a] [] pos) (evR fs zj) :=
 (JL hg hm ha hs).weak fun σ H R ⟨S,ρ,ds,hs,e,w⟩=>by
  obtain ⟨xs,e1,e⟩:=qd e
  refine ⟨S,ρ,xs,hs,e1,fun vs H1 g1 d1=>?_⟩
  unfold zj at e
  split at e
  ·rename_i j
   split at e
   ·rename_i hj
    cases e
    obtain ⟨v,rfl,q⟩:=d1.inv1
    cases q
    exact ⟨j,rfl,by omega,by omega,w _ _ g1 fun _ _=>IsIt.rng 0 _⟩
   ·cases e
  ·cases e
theorem jX {tg iter:Kr}{body:aY}{fi:ae}{g:af}(hp:XF (model X.prog X.w) X.A X.env X.xe)(hc:X.calm=true)(hi:PDR X tg iter fi)(hg:PDG X G M L tg g)(hb:PDSs X G M L M M fr body u)
  (hs:∀ x,foldedSetIterable iter X.env x=pure x:=by intro _;rfl):PDS X G M L M Mb fr (.For tg iter body [] pos) (sFor fi g u):=by
 refine (qbi hp hc hi hg hb hs).weak fun D σ H ⟨S,ρ,o,os,e,q⟩=>?_
 obtain ⟨ds,e1,e⟩:=qd e
 refine ⟨G.S0,ρ,ds,os.den,e1,fun J H1 g1 hJ=>?_⟩
 refine ⟨fun i m σ' H'=>m=ds.length-i/\i<=ds.length/\∃ S' ρ o,OwnS X.K G M L H' S' σ' ρ/\forD g u (ds.drop i) ρ=some o/\OutQ X.K G M Mb L fr D o,⟨ds.length,by simp,Vu _,S,ρ,o,os.same g1,e,q⟩,?_⟩
 rintro i m σ' H' ⟨rfl,hi,S',ρ',o',hs',e',q'⟩
 by_cases hlt:i<ds.length
 ·rw [K9 hlt] at e'
  obtain ⟨ρ1,e2,e'⟩:=qd e'
  obtain ⟨o1,e3,e'⟩:=qd e'
  have key:∀ N:St->Hp->Prop,OutQ X.K G M M L fr { D with nx:=N,ct:=N,bk:=D.nx } o1->∀ x H2,J.yld i H' x H2->tDG X.K G M L g x σ' H2 fun σ2 H2=>tDS X.K G M L M M fr u { D with nx:=N,ct:=N,bk:=D.nx } σ2 H2:=fun N hN x H2 y=>by
   obtain ⟨e4,yd⟩:=(hJ H' S').yld i H' x H2 (Same.refl _) y
   exact ⟨S',ρ',_,ρ1,hs'.same e4,yd _ (Kj hlt) S' fun y e q=>q.same e4,e2,fun σ2 H3 g3 hs3=>⟨S',ρ1,o1,hs3,e3,hN⟩⟩
  refine .inr ⟨(hJ H' S').go i H' (Same.refl _) hlt,?_⟩
  have next:∀ ρ2,forD g u (ds.drop (i+1)) ρ2=some o'->∃ N:St->Hp->Prop,(∀ σ' H'',N σ' H''->∃ m',m'<ds.length-i/\(m'=ds.length-(i+1)/\i+1<=ds.length/\∃ S' ρ o,OwnS X.K G M L H'' S' σ' ρ/\forD g u (ds.drop (i+1)) ρ=some o/\OutQ X.K G M Mb L fr D o))/\∀ σ2 H2 S2,OwnS X.K G M L H2 S2 σ2 ρ2->N σ2 H2:=fun ρ2 e4 =>
   ⟨fun σ2 H2=>∃ S2,OwnS X.K G M L H2 S2 σ2 ρ2,fun σ2 H2 ⟨S2,hs3⟩=>⟨ds.length-(i+1),by omega,rfl,hlt,S2,ρ2,o',hs3,e4,q'⟩,fun σ2 H2 S2 hs3=>⟨S2,hs3⟩⟩
  cases o1 with
  | nx ρ2 =>
   obtain ⟨N,n1,n2⟩:=next ρ2 e'
   exact ⟨N,n1,key N fun σ3 H3 S3 hs3=>n2 σ3 H3 S3 hs3⟩
  | ct ρ2 =>
   obtain ⟨N,n1,n2⟩:=next ρ2 e'
   exact ⟨N,n1,key N fun σ3 H3 S3 hs3=>n2 σ3 H3 S3 hs3⟩
  | bk ρ2 =>
   cases e'
   exact ⟨fun _ _=>False,fun _ _ z=>z.elim,key _ fun σ3 H3 S3 hs3=>q' σ3 H3 S3 hs3⟩
  | rt r =>
   cases e'
   have q2:OutQ X.K G M Mb L fr D (.rt r):=q'
   exact ⟨fun _ _=>False,fun _ _ z=>z.elim,key _ q2⟩
 ·have hi':i=ds.length:=by omega
  subst hi'
  rw [UK] at e'
  cases e'
  exact .inl ⟨(hJ H' S').stop H' (Same.refl _),q' σ' H' S' hs'⟩
theorem qa6 (M1:ar)(h:PDSs X G M L M' Mb fr ss u)(h1:subB M1 M'=true)(h2:subB L M1=true):PDSs X G M L M1 Mb fr ss u:=qcp h h1 h2
end
section
variable {X:Cx}{G:Gm}{M M' Mb L:ar}{fr:Fr}{f:aa}{p:ah}{pos:Pos}
theorem qer {K:Kb}{n k:Nat}{fi:ae}{g:af}(hg:GIn n k g):∀ σ H Q,tF K M (Q6 n k fi g p f) σ H Q->JP k (tDI K M fi) (tDGc K M g) (tDT K M p) (tD K M f) σ H Q:=by
 intro σ H Q ⟨S,ρ,d,hs,e,q⟩
 obtain ⟨ds,ys,e1,hn,hz,e2,rfl⟩:=Zu e
 exact Ws hg σ H Q S ρ ds ys hs e1 hn hz e2 fun H' zs g2 dl D hD=>q _ _ (g2.lay' hD) (g2.free hD) (OwnO.laid hD dl)
variable {elt iter tg:Kr}{ifs:aH}{x:Str}{N':aA}{px:Pos}{sc:K3}{n k:Nat}{fi:ae}{g:af}
noncomputable def swB (sc₀ sc:K3)(t:Str)(pt p:Pos):Bool:=decide (sc₀.names.lookup t=some .local)&&(pt.line==p.line)&&!(sc.names.any fun (n,k)=>n==t&&(k==.local||k==.cell))
theorem j9 {sc:K3}{y:Str}{py:Pos}{sc₀:K3}(hsc:X.env.scope=sc₀)(h:swB sc₀ sc y py pos=true):X.env.scope.names.lookup y=some .local:=by
 subst hsc
 unfold swB at h
 rw [Kt,Kt] at h
 exact of_decide_eq_true h.1.1
theorem qc1 {elt:Kr}{gens:List Comprehension}{sc:K3}{y:Str}{py:Pos}{line:Nat}{sc₀:K3}(hsc:X.env.scope=sc₀)(h:swB sc₀ sc y py pos=true)(hbk:X.env.blockKind=.function):swapsWith (.ListComp elt gens sc pos) (some (.Name y py)) line X.env=pure true:=by
 have h0:=j9 hsc h
 subst hsc
 unfold swB at h
 rw [Kt,Kt] at h
 show pure (X.env.blockKind==.function&&X.env.kindOf y==some .local&&py.line==pos.line&&!(sc.names.any fun (n,k)=>n==y&&(k==.local||k==.cell)))=pure true
 have e1:(X.env.blockKind==ScopeKind.function)=true:=by rw [hbk];rfl
 have e2:(X.env.kindOf y==some NameKind.local)=true:=by
  show (X.env.scope.names.lookup y==some NameKind.local)=true
  rw [h0];rfl
 rw [e1,e2,h.1.2,h.2]
 rfl
theorem W3 (j:Nat){y:Str}{py spos:Pos}(O:CompOk X N' k sc)(gi:GIn n k g)(sc₀:K3)(hsc:X.env.scope=sc₀)(hB:swB sc₀ sc y py pos=true)(hM:Out0 M j)(hL:j∉L)(hi:PDI X M tg iter fi)(hg:∀ cl C fp pins s H,PDGc (qw X N' sc cl C fp pins s H) M tg g)(hq:∀ cl C fp pins s H,PDTs (qw X N' sc cl C fp pins s H) M ifs p)(he:∀ cl C fp pins s H,PD (qw X N' sc cl C fp pins s H) M elt f)
  (hj:X.N[j]?=some y:=by rfl) (hbk:X.env.blockKind=.function:=by rfl)
  (hs:∀ v,foldedSetIterable iter X.env v=pure v:=by intro _;rfl):PDS X G M L (j::M) Mb fr (.Assign [.Name y py] (.ListComp elt [⟨tg,iter,ifs,0⟩] sc pos) spos) (Qz j (Q6 n k fi g p f)) :=
 (Wm (wg:=tDGc X.K M g) (tt:=tDT X.K M p) (te:=tD X.K M f) O hj (j9 hsc hB) hi hg hq he (qc1 hsc hB hbk) hs).weak fun D σ H ⟨S,ρ,o,hs,e,q⟩=>by
  unfold Qz at e
  split at e
  ·rename_i hz
   obtain ⟨d,e1,e⟩:=qd e
   cases e
   exact qer gi σ H _ ⟨S,ρ,d,hs.ds,e1,fun p H1 g1 n o=>q _ H1 _ (hs.take n g1 o hM hL hz)⟩
  ·cases e
theorem jW (j:Nat){y:Str}{py spos:Pos}(O:CompOk X N' 1 sc)(hx:N'[n]?=some x)(hl:lc1 sc x=true)(sc₀:K3)(hsc:X.env.scope=sc₀)(hB:swB sc₀ sc y py pos=true)(hM:Out0 M j)(hL:j∉L)(hi:PDI X M (.Name x px) iter fi)(hq:∀ cl C fp pins s H,PDTs (qw X N' sc cl C fp pins s H) M ifs p)(he:∀ cl C fp pins s H,PD (qw X N' sc cl C fp pins s H) M elt f)
  (hj:X.N[j]?=some y:=by rfl) (hbk:X.env.blockKind=.function:=by rfl)
  (hs:∀ v,foldedSetIterable iter X.env v=pure v:=by intro _;rfl):PDS X G M L (j::M) Mb fr (.Assign [.Name y py] (.ListComp elt [⟨.Name x px,iter,ifs,0⟩] sc pos) spos) (Qz j (Qo n fi p f)):=by
 rw [jA]
 exact W3 j O (jJ (Ko _)) sc₀ hsc hB hM hL hi (yu O hx hl) hq he hj hbk hs
end
def wX (N N':aA)(k:Nat)(sc₀ sc:K3):Bool :=
 decide (sc.kind=.function)&&decide N.Nodup&&decide N'.Nodup&&decide (N'.length=N.length+k)&&sc.names.all (fun y=>decide (y.2≠.cell)||decide (sc.names.lookup y.1=some .cell))&&sc.names.all (fun y=>decide (y.2≠.local)||decide (sc.names.lookup y.1=some .local)) &&
 (N.zip N').all (fun y=>(decide (y.1=y.2)&&(decide (sc.names.lookup y.2≠some .local)&&decide (sc.names.lookup y.2≠some .cell)))||decide (sc.names.lookup y.2=none)) &&
 sc.names.all (fun y=>decide (y.2≠.free)||decide (sc₀.names.lookup y.1=some .cell)||decide (sc₀.names.lookup y.1=some .free))
theorem CompOk.of {X:Cx}{sc:K3}{k:Nat}(N N':aA)(sc₀:K3)(hc:X.calm=true)(hN:X.N=N)(hs:X.env.scope=sc₀)(h:wX N N' k sc₀ sc=true):CompOk X N' k sc:=by
 subst hN
 subst hs
 unfold wX at h
 simp only [Kt,decide_eq_true_eq,Vc,UV] at h
 obtain ⟨⟨⟨⟨⟨⟨⟨h1,h2⟩,h2'⟩,h2l⟩,h3⟩,h4⟩,h7⟩,h8⟩:=h
 refine ⟨hc,h1,h2,h2',h2l,fun y hy q=>(h3 y hy).resolve_left (fun z=>z q),fun y hy q=>(h4 y hy).resolve_left (fun z=>z q),fun i y hi e=>?_,fun y hy q=>?_⟩
 ·have hz:(X.N.zip N')[i]?=some (X.N[i],y):=by
   rw [List.getElem?_zip_eq_some]
   exact ⟨Kj hi,e⟩
  rcases h7 _ (KO hz) with ⟨q,w⟩|q
  ·refine .inl ⟨?_,w⟩
   rw [Kj hi]
   exact congrArg some q
  ·exact .inr q
 ·rcases h8 y hy with (z|z)|z
  ·exact absurd q z
  ·exact .inl z
  ·exact .inr z
theorem Jc:∀ {ns:aQ} {n:Int},n∈ns->PySem.W.WData.weight (.int n)<=PySem.W.WData.weightAll (ns.map .int)
 | m::ns,n,h=>by
  rw [KF,PySem.W.WData.weightAll]
  rcases Ks.mp h with rfl|h
  ·omega
  ·have:=Jc h
   omega
theorem jw {ns:aQ}(h:PySem.W.WData.layableAll [.list (ns.map .int)]=true):∀ n∈ns,VQ n<=2 ^ 20:=by
 intro n hn
 have h1:PySem.W.WData.layable (.list (ns.map .int))=true:=by
  unfold PySem.W.WData.layableAll at h
  simpa using h
 unfold PySem.W.WData.layable at h1
 rw [Kt] at h1
 have h2:=of_decide_eq_true h1.2
 rw [PySem.W.WData.weight] at h2
 have h3:=K7 (Jc hn) h2
 rw [PySem.W.WData.weight] at h3
 exact h3
end L2
namespace Att
open PySem PySem.W PySem.Calls PyProof.Rows
theorem attach_callB {l:Xg}{n:Nat}{q:KD}{loose:List Str}{XP:(Str->Option Kc)->KI->Prop}{YP:KM->KI->Prop}{d:DefRec}
  (hn:l.most=some n) (hdf:d.params.defaults=[])
  (call:∀ (w:KM) (s₀ s₁:Ke) (mg mb:Str->Option Kc) (fa:Kd) (o:Obj) (pm cd doc:Kc) (a:Kd) (vs:List Kc) (ns:List Int),
   Ground q loose [] XP w s₀ mg mb s₁.heap->YP w s₁.heap->
   s₁.heap.get? fa=some o->o.data=.func (docDef d.name d.params d.body d.scope pm cd doc)->s₁.heap.CodeRec cd d.name->mg d.name=some (.ref fa)->
   s₁.heap.get? a=some { cls:=.type "list", data:=.seq vs.toArray }->IntsAre vs ns->ns.length<=n->(∀ k∈ns,VQ k<=2 ^ 20)->s₁.gens=#[]->
   codeAny (model l.prog w) callerA (.call (.ref fa) ⟨[.ref a],[]⟩) (fun r s'=>r=.ok (.ret (.bool true))/\OldK s₁.heap s'.heap/\s'.os=s₁.os/\UQ s'.gens) s₁) :
  WalkO q loose XP YP l.row.toRowW d [] (fun f vs=>PySem.call f vs):=by
 intro w s₀ s₁ mg mb G Y fa o pm cd doc dV kV ho hd hcd hD hmg hg args vals as hpre hlay hrd hwl hlo
 obtain rfl:dV=.none:=Dflts.none hD hdf
 obtain rfl:kV=.none:=Dflts.noKw hD
 obtain ⟨a,vs,ns,rfl,rfl,hobj,hints,hlen⟩:=qae hn hpre hwl
 refine enter_call (codeAny_mono (call w s₀ s₁ mg mb fa o pm cd doc a vs ns G Y ho (fd_plain hd) hcd hmg hobj hints hlen (L2.jw hlay) hg) fun r s' hq=>?_)
 obtain ⟨rfl,h2,h3,h4⟩:=hq
 exact ⟨.inl ⟨.bool true,.bool true,[],rfl,fun _=>rfl,.bool true,W8 l _,fun _=>⟨List.Pairwise.nil,fun _ hm=>(nomatch hm)⟩⟩,h2,h3,h4⟩
end Att
namespace L2
open PySem PySem.Spec PyProof.Rows
def wk (K:Kb)(n:Nat):Sp:=fun vs H Q _=>∃ (a:Kd) (ns:aQ),vs=[.ref a]/\SqL K H a (ns.map V.int)/\ns.length<=n/\(∀ k∈ns,VQ k<=2 ^ 20)/\∀ H',Q (.bl true) H'
theorem qaP {P:KD}{w:KM}{K:Kb}{mg:au}{base:KI}{CX:CXT}{k n:Nat}{f:Kd}{fd:Vq}{ps:aA}{h:av}(F:FnOk P w K mg base CX k f fd ps (spF K 1 h))
  (e:∀ ns:List Int,ns.length<=n->(∀ k∈ns,VQ k<=2 ^ 20)->h [.list (ns.map .int)]=some (.bool true)):FnOk P w K mg base CX k f fd ps (wk K n) :=
 F.imp fun vs H Q E ⟨a,ns,h1,h2,h3,h4,q⟩=>by
  subst h1
  exact ⟨fun _=>False,[.list (ns.map .int)],.bool true,(fun _ z=>z.elim),.cons (.list (h2.imp (fun y=>⟨y,id⟩) id) (DenL.ints ns)) .nil,rfl,e ns h3 h4,fun v H' _ d=>by rw [d.bool_inv];exact q H'⟩
theorem qak {l:Xg}{n k:Nat}{q:KD}{loose:aA}{XP:(Str->Option Kc)->KI->Prop}{YP:KM->KI->Prop}{d:DefRec}{K:US->Kb}{x:Str}
  (hn:l.most=some n) (hn2:n<=sizeLine) (hdf:d.params.defaults=[]) (hr:Room k callerA)
  (hY:∀ (w:KM) (h:KI),YP w h->(K w.params).In h)
  (F:∀ (w:KM) (mg:au) (fa:Kd) (h:KI),(K w.params).In h->h.Ns mainGlobals mg->mg d.name=some (.ref fa)->
   ∃ fd:Vq,(∀ (s:Ke) (u:Kc),BindsTo s fd ⟨[u],[]⟩ [(x,u)])/\
    ∀ base:KI,(K w.params).In base->base.Ns mainGlobals mg->FnOk l.prog w (K w.params) mg base CX0 k fa fd [x] (wk (K w.params) n)) :
  PySem.W.WalkO q loose XP YP l.row.toRowW d [] (fun f vs=>PySem.call f vs):=by
 refine Att.attach_callB hn hdf fun w s₀ s₁ mg mb fa o pm cd doc a vs ns G Y ho hd hcd hmg hobj hints hlen hbits hg=>?_
 have KX:=hY w _ Y
 obtain ⟨fd,hb,hF⟩:=F w mg fa _ KX G.T.g hmg
 exact qaO KX G.T.g G.T.b G.T.builtins G.T.nolimit hg hobj hints (K7 hlen hn2) hr hF hb (fun H hO hS=>⟨a,ns,rfl,hS,hlen,hbits,fun _=>rfl⟩) fun H e s' h=>h
mutual
def ltX:Ka->Ka->Option Bool
 | .int i,.int j=>some (decide (i<j))
 | .tuple xs,.tuple ys=>ltXs xs ys
 | .list xs,.list ys=>ltXs xs ys
 | _,_=>none
def ltXs:List Ka->List Ka->Option Bool
 | [],[]=>some false
 | [],_::_=>some true
 | _::_,[]=>some false
 | x::xs,y::ys=>if Uh x y=true then ltXs xs ys else ltX x y
end
def LtAt (A:KU)(s:Ke)(y x:Kc)(b:Bool):Prop:=∀ (prog:KD) (w:KM) (E Q:aq),Q (.bool b) s->wpAny (model prog w) A (richCompare .Lt y x) Q E s
def jf (A:KU)(s:Ke):List Kc->List Kc->Bool->Prop
 | [],[],r=>r=false
 | [],_::_,r=>r=true
 | _::_,[],r=>r=false
 | y::ys,x::xs,r=>∃ e,SeqAt.EqAt A s y x e/\(e=true->jf A s ys xs r)/\(e=false->LtAt A s y x r)
section
open PySem.SeqAt
open PySem.AutoSeq1 (wpAny_loadPart')
open PySem.MeetsSeq PySem.MeetsSeq2 PySem.MeetsSeq3
theorem yJ (l b:Kd)(items items2:aU)(n n2:Nat)(dd dd2:aR)(sl sl2:aI) :
  Meets (UO.«tuple.__lt__» ⟨[.ref l,.ref b],[]⟩)
   (fun A R s=>s.heap.get? l=some { cls:=.type "tuple", dict:=dd,data:=.seq items n,slots:=sl }/\s.heap.get? b=some { cls:=.type "tuple", dict:=dd2,data:=.seq items2 n2,slots:=sl2 }/\
    ∃ r,jf A.in1 s items.toList items2.toList r/\R (.ok (.ret (.bool r))) s) :=
 .of_wp fun prog w A R s h=>by
  obtain ⟨hp,g,d,tk,os⟩:=s;obtain ⟨hl,hb,r,hx,h⟩:=h
  have f2:=AutoSeq1.sub_tuple_tuple
  wp_walk using wpAny_loadPart' hl,wpAny_loadPart' hb,wpAny_forIn_list _ (fun rest b s'=>b.1=none/\s'=⟨hp,g,d,tk,os⟩/\∃ (vs ws:aw),rest=vs.zip ws/\
   jf A.in1 ⟨hp,g,d,tk,os⟩ vs ws r/\vs.length+items2.size=ws.length+items.size) _
  case turn =>
   rintro ⟨y,x⟩ rest b s' ⟨hb',rfl,vs,ws,hz,hlx,hlen⟩
   cases vs with
   | nil=>rw [List.zip_nil_left] at hz;cases hz
   | cons v vs =>
    cases ws with
    | nil=>rw [List.zip_nil_right] at hz;cases hz
    | cons u ws =>
     rw [U7] at hz
     injection hz with hyx hrest
     injection hyx with hy hx'
     subst hy hx'
     simp only [Kk] at hlen
     obtain ⟨e,he,h1,h2⟩:=hlx
     refine Ki (he prog w _ _ ?_)
     cases e with
     | true =>
      wp_walk
      exact ⟨rfl,rfl,_,_,hrest,h1 rfl,by omega⟩
     | false =>
      have hri:=h2 rfl prog w
      wp_walk using hri
      exact ⟨_,rfl,by simpa using h⟩
  case fin =>
   rintro ⟨b1,b2⟩ s' ⟨hb',rfl,vs,ws,hz,hlx,hlen⟩
   simp only at hb'
   subst hb'
   have hv:r=decide (items.size<items2.size):=by
    cases vs with
    | nil =>
     cases ws with
     | nil =>
      simp only [Ut] at hlen
      rw [show r=false from hlx]
      exact (decide_eq_false (by omega)).symm
     | cons c hw =>
      simp only [Ut,Kk] at hlen
      rw [show r=true from hlx]
      exact (decide_eq_true (by omega)).symm
    | cons a hv =>
     cases ws with
     | nil =>
      simp only [Ut,Kk] at hlen
      rw [show r=false from hlx]
      exact (decide_eq_false (by omega)).symm
     | cons c hw =>
      rw [U7] at hz
      cases hz
   rw [hv] at h
   wp_walk
   exact ⟨_,rfl,by simpa [Builtin.Tuple.tupleCompareSizes] using h⟩
  case h =>
   exact ⟨rfl,rfl,items.toList,items2.toList,rfl,hx,by simp [X6]⟩
end
theorem qaS {A:KU}{s:Ke}{l b:Kd}{items items2:aU}{r:Bool}(hl:IsTup s.heap l items)(hb:IsTup s.heap b items2)(hu:A.units<cLine)(h:jf A.in1 s items.toList items2.toList r):LtAt A s (.ref l) (.ref b) r:=fun prog w E Q q=>by
 obtain ⟨⟨cls,dd,data,sl⟩,ho,hc,n,hd⟩:=id hl
 obtain ⟨⟨cls2,dd2,data2,sl2⟩,ho2,hc2,n2,hd2⟩:=id hb
 simp only at hc hd hc2 hd2
 subst hc hd hc2 hd2
 exact richCompare_meets_room (op:=.Lt) ⟨_,ho,rfl⟩ ⟨_,ho2,rfl⟩ PySem.F.slot_tuple_lt PySem.F.entry_tuple_lt (PySem.F.args_tuple_lt_2 _ _) (yJ l b items items2 n n2 dd dd2 sl sl2)
  ⟨ho,ho2,r,h,show Uc r≠X1/\Q (.bool r) s from ⟨(fun x=>nomatch x),q⟩⟩ hu
section
open PySem.SeqAt
open PySem.AutoSeq1 (wpAny_loadPart')
open PySem.MeetsSeq PySem.MeetsSeq2 PySem.MeetsSeq3
theorem ym (l b:Kd)(xs ys:aU)(n n2:Nat)(dd dd2:aR)(sl sl2:aI):∀ (k i:Nat),xs.size=i+k->i<=ys.size->Meets (UO.«list.__eq__.loop» ⟨[.ref l,.ref b,rawInt i,rawInt 0],[]⟩)
   (fun A R s=>s.heap.get? l=some ⟨.type "list", dd,.seq xs n,sl⟩/\s.heap.get? b=some ⟨.type "list", dd2,.seq ys n2,sl2⟩/\∃ r,jf A.in1 s (xs.toList.drop i) (ys.toList.drop i) r/\R (.ok (.ret (.bool r))) s):=by
 intro k
 induction k with
 | zero =>
  intro i hx hy prog w A R s ⟨hl,hb,r,hq,hR⟩
  obtain ⟨hp,g,d,tk,os⟩:=s
  have e1:xs.toList.drop i=[]:=UG (by rw [Ky];omega)
  have e2:xs[((i:Nat):Int).toNat]?=none:=by rw [KA];exact XT (by omega)
  rw [e1] at hq
  have hr:r=decide (xs.size<ys.size):=by
   by_cases h:i<ys.size
   ·have e3:ys.toList.drop i=ys[i]::ys.toList.drop (i+1):=by rw [K9 (by rw [Ky];exact h),UW]
    rw [e3] at hq
    rw [show r=true from hq];exact (decide_eq_true (by omega)).symm
   ·rw [UG (by rw [Ky];omega)] at hq
    rw [show r=false from hq];exact (decide_eq_false (by omega)).symm
  rw [hr] at hR
  wp_walk using wpAny_loadPart' hl,wpAny_loadPart' hb
  rw [e2]
  wp_walk using wpAny_loadPart' hl,wpAny_loadPart' hb
  exact hR
 | succ k ih =>
  intro i hx hy prog w A R s ⟨hl,hb,r,hq,hR⟩
  obtain ⟨hp,g,d,tk,os⟩:=s
  have h1:i<xs.size:=by omega
  have e1:xs.toList.drop i=xs[i]::xs.toList.drop (i+1):=by rw [K9 (by rw [Ky];exact h1),UW]
  have e2:xs[((i:Nat):Int).toNat]?=some xs[i]:=by rw [KA];exact Xj h1
  rw [e1] at hq
  wp_walk using wpAny_loadPart' hl,wpAny_loadPart' hb
  by_cases h2:i<ys.size
  ·have e3:ys.toList.drop i=ys[i]::ys.toList.drop (i+1):=by rw [K9 (by rw [Ky];exact h2),UW]
   have e4:ys[((i:Nat):Int).toNat]?=some ys[i]:=by rw [KA];exact Xj h2
   rw [e3] at hq
   obtain ⟨e,he,q1,q2⟩:=hq
   rw [e2,e4]
   refine Ki (he prog w _ _ ?_)
   cases e with
   | true =>
    wp_walk
    refine ⟨plainId_quiet plain_eq_loop _,XM entry_eq_loop ?_⟩
    rw [Around.under_plainId plain_eq_loop _]
    exact ih (i+1) (by omega) h2 prog w A R _ ⟨hl,hb,r,q1 rfl,hR⟩
   | false =>
    wp_walk using wpAny_loadPart' hl,wpAny_loadPart' hb
    rw [e2,e4]
    have hri:=q2 rfl prog w
    wp_walk using hri
    exact hR
  ·rw [UG (as:=ys.toList) (by rw [Ky];omega)] at hq
   have e4:ys[((i:Nat):Int).toNat]?=none:=by rw [KA];exact XT (by omega)
   have hr:r=decide (xs.size<ys.size):=by rw [show r=false from hq];exact (decide_eq_false (by omega)).symm
   rw [hr] at hR
   rw [e2,e4]
   wp_walk using wpAny_loadPart' hl,wpAny_loadPart' hb
   exact hR
theorem Yd (l b:Kd)(xs ys:aU)(n n2:Nat)(dd dd2:aR)(sl sl2:aI):Meets (UO.«list.__lt__» ⟨[.ref l,.ref b],[]⟩)
   (fun A R s=>s.heap.get? l=some ⟨.type "list", dd,.seq xs n,sl⟩/\s.heap.get? b=some ⟨.type "list", dd2,.seq ys n2,sl2⟩/\∃ r,jf A.in1 s xs.toList ys.toList r/\R (.ok (.ret (.bool r))) s):=by
 intro prog w A R s ⟨hl,hb,r,hq,hR⟩
 obtain ⟨hp,g,d,tk,os⟩:=s
 have f3:=AutoSeq1.sub_list_list
 wp_walk using wpAny_loadPart' hl,wpAny_loadPart' hb
 refine ⟨plainId_quiet plain_eq_loop _,XM entry_eq_loop ?_⟩
 rw [Around.under_plainId plain_eq_loop _]
 exact ym l b xs ys n n2 dd dd2 sl sl2 xs.size 0 (Ux _).symm (Vu _) prog w A R _ ⟨hl,hb,r,hq,hR⟩
end
theorem W0 {A:KU}{s:Ke}{l b:Kd}{o o2:Obj}{xs ys:aU}{n n2:Nat}{r:Bool}(h1:s.heap.get? l=some o)(c1:o.cls=.type "list")(d1:o.data=.seq xs n)(h2:s.heap.get? b=some o2)(c2:o2.cls=.type "list")(d2:o2.data=.seq ys n2)(hu:A.units<cLine)(h:jf A.in1 s xs.toList ys.toList r):LtAt A s (.ref l) (.ref b) r:=fun prog w E Q q=>by
 obtain ⟨cls,dd,data,sl⟩:=o
 obtain ⟨cls2,dd2,data2,sl2⟩:=o2
 simp only at c1 d1 c2 d2
 subst c1 d1 c2 d2
 exact richCompare_meets_room (op:=.Lt) ⟨_,h1,rfl⟩ ⟨_,h2,rfl⟩ PySem.F.slot_list_lt PySem.F.entry_list_lt (PySem.F.args_list_lt_2 _ _) (Yd l b xs ys n n2 dd dd2 sl sl2)
  ⟨h1,h2,r,h,show Uc r≠X1/\Q (.bool r) s from ⟨(fun x=>nomatch x),q⟩⟩ hu
theorem jj {A:KU}{s:Ke}{m:Nat}(hu:A.units+m+1<cLine)(hit:∀ (x y:Ka) (a b:Kc) (as bs:az) (r:Bool),x.depth<=m->Reads s.heap a x as->Reads s.heap b y bs->x.canLay0=true->y.canLay0=true->ltX x y=some r->LtAt A s a b r) :
  ∀ (xs ys:aj) (vs ws:aw) (as bs:az) (r:Bool),KB xs<=m->VV s.heap vs xs as->VV s.heap ws ys bs->Kn xs=true->Kn ys=true->ltXs xs ys=some r->jf A s vs ws r:=by
 intro xs
 induction xs with
 | nil =>
  intro ys vs ws as bs r _ h1 h2 _ _ e
  cases h1
  cases ys with
  | nil=>cases h2;rw [ltXs] at e;cases e;rfl
  | cons y ys=>cases h2;rw [ltXs] at e;cases e;rfl
 | cons x xs ih =>
  intro ys vs ws as bs r hm h1 h2 c1 c2 e
  cases h1 with
  | cons rx rxs =>
   cases ys with
   | nil=>cases h2;rw [ltXs] at e;cases e;rfl
   | cons y ys =>
    cases h2 with
    | cons ry rys =>
     have c1':x.canLay0=true/\Kn xs=true:=by simpa [Kn] using c1
     have c2':y.canLay0=true/\Kn ys=true:=by simpa [Kn] using c2
     have hd:max x.depth (KB xs)<=m:=by rw [KB] at hm;exact hm
     have m1:=K7 (XN x.depth (KB xs)) hd
     have m2:=K7 (Xv x.depth (KB xs)) hd
     rw [ltXs] at e
     refine ⟨Uh x y,SeqAt.eqAt_reads x y A s _ _ _ _ rx ry c1'.1 c2'.1 (by have:=Nat.min_le_left x.depth y.depth;omega),fun q=>?_,fun q=>?_⟩
     ·rw [if_pos q] at e
      exact ih ys _ _ _ _ r m2 rxs rys c1'.2 c2'.2 e
     ·rw [if_neg (by rw [q];exact Vp)] at e
      exact hit x y _ _ _ _ r m1 rx ry c1'.1 c2'.1 e
theorem jQ:∀ (n:Nat) (da db:Ka) (A:KU) (s:Ke) (a b:Kc) (as bs:az) (r:Bool),da.depth<=n->Reads s.heap a da as->Reads s.heap b db bs->da.canLay0=true->db.canLay0=true->A.units+n+1<cLine->ltX da db=some r->LtAt A s a b r:=by
 intro n
 induction n with
 | zero =>
  intro da db A s a b as bs r hd ra rb ca cb hu e
  cases da with
  | int i =>
   cases db with
   | int j =>
    cases ra;cases rb
    rw [ltX] at e
    cases e
    exact fun prog w E Q q=>HT.Yq A s i _ j _ prog w E Q q
   | _=>simp [ltX] at e
  | tuple xs =>
   rw [V7] at hd
   omega
  | list xs =>
   rw [V7] at hd
   omega
  | _=>simp [ltX] at e
 | succ n ih =>
  intro da db A s a b as bs r hd ra rb ca cb hu e
  cases da with
  | int i =>
   cases db with
   | int j =>
    cases ra;cases rb
    rw [ltX] at e
    cases e
    exact fun prog w E Q q=>HT.Yq A s i _ j _ prog w E Q q
   | _=>simp [ltX] at e
  | tuple xs =>
   cases db with
   | tuple ys =>
    rw [V7] at hd
    rw [ltX] at e
    cases ra with
    | tuple e1 c1 d1 t1 =>
     cases rb with
     | tuple e2 c2 d2 t2 =>
      refine qaS ⟨_,e1,c1,_,d1⟩ ⟨_,e2,c2,_,d2⟩ (by omega) ?_
      exact jj (m:=n) (by show A.units+1+n+1<cLine;omega) (fun x y a b as bs r hx r1 r2 k1 k2 e=>ih x y A.in1 s a b as bs r hx r1 r2 k1 k2 (by show A.units+1+n+1<cLine;omega) e)
       xs ys _ _ _ _ r (by omega) t1 t2 (by simpa [KP] using ca) (by simpa [KP] using cb) e
   | _=>simp [ltX] at e
  | list xs =>
   cases db with
   | list ys =>
    rw [V7] at hd
    rw [ltX] at e
    cases ra with
    | list e1 c1 d1 t1 =>
     cases rb with
     | list e2 c2 d2 t2 =>
      refine W0 e1 c1 d1 e2 c2 d2 (by omega) ?_
      exact jj (m:=n) (by show A.units+1+n+1<cLine;omega) (fun x y a b as bs r hx r1 r2 k1 k2 e=>ih x y A.in1 s a b as bs r hx r1 r2 k1 k2 (by show A.units+1+n+1<cLine;omega) e)
       xs ys _ _ _ _ r (by omega) t1 t2 (by simpa [KP] using ca) (by simpa [KP] using cb) e
   | _=>simp [ltX] at e
  | _=>simp [ltX] at e
def ltD2 (x y:Ka):Option Ka:=if Vz x=true/\Vz y=true/\x.depth<=60 then ob (ltX x y) fun r=>some (.bool r) else none
theorem qcR {X:Cx}{k:Nat}(hr:Room k X.A):OpD X (compareOp .Lt) ltD2:=by
 intro pins s σ H x y v u Q I rx ry ⟨S,dx,dy,d,m,h1,h2,e,q⟩
 unfold ltD2 at e
 split at e
 ·rename_i hc
  obtain ⟨as,q1⟩:=h1.reads I (Vg hc.1) rx
  obtain ⟨bs,q2⟩:=h2.reads I (Vg hc.2.1) ry
  obtain ⟨r,e1,e⟩:=qd e
  cases e
  have hu:=hr.units
  exact jQ 60 dx dy X.A s v u as bs r hc.2.2 q1 q2 (Vg hc.1) (Vg hc.2.1) (by omega) e1 X.prog X.w X.xe _ (YH I (q _ H (Same.refl H) (.bool r)) rfl)
 ·cases e
end L2
namespace L2
open PySem PySem.Spec PyProof.Rows PySem.W
def runC {α:Type}(lt:aS):KasT α->Option α
 | .ret a=>some a
 | .ask i j k=>ob (lt i j) fun b=>runC lt (k b)
theorem Wr {α:Type}{cmp:Nat->Nat->(Bool->Ke->Prop)->Ke->Prop}{lt:aS}{s:Ke}{Q:α->Ke->Prop}(hc:∀ i j b C,lt i j=some b->C b s->cmp i j C s) :
  ∀ (t:KasT α) (a:α),runC lt t=some a->Q a s->t.kasWp cmp Q s
 | .ret x,a,e,q=>by cases e;exact q
 | .ask i j k,a,e,q=>by
  obtain ⟨b,e1,e2⟩:=qd e
  exact hc i j b _ e1 (Wr hc (k b) a e2 q)
section
variable {prog:KD}{w:KM}{A:KU}{E:aq}{s:Ke}
def Kept (a:Kd)(s s':Ke):Prop:=∀ b o,b≠a->s.heap.get? b=some o->s'.heap.get? b=some o
theorem Y9 {a:Kd}{vs:aw}{n:Nat}{P:PySem.Fin->Ke->Prop}{κ:SortKind}{p:aT}(ho:s.heap.get? a=some (seqObj "list" vs.toArray n))(h2:2<=vs.length)(h64:vs.length<64)
  (hk:∀ (s':Ke) (Q:SortKind->Ke->Prop),Kept a s s'->Q κ s'->wpAny (model prog w) A (keyKind' vs.toArray) Q E s')
  (hr:∀ (s':Ke) (G:Array Nat->Ke->Prop),Kept a s s'->G p s'->(Xw vs.length).kasWp (kas_ask prog w A κ vs) G s')
  (h:P (.done (.ret .none)) { s with heap:=sortedHeap s.heap a vs (p.toList.map fun i=>vs.getD i VM).toArray }) :
  wpAny (model prog w) A (UO.«list.sort» ⟨[.ref a],[]⟩) P E s:=by
 have small:vs.length<=sizeLine:=by rw [Uj];omega
 have lt:=Kw ho
 obtain ⟨e1,o1⟩:∃ e1,(s.heap.update a (Vi fun _=>#[])).get? a=some (seqObj "list" #[] e1):=⟨_,get?_update_seq ho fun _=>#[]⟩
 rw [list_sort_plain]
 refine Ki (listItems_at ho rfl (Ki (Xa ho rfl (Ki (XU o1 rfl (Ki ?_))) (by simpa using small) (Vu _))))
 refine wpAny_newTuple (Ki (Xb (UI ?_) (Vu _))) (by simpa using small)
 obtain ⟨h6,hE⟩:∃ h6,h6=((s.heap.update a (Vi fun _=>(#[]:Array Kc))).push (seqObj "tuple" vs.toArray 0)).push (seqObj "list" #[] 0):=⟨_,rfl⟩
 have kp:Kept a s { s with heap:=h6 }:=fun b o ne e=>by
  show h6.get? b=some o
  rw [hE]
  refine Kp _ (Kp _ ?_)
  rw [Heap.get?_update_ne _ _ _ _ ne]
  exact e
 have o6:h6.get? a=some (seqObj "list" #[] e1):=by
  rw [hE]
  exact Kp _ (Kp _ o1)
 show wpAny (model prog w) A _ P E { s with heap:=((s.heap.update a (Vi fun _=>(#[]:Array Kc))).push (seqObj "tuple" vs.toArray 0)).push (seqObj "list" #[] 0) }
 rw [← hE]
 have n2:¬ vs.toArray.size<2:=by rw [Km];omega
 dsimp only
 rw [if_neg n2,if_neg n2]
 refine Ki (hk _ _ kp ?_)
 refine Ki (VF (kat_run (Q:=fun st' s'=>s'={ s with heap:=h6 }/\arrOf st'=p.map (kas_item (vs.toArray.zip vs.toArray))/\failedOf st'=none/\p.size=vs.length) rfl h2 h64
  (fun p' st' s' z har hf hg=>⟨hg.1,by rw [← hg.2];exact har,hf,by rw [← hg.2];exact z⟩) (hr _ (fun p' s'=>s'={ s with heap:=h6 }/\p'=p) kp ⟨rfl,rfl⟩)) ?_ fun _ _ e=>e)
 rintro ⟨⟨⟩,st'⟩ s' ⟨rfl,har,hf,hz⟩
 dsimp only
 rw [kat_snds rfl har]
 refine Ki (XU o6 rfl (Ki (Xa o6 rfl ?_ (Vu _) (by rw [Km,Kg,Ky,hz];omega))))
 rw [hf]
 simp only [bne_self_eq_false,Ug,if_false]
 refine Kx ?_
 rw [hE]
 exact h
theorem wj {a:Kd}{vs:aw}{n:Nat}{P:PySem.Fin->Ke->Prop}(ho:s.heap.get? a=some (seqObj "list" vs.toArray n))(h2:vs.length<2)
  (h:P (.done (.ret .none)) { s with heap:=sortedHeap s.heap a vs vs.toArray }):wpAny (model prog w) A (UO.«list.sort» ⟨[.ref a],[]⟩) P E s:=by
 have small:vs.length<=sizeLine:=by rw [Uj];omega
 obtain ⟨e1,o1⟩:∃ e1,(s.heap.update a (Vi fun _=>#[])).get? a=some (seqObj "list" #[] e1):=⟨_,get?_update_seq ho fun _=>#[]⟩
 rw [list_sort_plain]
 refine Ki (listItems_at ho rfl (Ki (Xa ho rfl (Ki (XU o1 rfl (Ki ?_))) (by simpa using small) (Vu _))))
 refine wpAny_newTuple (Ki (Xb (UI ?_) (Vu _))) (by simpa using small)
 obtain ⟨h6,hE⟩:∃ h6,h6=((s.heap.update a (Vi fun _=>(#[]:Array Kc))).push (seqObj "tuple" vs.toArray 0)).push (seqObj "list" #[] 0):=⟨_,rfl⟩
 have o6:h6.get? a=some (seqObj "list" #[] e1):=by
  rw [hE]
  exact Kp _ (Kp _ o1)
 show wpAny (model prog w) A _ P E { s with heap:=((s.heap.update a (Vi fun _=>(#[]:Array Kc))).push (seqObj "tuple" vs.toArray 0)).push (seqObj "list" #[] 0) }
 rw [← hE]
 have n2:vs.toArray.size<2:=by rw [Km];omega
 dsimp only
 rw [if_pos n2,if_pos n2]
 refine Ki (Kx ?_)
 rw [StateT.run_pure]
 refine Ki (Kx ?_)
 dsimp only
 have eo:Array.map (fun x=>x.2) (vs.toArray.zip vs.toArray)=vs.toArray:=by
  apply Array.toList_inj.mp
  simp [List.map_snd_zip]
 show wpAny (model prog w) A (seqEpoch a >>= _) P E { s with heap:=h6 }
 refine Ki (XU o6 rfl (Ki ?_))
 rw [show Array.map (fun x=>x.2) (arrOf (SortSt.mk' general' (vs.toArray.zip vs.toArray) #[] 7 none))=vs.toArray from eo]
 refine Xa o6 rfl ?_ (Vu _) (by rw [Km];omega)
 simp only [bne_self_eq_false,Ug,if_false]
 refine Kx ?_
 rw [hE]
 exact h
theorem yF {l:Kd}{vs:aw}{Q:aq}{κ:SortKind}{p:aT}(hl:s.heap.IsList l vs.toArray)(h2:2<=vs.length)(h64:vs.length<64)
  (hk:∀ (s':Ke) (Q:SortKind->Ke->Prop),(∀ b o,s.heap.get? b=some o->s'.heap.get? b=some o)->Q κ s'->wpAny (model prog w) A.in1.in1 (keyKind' vs.toArray) Q (fun _ _=>False) s')
  (hr:∀ (s':Ke) (G:Array Nat->Ke->Prop),(∀ b o,s.heap.get? b=some o->s'.heap.get? b=some o)->G p s'->(Xw vs.length).kasWp (kas_ask prog w A.in1.in1 κ vs) G s')
  (h:Q (.ref (s.heap.objs.size+1)) { s with heap:=sortedAll s.heap vs (p.toList.map fun i=>vs.getD i VM).toArray }) :
  wpAny (model prog w) A (call (.builtin "sorted") [.ref l]) Q E s:=by
 have small:vs.length<=sizeLine:=by rw [Uj];omega
 refine Calls.call_function_entry kind_sorted plain_sorted entry_sorted (args_sorted1 _) ?_
 unfold UO.«sorted»
 refine Ki (m:=checkCount "sorted" 1 1 _) (Kx (Ki (collect_list hl (Ki (Xb ?_ (by simpa using small))) (by simpa using small))))
 have zz:((s.heap.push (seqObj "list" #[] 0)).update s.heap.objs.size (Vi (·++vs.toArray))).objs.size=s.heap.objs.size+1:=by rw [Heap.size_update,size_push']
 obtain ⟨h3,hH⟩:∃ h3,h3=((s.heap.push (seqObj "list" #[] 0)).update s.heap.objs.size (Vi (·++vs.toArray))).push (seqObj "list" vs.toArray 0):=⟨_,rfl⟩
 have oL:h3.get? (s.heap.objs.size+1)=some (seqObj "list" vs.toArray 0):=by
  rw [hH,← zz]
  exact K5 _ rfl
 have keep:∀ b o,s.heap.get? b=some o->h3.get? b=some o:=fun b o e=>by
  rw [hH]
  have hlt:=Kw e
  refine Kp _ ?_
  rw [Heap.get?_update_ne _ _ _ _ (Vj hlt)]
  exact Kp _ e
 show wpAny _ _ _ _ _ { s with heap:=((s.heap.push (seqObj "list" #[] 0)).update s.heap.objs.size (Vi (·++vs.toArray))).push (seqObj "list" vs.toArray 0) }
 rw [zz,← hH]
 have k2:∀ s':Ke,Kept (s.heap.objs.size+1) { s with heap:=h3 } s'->∀ b o,s.heap.get? b=some o->s'.heap.get? b=some o:=fun s' kp b o e=>kp b o (Vj (Ul (Kw e))) (keep b o e)
 refine Ki (UI (Xs slot_list_sort ⟨_,oL,rfl⟩ entry_list_sort (Y9 (κ:=κ) (p:=p) oL h2 h64 (fun s' Q kp q=>VF (hk s' Q (k2 s' kp) q) (fun _ _ z=>z) fun _ _ z=>z.elim) (fun s' G kp q=>hr s' G (k2 s' kp) q) ⟨_,rfl,?_⟩) (args_list_sort _)))
 refine Kx ⟨_,rfl,?_⟩
 have hA:sortedHeap h3 (s.heap.objs.size+1) vs (p.toList.map fun i=>vs.getD i VM).toArray=sortedAll s.heap vs (p.toList.map fun i=>vs.getD i VM).toArray:=by
  rw [hH]
  rfl
 rw [hA]
 exact h
theorem yG {l:Kd}{vs:aw}{Q:aq}(hl:s.heap.IsList l vs.toArray)(h2:vs.length<2)
  (h:Q (.ref (s.heap.objs.size+1)) { s with heap:=sortedAll s.heap vs vs.toArray }) :
  wpAny (model prog w) A (call (.builtin "sorted") [.ref l]) Q E s:=by
 have small:vs.length<=sizeLine:=by rw [Uj];omega
 refine Calls.call_function_entry kind_sorted plain_sorted entry_sorted (args_sorted1 _) ?_
 unfold UO.«sorted»
 refine Ki (m:=checkCount "sorted" 1 1 _) (Kx (Ki (collect_list hl (Ki (Xb ?_ (by simpa using small))) (by simpa using small))))
 have zz:((s.heap.push (seqObj "list" #[] 0)).update s.heap.objs.size (Vi (·++vs.toArray))).objs.size=s.heap.objs.size+1:=by rw [Heap.size_update,size_push']
 obtain ⟨h3,hH⟩:∃ h3,h3=((s.heap.push (seqObj "list" #[] 0)).update s.heap.objs.size (Vi (·++vs.toArray))).push (seqObj "list" vs.toArray 0):=⟨_,rfl⟩
 have oL:h3.get? (s.heap.objs.size+1)=some (seqObj "list" vs.toArray 0):=by
  rw [hH,← zz]
  exact K5 _ rfl
 show wpAny _ _ _ _ _ { s with heap:=((s.heap.push (seqObj "list" #[] 0)).update s.heap.objs.size (Vi (·++vs.toArray))).push (seqObj "list" vs.toArray 0) }
 rw [zz,← hH]
 refine Ki (UI (Xs slot_list_sort ⟨_,oL,rfl⟩ entry_list_sort (wj oL h2 ⟨_,rfl,?_⟩) (args_list_sort _)))
 refine Kx ⟨_,rfl,?_⟩
 have hA:sortedHeap h3 (s.heap.objs.size+1) vs vs.toArray=sortedAll s.heap vs vs.toArray:=by
  rw [hH]
  rfl
 rw [hA]
 exact h
end
def Ye (ds:aj)(i j:Nat):Option Bool:=match ds[i]?,ds[j]? with
 | some x,some y=>ltX x y
 | _,_=>none
noncomputable def keyD:Ka->Nat
 | .tuple (.int _::_)=>0
 | .tuple (.tuple _::_)=>1
 | .int _=>2
 | _=>3
def Ym (ds:aj)(p:aT):Option Ka:=if (p.toList.all fun i=>decide (i<ds.length))=true/\p.toList.length<=1000 then some (.list (p.toList.map fun i=>ds.getD i .none)) else none
def Qh (k:Nat)(ds:aj):Bool:=(ds.all fun d=>keyD d==k)&&(decide (2<=ds.length)&&(decide (ds.length<64)&&(Kn ds&&decide (KB ds<=50))))
def Zk:List Ka->Option Ka
 | [.list ds]=>if ds.length<2 then some (.list ds) else if Qh 0 ds=true\/Qh 1 ds=true then ob (runC (Ye ds) (Xw ds.length)) fun p=>Ym ds p else none
 | _=>none
section
variable {prog:KD}{w:KM}{A:KU}{s:Ke}
theorem yl {b fin:Bool}{m:Nat}{Q:Bool->Ke->Prop}{r:Bool}(hu:A.units+m+1<cLine)(q:Q r s) :
  ∀ (xs ys:aj) (vs ws:aw) (as bs:az) (i:Nat),KB xs<=m->VV s.heap vs xs as->VV s.heap ws ys bs->Kn xs=true->Kn ys=true->ltXs xs ys=some r->
   (b=true->i=0->∀ x y,xs.head?=some x->ys.head?=some y->∃ n k,x=.int n/\y=.int k)->fin=decide (xs.length<ys.length)->KatLex prog w A b fin Q (vs.zip ws) i s:=by
 intro xs
 induction xs with
 | nil =>
  intro ys vs ws as bs i _ h1 h2 _ _ e _ hf
  cases h1
  rw [List.zip_nil_left]
  refine kat_nil ?_
  cases ys with
  | nil=>rw [ltXs] at e;cases e;rw [hf];simpa using q
  | cons y ys=>rw [ltXs] at e;cases e;rw [hf];simpa using q
 | cons x xs ih =>
  intro ys vs ws as bs i hm h1 h2 c1 c2 e hb hf
  cases h1 with
  | cons rx rxs =>
   cases ys with
   | nil =>
    cases h2
    rw [List.zip_nil_right]
    refine kat_nil ?_
    rw [ltXs] at e;cases e;rw [hf];simpa using q
   | cons y ys =>
    cases h2 with
    | cons ry rys =>
     have c1':x.canLay0=true/\Kn xs=true:=by simpa [Kn] using c1
     have c2':y.canLay0=true/\Kn ys=true:=by simpa [Kn] using c2
     have hd:max x.depth (KB xs)<=m:=by rw [KB] at hm;exact hm
     have m1:=K7 (XN x.depth (KB xs)) hd
     have m2:=K7 (Xv x.depth (KB xs)) hd
     rw [ltXs] at e
     rw [U7]
     refine kat_cons (SeqAt.eqAt_reads x y A s _ _ _ _ rx ry c1'.1 c2'.1 (by have:=Nat.min_le_left x.depth y.depth;omega) prog w _ _ (kat_go (fun z=>?_) fun z=>?_))
     ·rw [if_pos z] at e
      refine kat_yes (ih ys _ _ _ _ (i+1) m2 rxs rys c1'.2 c2'.2 e (fun _ z=>by omega) ?_)
      rw [hf,Kk,Kk]
      exact decide_eq_decide.mpr (by omega)
     ·rw [if_neg (by rw [z];exact Vp)] at e
      refine kat_no ?_
      cases hbi:(b&&i==0) with
      | true =>
       rw [Kt] at hbi
       obtain ⟨n,k,rfl,rfl⟩:=hb hbi.1 (by simpa using hbi.2) x y rfl rfl
       cases rx;cases ry
       rw [ltX] at e
       cases e
       exact oneLt_int q
      | false =>
       exact kat_one _ _ (jQ m x y A s _ _ _ _ r m1 rx ry c1'.1 c2'.1 hu e prog w _ _ q)
theorem Z2 {h:KI}:∀ {vs:aw} {ds:aj} {as:az},VV h vs ds as->vs.length=ds.length
 | _,_,_,.nil=>rfl
 | _,_,_,.cons _ t=>by rw [Kk,Kk,Z2 t]
theorem Z1 {h:KI}:∀ {vs:aw} {ds:aj} {as:az} {i:Nat} {d:Ka},VV h vs ds as->ds[i]?=some d->∃ v bs,vs[i]?=some v/\Reads h v d bs
 | _,_,_,_,_,.nil,e=>by simp at e
 | _,_,_,0,_,.cons r _,e=>by simp at e;subst e;exact ⟨_,_,rfl,r⟩
 | _,_,_,i+1,d,.cons _ t,e=>by
  obtain ⟨v,bs,h1,h2⟩:=Z1 (i:=i) (d:=d) t (by simpa using e)
  exact ⟨v,bs,by simpa using h1,h2⟩
theorem Zt:∀ {ds:aj} {i:Nat} {d:Ka},Kn ds=true->ds[i]?=some d->d.canLay0=true/\d.depth<=KB ds
 | [],_,_,_,e=>by simp at e
 | x::xs,0,d,h,e=>by
  have h':x.canLay0=true/\Kn xs=true:=by simpa [Kn] using h
  simp at e
  subst e
  exact ⟨h'.1,by rw [KB];exact XN _ _⟩
 | x::xs,i+1,d,h,e=>by
  have h':x.canLay0=true/\Kn xs=true:=by simpa [Kn] using h
  obtain ⟨h1,h2⟩:=Zt (i:=i) (d:=d) h'.2 (by simpa using e)
  exact ⟨h1,K7 h2 (by rw [KB];exact Xv _ _)⟩
theorem jO {h:KI}{k:Nat}(hk:k<2):∀ {vs:aw} {ds:aj} {as:az},VV h vs ds as->(ds.all fun d=>keyD d==k)=true->∃ fs:List Kc,KatTups h vs fs/\fs.length=vs.length/\∀ (M:Model),∀ f∈fs,Looks M h (typeOf f) (if k=0 then VC "int" else VC "tuple")
 | _,_,_,.nil,_=>⟨[],trivial,rfl,fun _ _ z=>nomatch z⟩
 | _,d::ds,_,.cons (d:=_) r t,e=>by
  rw [List.all_cons,Kt] at e
  obtain ⟨fs,h1,h2,h3⟩:=jO hk t e.2
  have e1:keyD d=k:=by simpa using e.1
  cases d with
  | tuple xs =>
   cases r with
   | @tuple a o its n xs' as' g1 g2 g3 g4 =>
    cases xs with
    | nil=>rw [show keyD (.tuple [])=3 from rfl] at e1;omega
    | cons x xs =>
     obtain ⟨v,rv,q1,rx⟩:=Z1 (i:=0) g4 rfl
     have h0:its[0]?=some v:=by rw [← Uo];exact q1
     refine ⟨v::fs,KatTups.cons g1 g2 g3 h0 h1,by rw [Kk,Kk,h2],fun M f hf=>?_⟩
     rcases Ks.mp hf with rfl|hf
     ·cases x with
      | int n =>
       cases rx
       rw [show keyD (.tuple (.int n::xs))=0 from rfl] at e1
       rw [if_pos e1.symm]
       exact Looks.of_pure rfl
      | tuple ys =>
       rw [show keyD (.tuple (.tuple ys::xs))=1 from rfl] at e1
       cases rx with
       | tuple k1 k2 k3 k4 =>
        rw [if_neg (by omega),← k2]
        exact (Looks.ld k1).andThen .now
      | none=>rw [show keyD (.tuple (.none::xs))=3 from rfl] at e1;omega
      | bool _=>rw [show keyD (.tuple (.bool _::xs))=3 from rfl] at e1;omega
      | str _=>rw [show keyD (.tuple (.str _::xs))=3 from rfl] at e1;omega
      | list _=>rw [show keyD (.tuple (.list _::xs))=3 from rfl] at e1;omega
      | dict _=>rw [show keyD (.tuple (.dict _::xs))=3 from rfl] at e1;omega
     ·exact h3 M f hf
  | int n=>rw [show keyD (.int n)=2 from rfl] at e1;omega
  | none=>rw [show keyD .none=3 from rfl] at e1;omega
  | bool _=>rw [show keyD (.bool _)=3 from rfl] at e1;omega
  | str _=>rw [show keyD (.str _)=3 from rfl] at e1;omega
  | list _=>rw [show keyD (.list _)=3 from rfl] at e1;omega
  | dict _=>rw [show keyD (.dict _)=3 from rfl] at e1;omega
end
section
variable {h h':KI}
mutual
theorem W9 (k:∀ b o,h.get? b=some o->h'.get? b=some o):∀ {d:Ka} {v:Kc} {as:az},Reads h v d as->d.canLay0=true->Reads h' v d as
 | .none,_,_,r,_=>by cases r;exact .none
 | .bool _,_,_,r,_=>by cases r;exact .bool _
 | .int _,_,_,r,_=>by cases r;exact .int _ _
 | .str _,_,_,r,_=>by cases r;exact .str _ _
 | .list xs,_,_,r,c=>by
  cases r with
  | list e q g t=>exact .list (k _ _ e) q g (zV k t (by simpa [KP] using c))
 | .tuple xs,_,_,r,c=>by
  cases r with
  | tuple e q g t=>exact .tuple (k _ _ e) q g (zV k t (by simpa [KP] using c))
 | .dict _,_,_,_,c=>by simp [KP] at c
theorem zV (k:∀ b o,h.get? b=some o->h'.get? b=some o):∀ {ds:aj} {vs:aw} {as:az},VV h vs ds as->Kn ds=true->VV h' vs ds as
 | [],_,_,r,_=>by cases r;exact .nil
 | d::ds,_,_,r,c=>by
  have c':d.canLay0=true/\Kn ds=true:=by simpa [Kn] using c
  cases r with
  | cons r t=>exact .cons (W9 k r c'.1) (zV k t c'.2)
end
end
theorem qaU {x y:Ka}{r:Bool}(hx:keyD x<2)(e:ltX x y=some r):∃ xs ys,x=.tuple xs/\y=.tuple ys/\ltXs xs ys=some r:=by
 cases x with
 | tuple xs =>
  cases y with
  | tuple ys=>rw [ltX] at e;exact ⟨xs,ys,rfl,rfl,e⟩
  | _=>simp [ltX] at e
 | int n=>simp [keyD] at hx
 | list xs=>simp [keyD] at hx
 | _=>simp [ltX] at e
theorem Jv {k:Nat}{xs:aj}(e:keyD (.tuple xs)=k)(h0:k=0):∀ x,xs.head?=some x->∃ n,x=.int n:=by
 intro x hx
 cases xs with
 | nil=>cases hx
 | cons y ys =>
  cases hx
  cases x with
  | int n=>exact ⟨n,rfl⟩
  | _=>(first|(simp [keyD] at e;omega)|(simp only [keyD] at e;omega))
theorem getD_some {α:Type}{xs:List α}{i:Nat}{x d:α}(e:xs[i]?=some x):xs.getD i d=x:=by rw [K6,e];rfl
theorem qaX {X:Cx}{k:Nat}(hr:Room k X.A):wG X (.builtin "sorted") Zk:=by
 intro pins s σ H xs us Q I r ⟨S,ds,d,m,h1,e,q⟩
 unfold Zk at e
 split at e
 ·rename_i ds
  split at e
  ·rename_i hlt
   cases e
   obtain ⟨v,rfl,hv⟩:=h1.inv1
   obtain ⟨a,ys,rfl,hs,ht⟩:=hv.list_inv
   obtain ⟨u,rfl,ru⟩:=vals1 r
   cases (show u=Vh a from ru)
   obtain ⟨its,rv,pl,hz⟩:=I.list hs.sq
   have hlen:=rv.length
   have hl2:=ht.length
   refine yG pl.isList (by omega) ?_
   obtain ⟨en,ob⟩:=sortedAll_at s.heap its its.toArray
   have hfr:H (s.heap.objs.size+1)=none:=I.hok.fresh (UE _)
   exact ⟨.ref (s.heap.objs.size+1),_,I.laid (t':=s.toks) (o:=.lst ys) (fun b o e=>sortedAll_old e) (UE _) ⟨hz,_,en,rv,ob⟩,rfl,q _ _ (Same.lay hfr) hfr (OwnO.laid hfr ht)⟩
  split at e
  ·rename_i hok
   obtain ⟨p,e1,e2⟩:=qd e
   obtain ⟨v,rfl,hv⟩:=h1.inv1
   obtain ⟨a,ys,rfl,hs,ht⟩:=hv.list_inv
   obtain ⟨u,rfl,ru⟩:=vals1 r
   cases (show u=Vh a from ru)
   obtain ⟨its,rv,pl,hz⟩:=I.list hs.sq
   obtain ⟨kk,hk2,hk⟩:∃ kk,kk<2/\Qh kk ds=true:=hok.elim (fun z=>⟨0,by decide,z⟩) fun z=>⟨1,by decide,z⟩
   unfold Qh at hk
   simp only [Kt,decide_eq_true_eq] at hk
   obtain ⟨hall,l2,l64,hcan,hdep⟩:=hk
   obtain ⟨as,ra⟩:=ht.reads I hcan rv
   have hlen:=Z2 ra
   unfold Ym at e2
   split at e2
   ·rename_i hin
    cases e2
    have hin':∀ i∈p.toList,i<ds.length:=fun i hi=>by
     have:=Vc.mp hin.1 i hi
     simpa using this
    have hu:=hr.units
    obtain ⟨T,hT⟩:∃ T,T=(if kk=0 then VC "int" else VC "tuple"):=⟨_,rfl⟩
    have hT2:(T==T)=true:=by rw [hT];split<;>rfl
    have hb:(T != VC "tuple")=true->kk=0:=fun z=>by
     rw [hT] at z
     by_cases h0:kk=0
     ·exact h0
     ·rw [if_neg h0] at z;exact absurd z (by decide)
    refine yF (κ:=tuples' (T != VC "tuple")) (p:=p) pl.isList (by omega) (by omega) (fun s' Q' keep q'=>?_) (fun s' G keep g=>?_) ?_
    ·obtain ⟨fs,t1,t2,t3⟩:=jO hk2 (zV keep ra hcan) hall
     exact kat_kind t1 (by omega) (fun f hf=>by rw [hT];exact t3 _ f hf) hT2 q'
    ·have ra':=zV keep ra hcan
     rw [hlen]
     refine Wr (fun i j b C el hC=>?_) _ p e1 g
     unfold Ye at el
     split at el
     ·rename_i x y ex ey
      obtain ⟨vx,bx,gx,rx⟩:=Z1 ra' ex
      obtain ⟨vy,byy,gy,ry⟩:=Z1 ra' ey
      obtain ⟨cx,dx⟩:=Zt hcan ex
      obtain ⟨cy,dy⟩:=Zt hcan ey
      have kx:keyD x=kk:=by
       have:=Vc.mp hall x (KO ex)
       simpa using this
      have ky:keyD y=kk:=by
       have:=Vc.mp hall y (KO ey)
       simpa using this
      obtain ⟨xs,ys',rfl,rfl,elx⟩:=qaU (by omega) el
      show kas_ask X.prog X.w X.A.in1.in1 _ its i j C s'
      unfold kas_ask
      rw [getD_some gx,getD_some gy]
      cases rx with
      | @tuple ax ox ax1 nx _ _ x1 x2 x3 x4 =>
       cases ry with
       | @tuple ay oy ay1 ny _ _ y1 y2 y3 y4 =>
        have dxs:KB xs<=50:=by rw [V7] at dx;omega
        refine kat_lt x1 x3 y1 y3 (yl (m:=50) (by show X.A.units+1+1+50+1<cLine;omega) hC xs ys' _ _ _ _ 0 dxs x4 y4 (by simpa [KP] using cx) (by simpa [KP] using cy) elx (fun hbb _ x y hx hy=>?_) ?_)
        ·have h0:=hb hbb
         obtain ⟨n1,rfl⟩:=Jv kx h0 x hx
         obtain ⟨n2,rfl⟩:=Jv ky h0 y hy
         exact ⟨n1,n2,rfl,rfl⟩
        ·have z1:=Z2 x4
         have z2:=Z2 y4
         rw [Ky] at z1 z2
         rw [z1,z2]
     ·cases el
    ·obtain ⟨en,ob⟩:=sortedAll_at s.heap its (p.toList.map fun i=>its.getD i VM).toArray
     have hfr:H (s.heap.objs.size+1)=none:=I.hok.fresh (UE _)
     have dl:DenL X.K H S (p.toList.map fun i=>ys.getD i .non) (p.toList.map fun i=>ds.getD i .none):=by
      generalize p.toList=pl at hin'
      induction pl with
      | nil=>exact .nil
      | cons i pl ih =>
       have hi:=hin' i (.head _)
       obtain ⟨vy,gy,dy⟩:=ht.get (Kj hi)
       rw [KF,KF,getD_some gy,getD_some (Kj hi)]
       exact .cons dy (ih fun j hj=>hin' j (.tail _ hj))
     have vl:Vals (p.toList.map fun i=>ys.getD i .non) (p.toList.map fun i=>its.getD i VM):=by
      generalize p.toList=pl at hin'
      induction pl with
      | nil=>exact .nil
      | cons i pl ih =>
       have hi:i<ys.length:=by rw [ht.length];exact hin' i (.head _)
       obtain ⟨w,gw,rw'⟩:=rv.get (Kj hi)
       rw [KF,KF,getD_some (Kj hi),getD_some gw]
       exact .cons rw' (ih fun j hj=>hin' j (.tail _ hj))
     have zz:(p.toList.map fun i=>ys.getD i V.non).length<=sizeLine:=by rw [Kg];exact Vk (q9 hin.2)
     refine ⟨.ref (s.heap.objs.size+1),_,I.laid (t':=s.toks) (o:=.lst (p.toList.map fun i=>ys.getD i .non)) (fun b o e=>sortedAll_old e) (UE _) ⟨zz,_,en,vl,ob⟩,rfl,q _ _ (Same.lay hfr) hfr (OwnO.laid hfr dl)⟩
   ·cases e2
  ·cases e
 ·cases e
end L2
namespace L2
open PySem
theorem J0:bootBuiltins "sorted" = some (.builtin "sorted"):=by decide +kernel
end L2
namespace L2
open PySem PySem.Spec PyProof.Rows
theorem ob_s {α β:Type}(x:α)(f:α->Option β):ob (some x) f=f x:=rfl
theorem vr_z (o:aB)(ρ:Rho):vr 0 (o::ρ)=o:=rfl
theorem vr_s (n:Nat)(o:aB)(ρ:Rho):vr (n+1) (o::ρ)=vr n ρ:=rfl
theorem atI0 {α:Type}(x:α)(xs:List α):atI (x::xs) 0=some x:=by simp [atI,ixN]
theorem Q9 {α:Type}(x:α)(xs:List α)(k:Nat):atI (x::xs) ((k:Int)+1)=atI xs (k:Int):=by
 unfold atI ixN
 have h1:(0:Int)<=(k:Int)+1:=by omega
 have h2:(0:Int)<=(k:Int):=by omega
 rw [if_pos h1,if_pos h2]
 by_cases h:(k:Int)<xs.length
 ·have h':(k:Int)+1<((x::xs).length:Int):=by rw [Kk];omega
  rw [if_pos h,if_pos h']
  have e1:((k:Int)+1).toNat=k+1:=by omega
  have e2:(k:Int).toNat=k:=by omega
  rw [e1,e2]
  rfl
 ·have h':¬ (k:Int)+1<((x::xs).length:Int):=by rw [Kk];omega
  rw [if_neg h,if_neg h']
  rfl
theorem atI1 {α:Type}(x y:α)(xs:List α):atI (x::y::xs) 1=some y:=(Q9 x (y::xs) 0).trans (atI0 y xs)
theorem atI2 {α:Type}(x y z:α)(xs:List α):atI (x::y::z::xs) 2=some z:=(Q9 x (y::z::xs) 1).trans (atI1 y z xs)
theorem atI3 {α:Type}(x y z a:α)(xs:List α):atI (x::y::z::a::xs) 3=some a:=(Q9 x (y::z::a::xs) 2).trans (atI2 y z a xs)
theorem atI4 {α:Type}(x y z a b:α)(xs:List α):atI (x::y::z::a::b::xs) 4=some b:=(Q9 x (y::z::a::b::xs) 3).trans (atI3 y z a b xs)
theorem atI5 {α:Type}(x y z a b c:α)(xs:List α):atI (x::y::z::a::b::c::xs) 5=some c:=(Q9 x (y::z::a::b::c::xs) 4).trans (atI4 y z a b c xs)
theorem Qy {i j:Int}(h:U3 i j):mulD (.int i) (.int j)=some (.int (i*j)):=by
 show (if U3 i j then some (Kh (i*j)) else none)=_
 rw [if_pos h]
def Bd (n:Nat)(i:Int):Prop:=VQ i<=n
theorem Bd.ok {n m:Nat}{i j:Int}(h:Bd n i)(g:Bd m j)(e:n+m<=134217728:=by decide):U3 i j:=IntMulOk.of_le h g e
theorem Bd.mul {n m:Nat}{i j:Int}(h:Bd n i)(g:Bd m j):Bd (n+m) (i*j):=intBits_mul_le h g
theorem Bd.of {n:Nat}{i:Int}(h:i.natAbs<2 ^ n):Bd n i:=intBits_le_iff.mpr h
theorem natLit (n:Nat):((no_index (OfNat.ofNat n):Nat):Int)=(OfNat.ofNat n:Int):=rfl
theorem qb0 (i j:Int):eqD (.int i) (.int j)=some (.bool (i==j)):=rfl
theorem qcf (i j:Int):neD (.int i) (.int j)=some (.bool (!(i==j))):=rfl
theorem zT (i:Int){j:Int}(h:0<j):modD (.int i) (.int j)=some (.int (i % j)):=by
 show (if 0<j then some (Kh (i % j)) else none)=_
 rw [if_pos h]
theorem jG (i:Int){j:Int}(h:0<j)(h2:j<1073741824):Zf (.int i) (.int j)=some (.int (i / j)):=by
 show (if CDiv i j then some (Kh (i / j)) else none)=_
 rw [if_pos ⟨h,h2⟩]
def Jp (o:Option Out)(w:ao):Option Out:=match o with | some (.nx ρ')=>w ρ'|o=>o
theorem qbq (u w:ao)(ρ:Rho):seqO u w ρ=Jp (u ρ) w:=by
 unfold seqO ob Jp
 cases u ρ with
 | none=>rfl
 | some o=>cases o<;>rfl
theorem yK (ρ:Rho)(w:ao):Jp (some (.nx ρ)) w=w ρ:=rfl
theorem qar (d:Ka)(w:ao):Jp (some (.rt d)) w=some (.rt d):=rfl
theorem qap (ρ:Rho)(w:ao):Jp (some (.bk ρ)) w=some (.bk ρ):=rfl
theorem qaq (ρ:Rho)(w:ao):Jp (some (.ct ρ)) w=some (.ct ρ):=rfl
def ifO {α:Type}(b:Option Bool)(u w:Rho->Option α)(ρ:Rho):Option α:=match b with | some true=>u ρ|some false=>w ρ|none=>none
theorem ifO_t {α:Type}(u w:Rho->Option α)(ρ:Rho):ifO (some true) u w ρ=u ρ:=rfl
theorem ifO_f {α:Type}(u w:Rho->Option α)(ρ:Rho):ifO (some false) u w ρ=w ρ:=rfl
theorem sIf_b (p:ah)(u w:ao)(ρ:Rho):sIf p u w ρ=ifO (p ρ) u w ρ:=by
 unfold sIf ob ifO
 cases p ρ with
 | none=>rfl
 | some b=>cases b<;>rfl
theorem tA_b (p q:ah)(ρ:Rho):tA p q ρ=ifO (p ρ) q (fun _=>some false) ρ:=by
 unfold tA ob ifO
 cases p ρ with
 | none=>rfl
 | some b=>cases b<;>rfl
theorem tO_b (p q:ah)(ρ:Rho):tO p q ρ=ifO (p ρ) (fun _=>some true) q ρ:=by
 unfold tO ob ifO
 cases p ρ with
 | none=>rfl
 | some b=>cases b<;>rfl
theorem vA_b (f g:aa)(ρ:Rho):vA f g ρ=ifO (ob (f ρ) Zo) g (fun _=>some (.bool false)) ρ:=by
 unfold vA ob ifO
 cases f ρ with
 | none=>rfl
 | some x =>
  dsimp only
  cases Zo x with
  | none=>rfl
  | some b=>cases b<;>rfl
theorem vO_b (f g:aa)(ρ:Rho):vO f g ρ=ifO (ob (f ρ) Zo) (fun _=>some (.bool true)) g ρ:=by
 unfold vO ob ifO
 cases f ρ with
 | none=>rfl
 | some x =>
  dsimp only
  cases Zo x with
  | none=>rfl
  | some b=>cases b<;>rfl
def setO (o:aB)(i:Nat)(ρ:Rho):Option Out:=match o with | some d=>some (.nx (ρ.set i (some d)))|none=>none
theorem qeg (i:Nat)(f:aa)(ρ:Rho):sSet i f ρ=setO (f ρ) i ρ:=by
 unfold sSet ob setO
 cases f ρ<;>rfl
theorem qek (d:Ka)(i:Nat)(ρ:Rho):setO (some d) i ρ=some (.nx (ρ.set i (some d))):=rfl
def binO (a b:aB)(g:aF):Option Ka:=match a,b with | some x,some y=>g x y|_,_=>none
theorem ev2_b (fa fb:aa)(g:aF)(ρ:Rho):ev2 fa fb g ρ=binO (fa ρ) (fb ρ) g:=by
 unfold ev2 ob binO
 cases fa ρ<;>cases fb ρ<;>rfl
theorem qda (x y:Ka)(g:aF):binO (some x) (some y) g=g x y:=rfl
def Zq (a:aB)(b:aM):Option (List Ka):=match a,b with | some x,some xs=>some (x::xs)|_,_=>none
theorem aC_b (fa:aa)(fs:ae)(ρ:Rho):aC fa fs ρ=Zq (fa ρ) (fs ρ):=by
 unfold aC ob Zq
 cases fa ρ<;>cases fs ρ<;>rfl
theorem qbV (x:Ka)(xs:aj):Zq (some x) (some xs)=some (x::xs):=rfl
def qas (n:Nat)(a:aM)(h:av):Option Ka:=match a with | some ds=>if ds.length=n then h ds else none|none=>none
theorem evC_b (n:Nat)(fs:ae)(h:av)(ρ:Rho):evC n fs h ρ=qas n (fs ρ) h:=by
 unfold evC ob qas
 cases fs ρ<;>rfl
theorem qbL (n:Nat)(ds:aj)(h:av):qas n (some ds) h=if ds.length=n then h ds else none:=rfl
def wU (b:Option Bool)(tt:ah)(te:aa)(ρ:Rho)(d:Ka)(ds:aj):Option (List Ka):=match b with | some true=>Zq (te (ρ++[some d])) (zc tt te ρ ds)|some false=>zc tt te ρ ds|none=>none
theorem wR (tt:ah)(te:aa)(ρ:Rho)(d:Ka)(ds:aj):zc tt te ρ (d::ds)=wU (tt (ρ++[some d])) tt te ρ d ds:=by
 rw [zc]
 unfold ob wU Zq
 cases tt (ρ++[some d]) with
 | none=>rfl
 | some b =>
  cases b with
  | false=>rfl
  | true =>
   dsimp only [if_true]
   rw [if_pos rfl]
   cases te (ρ++[some d])<;>cases zc tt te ρ ds<;>rfl
theorem qbR (tt:ah)(te:aa)(ρ:Rho):zc tt te ρ []=some []:=rfl
theorem wW (tt:ah)(te:aa)(ρ:Rho)(d:Ka)(ds:aj):wU (some true) tt te ρ d ds=Zq (te (ρ++[some d])) (zc tt te ρ ds):=rfl
theorem wV (tt:ah)(te:aa)(ρ:Rho)(d:Ka)(ds:aj):wU (some false) tt te ρ d ds=zc tt te ρ ds:=rfl
def jP (a:aM):Option Ka:=match a with | some ys=>some (.list ys)|none=>none
def qay (a:aM)(n:Nat)(tt:ah)(te:aa)(ρ:Rho):Option Ka:=match a with | some ds=>if ρ.length=n/\ds.length<=1000 then jP (zc tt te ρ ds) else none|none=>none
theorem qbT (n:Nat)(fi:ae)(tt:ah)(te:aa)(ρ:Rho):Qo n fi tt te ρ=qay (fi ρ) n tt te ρ:=by
 unfold Qo ob qay jP
 cases fi ρ with
 | none=>rfl
 | some ds =>
  dsimp only
  split
  ·cases zc tt te ρ ds<;>rfl
  ·rfl
theorem qbP (ds:aj)(n:Nat)(tt:ah)(te:aa)(ρ:Rho):qay (some ds) n tt te ρ=if ρ.length=n/\ds.length<=1000 then jP (zc tt te ρ ds) else none:=rfl
theorem qcc (ds:aj):jP (some ds)=some (.list ds):=rfl
def forI (a:aM)(g:af)(u:ao)(ρ:Rho):Option Out:=match a with | some ds=>forD g u ds ρ|none=>none
theorem qed (fi:ae)(g:af)(u:ao)(ρ:Rho):sFor fi g u ρ=forI (fi ρ) g u ρ:=by
 unfold sFor ob forI
 cases fi ρ<;>rfl
theorem qdj (ds:aj)(g:af)(u:ao)(ρ:Rho):forI (some ds) g u ρ=forD g u ds ρ:=rfl
def forO (o:Option Out)(g:af)(u:ao)(ds:aj):Option Out:=match o with
 | some (.nx ρ')=>forD g u ds ρ'
 | some (.ct ρ')=>forD g u ds ρ'
 | some (.bk ρ')=>some (.nx ρ')
 | some (.rt r)=>some (.rt r)
 | none=>none
theorem YJ (g:af)(u:ao)(d:Ka)(ds:aj)(ρ:Rho):forD g u (d::ds) ρ=forO (ob (g d ρ) u) g u ds:=by
 rw [forD]
 unfold ob forO
 cases g d ρ with
 | none=>rfl
 | some ρ1 =>
  dsimp only
  cases u ρ1 with
  | none=>rfl
  | some o=>cases o<;>rfl
theorem qdi (g:af)(u:ao)(ρ:Rho):forD g u [] ρ=some (.nx ρ):=rfl
theorem J9 (ρ:Rho)(g:af)(u:ao)(ds:aj):forO (some (.nx ρ)) g u ds=forD g u ds ρ:=rfl
theorem qb3 (ρ:Rho)(g:af)(u:ao)(ds:aj):forO (some (.ct ρ)) g u ds=forD g u ds ρ:=rfl
theorem qb2 (ρ:Rho)(g:af)(u:ao)(ds:aj):forO (some (.bk ρ)) g u ds=some (.nx ρ):=rfl
theorem qb4 (d:Ka)(g:af)(u:ao)(ds:aj):forO (some (.rt d)) g u ds=some (.rt d):=rfl
def nxO (o:Option Rho):Option Out:=match o with | some ρ=>some (.nx ρ)|none=>none
def asgO (o:aB)(g:af)(ρ:Rho):Option Out:=match o with | some d=>nxO (g d ρ)|none=>none
theorem qec (f:aa)(g:af)(ρ:Rho):sAsg f g ρ=asgO (f ρ) g ρ:=by
 unfold sAsg ob asgO nxO
 cases f ρ with
 | none=>rfl
 | some d=>dsimp only;cases g d ρ<;>rfl
theorem qc8 (d:Ka)(g:af)(ρ:Rho):asgO (some d) g ρ=nxO (g d ρ):=rfl
theorem nxO_s (ρ:Rho):nxO (some ρ)=some (.nx ρ):=rfl
def retO (o:aB):Option Out:=match o with | some d=>some (.rt d)|none=>none
theorem qef (f:aa)(ρ:Rho):sRet f ρ=retO (f ρ):=by
 unfold sRet ob retO
 cases f ρ<;>rfl
theorem qd9 (d:Ka):retO (some d)=some (.rt d):=rfl
theorem gsN_n (ρ:Rho):gsN [] ρ=some ρ:=rfl
theorem gsC_c (g1:af)(g2:aE)(d:Ka)(r:aj)(ρ:Rho):gsC g1 g2 (d::r) ρ=ob (g1 d ρ) (g2 r):=rfl
theorem qez (n:Nat)(g:aE)(ds:aj)(ρ:Rho):unpD n g (.tuple ds) ρ=if ds.length=n then g ds ρ else none:=rfl
theorem qeh (ds:aj):seqD (.list ds)=some ds:=rfl
theorem qei (ds:aj):seqD (.tuple ds)=some ds:=rfl
theorem jL (ds:aj)(i:Int):ixD (.list ds) (.int i)=atI ds i:=rfl
theorem qaK (ds:aj)(i:Int):ixD (.tuple ds) (.int i)=atI ds i:=rfl
theorem YS (ds:aj):lenD [.list ds]=some (.int ds.length):=rfl
theorem qdz (ds:aj):lenD [.tuple ds]=some (.int ds.length):=rfl
theorem qca (ds:aj):jk [.list ds]=some (.list ds):=rfl
theorem qcb (ds:aj):jk [.tuple ds]=some (.list ds):=rfl
theorem qbJ (b:Bool):Zo (.bool b)=some b:=rfl
theorem qdP (d:Ka):outD (.rt d)=some d:=rfl
theorem qdO (ρ:Rho):outD (.nx ρ)=some .none:=rfl
theorem qc4 (i j:Int):wH (.int i) (.int j)=some (.int (i+j)):=rfl
def takO (b:Bool)(o:aB)(i:Nat)(ρ:Rho):Option Out:=match b,o with | true,some d=>some (.nx (ρ.set i (some d)))|_,_=>none
theorem qcI (i:Nat)(f:aa)(ρ:Rho):Qz i f ρ=takO (decide (i<ρ.length)) (f ρ) i ρ:=by
 unfold Qz ob takO
 by_cases h:i<ρ.length
 ·rw [if_pos h,decide_eq_true h]
  cases f ρ<;>rfl
 ·rw [if_neg h,decide_eq_false h]
theorem qet (d:Ka)(i:Nat)(ρ:Rho):takO true (some d) i ρ=some (.nx (ρ.set i (some d))):=rfl
def flaO (o:aB):Option Ka:=match o with | some d=>if flat d=true then some d else none|none=>none
theorem qb1 (f:aa)(ρ:Rho):Wa f ρ=flaO (f ρ):=by
 unfold Wa ob flaO
 cases f ρ<;>rfl
theorem qdf (d:Ka):flaO (some d)=if flat d=true then some d else none:=rfl
def appO (l d:aB)(i:Nat)(ρ:Rho):Option Out:=match l,d with | some x,some y=>setO (appD x y) i ρ|_,_=>none
theorem qeb (i:Nat)(f:aa)(ρ:Rho):sApp i f ρ=appO (vr i ρ) (f ρ) i ρ:=by
 unfold sApp ob appO setO
 cases vr i ρ with
 | none=>rfl
 | some x =>
  cases f ρ with
  | none=>rfl
  | some y=>dsimp only;cases appD x y<;>rfl
theorem qc7 (x y:Ka)(i:Nat)(ρ:Rho):appO (some x) (some y) i ρ=setO (appD x y) i ρ:=rfl
theorem qc6 (ds:aj)(d:Ka):appD (.list ds) d=if ds.length<1000 then some (.list (ds++[d])) else none:=rfl
def sliO (a:aB)(l h:Option (Option Int)):Option Ka:=match a,l,h with | some x,some l,some h=>sliD x l h|_,_,_=>none
theorem evS_b (fa:aa)(fl fh:aV)(ρ:Rho):evS fa fl fh ρ=sliO (fa ρ) (fl ρ) (fh ρ):=by
 unfold evS ob sliO
 cases fa ρ<;>cases fl ρ<;>cases fh ρ<;>rfl
theorem qen (x:Ka)(l h:aO):sliO (some x) (some l) (some h)=sliD x l h:=rfl
def prtO (a:aB):Option (Option Int):=match a with | some (.int i)=>some (some i)|_=>none
theorem oS_b (f:aa)(ρ:Rho):oS f ρ=prtO (f ρ):=by
 unfold oS ob prtO
 cases f ρ with
 | none=>rfl
 | some d=>cases d<;>rfl
theorem qd1 (i:Int):prtO (some (.int i))=some (some i):=rfl
theorem qep (i j:Int):subD (.int i) (.int j)=some (.int (i-j)):=rfl
theorem qdG (i:Int):negD (.int i)=some (.int (-i)):=rfl
theorem qdD (i j:Int):ltD2 (.int i) (.int j)=some (.bool (decide (i<j))):=by
 show (if _ then ob (ltX (.int i) (.int j)) _ else none)=_
 rw [if_pos ⟨rfl,rfl,Vu 60⟩,ltX]
 rfl
theorem leD_i (i j:Int):leD (.int i) (.int j)=some (.bool (decide (i<=j))):=rfl
theorem gtD_i (i j:Int):gtD (.int i) (.int j)=some (.bool (decide (j<i))):=rfl
theorem geD_i (i j:Int):geD (.int i) (.int j)=some (.bool (decide (j<=i))):=rfl
theorem qds (T:String)(ds:aj):isiT T (.tuple ds)=(T == "tuple" || T == "object"):=rfl
theorem qdp (T:String)(ds:aj):isiT T (.list ds)=(T == "list" || T == "object"):=rfl
theorem qdo (T:String)(i:Int):isiT T (.int i)=(T == "int" || T == "object"):=rfl
theorem qdn (T:String)(b:Bool):isiT T (.bool b)=(T == "bool" || T == "int" || T == "object"):=rfl
theorem qdr (T:String)(x:Str):isiT T (.str x)=(T == "str" || T == "object"):=rfl
theorem qdq (T:String):isiT T .none=(T == "NoneType" || T == "object"):=rfl
theorem zu (j:Int):zj [.int j]=if -1000<=j/\j<=1000 then some (rngL 0 j.toNat) else none:=rfl
theorem Wo (i j:Int):Zr [.int i,.int j]=if (-1000<=i/\i<=1000)/\(-1000<=j/\j<=1000) then some (rngL i (j-i).toNat) else none:=rfl
section
variable {X:Cx}{G:Gm}{M M' Mb L:ar}{fr:Fr}{a b c:Kr}{es:aH}{f fk g:aa}{pos:Pos}{u:ao}
theorem DenL.set {K:Kb}{H:Hp}{S:Av}:∀ {vs:List V} {ds:aj} {v:V} {d:Ka} (j:Nat),DenL K H S vs ds->Den K H S v d->DenL K H S (vs.set j v) (ds.set j d)
 | _,_,_,_,_,.nil,_=>.nil
 | _,_,_,_,0,.cons _ t,q=>.cons q t
 | _,_,_,_,j+1,.cons h t,q=>.cons h (t.set j q)
theorem DenL.erase {K:Kb}{H:Hp}{S:Av}:∀ {vs:List V} {ds:aj} (j:Nat),DenL K H S vs ds->DenL K H S (vs.eraseIdx j) (ds.eraseIdx j)
 | _,_,_,.nil=>.nil
 | _,_,0,.cons _ t=>t
 | _,_,j+1,.cons h t=>.cons h (t.erase j)
def setD:Ka->Ka->Ka->Option Ka
 | .list ds,.int k,d=>ob (ixN ds.length k) fun j=>some (.list (ds.set j d))
 | _,_,_=>none
theorem qaf {l k d l':Ka}(e:setD l k d=some l'):∃ ds n j,l=.list ds/\k=.int n/\ixN ds.length n=some j/\l'=.list (ds.set j d):=by
 unfold setD at e
 split at e
 ·obtain ⟨j,e1,e⟩:=qd e
  cases e
  exact ⟨_,_,j,rfl,rfl,e1,rfl⟩
 ·cases e
def jb:Ka->Ka->Option (Ka×PyData)
 | .list ds,.int k=>ob (if -1000<=k/\k<=1000 then seqIndex? k ds.length else none) fun n=>ob (ds[n]?) fun d=>some (d,.list (ds.eraseIdx n))
 | _,_=>none
theorem Yo {l k:Ka}{r:Ka×PyData}(e:jb l k=some r):∃ ds m n d,l=.list ds/\k=.int m/\(-1000<=m/\m<=1000)/\seqIndex? m ds.length=some n/\ds[n]?=some d/\r=(d,.list (ds.eraseIdx n)):=by
 unfold jb at e
 split at e
 ·obtain ⟨n,e1,e⟩:=qd e
  obtain ⟨d,e2,e⟩:=qd e
  cases e
  split at e1
  ·rename_i hm
   exact ⟨_,_,n,d,rfl,rfl,hm,e1,e2,rfl⟩
  ·cases e1
 ·cases e
end
end L2
namespace L2
open PySem
def putO (d l k:aB)(i:Nat)(ρ:Rho):Option Out:=match d,l,k with | some d,some l,some k=>setO (setD l k d) i ρ|_,_,_=>none
theorem qej (ds:aj)(k:Int)(d:Ka):setD (.list ds) (.int k) d=ob (ixN ds.length k) fun j=>some (.list (ds.set j d)):=rfl
end L2
namespace L2
open PySem PySem.Spec PyProof.Rows
section
variable {X:Cx}{G:Gm}{M M' Mb L:ar}{fr:Fr}{a b c:Kr}{es:aH}{f fk g:aa}{pos:Pos}{u:ao}
def qZ (x y:Ka):Option Ka:=match x,y with
 | .int i,.int j=>some (.int (i+j))
 | .list ds,.list es=>if ds.length+es.length<=1000 then some (.list (ds++es)) else none
 | x,y=>wH x y
def rCatL (K:Kb):R2:=fun x y H Q=>∃ l b xs zs,x=.ref l/\y=.ref b/\SqL K H l xs/\SqL K H b zs/\xs.length+zs.length<=sizeLine/\∀ p,H p=none->Q (.ref p) (upd H p (.lst (xs++zs)))
theorem qck:OpR X (binaryOp .Add) (rCatL X.K):=by
 intro pins s σ H x y v u Q I rx ry h
 obtain ⟨l,b,xs,zs,rfl,rfl,hH,hB,hz,q⟩:=h
 cases rx
 cases ry
 obtain ⟨its,r,⟨⟨cls,dd,data,sl⟩,n,g1,g2,_,g3⟩,_⟩:=I.list hH
 obtain ⟨its2,r2,⟨⟨cls2,dd2,data2,sl2⟩,n2,k1,k2,_,k3⟩,_⟩:=I.list hB
 simp only at g2 g3 k2 k3
 subst g2 g3 k2 k3
 have ea:its.toArray++its2.toArray=(its++its2).toArray:=by simp
 have l1:=r.length
 have l2:=r2.length
 refine Xp ⟨_,g1,rfl⟩ ⟨_,k1,rfl⟩ noFill_list_add seq_list_add PySem.F.slot_list_add PySem.F.entry_list_add (PySem.F.args_list_add_2 _ _) (list_addW l b its.toArray its2.toArray n n2 dd dd2 sl sl2 (by rw [Km,Km];omega)) ⟨g1,k1,?_⟩
 rw [ea]
 exact ⟨.ref _,_,I.lnew (t':=s.toks) (r.append r2) (by rw [Kv];omega),rfl,q _ I.fresh⟩
theorem qdd:OpD X (binaryOp .Add) (fun x y=>match x,y with | .list ds,.list es=>if ds.length+es.length<=1000 then some (.list (ds++es)) else none|_,_=>none):=by
 refine Zv qck fun x y dx dy d H S Q m h1 h2 e q=>?_
 split at e
 ·split at e
  ·rename_i ds es hc
   cases e
   cases h1 with
   | list a1 t1 =>
    cases h2 with
    | list a2 t2 =>
     exact ⟨_,_,_,_,rfl,rfl,a1.sq,a2.sq,by rw [t1.length,t2.length];exact Vk (q9 hc),fun p hp=>q _ _ (Same.lay hp) (.list (SqLS.new qM (m.free hp)) ((t1.append t2).same (Same.lay hp)))⟩
  ·cases e
 ·cases e
theorem q8:OpD X (binaryOp .Add) qZ:=by
 intro pins s σ H x y v u Q I rx ry h
 obtain ⟨S,dx,dy,d,m,h1,h2,e,q⟩:=h
 unfold qZ at e
 split at e
 ·exact qaA pins s σ H x y v u Q I rx ry ⟨S,_,_,d,m,h1,h2,e,q⟩
 ·exact qdd pins s σ H x y v u Q I rx ry ⟨S,_,_,d,m,h1,h2,e,q⟩
 ·exact qaA pins s σ H x y v u Q I rx ry ⟨S,_,_,d,m,h1,h2,e,q⟩
theorem qbF (i j:Int):qZ (.int i) (.int j)=some (.int (i+j)):=rfl
theorem wI (ds es:aj)(h:ds.length+es.length<=1000):qZ (.list ds) (.list es)=some (.list (ds++es)):=if_pos h
end
section
variable {X:Cx}{M:ar}{a:Kr}{es:aH}{f:aa}{pos:Pos}
def wO (o:Option Rho)(k:Nat)(g:af)(tt:ah)(te:aa)(ρ:Rho)(ds:aj):Option (List Ka):=match o with
 | some ρ1=>(match tt ρ1 with | some true=>Zq (te ρ1) (zA k g tt te ρ ds)|some false=>zA k g tt te ρ ds|none=>none)
 | none=>none
theorem wY (k:Nat)(g:af)(tt:ah)(te:aa)(ρ:Rho)(d:Ka)(ds:aj):zA k g tt te ρ (d::ds)=wO (g d (ρ++Kl k none)) k g tt te ρ ds:=by
 rw [zA]
 unfold ob wO Zq
 cases g d (ρ++Kl k none) with
 | none=>rfl
 | some ρ1 =>
  dsimp only
  cases tt ρ1 with
  | none=>rfl
  | some b =>
   cases b with
   | false=>rfl
   | true=>cases te ρ1<;>cases zA k g tt te ρ ds<;>rfl
theorem qbU (k:Nat)(g:af)(tt:ah)(te:aa)(ρ:Rho):zA k g tt te ρ []=some []:=rfl
def yO (b:Option Bool)(y:aB)(r:aM):Option (List Ka):=match b with | some true=>Zq y r|some false=>r|none=>none
theorem wQ (ρ1:Rho)(k:Nat)(g:af)(tt:ah)(te:aa)(ρ:Rho)(ds:aj):wO (some ρ1) k g tt te ρ ds=yO (tt ρ1) (te ρ1) (zA k g tt te ρ ds):=by
 unfold wO yO
 rfl
theorem wN (y:aB)(r:aM):yO (some true) y r=Zq y r:=rfl
theorem qbQ (y:aB)(r:aM):yO (some false) y r=r:=rfl
def qax (a:aM)(n k:Nat)(g:af)(tt:ah)(te:aa)(ρ:Rho):Option Ka:=match a with | some ds=>if ρ.length=n/\ds.length<=1000 then jP (zA k g tt te ρ ds) else none|none=>none
theorem qbS (n k:Nat)(fi:ae)(g:af)(tt:ah)(te:aa)(ρ:Rho):Q6 n k fi g tt te ρ=qax (fi ρ) n k g tt te ρ:=by
 unfold Q6 ob qax jP
 cases fi ρ with
 | none=>rfl
 | some ds =>
  dsimp only
  split
  ·cases zA k g tt te ρ ds<;>rfl
  ·rfl
theorem qbO (ds:aj)(n k:Nat)(g:af)(tt:ah)(te:aa)(ρ:Rho):qax (some ds) n k g tt te ρ=if ρ.length=n/\ds.length<=1000 then jP (zA k g tt te ρ ds) else none:=rfl
end
def tVd (K:Kb)(M:ar)(f:aa):TE:=fun σ H Q=>∃ S ρ d,DenS K H S M σ ρ/\f ρ=some d/\∀ p fp H',Same H H'->(∀ q∈fp,H q=none)->DeepO K H' (insL S fp) fp p d->Q (.ref p) H'
noncomputable def ZR:Ka->Bool
 | .list _=>true
 | _=>false
theorem Kids.length {K:Kb}{H:Hp}{S:Av}{qs:az}{ds:aj}(h:Kids K H S qs ds):qs.length=ds.length:=by
 induction h with
 | nil=>rfl
 | cons _ _ _ _ r=>rw [Kk,Kk,r]
theorem Kids.get {K:Kb}{H:Hp}{S:Av}{qs:az}{ds:aj}{i:Nat}{d:Ka}(h:Kids K H S qs ds)(e:ds[i]?=some d):∃ q xs es,qs[i]?=some q/\d=.list es/\H q=some (.lst xs)/\DenL K H S xs es:=by
 induction h generalizing i with
 | nil=>cases UB.symm.trans e
 | cons h t _ _ r =>
  cases i with
  | zero=>cases e;exact ⟨_,_,_,rfl,rfl,h,t⟩
  | succ i=>exact r e
theorem yV {d:Ka}(h:ZR d=true):flat d=false:=by
 unfold ZR at h
 split at h
 ·rfl
 ·cases h
theorem Mx.get {K:Kb}{H:Hp}{S:Av}{qs:az}{vs:List V}{ds:aj}{i:Nat}{d:Ka}(h:Mx K H S qs vs ds)(e:ds[i]?=some d)(hl:ZR d=true):∃ q xs es,q∈qs/\vs[i]?=some (.ref q)/\d=.list es/\H q=some (.lst xs)/\DenL K H S xs es:=by
 induction h generalizing i with
 | nil=>cases UB.symm.trans e
 | kid h t _ _ r =>
  cases i with
  | zero=>cases e;exact ⟨_,_,_,.head _,rfl,rfl,h,t⟩
  | succ i =>
   obtain ⟨q,xs,es,h1,h2⟩:=r e
   exact ⟨q,xs,es,.tail _ h1,h2⟩
 | flt a f _ r =>
  cases i with
  | zero=>cases e;rw [yV hl] at f;cases f
  | succ i=>exact r e
theorem Mx.put {K:Kb}{H:Hp}{S:Av}{q:Kd}{xs:List V}{es:aj}(m:Dm S H)(hq:S q)(t:DenL K (L2.upd H q (.lst xs)) S xs es){qs:az}{vs:List V}{ds:aj}{i:Nat}{d:Ka}(h:Mx K H S qs vs ds)(e:vs[i]?=some (.ref q))(hl:ZR d=true)(e2:ds[i]?=some d):Mx K (L2.upd H q (.lst xs)) S qs vs (ds.set i (.list es)):=by
 have off:Off S H (L2.upd H q (.lst xs)):=fun b u z e=>by rw [qp (fun y=>z (by rw [y];exact hq))];exact e
 induction h generalizing i with
 | nil=>cases UB.symm.trans e
 | kid h t' n r ih =>
  cases i with
  | zero=>cases e;exact .kid qM t n (r.upd m hq n)
  | succ i =>
   obtain ⟨q2,_,_,m2,h2,_⟩:=r.get e2 hl
   cases (show some (V.ref q)=some (.ref q2) from e.symm.trans h2)
   refine .kid ?_ (t'.off m off) n (ih e e2)
   rw [qp (fun z=>n (by rw [z];exact m2))];exact h
 | flt a f r ih =>
  cases i with
  | zero=>cases e2;rw [yV hl] at f;cases f
  | succ i=>exact .flt (a.off m off) f (ih e e2)
theorem Kids.put {K:Kb}{H:Hp}{S:Av}{q:Kd}{xs:List V}{es:aj}(m:Dm S H)(hq:S q)(t:DenL K (L2.upd H q (.lst xs)) S xs es){qs:az}{ds:aj}{i:Nat}(h:Kids K H S qs ds)(e:qs[i]?=some q):Kids K (L2.upd H q (.lst xs)) S qs (ds.set i (.list es)):=by
 induction h generalizing i with
 | nil=>cases UB.symm.trans e
 | cons h t' n r ih =>
  cases i with
  | zero=>cases e;exact .cons qM t n (r.upd m hq n)
  | succ i =>
   refine .cons ?_ (t'.off m fun b u z e=>by rw [qp (fun y=>z (by rw [y];exact hq))];exact e) n (ih e)
   rw [qp (fun z=>n (by rw [z];exact KO e))];exact h
section
variable {X:Cx}{G:Gm}{M M' Mb L:ar}{fr:Fr}{a b c:Kr}{es:aH}{f fk g:aa}{pos:Pos}{u:ao}{fs:ae}
theorem DenS.insO {K:Kb}{H H':Hp}{S:Av}{σ:St}{ρ:Rho}{p:Kd}{d:Ka}(hs:DenS K H S M σ ρ)(e:Same H H')(n:H p=none)(o:OwnO K H' (insA S p) p d):DenS K H' (insA S p) M σ ρ :=
 ⟨(hs.1.same e).ins o.mut,hs.2.1,fun i d hi q=>let ⟨v,a,b⟩:=hs.2.2 i d hi q;⟨v,a,(b.sub fun a ha z=>z.elim id fun y=>absurd (by rw [y];exact n) ha).same e⟩⟩
def j5 (i:Nat)(f:aa):Rho->Option Out:=fun ρ=>if i<ρ.length/\ρ.length<=1000 then ob (f ρ) fun d=>some (.nx (ρ.set i (some d))) else none
def ZV:Ka->Ka->Option Nat
 | .tuple ds,.int k=>ixN ds.length k
 | .list ds,.int k=>ixN ds.length k
 | _,_=>none
noncomputable def Jw:Ka->Nat->Option Ka
 | .tuple ds,j=>ds[j]?
 | .list ds,j=>ds[j]?
 | _,_=>none
noncomputable def YQ:Ka->Nat->Ka->Ka
 | .tuple ds,j,l=>.tuple (ds.set j l)
 | .list ds,j,l=>.list (ds.set j l)
 | d,_,_=>d
theorem DeepF.same {K:Kb}{H H':Hp}{S:Av}{σ:St}{ρ:Rho}{F:Nat->List Kd}(e:Same H H')(f:DeepF K G M H S σ ρ F):DeepF K G M H' S σ ρ F :=
 ⟨fun i hi d q=>let ⟨p,a,b,c⟩:=f.own i hi d q;⟨p,a,b.same e,c⟩,f.disj,f.flat⟩
theorem JX {qs:az}{j:Nat}{k:Int}{q:Kd}{n:Nat}(h:n=qs.length)(e:ixN n k=some j)(e':qs[j]?=some q):atI (qs.map V.ref) k=some (.ref q):=by
 unfold atI
 rw [Kg,← h,e]
 show (qs.map V.ref)[j]?=_
 rw [KW,e'];rfl
theorem DeepO.kid {K:Kb}{H:Hp}{S:Av}{fp:az}{p:Kd}{d0 l:Ka}{j:Nat}(b:DeepO K H S fp p d0)(e:Jw d0 j=some l)(hk:ZR l=true):∃ q xs es,q∈fp/\l=.list es/\H q=some (.lst xs)/\DenL K H S xs es/\
  (∀ k,ZV d0 (.int k)=some j->∀ Q:VK,Q (.ref q) H->(rIxL K (.ref p) (.int k) H Q\/rIxT K (.ref p) (.int k) H Q))/\
  ∀ H2,Same H H2->∀ xs' es',S q->Dm S H2->DenL K (L2.upd H2 q (.lst xs')) S xs' es'->DeepO K (L2.upd H2 q (.lst xs')) S fp p (YQ d0 j (.list es')):=by
 cases b with
 | @tpl _ qs vs ds h t =>
  obtain ⟨q,xs,es,h1,hv,rfl,h2,h3⟩:=t.get (show ds[j]?=some l from e) hk
  refine ⟨q,xs,es,h1,rfl,h2,h3,fun k hk Q hQ=>.inr ⟨p,_,k,_,rfl,rfl,.inl (.inl h),?_,hQ⟩,fun H2 g xs' es' hS m t'=>?_⟩
  ·have hk:ixN ds.length k=some j:=hk
   unfold atI
   rw [t.length,hk]
   exact hv
  exact .tpl (by rw [qp (fun z=>m.tup (.inl (g _ _ h)) (by rw [z];exact hS))];exact g _ _ h) (Mx.put m hS t' (t.same g) hv hk e)
 | @lst _ qs ds h n t =>
  obtain ⟨q,xs,es,h1,rfl,h2,h3⟩:=t.get (show ds[j]?=some l from e)
  have hm:=KO h1
  refine ⟨q,xs,es,.tail _ hm,rfl,h2,h3,fun k hk Q hQ=>.inl ⟨p,_,k,_,rfl,rfl,SqL.of h,JX t.length.symm hk h1,hQ⟩,fun H2 g xs' es' hS m t'=>?_⟩
  exact .lst (by rw [qp (fun z=>n (by rw [z];exact hm))];exact g _ _ h) n (Kids.put m hS t' (t.same g) h1)
 | dct h k v n t=>cases e
theorem WT {c k:Ka}{j:Nat}(e:ZV c k=some j):∃ n,k=.int n:=by
 unfold ZV at e
 split at e
 ·exact ⟨_,rfl⟩
 ·exact ⟨_,rfl⟩
 ·cases e
end
section
open PySem.SeqAt
open PySem.AutoSeq1 (wpAny_loadPart')
open PySem.MeetsSeq PySem.MeetsSeq2 PySem.MeetsSeq3
end
noncomputable def truD:Ka->Option Bool
 | .bool b=>some b
 | .none=>some false
 | .int i=>some (i != 0)
 | .list ds=>some (!ds.isEmpty)
 | .tuple ds=>some (!ds.isEmpty)
 | _=>none
def tW (f:aa):Rho->Option Bool:=fun ρ=>ob (f ρ) truD
theorem jE {K:Kb}{H:Hp}{S:Av}{vs:List V}{ds:aj}(h:DenL K H S vs ds):vs.isEmpty=ds.isEmpty:=by cases h<;>rfl
section
variable {X:Cx}{M:ar}{a:Kr}{f:aa}
theorem qcr (h:PD X M a f)(he:∀ whole,isTrue a X.env whole=(do let v ← whole;standAt a.pos;holding [v] (truthy v)):=by intro _;rfl):PDT X M a (tW f) :=
 (qbl h he).weak fun σ H Q ⟨S,ρ,b,hs,e,q⟩=>by
  obtain ⟨x,e1,e⟩:=qd e
  refine ⟨S,ρ,x,hs,e1,fun v H1 g1 d1=>⟨b,?_,q H1 g1⟩⟩
  cases d1 with
  | none=>cases e;exact rfl
  | bool c=>cases e;exact rfl
  | int i=>cases e;exact rfl
  | list s t=>cases e;exact .inl ⟨_,s.sq,by rw [jE t]⟩
  | tuple s t=>cases e;exact .inr (.inl ⟨_,s,by rw [jE t]⟩)
  | str x=>cases e
  | dict a b c=>cases e
  | exc0 a b=>cases e
  | exc1 a b c d f=>cases e
  | ins a b=>cases e
end
end L2
namespace L2
open PySem
theorem qbp (i:Nat)(f:aa)(ρ:Rho):j5 i f ρ=takO (decide (i<ρ.length/\ρ.length<=1000)) (f ρ) i ρ:=by
 unfold j5 ob takO
 by_cases h:i<ρ.length/\ρ.length<=1000
 ·rw [if_pos h,decide_eq_true h]
  cases f ρ<;>rfl
 ·rw [if_neg h,decide_eq_false h]
end L2
namespace L2
open PySem PySem.Spec PyProof.Rows
theorem Kids.snoc {K:Kb}{H:Hp}{S:Av}{p:Kd}{xs:List V}{es:aj}(h:H p=some (.lst xs))(t:DenL K H S xs es){qs:az}{ds:aj}(n:p∉qs)(k:Kids K H S qs ds):Kids K H S (qs++[p]) (ds++[.list es]):=by
 induction k with
 | nil=>exact .cons h t (fun z=>nomatch z) .nil
 | cons h' t' n' _ r=>exact .cons h' t' (fun z=>(Vy.mp z).elim n' fun z=>n (by rw [U8.mp z];exact .head _)) (r fun z=>n (.tail _ z))
theorem qcU {S:Av}{p:Kd}{qs:az}:insL S (qs++[p])=insA (insL S qs) p:=by
 funext a
 unfold insL insA
 rw [Vy,U8,or_assoc]
section
variable {X:Cx}{G:Gm}{M M' Mb L:ar}{fr:Fr}{f:aa}{p:ah}{pos:Pos}
def wZ (n k:Nat)(fi:ae)(g:af)(p:ah)(f:aa):Rho->Option Ka:=fun ρ=>ob (Q6 n k fi g p f ρ) fun d=>match d with | .list ds=>if ds.all ZR=true then some (.list ds) else none|_=>none
theorem qcN {K:Kb}{n k:Nat}{fi:ae}{g:af}(hg:GIn n k g):∀ σ H Q,tVd K M (wZ n k fi g p f) σ H Q->JP k (tDI K M fi) (tDGc K M g) (tDT K M p) (tF K M f) σ H Q:=by
 intro σ H Q ⟨S,ρ,d,hs,e,q⟩
 obtain ⟨d',e0,e⟩:=qd e
 obtain ⟨ds,ys,e1,hn,hz,e2,rfl⟩:=Zu e0
 have e:(if ys.all ZR=true then some (VB ys) else none)=some d:=e
 split at e
 case isFalse=>cases e
 rename_i hall
 cases e
 refine ⟨S,ρ,ds,hs,e1,fun J H1 g1 hJ0=>?_⟩
 have hJ:=hJ0 H1 fun _ _ _ z=>z
 have z1000:1000<sizeLine:=q9 (Ko _)
 refine ⟨fun i m zs σ' H'=>m=ds.length-i/\i<=ds.length/\zs.length<=i/\Same H1 H'/\∃ qs pre rest,zs=qs.map V.ref/\(∀ r∈qs,H1 r=none)/\DenS K H' (insL S qs) M σ' (ρ++Kl k none)/\Kids K H' (insL S qs) qs pre/\zA k g p f ρ (ds.drop i)=some rest/\pre++rest=ys,
  ⟨ds.length,by simp,Vu _,Ko _,Same.refl _,[],[],ys,rfl,(fun _ z=>nomatch z),?_,.nil,e2,rfl⟩,?_⟩
 ·have h0:=(hs.same g1).more k
  have sb:∀ a,insL S [] a->S a:=fun a z=>z.elim id fun y=>absurd y (by simp)
  exact ⟨h0.1.sub sb,h0.2.1,fun i d hi q=>let ⟨v,a,b⟩:=h0.2.2 i d hi q;⟨v,a,b.sub fun a _ z=>sb a z⟩⟩
 rintro i m zs σ' H' ⟨rfl,hi,hzi,g2,qs,pre,rest,rfl,new,hS,kids,er,rfl⟩
 by_cases hlt:i<ds.length
 ·refine .inr ⟨hJ.go i H' g2 hlt,fun x H2 y=>?_⟩
  obtain ⟨g2',yd⟩:=hJ.yld i H' x H2 g2 y
  have hd:=yd _ (Kj hlt) (insL S qs) fun y e q=>(q.sub fun a ha z=>z.elim id fun y=>absurd (new a y) ha).same (g2.trans g2')
  rw [K9 hlt] at er
  obtain ⟨ρ1,r1,er⟩:=qd er
  obtain ⟨bb,b1,er⟩:=qd er
  obtain ⟨r',hr',rfl⟩:=hg _ ρ _ ρ1 hn (K4) r1
  have g2:=g2.trans g2'
  have kids:=kids.same g2'
  refine ⟨insL S qs,_,_,_,hS.same g2',hd,r1,fun σ3 H3 g3 hS3=>⟨insL S qs,_,bb,hS3,b1,fun H4 g4=>?_⟩⟩
  cases bb with
  | true =>
   rw [if_pos rfl] at er
   obtain ⟨y1,e3,er⟩:=qd er
   obtain ⟨ys1,e4,er⟩:=qd er
   cases er
   refine iteT ⟨insL S qs,_,y1,hS3.same g4,e3,fun r H5 g5 n5 o5=>⟨by rw [Kg] at hzi;rw [Kg];omega,ds.length-(i+1),by omega,rfl,hlt,?_,g2.trans (g3.trans (g4.trans g5)),qs++[r],pre++[y1],ys1,by simp,?_,?_,?_,e4,by simp⟩⟩
   ·rw [Kv,KQ];exact Nat.succ_le_succ hzi
   ·intro a ha
    rcases Vy.mp ha with z|z
    ·exact new a z
    ·rw [U8.mp z];exact (g2.trans (g3.trans g4)).free n5
   ·rw [qcU]
    exact ((hS3.same g4).insO g5 n5 o5).forget hr'
   ·rw [qcU]
    have k4:Kids K H5 (insA (insL S qs) r) qs pre:=((kids.same (g3.trans g4)).sub fun a ha z=>z.elim id fun y=>absurd (by rw [y];exact n5) ha).same g5
    have nr:r∉qs:=fun z=>by
     obtain ⟨o,ho,_⟩:=(kids.same (g3.trans g4)).mut r z
     rw [n5] at ho;cases ho
    cases o5 with
    | lst h t=>exact Kids.snoc h t nr k4
    | dct h kk t =>
     rw [List.all_append,List.all_cons] at hall
     simp [ZR] at hall
  | false =>
   rw [if_neg Vp] at er
   exact iteF ⟨ds.length-(i+1),by omega,rfl,hlt,by omega,g2.trans (g3.trans g4),qs,pre,rest,rfl,new,(hS3.same g4).forget hr',kids.same (g3.trans g4),er,rfl⟩
 ·have hi':i=ds.length:=by omega
  subst hi'
  rw [UK] at er
  cases er
  refine .inl ⟨hJ.stop H' g2,fun D hD=>?_⟩
  have nD:D∉qs:=fun z=>by
   obtain ⟨o,ho,_⟩:=kids.mut D z
   rw [hD] at ho;cases ho
  refine q D (D::qs) _ ((g1.trans g2).lay' hD) (fun r hr=>?_) ?_
  ·rcases Ks.mp hr with e|hr
   ·rw [e];exact (g1.trans g2).free hD
   ·exact g1.free (new r hr)
  ·rw [Vn]
   refine .lst qM nD ((kids.sub fun a ha z=>?_).same (Same.lay hD))
   rcases z with z|z
   ·exact .inl z
   ·rcases Ks.mp z with e|z
    ·rw [e] at ha;exact absurd hD ha
    ·exact .inr z
variable {elt iter tg:Kr}{ifs:aH}{x:Str}{N':aA}{px:Pos}{sc:K3}{n k:Nat}{fi:ae}{g:af}
theorem W4 (j:Nat){y:Str}{py spos:Pos}(O:CompOk X N' k sc)(gi:GIn n k g)(sc₀:K3)(hsc:X.env.scope=sc₀)(hB:swB sc₀ sc y py pos=true)(hM:Out0 M j)(hL:j∉L)(hi:PDI X M tg iter fi)(hg:∀ cl C fp pins s H,PDGc (qw X N' sc cl C fp pins s H) M tg g)(hq:∀ cl C fp pins s H,PDTs (qw X N' sc cl C fp pins s H) M ifs p)(he:∀ cl C fp pins s H,PF (qw X N' sc cl C fp pins s H) M elt f)
  (hj:X.N[j]?=some y:=by rfl) (hbk:X.env.blockKind=.function:=by rfl)
  (hs:∀ v,foldedSetIterable iter X.env v=pure v:=by intro _;rfl):PDS X G M L (j::(j+1000)::M) Mb fr (.Assign [.Name y py] (.ListComp elt [⟨tg,iter,ifs,0⟩] sc pos) spos) (j5 j (wZ n k fi g p f)) :=
 (Wm (wg:=tDGc X.K M g) (tt:=tDT X.K M p) (te:=tF X.K M f) O hj (j9 hsc hB) hi hg hq he (qc1 hsc hB hbk) hs).weak fun D σ H ⟨S,ρ,o,hs,e,q⟩=>by
  unfold j5 at e
  split at e
  ·rename_i hz
   obtain ⟨d,e1,e⟩:=qd e
   cases e
   exact qcN gi σ H _ ⟨S,ρ,d,hs.ds,e1,fun p fp H1 g1 n o=>q _ H1 _ (hs.takeD n g1 o hM hL hz.1 hz.2)⟩
  ·cases e
end
def scB (N P G:aA)(sc:K3):Bool :=
 decide (sc.kind=.function)&&(decide (sc.isCoroutine=false)&&(decide (sc.isGenerator=false)&&(decide N.Nodup&&(decide (N.take P.length=P)&&(P.all (locB sc)&&(sc.names.all (fun y=>decide (y.2≠.free))&&(N.all (fun x=>visB sc x&&locB sc x)&&(G.all (glB sc)&&N.all fun x=>!(x==("__debug__" : Str))&&!(x==("__classdict__" : Str))))))))))
structure ScOk (N P G:aA)(sc:K3):Prop where
 fs:FnScope N P sc
 nm:∀ x∈N,visB sc x=true/\locB sc x=true
 gb:∀ x∈G,glB sc x=true
 db:∀ x∈N,(x==("__debug__" : Str))=false/\(x==("__classdict__" : Str))=false
theorem scmk {N P G:aA}{sc:K3}(h:scB N P G sc=true):ScOk N P G sc:=by
 unfold scB at h
 simp only [Kt,decide_eq_true_eq,Vc,Bool.not_eq_true'] at h
 obtain ⟨h1,h2,h3,h4,h5,h6,h7,h8,h9,h10⟩:=h
 exact ⟨⟨h1,h2,h3,h4,h5,fun x hx=>qaR (h6 x hx),h7⟩,h8,h9,h10⟩
section
variable {N P G:aA}{sc:K3}{x:Str}
theorem ScOk.vis (S:ScOk N P G sc)(i:Nat)(e:N[i]?=some x):Vis sc x:=qbD (S.nm x (KO e)).1
theorem ScOk.loc (S:ScOk N P G sc)(i:Nat)(e:N[i]?=some x):Loc sc x:=qaR (S.nm x (KO e)).2
theorem ScOk.gl {X:Cx}(S:ScOk N P G sc)(i:Nat)(e:G[i]?=some x)(hs:X.env.scope=sc):Gl X x:=gl_fn sc hs (S.gb x (KO e))
end
section
variable {X:Cx}{G:Gm}{P Gn:aA}{M L:ar}{x:Str}{pos:Pos}{a b c d:Kr}{fa fb fc fd:aa}
theorem pd_v (A:ScOk X.N P Gn X.env.scope)(i:Nat)(e:X.N[i]?=some x:=by rfl)(hM:i∉M:=by decide):PD X M (.Name x pos) (vr i):=qQ i (A.vis i e) hM e (A.db x (KO e)).1 (A.db x (KO e)).2
theorem QH (A:ScOk X.N P Gn X.env.scope)(i:Nat)(e:X.N[i]?=some x:=by rfl)(hM:i∉M:=by decide)(hf:X.fn x=true\/X.env.scope.names.lookup x=some .local:=by first|exact .inl rfl|exact .inr rfl|assumption):PDG X G M L (.Name x pos) (gNm i):=qa4 i A.fs.nd (A.loc i e) hM e hf
theorem pda1 (ha:PD X M a fa)(ea:starEach [a] X.env=(false,eval a X.env)::starEach [] X.env:=by rfl):PDA X M [a] (aC fa aN):=Zh ha QW ea
theorem pda2 (ha:PD X M a fa)(hb:PD X M b fb)(ea:starEach [a,b] X.env=(false,eval a X.env)::starEach [b] X.env:=by rfl)(eb:starEach [b] X.env=(false,eval b X.env)::starEach [] X.env:=by rfl):PDA X M [a,b] (aC fa (aC fb aN)):=Zh ha (pda1 hb eb) ea
theorem pda3 (ha:PD X M a fa)(hb:PD X M b fb)(hc:PD X M c fc)(ea:starEach [a,b,c] X.env=(false,eval a X.env)::starEach [b,c] X.env:=by rfl)(eb:starEach [b,c] X.env=(false,eval b X.env)::starEach [c] X.env:=by rfl)(ec:starEach [c] X.env=(false,eval c X.env)::starEach [] X.env:=by rfl):PDA X M [a,b,c] (aC fa (aC fb (aC fc aN))):=Zh ha (pda2 hb hc eb ec) ea
end
def FnK (K:Kb)(n:Str)(st:K1):Prop:=∃ (f:Kd) (fd:Vq),Vm K mainGlobals n=some (some (.ref f))/\Fun K n n st f fd
theorem FnK.of {K:Kb}{n:Str}{st:K1}{f:Kd}{oc:Kc}{od an:aR}{osl:aI}{kV doc pm cdv ct:Kc}(a:Vm K mainGlobals n=some (some (.ref f)))(l:K.lookup f=some ⟨oc,od,.func (VN n n (Qw st) (zL st) (qu st) .none kV doc pm an cdv ct),osl⟩)
  (c:Um K cdv n=true) (k:VR K (.ref f)=true):FnK K n st:=⟨f,_,a,qaF l c k⟩
section
variable {K:Kb}{mg:au}{XS:List (Str×List Str)}{c cn:Str}{cs:aA}
theorem XTab.has (h:(XS.any fun p=>p.1==c)=true):∃ p∈XS,p.1=c:=by
 obtain ⟨p,hp,e⟩:=List.any_eq_true.mp h
 exact ⟨p,hp,beq_iff_eq.mp e⟩
end
def lrD (xs:aj):Option Ka:=ob (zj xs) fun ds=>some (.list ds)
noncomputable def rngV:Int->Nat->List V
 | _,0=>[]
 | lo,n+1=>.int lo::rngV (lo+1) n
theorem j4:∀ (lo:Int) (n:Nat),(rngV lo n).length=n
 | _,0=>rfl
 | lo,n+1=>by rw [rngV,Kk,j4]
theorem J5 {K:Kb}{H:Hp}{S:Av}:∀ (lo:Int) (n:Nat),DenL K H S (rngV lo n) (rngL lo n)
 | _,0=>.nil
 | lo,n+1=>.cons (.int lo) (J5 (lo+1) n)
theorem Jb:∀ (us:aw) (lo:Int),(∀ (j:Nat) v,us[j]?=some v->∃ t,v=.int (lo+j) t)->Vals (rngV lo us.length) us
 | [],_,_=>.nil
 | u::us,lo,h=>by
  obtain ⟨t,e⟩:=h 0 u rfl
  refine .cons ⟨t,by rw [e];congr 1;omega⟩ (Jb us (lo+1) fun j v hv=>?_)
  obtain ⟨t,e⟩:=h (j+1) v (by rw [List.getElem?_cons_succ];exact hv)
  exact ⟨t,by rw [e];congr 1;omega⟩
theorem qbe {X:Cx}{M:ar}{a:Kr}{fs:ae}{p1 p2 pos rpos:Pos}{k:Nat}(hr:Room k X.A)(hg:Gl X "list")(hm:X.mg "list" = none)(hgr:Gl X "range")(hmr:X.mg "range" = none)(ha:PDA X M [a] fs)
  (he:starEach [.Call (.Name "range" p2) [a] [] rpos] X.env=(false,eval (.Call (.Name "range" p2) [a] [] rpos) X.env)::starEach [] X.env:=by rfl) (hpl:(backTo pos (starEach [] X.env)).any (·.1)=false:=by rfl) (he2:starEach [a] X.env=(false,eval a X.env)::starEach [] X.env:=by rfl) (hpl2:(backTo rpos (starEach [] X.env)).any (·.1)=false:=by rfl) :
  PF X M (.Call (.Name "list" p1) [.Call (.Name "range" p2) [a] [] rpos] [] pos) (evA fs lrD):=by
 intro pins s σ H Q I ⟨S,ρ,d,hs,e,q⟩
 obtain ⟨xs,e1,e⟩:=qd e
 obtain ⟨ds,e2,e⟩:=qd e
 cases e
 unfold zj at e2
 split at e2
 case h_2=>cases e2
 rename_i j
 split at e2
 case isFalse=>cases e2
 rename_i hj
 cases e2
 have bl:bootBuiltins "list" = some (.type "list"):=rfl
 have br:bootBuiltins "range" = some (.type "range"):=rfl
 refine VH (QT I hg hm bl ?_ (by decide +kernel) (by decide +kernel))
 refine Vf ?_ he hpl
 rw [he]
 refine Calls.spliced_cons ?_
 refine VH (QT I hgr hmr br ?_ (by decide +kernel) (by decide +kernel))
 refine Vf ?_ he2 hpl2
 refine thn (ha rpos pins s σ H (fun vs H1=>Same H H1/\DenL X.K H1 S vs [.int j]) I ⟨S,ρ,_,hs,e1,fun vs H1 g1 d1=>⟨g1,d1⟩⟩) fun us s1 ⟨vs,H1,I1,r,g1,d1⟩=>?_
 obtain ⟨v,rfl,dv⟩:=d1.inv1
 obtain ⟨u,rfl,ru⟩:=r.one
 cases dv
 obtain ⟨t,rfl⟩:=(show ∃ t,u=UN j t from ru)
 refine call_range_1 ?_
 have I2:=I1.kept (t':=s1.toks+1+1) (h':=s1.heap.push { cls:=.type "range", data:=.fields #[.int 0 s1.toks,.int j t,.int 1 (s1.toks+1)] }) fun b o y=>Kp _ y
 refine Calls.spliced_nil ?_
 have sz:Builtin.Range.rangeSize 0 j 1=(j.toNat:Nat):=by rw [rangeSize_nat];congr 2;omega
 refine call_list_range hr.hd (IsRange.new _ 0 j 1 _ _ _) (small_one (by omega) (by omega) (by omega) (by omega)) sz (by omega) fun h' tk acc c' kp hget it=>?_
 have vv:Vals (rngV 0 j.toNat) acc.toList:=by
  have:=Jb acc.toList 0 fun i v hv=>by
   obtain ⟨t',y⟩:=it.2 i v (by rw [← Uo];exact hv)
   exact ⟨t',by rw [y];congr 1;omega⟩
  rwa [Ky,it.1] at this
 have fr:H1 (s1.heap.push { cls:=.type "range", data:=.fields #[.int 0 s1.toks,.int j t,.int 1 (s1.toks+1)] }).objs.size=none:=I2.hok.fresh (Ko _)
 have I3:=I2.laid (t':=tk) (o:=.lst (rngV 0 j.toNat)) kp (Ko _) ⟨by rw [j4,Uj];omega,acc.toList,c',vv,by rw [X2];exact hget⟩
 exact ⟨.ref _,_,I3,rfl,q _ _ (g1.lay' fr) (g1.free fr) (OwnO.laid fr (J5 0 j.toNat))⟩
inductive DenU (K:Kb)(H:Hp)(S:Av)(p:Kd):Nat->List V->List Ka->Prop
 | here {vs:List V} {d:Ka} {ds:aj}:DenL K H S vs ds->DenU K H S p 0 (.ref p::vs) (d::ds)
 | there {i:Nat} {v:V} {d:Ka} {vs:List V} {ds:aj}:Den K H S v d->DenU K H S p i vs ds->DenU K H S p (i+1) (v::vs) (d::ds)
section
variable {K:Kb}{H H':Hp}{S:Av}{p:Kd}{i:Nat}{vs:List V}{ds:aj}
theorem DenU.length (h:DenU K H S p i vs ds):vs.length=ds.length:=by
 induction h with
 | here t=>rw [Kk,Kk,t.length]
 | there a t ih=>rw [Kk,Kk,ih]
end
inductive Wk (K:Kb)(H:Hp):List Kd->List V->List Ka->Prop
 | nil:Wk K H [] [] []
 | kid {q:Kd} {xs:List V} {es:aj} {qs:az} {vs:List V} {ds:aj}:H q=some (.lst xs)->DenL K H (fun _=>False) xs es->Jt es=true->q∉qs->Wk K H qs vs ds->Wk K H (q::qs) (.ref q::vs) (.list es::ds)
 | flt {v:V} {d:Ka} {qs:az} {vs:List V} {ds:aj}:Den K H (fun _=>False) v d->flat d=true->Wk K H qs vs ds->Wk K H qs (v::vs) (d::ds)
inductive Wl (K:Kb)(H:Hp):List Kd->List V->List Ka->Prop
 | nil:Wl K H [] [] []
 | cons {t:Kd} {ws:List V} {es:aj} {qs rs:az} {vs:List V} {ds:aj}:H t=some (.tup ws)->Wk K H qs ws es->(∀ q∈qs,q∉rs)->Wl K H rs vs ds->Wl K H (qs++rs) (.ref t::vs) (.tuple es::ds)
section
variable {K:Kb}{H H':Hp}{S:Av}{qs rs:az}{vs ws:List V}{ds es:aj}{q:Kd}{o:HO}
theorem Wk.length (h:Wk K H qs vs ds):vs.length=ds.length:=by
 induction h with
 | nil=>rfl
 | kid _ _ _ _ _ r=>rw [Kk,Kk,r]
 | flt _ _ _ r=>rw [Kk,Kk,r]
theorem Wl.length (h:Wl K H qs vs ds):vs.length=ds.length:=by
 induction h with
 | nil=>rfl
 | cons _ _ _ _ r=>rw [Kk,Kk,r]
end
noncomputable def repD:Ka->Ka->Option Ka
 | .list ds,.int k=>if ds.length*k.toNat<=1000/\k<=1000/\-1000<=k then some (.list (Kl k.toNat ds).flatten) else none
 | _,_=>none
theorem DenL.rep {K:Kb}{H:Hp}{S:Av}{vs:List V}{ds:aj}(t:DenL K H S vs ds)(k:Nat):DenL K H S (Kl k vs).flatten (Kl k ds).flatten:=by
 induction k with
 | zero=>exact .nil
 | succ k ih =>
  rw [Vw,Vw,VY,VY]
  exact t.append ih
theorem qaa {x y d:Ka}(e:repD x y=some d):∃ ds k,x=.list ds/\y=.int k/\(ds.length*k.toNat<=1000/\k<=1000/\-1000<=k)/\d=.list (Kl k.toNat ds).flatten:=by
 unfold repD at e
 split at e
 ·split at e
  ·rename_i hc;cases e;exact ⟨_,_,rfl,rfl,hc,rfl⟩
  ·cases e
 ·cases e
theorem qdY {X:Cx}{M:ar}{a b:Kr}{fa fb:aa}{pos:Pos}(ha:PF X M a fa)(hb:PD X M b fb):PF X M (.BinOp a .Mult b pos) (ev2 fa fb repD) :=
 (qcX qdM ha hb).weak fun σ H Q ⟨S,ρ,d,hs,e,q⟩=>by
  obtain ⟨x,e1,e⟩:=qd e
  obtain ⟨y,e2,e⟩:=qd e
  refine ⟨S,ρ,x,hs,e1,fun p H1 g1 n1 o1=>⟨S,ρ,y,hs.same g1,e2,fun v2 H2 g2 d2=>?_⟩⟩
  obtain ⟨ds,k,rfl,rfl,hc,rfl⟩:=qaa e
  cases d2.int_inv
  cases o1 with
  | @lst xs _ h t =>
   have t':=t.sub (S':=S) fun a _ z=>.inl z
   refine ⟨p,k,xs,rfl,rfl,g2 _ _ h,by omega,by omega,?_,fun l hl=>q l _ ((g1.trans g2).lay' hl) ((g1.trans g2).free hl) (OwnO.laid hl (DenL.rep (t'.same g2) _))⟩
   rw [t.length]
   exact Vk (q9 hc.1)
def wF (i j:Int):Prop:=j≠0/\j.natAbs.log2<9000
noncomputable instance (i j:Int):Decidable (wF i j):=inferInstanceAs (Decidable (_/\_))
theorem qaZ {X:Cx}:OpR X (binaryOp .FloorDiv) (rI wF fun i j=>.int (i.fdiv j)):=opI fun _ _ _ _ _ _ _ hc q=>floordiv_int hc.1 q (.inl (PyProof.noPylong_of_log2 hc.2))
def jF:Ka->Ka->Option Ka:=iiD fun i j=>if wF i j then some (.int (i.fdiv j)) else none
theorem qbX {X:Cx}:OpD X (binaryOp .FloorDiv) jF:=ZW qaZ
section
variable {X:Cx}{G:Gm}{M M' Mb L:ar}{fr:Fr}{a b c:Kr}{f fk fj:aa}{pos:Pos}
theorem qaG:PGet X (rIxL X.K):=by
 intro pins s σ H x y v u Q I rx ry h
 obtain ⟨p,xs,i,z,rfl,rfl,hq,he,q⟩:=h
 cases rx
 obtain ⟨t,rfl⟩:=ry
 obtain ⟨its,r,pl,hz⟩:=I.list hq
 obtain ⟨j,h1,h2,h3,h4,h5⟩:=JW he
 obtain ⟨w,ew,rw'⟩:=r.get h2
 have hl:=r.length
 have hn:=Z7
 have fin:EP X pins σ Q w s:=⟨z,H,I,rw',q⟩
 by_cases h0:0<=i
 ·have hj:i.toNat=j:=by rw [U5 h0 h5] at h1;exact Va h1
  exact wpAny_getItem_list pl.isList h0 (by omega) (by rw [hj];simpa using ew) fin
 ·have hj:(i+(its.toArray.size:Int)).toNat=j:=by rw [seqIndex_neg (by omega) h4] at h1;rw [Km,← hl];exact Va h1
  exact wpAny_getItem_list_neg pl.isList (by omega) (by rw [Km]<;>omega) (by omega) (by rw [hj];simpa using ew) fin
def Yt (i:Nat)(fk fj f:aa)(h:aP):Rho->Option Out:=fun ρ=>ob (vr i ρ) fun c=>ob (fk ρ) fun k=>ob (ZV c k) fun n=>ob (Jw c n) fun l=>ob (fj ρ) fun j=>ob (ixD l j) fun x=>ob (f ρ) fun y=>ob (iiD (fun a b=>some (.int (h a b))) x y) fun z=>ob (setD l j z) fun l'=>some (.nx (ρ.set i (some (YQ c n l'))))
theorem Yj (i:Nat){x:Str}{px sp tpos:Pos}{op:Operator}{h:aP}(ho:PIp X op (ipI h))(hv:Vis X.env.scope x)(hM:Dp M i)(hk:PD X M b fk)(hj:PD X M c fj)(he:PD X M a f)(hpx:JV b:=by intro _ _;rfl)(hN:X.N[i]?=some x:=by rfl)(hd:(x==("__debug__" : Str))=false:=by decide +kernel)(hcd:(x==("__classdict__" : Str))=false:=by decide +kernel)
  (ha:∀ ov iv new,augStore c ov iv new=(do holding [new,ov,iv] (setItem ov iv new);release [new,ov,iv] [];pure .next):=by intros;rfl) :
  PDS X G M L M Mb fr (.AugAssign (.Subscript (.Subscript (.Name x px) b sp) c tpos) op a pos) (Yt i fk fj f h) :=
 (qcB (qcW (r:=fun x y H Q=>rIxL X.K x y H Q\/rIxT X.K x y H Q) (Wd.or qaL) (yr i hv hN hd hcd) hk hpx) hj qaG he ho set_list ha).weak fun D σ H ⟨S,ρ,o,os,e,q⟩=>by
  obtain ⟨c0,e1,e⟩:=qd e
  obtain ⟨k0,e2,e⟩:=qd e
  obtain ⟨n,e3,e⟩:=qd e
  obtain ⟨l,e4,e⟩:=qd e
  obtain ⟨j0,e5,e⟩:=qd e
  obtain ⟨x0,e6,e⟩:=qd e
  obtain ⟨y0,e7,e⟩:=qd e
  obtain ⟨z0,e8,e⟩:=qd e
  obtain ⟨l',e9,e⟩:=qd e
  cases e
  obtain ⟨k,rfl⟩:=WT e3
  obtain ⟨F,f0⟩:=os.deep
  obtain ⟨pp,a1,b1,c1⟩:=f0.own i hM _ (Qa e1)
  refine ⟨_,a1,S,ρ,.int k,os.ds,e2,fun w H1 g1 d1=>?_⟩
  cases d1.int_inv
  obtain ⟨ls,jn,jx,rfl,rfl,ej,rfl⟩:=qaf e9
  obtain ⟨q0,xs,es,m0,el,h0,t0,ix,put⟩:=(b1.same g1).kid e4 rfl
  cases el
  refine ix k e3 _ ⟨S,ρ,.int jn,os.ds.same g1,e5,fun jv H2 g2 dj=>?_⟩
  cases dj.int_inv
  have t2:=t0.same g2
  have e6:atI ls jn=some x0:=e6
  unfold atI at e6
  rw [ej] at e6
  have e6:ls[jx]?=some x0:=e6
  obtain ⟨xv,hx,dx⟩:=t2.get e6
  obtain ⟨m,m2,rfl,rfl,e8⟩:=ZQ e8
  cases e8
  refine ⟨q0,xs,jn,xv,rfl,rfl,SqL.of (g2 _ _ h0),?_,S,ρ,.int m2,(os.ds.same g1).same g2,e7,fun yv H3 g3 dy=>?_⟩
  ·unfold atI
   rw [t2.length,ej]
   exact hx
  cases dx.int_inv
  cases dy.int_inv
  refine ⟨m,m2,rfl,rfl,q0,xs,jn,jx,rfl,rfl,g3 _ _ (g2 _ _ h0),by rw [t2.length];exact ej,?_⟩
  have os3:=os.same (g1.trans (g2.trans g3))
  exact q _ _ _ (os3.writeD (f0.same (g1.trans (g2.trans g3))) hM (Qa e1) a1 m0 rfl (put H3 (g2.trans g3) _ _ (c1 q0 m0).1 os3.ds.1 (((t2.same g3).set jx (.int _)).off os3.ds.1 (Off.upd (c1 q0 m0).1))))
end
theorem qbC {acc:aU}{a:Int}{n:Nat}(it:ItemsOf (fun i v=>∃ t,v=.int (a+i*1) t) acc n):Vals (rngV a n) acc.toList:=by
 have:=Jb acc.toList a fun i v hv=>by
  obtain ⟨t',y⟩:=it.2 i v (by rw [← Uo];exact hv)
  exact ⟨t',by rw [y];congr 1;omega⟩
 rwa [Ky,it.1] at this
def lr2D (xs:aj):Option Ka:=ob (Zr xs) fun ds=>some (.list ds)
theorem Y8 {xs ds:aj}(e:Zr xs=some ds):∃ i j,xs=[.int i,.int j]/\((-1000<=i/\i<=1000)/\(-1000<=j/\j<=1000))/\ds=rngL i (j-i).toNat:=by
 unfold Zr at e
 split at e
 ·split at e
  ·rename_i hj;cases e;exact ⟨_,_,rfl,hj,rfl⟩
  ·cases e
 ·cases e
theorem JK {X:Cx}{M:ar}{a b:Kr}{fs:ae}{p1 p2 pos rpos:Pos}{k:Nat}(hr:Room k X.A)(hg:Gl X "list")(hm:X.mg "list" = none)(hgr:Gl X "range")(hmr:X.mg "range" = none)(ha:PDA X M [a,b] fs)
  (he:starEach [.Call (.Name "range" p2) [a,b] [] rpos] X.env=(false,eval (.Call (.Name "range" p2) [a,b] [] rpos) X.env)::starEach [] X.env:=by rfl) (hpl:(backTo pos (starEach [] X.env)).any (·.1)=false:=by rfl) (he2:starEach [a,b] X.env=(false,eval a X.env)::starEach [b] X.env:=by rfl) (hpl2:(backTo rpos (starEach [b] X.env)).any (·.1)=false:=by rfl) :
  PF X M (.Call (.Name "list" p1) [.Call (.Name "range" p2) [a,b] [] rpos] [] pos) (evA fs lr2D):=by
 intro pins s σ H Q I ⟨S,ρ,d,hs,e,q⟩
 obtain ⟨xs,e1,e⟩:=qd e
 obtain ⟨ds,e2,e⟩:=qd e
 cases e
 obtain ⟨i,j,rfl,hj,rfl⟩:=Y8 e2
 have bl:bootBuiltins "list" = some (.type "list"):=rfl
 have br:bootBuiltins "range" = some (.type "range"):=rfl
 refine VH (QT I hg hm bl ?_ (by decide +kernel) (by decide +kernel))
 refine Vf ?_ he hpl
 rw [he]
 refine Calls.spliced_cons ?_
 refine VH (QT I hgr hmr br ?_ (by decide +kernel) (by decide +kernel))
 refine Vf ?_ he2 hpl2
 refine thn (ha rpos pins s σ H (fun vs H1=>Same H H1/\DenL X.K H1 S vs [.int i,.int j]) I ⟨S,ρ,_,hs,e1,fun vs H1 g1 d1=>⟨g1,d1⟩⟩) fun us s1 ⟨vs,H1,I1,r,g1,d1⟩=>?_
 cases d1 with
 | cons dv d2 =>
  cases d2 with
  | cons dw d3 =>
   cases d3
   cases dv
   cases dw
   cases r with
   | cons ru r2 =>
    cases r2 with
    | cons rw2 r3 =>
     cases r3
     obtain ⟨t,rfl⟩:=ru
     obtain ⟨t2,rfl⟩:=rw2
     refine call_range_2 ?_
     have I2:=I1.kept (t':=s1.toks+1) (h':=s1.heap.push { cls:=.type "range", data:=.fields #[.int i t,.int j t2,.int 1 s1.toks] }) fun b o y=>Kp _ y
     refine Calls.spliced_nil ?_
     have sz:Builtin.Range.rangeSize i j 1=((j-i).toNat:Nat):=by rw [rangeSize_nat]
     refine call_list_range hr.hd (IsRange.new _ i j 1 _ _ _) (small_one (by omega) (by omega) (by omega) (by omega)) sz (by omega) fun h' tk acc c' kp hget it=>?_
     have fr:H1 (s1.heap.push { cls:=.type "range", data:=.fields #[.int i t,.int j t2,.int 1 s1.toks] }).objs.size=none:=I2.hok.fresh (Ko _)
     have I3:=I2.laid (t':=tk) (o:=.lst (rngV i (j-i).toNat)) kp (Ko _) ⟨by rw [j4,Uj];omega,acc.toList,c',qbC it,by rw [X2];exact hget⟩
     exact ⟨.ref _,_,I3,rfl,q _ _ (g1.lay' fr) (g1.free fr) (OwnO.laid fr (J5 i (j-i).toNat))⟩
section
variable {prog:KD}{w:KM}{A:KU}{E:aq}{s:Ke}
set_option maxHeartbeats 3200000 in
end
section
variable {X:Cx}{G:Gm}{M M' Mb L:ar}{fr:Fr}{b:Kr}{fk:aa}{pos:Pos}
def jt (i o:Nat)(fk:aa):Rho->Option Out:=fun ρ=>ob (vr i ρ) fun l=>ob (vr o ρ) fun l2=>ob (fk ρ) fun k=>ob (jb l2 k) fun r=>ob (appD l r.1) fun l'=>some (.nx ((ρ.set o (some r.2)).set i (some l')))
theorem Y5 (i o:Nat){x y:Str}{px py apos cpos apos2 cpos2:Pos}(hv:Vis X.env.scope x)(hM:Flt M i)(hL:i∉L)(hv2:Vis X.env.scope y)(hM2:Flt M o)(hL2:o∉L)(hio:o≠i)(hk:PD X [] b fk)(hN:X.N[i]?=some x:=by rfl)(hN2:X.N[o]?=some y:=by rfl)(hd:(x==("__debug__" : Str))=false:=by decide +kernel)(hcd:(x==("__classdict__" : Str))=false:=by decide +kernel)(hd2:(y==("__debug__" : Str))=false:=by decide +kernel)(hcd2:(y==("__classdict__" : Str))=false:=by decide +kernel)
  (hbase2:attributeBase (.Name y py) "pop" X.env (eval (.Name y py) X.env)=eval (.Name y py) X.env:=by rfl)
  (hfew2:((backTo cpos2 (starEach [b] X.env)).all (fun x=>!x.1)&&(backToKw cpos2 (keywordEach [] X.env)).all (fun x=>x.1.isSome)
   && decide ([b].length+([]:List U1).length+(if ([]:List U1).isEmpty then 0 else 1)<30))=true:=by rfl)
  (hline2:(apos2.endLine==cpos2.line)=true:=by rfl) (hs2:starEach [b] X.env=(false,eval b X.env)::starEach [] X.env:=by rfl) (hplain2:(backTo cpos2 (starEach [] X.env)).any (·.1)=false:=by rfl)
  (hbase:attributeBase (.Name x px) "append" X.env (eval (.Name x px) X.env)=eval (.Name x px) X.env:=by rfl)
  (hfew:((backTo cpos (starEach [.Call (.Attribute (.Name y py) "pop" apos2) [b] [] cpos2] X.env)).all (fun x=>!x.1)&&(backToKw cpos (keywordEach [] X.env)).all (fun x=>x.1.isSome)
   && decide ([Expr.Call (.Attribute (.Name y py) "pop" apos2) [b] [] cpos2].length+([]:List U1).length+(if ([]:List U1).isEmpty then 0 else 1)<30))=true:=by rfl)
  (hline:(apos.endLine==cpos.line)=true:=by rfl) (hs:starEach [.Call (.Attribute (.Name y py) "pop" apos2) [b] [] cpos2] X.env=(false,eval (.Call (.Attribute (.Name y py) "pop" apos2) [b] [] cpos2) X.env)::starEach [] X.env:=by rfl) (hplain:(backTo cpos (starEach [] X.env)).any (·.1)=false:=by rfl)
  (hsw:swapsWith (.Call (.Attribute (.Name x px) "append" apos) [.Call (.Attribute (.Name y py) "pop" apos2) [b] [] cpos2] [] cpos) none pos.line X.env=pure false:=by rfl) :
  PDS X G M L M Mb fr (.Expr (.Call (.Attribute (.Name x px) "append" apos) [.Call (.Attribute (.Name y py) "pop" apos2) [b] [] cpos2] [] cpos) pos) (jt i o fk) :=
 (Wn (qa8 UA UF Xu JD (yr i hv hN hd hcd) (jq (qa8 UA PySem.F.slot_list_pop PySem.F.type_list_pop qaW (yr o hv2 hN2 hd2 hcd2) (Zh hk QW hs2) hbase2 hfew2 hline2 hs2 hplain2) Y0 hs) hbase hfew hline hs hplain) hsw).weak fun D σ H ⟨S,ρ,oo,os,e,q⟩=>by
  obtain ⟨l,e1,e⟩:=qd e
  obtain ⟨l2,e2,e⟩:=qd e
  obtain ⟨k,e3,e⟩:=qd e
  obtain ⟨r,e4,e⟩:=qd e
  obtain ⟨l',e5,e⟩:=qd e
  cases e
  obtain ⟨ds,m,n,d,rfl,rfl,hm,en,ed,rfl⟩:=Yo e4
  obtain ⟨es,rfl,hz,rfl⟩:=Jj e5
  obtain ⟨pp,a1,b1,c1,n1,w1,_⟩:=os.own i hM _ (Qa e1)
  obtain ⟨p2,a2,b2,c2,n2,w2,_⟩:=os.own o hM2 _ (Qa e2)
  cases b1 with
  | @lst xs _ h t =>
   cases b2 with
   | @lst ys _ h2 t2 =>
    refine ⟨_,a1,.inl ⟨rfl,_,SqL.of h⟩,_,a2,.inl ⟨rfl,_,SqL.of h2⟩,G.S0,ρ,[.int m],os.den,by show ob (fk ρ) _=_;rw [e3];rfl,fun vs H2 g2 dl=>?_⟩
    obtain ⟨kv,rfl,dk⟩:=dl.inv1
    have os2:=os.same g2
    obtain ⟨v,hv1,dv⟩:=(t2.same g2).get ed
    refine ⟨p2,ys,m,n,v,rfl,by rw [dk.int_inv],g2 _ _ h2,by omega,by omega,by rw [t2.length];exact en,hv1,?_⟩
    have os3:=os2.write hM2 hL2 (Qa e2) a2 (d:=.list (ds.eraseIdx n)) (o:=.lst (ys.eraseIdx n)) rfl (.lst qM (((t2.same g2).erase n).off os2.ds.1 (Off.upd c2)))
    have e1':(ρ.set o (some (VB (ds.eraseIdx n))))[i]?=some (some (.list es)):=by rw [qj hio];exact Qa e1
    have ne:pp≠p2:=fun z=>hio (os.apart o hM2 i hM _ _ p2 (Qa e2) (Qa e1) a2 (by rw [← z];exact a1))
    refine ⟨pp,xs,v,rfl,rfl,by rw [qp ne];exact g2 _ _ h,Ku (by rw [t.length];exact hz) (Vk (q9 (Ko _))),?_⟩
    have t3:=(t.same g2).off os2.ds.1 (Off.upd (o:=.lst (ys.eraseIdx n)) c2)
    have dv3:=dv.off os2.ds.1 (Off.upd (o:=.lst (ys.eraseIdx n)) c2)
    exact q _ _ _ (os3.write hM hL e1' a1 rfl (.lst qM ((t3.snoc dv3).off os3.ds.1 (Off.upd c1))))
end
end L2
namespace L2
open PySem PySem.W PyProof.Rows
theorem Qk {α β:Type}{lt:aS}{f:α->KasT β}:∀ (t:KasT α),runC lt (t.bind f)=ob (runC lt t) fun a=>runC lt (f a)
 | .ret _=>rfl
 | .ask i j k=>by
  show ob (lt i j) (fun b=>runC lt ((k b).bind f))=ob (ob (lt i j) fun b=>runC lt (k b)) _
  cases lt i j with
  | none=>rfl
  | some b=>exact Qk (k b)
structure IOrd (n:Nat)(lt:aS)(blt:Nat->Nat->Bool):Prop where
 ask:∀ i j,i<n->j<n->lt i j=some (blt i j)
 irr:∀ i,blt i i=false
 tr:∀ i j k,blt i j=true->blt j k=true->blt i k=true
 neg:∀ i j k,blt i k=true->blt i j=true\/blt j k=true
def gp (p:aT)(i:Nat):Nat:=p.getD i 0
def zg (n:Nat)(p:aT):Prop:=p.toList.Perm (Kf n)
def UpTo (blt:Nat->Nat->Bool)(p:aT)(m:Nat):Prop:=∀ i j,i<=j->j<m->blt (gp p j) (gp p i)=false
section
variable {n:Nat}{lt:aS}{blt:Nat->Nat->Bool}{p:aT}
theorem zg.size (h:zg n p):p.size=n:=by
 have:=h.length_eq
 rw [Ky,Kq] at this
 exact this
theorem zg.inb (h:zg n p){i:Nat}(hi:i<n):gp p i<n:=by
 have hs:=h.size
 have e:gp p i=p[i]'(by omega):=by simp [gp,Array.getD,hs,hi]
 have hm:p[i]'(by omega)∈p.toList:=by simp
 have:=h.mem_iff.mp hm
 rw [e]
 exact KS.mp this
theorem yZ {q:aT}{i j:Nat}(h:q[i]?=p[j]?):gp q i=gp p j:=by
 unfold gp
 simp only [Array.getD_eq_getD_getElem?,h]
theorem IOrd.le_tr (O:IOrd n lt blt){a b c:Nat}(h1:blt b a=false)(h2:blt c b=false):blt c a=false:=by
 cases h:blt c a with
 | false=>rfl
 | true =>
  rcases O.neg c b a h with z|z
  ·rw [h2] at z;cases z
  ·rw [h1] at z;cases z
theorem IOrd.asym (O:IOrd n lt blt){a b:Nat}(h:blt a b=true):blt b a=false:=by
 cases z:blt b a with
 | false=>rfl
 | true =>
  have:=O.tr a b a h z
  rw [O.irr] at this
  cases this
theorem W7 (O:IOrd n lt blt)(hp:zg n p){k:Nat}(hk:k<n)(hs:UpTo blt p k):∀ (f l r:Nat),r-l<=f->l<=r->r<=k->(∀ i,i<l->blt (gp p k) (gp p i)=false)->(∀ i,r<=i->i<k->blt (gp p k) (gp p i)=true)->
  ∃ m,runC lt (kas_place p k f l r)=some m/\m<=k/\(∀ i,i<m->blt (gp p k) (gp p i)=false)/\(∀ i,m<=i->i<k->blt (gp p k) (gp p i)=true):=by
 intro f
 induction f with
 | zero =>
  intro l r h1 h2 h3 h4 h5
  exact ⟨l,rfl,by omega,h4,fun i hi hi2=>h5 i (by omega) hi2⟩
 | succ f ih =>
  intro l r h1 h2 h3 h4 h5
  unfold kas_place
  by_cases hlr:l >= r
  ·rw [if_pos hlr]
   exact ⟨l,rfl,by omega,h4,fun i hi hi2=>h5 i (by omega) hi2⟩
  ·rw [if_neg hlr]
   have hm:(l+r) / 2<k:=by omega
   have ea:=O.ask (gp p k) (gp p ((l+r) / 2)) (hp.inb hk) (hp.inb (by omega))
   show ∃ m,ob (lt (gp p k) (gp p ((l+r) / 2))) (fun c=>runC lt (if c=true then kas_place p k f l ((l+r) / 2) else kas_place p k f ((l+r) / 2+1) r))=some m/\_
   rw [ea]
   cases hb:blt (gp p k) (gp p ((l+r) / 2)) with
   | true =>
    refine ih l ((l+r) / 2) (by omega) (by omega) (by omega) h4 fun i hi hi2=>?_
    cases z:blt (gp p k) (gp p i) with
    | true=>rfl
    | false =>
     have:=hs ((l+r) / 2) i hi hi2
     have q:=O.le_tr this z
     rw [hb] at q
     cases q
   | false =>
    refine ih ((l+r) / 2+1) r (by omega) (by omega) h3 (fun i hi=>?_) h5
    exact O.le_tr (hs i ((l+r) / 2) (by omega) hm) hb
theorem Yl {q:aT}(h:zg n p)(hq:q.Perm p):zg n q:=(Array.perm_iff_toList_perm.mp hq).trans h
theorem Ju {k m:Nat}(hk:k<p.size)(hm:m<=k)(i:Nat):gp (bubble p k (k-m)) i=if i=m then gp p k else if m<i/\i<=k then gp p (i-1) else gp p i:=by
 have e:=getElem?_bubble hk (k-m) (by omega) i
 have hkm:k-(k-m)=m:=by omega
 rw [hkm] at e
 by_cases h1:i=m
 ·rw [if_pos h1] at e ⊢;exact yZ e
 ·rw [if_neg h1] at e ⊢
  by_cases h2:m<i/\i<=k
  ·rw [if_pos h2] at e ⊢;exact yZ e
  ·rw [if_neg h2] at e ⊢;exact yZ e
theorem QB {i j:Nat}(hj:j<=p.size)(k:Nat):gp (Ub p i j) k=if i<=k/\k<j then gp p (i+j-1-k) else gp p k:=by
 have e:=getElem?_mirror_all (i:=i) hj k
 unfold Ub
 by_cases h1:i<=k/\k<j
 ·rw [if_pos h1] at e ⊢;exact yZ e
 ·rw [if_neg h1] at e ⊢;exact yZ e
theorem QJ (h:zg n p)(i j:Nat):zg n (Ub p i j):=Yl h (mirror_perm _ _ _ _)
theorem qbH (O:IOrd n lt blt):∀ (f:Nat) (p:aT) (k:Nat),zg n p->UpTo blt p k->k+f=n->∃ p',runC lt (kas_bin f p k)=some p'/\zg n p'/\UpTo blt p' n:=by
 intro f
 induction f with
 | zero=>exact fun p k hp hs e=>⟨p,rfl,hp,by rw [← e];exact hs⟩
 | succ f ih =>
  intro p k hp hs e
  have hk:k<n:=by omega
  obtain ⟨m,e1,h1,h2,h3⟩:=W7 O hp hk hs k 0 k (by omega) (by omega) (by omega) (fun i hi=>by omega) (fun i hi hi2=>by omega)
  have hz:=hp.size
  obtain ⟨p',e2,h4,h5⟩:=ih (bubble p k (k-m)) (k+1) (Yl hp (bubble_perm _ _ _)) (fun i j hij hj=>by
   rw [Ju (by omega) h1,Ju (by omega) h1]
   by_cases a1:j=m
   ·rw [if_pos a1]
    by_cases a2:i=m
    ·rw [if_pos a2];exact O.irr _
    ·rw [if_neg a2,if_neg (by omega)]
     exact h2 i (by omega)
   ·rw [if_neg a1]
    by_cases a3:m<j/\j<=k
    ·rw [if_pos a3]
     by_cases a2:i=m
     ·rw [if_pos a2]
      exact O.asym (h3 (j-1) (by omega) (by omega))
     ·rw [if_neg a2]
      by_cases a4:m<i/\i<=k
      ·rw [if_pos a4]
       exact hs (i-1) (j-1) (by omega) (by omega)
      ·rw [if_neg a4]
       exact hs i (j-1) (by omega) (by omega)
    ·rw [if_neg a3,if_neg (by omega),if_neg (by omega)]
     exact hs i j hij (by omega)) (by omega)
  refine ⟨p',?_,h4,h5⟩
  unfold kas_bin
  rw [Qk,e1]
  exact e2
theorem wJ (O:IOrd n lt blt)(hp:zg n p):∀ (f m:Nat),1<=m->m+f<=n->UpTo blt p m->∃ m',runC lt (kas_asc p f m)=some m'/\m<=m'/\m'<=m+f/\UpTo blt p m'/\(m'<m+f->blt (gp p m') (gp p (m'-1))=true):=by
 intro f
 induction f with
 | zero=>exact fun m h1 h2 hs=>⟨m,rfl,by omega,by omega,hs,fun z=>by omega⟩
 | succ f ih =>
  intro m h1 h2 hs
  have ea:=O.ask (gp p m) (gp p (m-1)) (hp.inb (by omega)) (hp.inb (by omega))
  unfold kas_asc
  show ∃ m',ob (lt (gp p m) (gp p (m-1))) (fun c=>runC lt (if c=true then .ret m else kas_asc p f (m+1)))=some m'/\_
  rw [ea]
  cases hb:blt (gp p m) (gp p (m-1)) with
  | true=>exact ⟨m,rfl,by omega,by omega,hs,fun _=>hb⟩
  | false =>
   obtain ⟨m',e1,h3,h4,h5,h6⟩:=ih (m+1) (by omega) (by omega) (fun i j hij hj=>by
    by_cases hjm:j=m
    ·subst hjm
     by_cases hi:i=j
     ·subst hi;exact O.irr _
     ·exact O.le_tr (hs i (j-1) (by omega) (by omega)) hb
    ·exact hs i j hij (by omega))
   exact ⟨m',e1,by omega,by omega,h5,fun z=>h6 (by omega)⟩
def Z3 (blt:Nat->Nat->Bool)(p:aT)(m:Nat):Prop:=∀ i j,i<=j->j<m->blt (gp p i) (gp p j)=false
def qal (blt:Nat->Nat->Bool)(p:aT)(a b:Nat):Prop:=∀ i j,a<=i->i<b->a<=j->j<b->blt (gp p i) (gp p j)=false
theorem yU (hp:zg n p){m a:Nat}(hm:m<=n)(ha:a<=m)(hd:Z3 blt p m)(hs:qal blt p a m):Z3 blt (Ub p a m) m/\∀ i,i<m->∃ i',i'<m/\gp (Ub p a m) i=gp p i':=by
 have hz:=hp.size
 refine ⟨fun i j hij hj=>?_,fun i hi=>?_⟩
 ·rw [QB (by omega),QB (by omega)]
  by_cases h1:a<=i/\i<m
  ·rw [if_pos h1,if_pos (by omega)]
   exact hs _ _ (by omega) (by omega) (by omega) (by omega)
  ·rw [if_neg h1]
   by_cases h2:a<=j/\j<m
   ·rw [if_pos h2];exact hd _ _ (by omega) (by omega)
   ·rw [if_neg h2];exact hd _ _ hij hj
 ·rw [QB (by omega)]
  by_cases h1:a<=i/\i<m
  ·rw [if_pos h1];exact ⟨_,by omega,rfl⟩
  ·rw [if_neg h1];exact ⟨i,hi,rfl⟩
theorem qaB (O:IOrd n lt blt):∀ (f:Nat) (p:aT) (m q:Nat),zg n p->m+f<=n->q+1<=m->Z3 blt p m->qal blt p (m-(q+1)) m->
  ∃ p' m' q',runC lt (UL f p m q)=some (p',m',q')/\zg n p'/\m<=m'/\m'<=m+f/\q'+1<=m'/\Z3 blt p' m'/\qal blt p' (m'-(q'+1)) m':=by
 intro f
 induction f with
 | zero=>exact fun p m q hp _ hq hd hs=>⟨p,m,q,rfl,hp,by omega,by omega,hq,hd,hs⟩
 | succ f ih =>
  intro p m q hp hm hq hd hs
  have hz:=hp.size
  have e1:=O.ask (gp p m) (gp p (m-1)) (hp.inb (by omega)) (hp.inb (by omega))
  have e2:=O.ask (gp p (m-1)) (gp p m) (hp.inb (by omega)) (hp.inb (by omega))
  unfold UL
  show ∃ p' m' q',ob (lt (gp p m) (gp p (m-1))) (fun c=>runC lt (if c=true then (if q > 0 then UL f (Ub p (m-(q+1)) m) (m+1) 0 else UL f p (m+1) 0)
   else .ask (p.getD (m-1) 0) (p.getD m 0) fun d=>if d=true then .ret (p,m,q) else UL f p (m+1) (q+1)))=some (p',m',q')/\_
  rw [e1]
  cases hb:blt (gp p m) (gp p (m-1)) with
  | true =>
   have below:∀ i,i<m->blt (gp p i) (gp p m)=false:=fun i hi=>O.le_tr (O.asym hb) (hd i (m-1) (by omega) (by omega))
   show ∃ p' m' q',runC lt (if q > 0 then UL f (Ub p (m-(q+1)) m) (m+1) 0 else UL f p (m+1) 0)=some (p',m',q')/\_
   by_cases hq0:q > 0
   ·rw [if_pos hq0]
    obtain ⟨d1,d2⟩:=yU (blt:=blt) hp (m:=m) (a:=m-(q+1)) (by omega) (by omega) hd hs
    have gm:gp (Ub p (m-(q+1)) m) m=gp p m:=by rw [QB (by omega),if_neg (by omega)]
    obtain ⟨p',m',q',r1,r2,r3,r4,r5,r6,r7⟩:=ih (Ub p (m-(q+1)) m) (m+1) 0 (QJ hp _ _) (by omega) (by omega) (fun i j hij hj=>by
     by_cases hjm:j=m
     ·subst hjm
      by_cases hi:i=j
      ·subst hi;exact O.irr _
      ·obtain ⟨i',hi',ei⟩:=d2 i (by omega)
       rw [ei,gm]
       exact below i' hi'
     ·exact d1 i j hij (by omega)) (fun i j h1 h2 h3 h4=>by
      have:i=m:=by omega
      have:j=m:=by omega
      subst i;subst j;exact O.irr _)
    exact ⟨p',m',q',r1,r2,by omega,by omega,r5,r6,r7⟩
   ·rw [if_neg hq0]
    obtain ⟨p',m',q',r1,r2,r3,r4,r5,r6,r7⟩:=ih p (m+1) 0 hp (by omega) (by omega) (fun i j hij hj=>by
     by_cases hjm:j=m
     ·subst hjm
      by_cases hi:i=j
      ·subst hi;exact O.irr _
      ·exact below i (by omega)
     ·exact hd i j hij (by omega)) (fun i j h1 h2 h3 h4=>by
      have:i=m:=by omega
      have:j=m:=by omega
      subst i;subst j;exact O.irr _)
    exact ⟨p',m',q',r1,r2,by omega,by omega,r5,r6,r7⟩
  | false =>
   show ∃ p' m' q',ob (lt (gp p (m-1)) (gp p m)) (fun d=>runC lt (if d=true then .ret (p,m,q) else UL f p (m+1) (q+1)))=some (p',m',q')/\_
   rw [e2]
   cases hd2:blt (gp p (m-1)) (gp p m) with
   | true=>exact ⟨p,m,q,rfl,hp,by omega,by omega,hq,hd,hs⟩
   | false =>
    obtain ⟨p',m',q',r1,r2,r3,r4,r5,r6,r7⟩:=ih p (m+1) (q+1) hp (by omega) (by omega) (fun i j hij hj=>by
     by_cases hjm:j=m
     ·subst hjm
      by_cases hi:i=j
      ·subst hi;exact O.irr _
      ·exact O.le_tr hd2 (hd i (j-1) (by omega) (by omega))
     ·exact hd i j hij (by omega)) (fun i j h1 h2 h3 h4=>by
      have s1:∀ i,m-(q+1)<=i->i<m->blt (gp p i) (gp p m)=false/\blt (gp p m) (gp p i)=false:=fun i a b =>
       ⟨O.le_tr hd2 (hs i (m-1) a b (by omega) (by omega)),O.le_tr (hs (m-1) i (by omega) (by omega) a b) hb⟩
      by_cases hi:i=m
      ·subst hi
       by_cases hj:j=i
       ·subst hj;exact O.irr _
       ·exact (s1 j (by omega) (by omega)).2
      ·by_cases hj:j=m
       ·subst hj;exact (s1 i (by omega) (by omega)).1
       ·exact hs i j (by omega) (by omega) (by omega) (by omega))
    exact ⟨p',m',q',r1,r2,by omega,by omega,r5,r6,r7⟩
theorem JR (O:IOrd n lt blt)(hp:zg n p){m:Nat}(h1:1<=m)(h2:m<=n)(hd:Z3 blt p m):∃ m' p',runC lt (kas_tail3 m n p)=some (m',p')/\zg n p'/\1<=m'/\m'<=n/\UpTo blt p' m':=by
 have hz:=hp.size
 obtain ⟨m',e1,h3,h4,h5,_⟩:=wJ O (QJ hp 0 m) (n-m) m h1 (by omega) (fun i j hij hj=>by
  rw [QB (by omega),QB (by omega),if_pos (by omega),if_pos (by omega)]
  exact hd _ _ (by omega) (by omega))
 refine ⟨m',Ub p 0 m,?_,QJ hp 0 m,by omega,by omega,h5⟩
 unfold kas_tail3
 rw [Qk,e1]
 rfl
theorem ZK (O:IOrd n lt blt)(hp:zg n p){k:Nat}(h2:k+1<=n)(hd:Z3 blt p (k+1)):∃ m' p',runC lt (UX k n p)=some (m',p')/\zg n p'/\1<=m'/\m'<=n/\UpTo blt p' m':=by
 obtain ⟨p1,m1,q1,e1,r2,r3,r4,r5,r6,r7⟩:=qaB O (n-(k+1)) p (k+1) 0 hp (by omega) (by omega) hd (fun i j a1 a2 a3 a4=>by
  have:i=k:=by omega
  have:j=k:=by omega
  subst i;subst j;exact O.irr _)
 unfold UX
 rw [Qk,e1]
 show ∃ m' p',runC lt (if q1 > 0 then kas_tail3 m1 n (Ub p1 (m1-(q1+1)) m1) else kas_tail3 m1 n p1)=some (m',p')/\_
 by_cases hq:q1 > 0
 ·rw [if_pos hq]
  exact JR O (QJ r2 _ _) (by omega) (by omega) (yU r2 (by omega) (by omega) r6 r7).1
 ·rw [if_neg hq]
  exact JR O r2 (by omega) (by omega) r6
theorem WF (O:IOrd n lt blt)(hp:zg n p)(hn:1<=n):∃ m' p',runC lt (kas_count n p)=some (m',p')/\zg n p'/\1<=m'/\m'<=n/\UpTo blt p' m':=by
 have hz:=hp.size
 obtain ⟨m,e1,h3,h4,h5,h6⟩:=wJ O hp (n-1) 1 (by omega) (by omega) (fun i j hij hj=>by
  have:i=0:=by omega
  have:j=0:=by omega
  subst i;subst j;exact O.irr _)
 unfold kas_count
 rw [Qk,e1]
 show ∃ m' p',runC lt (if (m==n)=true then .ret (m,p) else if m > 1 then .ask (p.getD 0 0) (p.getD (m-1) 0) fun c=>if c=true then .ret (m,p) else UX m n (Ub p 0 m) else UX m n p)=some (m',p')/\_
 by_cases hmn:m=n
 ·rw [if_pos (by simpa using hmn)]
  exact ⟨m,p,rfl,hp,by omega,by omega,h5⟩
 ·rw [if_neg (by simpa using hmn)]
  have hb:=h6 (by omega)
  by_cases hm1:m > 1
  ·rw [if_pos hm1]
   have ea:=O.ask (gp p 0) (gp p (m-1)) (hp.inb (by omega)) (hp.inb (by omega))
   show ∃ m' p',ob (lt (gp p 0) (gp p (m-1))) (fun c=>runC lt (if c=true then .ret (m,p) else UX m n (Ub p 0 m)))=some (m',p')/\_
   rw [ea]
   cases hc:blt (gp p 0) (gp p (m-1)) with
   | true=>exact ⟨m,p,rfl,hp,by omega,by omega,h5⟩
   | false =>
    refine ZK O (QJ hp 0 m) (by omega) (fun i j hij hj=>?_)
    by_cases hjm:j=m
    ·by_cases hi:i=j
     ·rw [hi];exact O.irr _
     ·rw [QB (by omega),QB (by omega),if_pos (by omega),if_neg (by omega),hjm]
      exact O.le_tr (O.asym hb) (O.le_tr hc (h5 0 (0+m-1-i) (by omega) (by omega)))
    ·rw [QB (by omega),QB (by omega),if_pos (by omega),if_pos (by omega)]
     exact h5 _ _ (by omega) (by omega)
  ·rw [if_neg hm1]
   have hm:m=1:=by omega
   subst hm
   refine ZK O hp (by omega) (fun i j hij hj=>?_)
   by_cases hi:i=j
   ·rw [hi];exact O.irr _
   ·have e0:i=0:=by omega
    have ej:j=1:=by omega
    rw [e0,ej]
    exact O.asym hb
theorem qbt (O:IOrd n lt blt)(hn:1<=n):∃ p',runC lt (Xw n)=some p'/\zg n p'/\UpTo blt p' n:=by
 obtain ⟨m,p,e1,h1,h2,h3,h4⟩:=WF O (p:=(Kf n).toArray) (show zg n _ from by unfold zg;exact List.Perm.refl _) hn
 unfold Xw
 rw [Qk,e1]
 show ∃ p',runC lt (if m<n then kas_bin (n-max m 1) p (max m 1) else .ret p)=some p'/\_
 have hmax:max m 1=m:=by omega
 by_cases hm:m<n
 ·rw [if_pos hm,hmax]
  exact qbH O (n-m) p m h1 h4 (by omega)
 ·rw [if_neg hm]
  have:m=n:=by omega
  subst this
  exact ⟨p,rfl,h1,h4⟩
end
def tI (ns:aQ):Ka:=.tuple (ns.map .int)
theorem Jy:∀ xs:List Int,HT.lexLt xs xs=false
 | []=>rfl
 | x::xs=>by rw [HT.Qs,if_pos rfl];exact Jy xs
theorem Yc:∀ xs ys zs:List Int,HT.lexLt xs ys=true->HT.lexLt ys zs=true->HT.lexLt xs zs=true
 | [],[],_,h,_=>by cases h
 | [],_::_,[],_,h=>by cases h
 | [],_::_,_::_,_,_=>rfl
 | _::_,[],_,h,_=>by cases h
 | _::_,_::_,[],_,h=>by cases h
 | x::xs,y::ys,z::zs,h1,h2=>by
  rw [HT.Qs] at h1 h2 ⊢
  by_cases e1:x=y
  ·rw [if_pos e1] at h1
   by_cases e2:y=z
   ·rw [if_pos e2] at h2
    rw [if_pos (e1.trans e2)]
    exact Yc xs ys zs h1 h2
   ·rw [if_neg e2] at h2
    rw [if_neg (by rw [e1];exact e2),e1]
    exact h2
  ·rw [if_neg e1] at h1
   have h1':=of_decide_eq_true h1
   by_cases e2:y=z
   ·rw [if_neg (by rw [← e2];exact e1),← e2]
    exact h1
   ·rw [if_neg e2] at h2
    have h2':=of_decide_eq_true h2
    rw [if_neg (by omega)]
    exact decide_eq_true (by omega)
theorem Jz:∀ xs ys zs:List Int,HT.lexLt xs zs=true->HT.lexLt xs ys=true\/HT.lexLt ys zs=true
 | [],[],zs,h=>.inr h
 | [],_::_,_,_=>.inl rfl
 | _::_,_,[],h=>by cases h
 | _::_,[],_::_,_=>.inr rfl
 | x::xs,y::ys,z::zs,h=>by
  rw [HT.Qs] at h ⊢
  rw [HT.Qs]
  by_cases e1:x=z
  ·rw [if_pos e1] at h
   subst e1
   by_cases e2:x=y
   ·subst e2
    rw [if_pos rfl,if_pos rfl]
    exact Jz xs ys zs h
   ·rw [if_neg e2,if_neg (fun z=>e2 z.symm)]
    by_cases hl:x<y
    ·exact .inl (decide_eq_true hl)
    ·exact .inr (decide_eq_true (by omega))
  ·rw [if_neg e1] at h
   have h':=of_decide_eq_true h
   by_cases e2:x=y
   ·subst e2
    rw [if_neg e1]
    exact .inr h
   ·rw [if_neg e2]
    by_cases hl:x<y
    ·exact .inl (decide_eq_true hl)
    ·right
     rw [if_neg (by omega)]
     exact decide_eq_true (by omega)
theorem JC:∀ xs ys:List Int,ltXs (xs.map .int) (ys.map .int)=some (HT.lexLt xs ys)
 | [],[]=>by rw [Uv,ltXs];rfl
 | [],_::_=>by rw [Uv,KF,ltXs];rfl
 | _::_,[]=>by rw [Uv,KF,ltXs];rfl
 | x::xs,y::ys=>by
  rw [KF,KF,ltXs,HT.Qs]
  have e:Uh (.int x) (.int y)=(x==y):=rfl
  rw [e]
  by_cases h:x=y
  ·rw [if_pos (by simpa using h),if_pos h]
   exact JC xs ys
  ·rw [if_neg (by simpa using h),if_neg h,ltX]
theorem qaT (xs ys:aQ):ltX (tI xs) (tI ys)=some (HT.lexLt xs ys):=by
 unfold tI
 rw [ltX]
 exact JC xs ys
theorem jZ {α:Type}(xs:List α)(d:α):(Kf xs.length).map (fun i=>xs.getD i d)=xs:=by
 apply Uq
 ·simp
 ·intro i h1 h2
  simp [K6,h2]
theorem Yv {tI:List Int->Ka}{nss:List (List Int)}(hlt:∀ a∈nss,∀ b∈nss,ltX (tI a) (tI b)=some (HT.lexLt a b))(hok:Qh 0 (nss.map tI)=true\/Qh 1 (nss.map tI)=true):∃ mss:List (List Int),Zk [.list (nss.map tI)]=some (.list (mss.map tI))/\mss.Perm nss/\mss.Pairwise (fun a b=>HT.lexLt b a=false):=by
 have hn:2<=nss.length/\nss.length<64:=by
  unfold Qh at hok
  simp only [Kt,decide_eq_true_eq,Kg] at hok
  exact hok.elim (fun h=>⟨h.2.1,h.2.2.1⟩) fun h=>⟨h.2.1,h.2.2.1⟩
 have O:IOrd nss.length (Ye (nss.map tI)) (fun i j=>HT.lexLt (nss.getD i []) (nss.getD j [])):=by
  refine ⟨fun i j hi hj=>?_,fun i=>Jy _,fun i j k=>Yc _ _ _,fun i j k=>Jz _ _ _⟩
  unfold Ye
  rw [KW,KW,Kj hi,Kj hj]
  show ltX (tI nss[i]) (tI nss[j])=_
  rw [hlt _ (Xx hi) _ (Xx hj),getD_some (Kj hi),getD_some (Kj hj)]
 obtain ⟨p,e1,hp,hs⟩:=qbt O (by omega)
 have hin:∀ i∈p.toList,i<nss.length:=fun i hi=>KS.mp (hp.mem_iff.mp hi)
 refine ⟨p.toList.map fun i=>nss.getD i [],?_,?_,?_⟩
 ·show (if (nss.map tI).length<2 then some (VB (nss.map tI)) else if Qh 0 (nss.map tI)=true\/Qh 1 (nss.map tI)=true then ob (runC (Ye (nss.map tI)) (Xw (nss.map tI).length)) fun p=>Ym (nss.map tI) p else none)=_
  rw [if_neg (by rw [Kg];omega),if_pos hok,Kg,e1]
  show Ym (nss.map tI) p=_
  unfold Ym
  rw [if_pos ⟨Vc.mpr fun i hi=>by rw [Kg];exact decide_eq_true (hin i hi),by rw [Ky,hp.size];omega⟩]
  congr 2
  rw [Vl]
  refine VD fun i hi=>?_
  have hi':=hin i hi
  show (nss.map tI).getD i .none=tI (nss.getD i [])
  rw [getD_some (show (nss.map tI)[i]?=some (tI nss[i]) from by rw [KW,Kj hi'];rfl),getD_some (Kj hi')]
 ·have:=hp.map (fun i=>nss.getD i [])
  rw [jZ] at this
  exact this
 ·rw [List.pairwise_map,List.pairwise_iff_getElem]
  intro i j hi hj hij
  have hsz:=hp.size
  rw [Ky] at hi hj
  have:=hs i j (by omega) (by omega)
  have g1:gp p i=p.toList[i]'(by rw [Ky];exact hi):=by simp [gp,Array.getD,hi]
  have g2:gp p j=p.toList[j]'(by rw [Ky];exact hj):=by simp [gp,Array.getD,hj]
  rw [g1,g2] at this
  exact this
theorem yD {nss:List (List Int)}(hok:Qh 0 (nss.map tI)=true):∃ mss:List (List Int),Zk [.list (nss.map tI)]=some (.list (mss.map tI))/\mss.Perm nss/\mss.Pairwise (fun a b=>HT.lexLt b a=false):=Yv (fun a _ b _=>qaT a b) (.inl hok)
theorem yL:∀ ns:List Int,Kn (ns.map .int)=true/\KB (ns.map .int)=0
 | []=>⟨rfl,rfl⟩
 | n::ns=>by
  obtain ⟨h1,h2⟩:=yL ns
  rw [KF]
  exact ⟨by simp [Kn,KP,h1],by simp [KB,V7,h2]⟩
theorem jy:∀ nss:List (List Int),Kn (nss.map tI)=true/\KB (nss.map tI)<=1
 | []=>⟨rfl,Vu _⟩
 | ns::nss=>by
  obtain ⟨h1,h2⟩:=jy nss
  obtain ⟨h3,h4⟩:=yL ns
  rw [KF]
  refine ⟨by simp [Kn,tI,KP,h1,h3],?_⟩
  rw [KB,show (tI ns).depth=1 from by simp [tI,V7,h4]]
  omega
theorem Yu {nss:List (List Int)}(h2:2<=nss.length)(h64:nss.length<64)(hne:∀ ns∈nss,ns≠[]):Qh 0 (nss.map tI)=true:=by
 obtain ⟨h3,h4⟩:=jy nss
 unfold Qh
 simp only [Kt,decide_eq_true_eq,Kg]
 refine ⟨Vc.mpr fun d hd=>?_,h2,h64,h3,by omega⟩
 obtain ⟨ns,hn,rfl⟩:=V8.mp hd
 cases ns with
 | nil=>exact absurd rfl (hne [] hn)
 | cons n ns=>rfl
theorem yE {nss:List (List Int)}(h64:nss.length<64)(hne:∀ ns∈nss,ns≠[]):∃ mss:List (List Int),Zk [.list (nss.map tI)]=some (.list (mss.map tI))/\mss.Perm nss/\mss.Pairwise (fun a b=>HT.lexLt b a=false):=by
 by_cases h2:2<=nss.length
 ·exact yD (Yu h2 h64 hne)
 ·refine ⟨nss,?_,List.Perm.refl _,?_⟩
  ·show (if (nss.map tI).length<2 then some (VB (nss.map tI)) else _)=_
   rw [if_pos (by rw [Kg];omega)]
  ·match nss,h2 with
   | [],_=>exact .nil
   | [a],_=>exact .cons (fun _ z=>nomatch z) .nil
   | _::_::_,h2=>exact absurd (by simp) h2
end L2
namespace SF
open PySem L2
variable (P:KD)(w:KM){K:Kb}{mg:au}(base:KI){f:Kd}{fd:Vq}
noncomputable def top (i:Nat):K1:=PySem.Challenge.pw_sheetfold_k44_whole_trees_of_what_is_hun.main.body.getD i (.Pass ⟨0,0,0,0⟩)
abbrev Tq11:K1:=top 2
noncomputable abbrev QR:List Str:=["n", "pairs", "table", "pair", "i", "j"]
theorem qy:ScOk QR ["n", "pairs"] ["range"] (qu Tq11):=scmk (by kernel_rfl)
abbrev JZ:Rho->Option Out:=(seqO (sIf (tV (ev2 (vr 4) (kd (.int 0)) geD)) (Yt 2 (vr 4) (vr 4) (kd (.int 1)) (fun i j=>i+j)) sN) (sIf (tA (tV (ev2 (vr 4) (kd (.int 0)) geD)) (tV (ev2 (vr 5) (kd (.int 0)) geD))) (Yt 2 (vr 4) (vr 5) (kd (.int 1)) (fun i j=>i-j)) sN))
abbrev QS:Rho->Option Out:=(sFor (evI (evA (aC (evA (aC (ev2 (ev2 (vr 3) (kd (.int 0)) ixD) (kd (.int 1)) subD) (aC (ev2 (ev2 (vr 3) (kd (.int 1)) ixD) (kd (.int 1)) subD) aN)) tupD) (aC (evA (aC (ev2 (ev2 (vr 3) (kd (.int 1)) ixD) (kd (.int 1)) subD) (aC (ev2 (ev2 (vr 3) (kd (.int 0)) ixD) (kd (.int 1)) subD) aN)) tupD) aN)) tupD) seqD) (unpD 2 (gsC (gNm 4) (gsC (gNm 5) gsN))) JZ)
def Zy:Rho->Option Out:=(seqO (j5 2 (wZ 6 1 (evR (aC (ev2 (vr 0) (kd (.int 1)) subD) aN) zj) (gNm 6) tT (ev2 (evA (aC (kd (.int 0)) aN) lstD) (ev2 (vr 0) (kd (.int 1)) subD) repD))) (seqO (sFor (evI (vr 1) seqD) (gNm 3) QS) (sRet (vr 2))))
def Qq (ds:aj):Option Ka:=ob (Zy (rho0 QR.length ds)) outD
theorem YM (F:Fun K "table_of" "table_of" Tq11 f fd)(m:mg "table_of" = some (.ref f))(b:Binds K fd ["n", "pairs"] [])(z_range:mg "range" = none):Known P w K mg base "table_of" 2 1 Qq:=by
 refine ⟨f,fd,["n", "pairs"],F.pure (k:=0) (u:=Zy) (M':=[]) qy.fs rfl (fun cdv A outer s H E hr G=>?_),m,F.kp,b⟩
 exact qm (M1:=[2,1002]) (W4 2 (CompOk.of (k:=1) QR ["n", "pairs", "table", "pair", "i", "j", "k"] (qu Tq11) rfl rfl rfl (by decide +kernel)) (jJ (by decide)) (qu Tq11) rfl (by decide +kernel) (by decide) (by decide) (Qt (qy.gl 0 rfl rfl) z_range (pda1 (qx ZJ (pd_v qy 0) qi))) (fun _ _ _ _ _ _=>yu (i:=6) (CompOk.of (k:=1) QR ["n", "pairs", "table", "pair", "i", "j", "k"] (qu Tq11) rfl rfl rfl (by decide +kernel)) rfl (by decide +kernel) _ _ _ _ _ _) (fun _ _ _ _ _ _=>Qc) (fun _ _ _ _ _ _=>qdY (yt (pda1 qi)) (qx ZJ (qQ 0 (qI (by decide +kernel)) (by decide)) qi))) (qm (M1:=[2,1002]) (yq VO rfl (ZZ (pd_v qy 1)) (fun _=>QH qy 3) (fun _=>qC (yq VO rfl (ZZ (zZ (pda2 (zZ (pda2 (qx ZJ (zf (pd_v qy 3) qi) qi) (qx ZJ (zf (pd_v qy 3) qi) qi))) (zZ (pda2 (qx ZJ (zf (pd_v qy 3) qi) qi) (qx ZJ (zf (pd_v qy 3) qi) qi)))))) (fun _=>yp rfl (zJ (QH qy 4) (zJ (QH qy 5) jU))) (fun _=>qm (M1:=[2,1002]) (Qf (zb d_ge (pd_v qy 4) qi (zp _)) (qC (Yj 2 qdl (qy.vis 2 rfl) (by decide) (pd_v qy 4) (pd_v qy 4) qi)) zF) (qC (Qf (PDW.pdt (Wi (zb d_ge (pd_v qy 4) qi (zp _)) (Yk (zb d_ge (pd_v qy 5) qi (zp _))))) (qC (Yj 2 qdm (qy.vis 2 rfl) (by decide) (pd_v qy 4) (pd_v qy 5) qi)) zF)))))) (qC (qP (pd_v qy 2))))
abbrev Tq4:K1:=top 3
noncomputable abbrev QQ:List Str:=["table", "ahead", "corner"]
theorem qD:ScOk QQ ["table"] [] (qu Tq4):=scmk (by kernel_rfl)
abbrev qK:Rho->Option Out:=(seqO (sSet 2 (ev2 (ev2 (vr 0) (kd (.int 0)) ixD) (kd (.int 0)) ixD)) (seqO (sIf (tV (ev2 (vr 2) (kd (.int 0)) eqD)) (sRet (kd (.int 0))) sN) (seqO (sSet 0 (Qo 3 (evI (evS (vr 0) (oS (kd (.int 1))) oN) seqD) tT (Qo 4 (evR (aC (kd (.int 1)) (aC (evA (aC (vr 3) aN) lenD) aN)) Zr) tT (ev2 (ev2 (ev2 (ev2 (vr 3) (vr 4) ixD) (vr 2) mulD) (ev2 (ev2 (vr 3) (kd (.int 0)) ixD) (ev2 (ev2 (vr 0) (kd (.int 0)) ixD) (vr 4) ixD) mulD) subD) (vr 1) jF)))) (sSet 1 (vr 2)))))
def Q4:Rho->Option Out:=(seqO (sSet 1 (kd (.int 1))) (seqO (j6 (tW (vr 0)) qK) (sRet (vr 1))))
def zP (ds:aj):Option Ka:=ob (Q4 (rho0 QQ.length ds)) outD
theorem yj (F:Fun K "measure_of" "measure_of" Tq4 f fd)(m:mg "measure_of" = some (.ref f))(b:Binds K fd ["table"] [])(z_range:mg "range" = none)(z_len:mg "len" = none):Known P w K mg base "measure_of" 1 1 zP:=by
 refine ⟨f,fd,["table"],F.pure (k:=0) (u:=Q4) (M':=[]) qD.fs rfl (fun cdv A outer s H E hr G=>?_),m,F.kp,b⟩
 refine qm (M1:=[]) ?_ ?_
 refine qF 1 ?_ ?_ ?_ ?_ ?_ ?_ qi
 ·exact qD.fs.nd
 ·exact (qD.loc 1 rfl)
 ·rfl
 ·rfl
 ·exact .inl rfl
 ·decide
 refine qm (M1:=[]) ?_ (qC (qP (pd_v qD 1)))
 refine JG VO (qcr (pd_v qD 0)) ?_
 refine qm (M1:=[]) ?_ ?_
 refine qF 2 ?_ ?_ ?_ ?_ ?_ ?_ (zf (zf (pd_v qD 0) qi) qi)
 ·exact qD.fs.nd
 ·exact (qD.loc 2 rfl)
 ·rfl
 ·rfl
 ·exact .inl rfl
 ·decide
 refine qm (M1:=[]) (Qf (zb (d_eq hr) (pd_v qD 2) qi (zp _)) (qC (qP qi)) zF) ?_
 refine qm (M1:=[]) ?_ ?_
 refine qF 0 ?_ ?_ ?_ ?_ ?_ ?_ (jr (CompOk.of (k:=1) QQ ["table", "ahead", "corner", "row"] (qu Tq4) rfl rfl rfl (by decide +kernel)) rfl (by decide +kernel) (ZZ (Yi (pd_v qD 0) (jV qi) qa5)) (fun _ _ _ _ _ _=>Qc) (fun _ _ _ _ _ _=>jr (CompOk.of (k:=1) ["table", "ahead", "corner", "row"] ["table", "ahead", "corner", "row", "j"] _ rfl rfl rfl (by kernel_rfl)) rfl (by decide +kernel) (Y4 (ZP (by decide +kernel)) z_range (pda2 qi (zU ZF (ZP (by decide +kernel)) z_len VI (pda1 (qQ 3 (qI (by decide +kernel)) (by decide)))))) (fun _ _ _ _ _ _=>Qc) (fun _ _ _ _ _ _=>qx qbX (qx ZJ (qx ji (zf (qQ 3 (qI (by decide +kernel)) (by decide)) (qQ 4 (qI (by decide +kernel)) (by decide))) (qQ 2 (qI (by decide +kernel)) (by decide))) (qx ji (zf (qQ 3 (qI (by decide +kernel)) (by decide)) qi) (zf (zf (qQ 0 (qI (by decide +kernel)) (by decide)) qi) (qQ 4 (qI (by decide +kernel)) (by decide))))) (qQ 1 (qI (by decide +kernel)) (by decide)))))
 ·exact qD.fs.nd
 ·exact (qD.loc 0 rfl)
 ·rfl
 ·rfl
 ·exact .inl rfl
 ·decide
 refine qC ?_
 refine qF 1 ?_ ?_ ?_ ?_ ?_ ?_ (pd_v qD 2)
 ·exact qD.fs.nd
 ·exact (qD.loc 1 rfl)
 ·rfl
 ·rfl
 ·exact .inl rfl
 ·decide
abbrev Tq0:K1:=top 5
noncomputable abbrev Q8:List Str:=["_law_script", "_law_k"]
theorem qY:ScOk Q8 ["_law_script", "_law_k"] ["len"] (qu Tq0):=scmk (by kernel_rfl)
def Qv:Rho->Option Out:=(seqO (sIf (tV (ev2 (vr 1) (evA (aC (vr 0) aN) lenD) ltD2)) (sRet (ev2 (vr 0) (vr 1) ixD)) sN) (sRet (kd (.int 0))))
def qH (ds:aj):Option Ka:=ob (Qv (rho0 Q8.length ds)) outD
theorem jN (F:Fun K "_law_cell_at" "_law_cell_at" Tq0 f fd)(m:mg "_law_cell_at" = some (.ref f))(b:Binds K fd ["_law_script", "_law_k"] [])(z_len:mg "len" = none):Known P w K mg base "_law_cell_at" 2 1 qH:=by
 refine ⟨f,fd,["_law_script", "_law_k"],F.pure (k:=0) (u:=Qv) (M':=[]) qY.fs rfl (fun cdv A outer s H E hr G=>?_),m,F.kp,b⟩
 exact qm (M1:=[]) (Qf (zb (qcR hr) (pd_v qY 1) (zU ZF (qY.gl 0 rfl rfl) z_len VI (pda1 (pd_v qY 0))) (zp _)) (qC (qP (zf (pd_v qY 0) (pd_v qY 1)))) zF) (qC (qP qi))
abbrev Tq5:K1:=top 6
abbrev ZD:List Str:=["_law_found"]
theorem za:ScOk ZD ["_law_found"] ["isinstance", "int", "bool"] (qu Tq5):=scmk (by kernel_rfl)
def Q3:Rho->Option Out:=(sRet (vA (ev1 (vr 0) (isiD "int")) (vN (ev1 (vr 0) (isiD "bool")))))
def zO (ds:aj):Option Ka:=ob (Q3 (rho0 ZD.length ds)) outD
theorem yh (F:Fun K "_law_whole" "_law_whole" Tq5 f fd)(m:mg "_law_whole" = some (.ref f))(b:Binds K fd ["_law_found"] [])(z_isinstance:mg "isinstance" = none)(z_int:mg "int" = none)(z_bool:mg "bool" = none):Known P w K mg base "_law_whole" 1 1 zO:=by
 refine ⟨f,fd,["_law_found"],F.pure (k:=0) (u:=Q3) (M':=[]) za.fs rfl (fun cdv A outer s H E hr G=>?_),m,F.kp,b⟩
 exact qC (qP (qdQ (qa2 (T := "int") (qb8 _) (za.gl 0 rfl rfl) z_isinstance (za.gl 1 rfl rfl) z_int rfl rfl (pd_v za 0)) (qa3 (qdR (qa2 (T := "bool") (qaM _) (za.gl 0 rfl rfl) z_isinstance (za.gl 2 rfl rfl) z_bool rfl rfl (pd_v za 0))))))
abbrev Tq6:K1:=top 7
noncomputable abbrev ZC:List Str:=["_law_cell", "_law_k"]
theorem zK:ScOk ZC ["_law_cell", "_law_k"] [] (qu Tq6):=scmk (by kernel_rfl)
def Q0:Rho->Option Out:=(sRet (ev2 (ev2 (ev2 (ev2 (ev2 (ev2 (ev2 (vr 0) (kd (.int 1000000007)) modD) (ev2 (vr 1) (kd (.int 3)) qZ) mulD) (kd (.int 48271)) mulD) (ev2 (ev2 (ev2 (vr 1) (kd (.int 1)) qZ) (ev2 (vr 1) (kd (.int 5)) qZ) mulD) (kd (.int 69621)) mulD) qZ) (kd (.int 2147483647)) modD) (kd (.int 40692)) mulD) (kd (.int 2147483399)) modD))
def qz (ds:aj):Option Ka:=ob (Q0 (rho0 ZC.length ds)) outD
theorem yg (F:Fun K "_law_mixed" "_law_mixed" Tq6 f fd)(m:mg "_law_mixed" = some (.ref f))(b:Binds K fd ["_law_cell", "_law_k"] []):Known P w K mg base "_law_mixed" 2 1 qz:=by
 refine ⟨f,fd,["_law_cell", "_law_k"],F.pure (k:=0) (u:=Q0) (M':=[]) zK.fs rfl (fun cdv A outer s H E hr G=>?_),m,F.kp,b⟩
 exact qC (qP (qx QG (qx ji (qx QG (qx q8 (qx ji (qx ji (qx QG (pd_v zK 0) qi) (qx q8 (pd_v zK 1) qi)) qi) (qx ji (qx ji (qx q8 (pd_v zK 1) qi) (qx q8 (pd_v zK 1) qi)) qi)) qi) qi) qi))
abbrev Tq7:K1:=top 8
noncomputable abbrev Qi:List Str:=["_law_kind", "_law_cell", "_law_n", "_law_at", "_law_times", "_law_many", "_law_round_trip", "_law_pairs", "_law_things", "_law_i", "_law_j"]
theorem qb:ScOk Qi ["_law_kind", "_law_cell", "_law_n"] ["range", "list"] (qu Tq7):=scmk (by kernel_rfl)
abbrev Za:Rho->Option Out:=(sApp 7 (evA (aC (ev2 (vr 8) (vr 9) ixD) (aC (ev2 (vr 8) (vr 10) ixD) aN)) tupD))
abbrev Ql:Rho->Option Out:=(sFor (evR (aC (vr 9) aN) zj) (gNm 10) Za)
def zW:Rho->Option Out:=(seqO (sSet 3 (ev2 (vr 1) (vr 2) modD)) (seqO (sIf (tV (ev2 (vr 0) (kd (.int 2)) ltD2)) (seqO (sSet 4 (ev2 (kd (.int 1)) (ev2 (ev2 (vr 1) (kd (.int 26)) Zf) (kd (.int 4)) modD) qZ)) (sRet (evA (aC (kd (.int 1)) (aC (Qo 11 (evR (aC (vr 4) aN) zj) tT (evA (aC (vr 3) (aC (vr 2) aN)) tupD)) (aC (vr 4) aN))) tupD))) sN) (seqO (sIf (tV (ev2 (vr 0) (kd (.int 2)) eqD)) (seqO (sSet 5 (ev2 (kd (.int 2)) (ev2 (ev2 (vr 1) (kd (.int 26)) Zf) (kd (.int 4)) modD) qZ)) (seqO (sSet 6 (ev2 (evA (aC (vr 3) aN) lstD) (evA (aC (vr 2) (aC (ev2 (vr 2) (vr 5) qZ) aN)) lr2D) qZ)) (seqO (Qz 7 (Qo 11 (evR (aC (ev2 (vr 5) (kd (.int 1)) qZ) aN) zj) tT (evA (aC (ev2 (vr 6) (vr 11) ixD) (aC (ev2 (vr 6) (ev2 (vr 11) (kd (.int 1)) subD) ixD) aN)) tupD))) (sRet (evA (aC (vr 5) (aC (vr 7) (aC (ev2 (vr 5) (kd (.int 1)) qZ) aN))) tupD))))) sN) (seqO (sSet 5 (vr 0)) (seqO (sSet 8 (ev2 (evA (aC (vr 3) aN) lstD) (evA (aC (vr 2) (aC (ev2 (vr 2) (vr 5) qZ) aN)) lr2D) qZ)) (seqO (Qz 7 (evA aN lstD)) (seqO (sFor (evR (aC (ev2 (vr 5) (kd (.int 1)) qZ) aN) zj) (gNm 9) Ql) (sRet (evA (aC (vr 5) (aC (vr 7) (aC (ev2 (evA (aC (kd (.int 16)) (aC (kd (.int 125)) aN)) lstD) (ev2 (vr 5) (kd (.int 3)) subD) ixD) aN))) tupD)))))))))
def qL (ds:aj):Option Ka:=ob (zW (rho0 Qi.length ds)) outD
theorem yc (F:Fun K "_law_block" "_law_block" Tq7 f fd)(m:mg "_law_block" = some (.ref f))(b:Binds K fd ["_law_kind", "_law_cell", "_law_n"] [])(z_range:mg "range" = none)(z_list:mg "list" = none):Known P w K mg base "_law_block" 3 1 qL:=by
 refine ⟨f,fd,["_law_kind", "_law_cell", "_law_n"],F.pure (k:=0) (u:=zW) (M':=[]) qb.fs rfl (fun cdv A outer s H E hr G=>?_),m,F.kp,b⟩
 refine qm (M1:=[]) ?_ ?_
 refine qF 3 ?_ ?_ ?_ ?_ ?_ ?_ (qx QG (pd_v qb 1) (pd_v qb 2))
 ·exact qb.fs.nd
 ·exact (qb.loc 3 rfl)
 ·rfl
 ·rfl
 ·exact .inl rfl
 ·decide
 refine qm (M1:=[]) ?_ ?_
 refine Qf (zb (qcR hr) (pd_v qb 0) qi (zp _)) ?_ zF
 refine qm (M1:=[]) ?_ (qC (qP (zZ (pda3 qi (jr (CompOk.of (k:=1) Qi ["_law_kind", "_law_cell", "_law_n", "_law_at", "_law_times", "_law_many", "_law_round_trip", "_law_pairs", "_law_things", "_law_i", "_law_j", "_law_k"] (qu Tq7) rfl rfl rfl (by decide +kernel)) rfl (by decide +kernel) (Qt (qb.gl 0 rfl rfl) z_range (pda1 (pd_v qb 4))) (fun _ _ _ _ _ _=>Qc) (fun _ _ _ _ _ _=>zZ (pda2 (qQ 3 (qI (by decide +kernel)) (by decide)) (qQ 2 (qI (by decide +kernel)) (by decide))))) (pd_v qb 4)))))
 refine qF 4 ?_ ?_ ?_ ?_ ?_ ?_ (qx q8 qi (qx QG (qx Zc (pd_v qb 1) qi) qi))
 ·exact qb.fs.nd
 ·exact (qb.loc 4 rfl)
 ·rfl
 ·rfl
 ·exact .inl rfl
 ·decide
 refine qm (M1:=[]) ?_ ?_
 refine Qf (zb (d_eq hr) (pd_v qb 0) qi (zp _)) ?_ zF
 refine qm (M1:=[]) ?_ ?_
 refine qF 5 ?_ ?_ ?_ ?_ ?_ ?_ (qx q8 qi (qx QG (qx Zc (pd_v qb 1) qi) qi))
 ·exact qb.fs.nd
 ·exact (qb.loc 5 rfl)
 ·rfl
 ·rfl
 ·exact .inl rfl
 ·decide
 refine qm (M1:=[]) ?_ (qm (M1:=[7]) (jW 7 (CompOk.of (k:=1) Qi ["_law_kind", "_law_cell", "_law_n", "_law_at", "_law_times", "_law_many", "_law_round_trip", "_law_pairs", "_law_things", "_law_i", "_law_j", "_law_k"] (qu Tq7) rfl rfl rfl (by decide +kernel)) rfl (by decide +kernel) (qu Tq7) rfl (by decide +kernel) (by decide) (by decide) (Qt (qb.gl 0 rfl rfl) z_range (pda1 (qx q8 (pd_v qb 5) qi))) (fun _ _ _ _ _ _=>Qc) (fun _ _ _ _ _ _=>zZ (pda2 (zf (qQ 6 (qI (by decide +kernel)) (by decide)) (qQ 11 (qI (by decide +kernel)) (by decide))) (zf (qQ 6 (qI (by decide +kernel)) (by decide)) (qx ZJ (qQ 11 (qI (by decide +kernel)) (by decide)) qi))))) (qC (qP (zZ (pda3 (pd_v qb 5) (pd_v qb 7) (qx q8 (pd_v qb 5) qi))))))
 refine qF 6 ?_ ?_ ?_ ?_ ?_ ?_ (qx q8 (jT (pda1 (pd_v qb 3))) (ZX (JK hr (qb.gl 1 rfl rfl) z_list (qb.gl 0 rfl rfl) z_range (pda2 (pd_v qb 2) (qx q8 (pd_v qb 2) (pd_v qb 5))))))
 ·exact qb.fs.nd
 ·exact (qb.loc 6 rfl)
 ·rfl
 ·rfl
 ·exact .inl rfl
 ·decide
 refine qm (M1:=[]) ?_ ?_
 refine qF 5 ?_ ?_ ?_ ?_ ?_ ?_ (pd_v qb 0)
 ·exact qb.fs.nd
 ·exact (qb.loc 5 rfl)
 ·rfl
 ·rfl
 ·exact .inl rfl
 ·decide
 refine qm (M1:=[]) ?_ ?_
 refine qF 8 ?_ ?_ ?_ ?_ ?_ ?_ (qx q8 (jT (pda1 (pd_v qb 3))) (ZX (JK hr (qb.gl 1 rfl rfl) z_list (qb.gl 0 rfl rfl) z_range (pda2 (pd_v qb 2) (qx q8 (pd_v qb 2) (pd_v qb 5))))))
 ·exact qb.fs.nd
 ·exact (qb.loc 8 rfl)
 ·rfl
 ·rfl
 ·exact .inl rfl
 ·decide
 refine qm (M1:=[7]) ?_ (qm (M1:=[7]) (jX VO rfl (Zw (qb.gl 0 rfl rfl) z_range (pda1 (qx q8 (pd_v qb 5) qi))) (QH qb 9) (qC (jX VO rfl (Zw (qb.gl 0 rfl rfl) z_range (pda1 (pd_v qb 9))) (QH qb 10) (qC (Wg 7 (qb.vis 7 rfl) (by decide) (by decide) (zZ (pda2 (zf (pd_v qb 8) (pd_v qb 9)) (zf (pd_v qb 8) (pd_v qb 10))))))))) (qC (qP (zZ (pda3 (pd_v qb 5) (pd_v qb 7) (zf (jT (pda2 qi qi)) (qx ZJ (pd_v qb 5) qi)))))))
 refine Z0 7 ?_ ?_ ?_ ?_ ?_ ?_ ?_ (yt QW)
 ·exact qb.fs.nd
 ·exact (qb.loc 7 rfl)
 ·rfl
 ·rfl
 ·exact .inl rfl
 ·decide
 ·decide
abbrev Tq8:K1:=top 9
noncomputable abbrev Zz:List Str:=["_law_cells_here", "_law_n", "_law_pairs", "_law_count", "_law_cell", "_law_many", "_law_more", "_law_times"]
theorem qg:ScOk Zz ["_law_cells_here"] ["_law_block", "len"] (qu Tq8):=scmk (by kernel_rfl)
abbrev Zb:Rho->Option Out:=(seqO (sAsg (evC 3 (aC (ev2 (vr 4) (kd (.int 5)) modD) (aC (ev2 (vr 4) (kd (.int 5)) Zf) (aC (vr 1) aN))) qL) (unpD 3 (gsC (gNm 5) (gsC (gNm 6) (gsC (gNm 7) gsN))))) (sIf (tA (tV (ev2 (ev2 (vr 1) (vr 5) qZ) (kd (.int 26)) leD)) (tV (ev2 (ev2 (evA (aC (vr 2) aN) lenD) (evA (aC (vr 6) aN) lenD) qZ) (kd (.int 60)) leD))) (seqO (sSet 1 (ev2 (vr 1) (vr 5) qZ)) (seqO (sSet 2 (ev2 (vr 2) (vr 6) qZ)) (sSet 3 (ev2 (vr 3) (vr 7) mulD)))) sN))
def QZ:Rho->Option Out:=(seqO (sSet 1 (kd (.int 1))) (seqO (sSet 2 (evA aN lstD)) (seqO (sSet 3 (kd (.int 1))) (seqO (sFor (evI (vr 0) seqD) (gNm 4) Zb) (sRet (evA (aC (vr 1) (aC (vr 2) (aC (vr 3) aN))) tupD))))))
def zN (ds:aj):Option Ka:=ob (QZ (rho0 Zz.length ds)) outD
theorem ye (F:Fun K "_law_built" "_law_built" Tq8 f fd)(m:mg "_law_built" = some (.ref f))(b:Binds K fd ["_law_cells_here"] [])(K__law_block:Known P w K mg base "_law_block" 3 1 qL)(z_len:mg "len" = none):Known P w K mg base "_law_built" 1 2 zN:=by
 refine ⟨f,fd,["_law_cells_here"],F.pure (k:=1) (u:=QZ) (M':=[]) qg.fs rfl (fun cdv A outer s H E hr G=>?_),m,F.kp,b⟩
 refine qm (M1:=[]) ?_ ?_
 refine qF 1 ?_ ?_ ?_ ?_ ?_ ?_ qi
 ·exact qg.fs.nd
 ·exact (qg.loc 1 rfl)
 ·rfl
 ·rfl
 ·exact .inl rfl
 ·decide
 refine qm (M1:=[]) ?_ ?_
 refine qF 2 ?_ ?_ ?_ ?_ ?_ ?_ (jT QW)
 ·exact qg.fs.nd
 ·exact (qg.loc 2 rfl)
 ·rfl
 ·rfl
 ·exact .inl rfl
 ·decide
 refine qm (M1:=[]) ?_ ?_
 refine qF 3 ?_ ?_ ?_ ?_ ?_ ?_ qi
 ·exact qg.fs.nd
 ·exact (qg.loc 3 rfl)
 ·rfl
 ·rfl
 ·exact .inl rfl
 ·decide
 refine qm (M1:=[]) ?_ (qC (qP (zZ (pda3 (pd_v qg 1) (pd_v qg 2) (pd_v qg 3)))))
 refine yq VO rfl (ZZ (pd_v qg 0)) (fun _=>QH qg 4) (fun _=>?_)
 refine qm (M1:=[]) (Wh (qJ K__law_block hr (by decide) (qg.gl 0 rfl rfl) (pda3 (qx QG (pd_v qg 4) qi) (qx Zc (pd_v qg 4) qi) (pd_v qg 1)) rfl) (yp rfl (zJ (QH qg 5) (zJ (QH qg 6) (zJ (QH qg 7) jU))))) ?_
 refine qC ?_
 refine Qf (PDW.pdt (Wi (zb d_le (qx q8 (pd_v qg 1) (pd_v qg 5)) qi (zp _)) (Yk (zb d_le (qx q8 (zU ZF (qg.gl 1 rfl rfl) z_len VI (pda1 (pd_v qg 2))) (zU ZF (qg.gl 1 rfl rfl) z_len VI (pda1 (pd_v qg 6)))) qi (zp _))))) ?_ zF
 refine qm (M1:=[]) ?_ ?_
 refine qF 1 ?_ ?_ ?_ ?_ ?_ ?_ (qx q8 (pd_v qg 1) (pd_v qg 5))
 ·exact qg.fs.nd
 ·exact (qg.loc 1 rfl)
 ·rfl
 ·rfl
 ·exact .inl rfl
 ·decide
 refine qm (M1:=[]) ?_ ?_
 refine qF 2 ?_ ?_ ?_ ?_ ?_ ?_ (qx q8 (pd_v qg 2) (pd_v qg 6))
 ·exact qg.fs.nd
 ·exact (qg.loc 2 rfl)
 ·rfl
 ·rfl
 ·exact .inl rfl
 ·decide
 refine qC ?_
 refine qF 3 ?_ ?_ ?_ ?_ ?_ ?_ (qx ji (pd_v qg 3) (pd_v qg 7))
 ·exact qg.fs.nd
 ·exact (qg.loc 3 rfl)
 ·rfl
 ·rfl
 ·exact .inl rfl
 ·decide
abbrev Tq1:K1:=top 10
noncomputable abbrev z8:List Str:=["_law_things", "_law_cell", "_law_rest", "_law_left", "_law_found", "_law_ranks"]
theorem ql:ScOk z8 ["_law_things", "_law_cell"] ["list", "len", "range", "sorted"] (qu Tq1):=scmk (by kernel_rfl)
abbrev qT:Rho->Option Out:=(seqO (jt 4 3 (ev2 (vr 2) (evA (aC (vr 3) aN) lenD) modD)) (sSet 2 (Wa (ev2 (vr 2) (ev2 (evA (aC (vr 3) aN) lenD) (kd (.int 1)) qZ) Zf))))
def z9:Rho->Option Out:=(seqO (sIf (tV (ev2 (ev2 (vr 1) (kd (.int 2)) modD) (kd (.int 1)) eqD)) (seqO (sSet 2 (ev2 (vr 1) (kd (.int 2)) Zf)) (seqO (Qz 3 (evA (aC (vr 0) aN) jk)) (seqO (Qz 4 (evA aN lstD)) (seqO (j6 (tV (ev2 (evA (aC (vr 3) aN) lenD) (kd (.int 0)) gtD)) qT) (sRet (vr 4)))))) sN) (seqO (Qz 5 (Qo 6 (evR (aC (evA (aC (vr 0) aN) lenD) aN) zj) tT (evA (aC (evC 2 (aC (vr 1) (aC (vr 6) aN)) qz) (aC (vr 6) aN)) tupD))) (sRet (Qo 6 (evI (evA (aC (vr 5) aN) Zk) seqD) tT (ev2 (vr 0) (ev2 (vr 6) (kd (.int 1)) ixD) ixD)))))
def qX (ds:aj):Option Ka:=ob (z9 (rho0 z8.length ds)) outD
theorem Jf (F:Fun K "_law_strewn" "_law_strewn" Tq1 f fd)(m:mg "_law_strewn" = some (.ref f))(b:Binds K fd ["_law_things", "_law_cell"] [])(K__law_mixed:Known P w K mg base "_law_mixed" 2 1 qz)(z_list:mg "list" = none)(z_len:mg "len" = none)(z_range:mg "range" = none)(z_sorted:mg "sorted" = none):Known P w K mg base "_law_strewn" 2 2 qX:=by
 refine ⟨f,fd,["_law_things", "_law_cell"],F.pure (k:=1) (u:=z9) (M':=[]) ql.fs rfl (fun cdv A outer s H E hr G=>?_),m,F.kp,b⟩
 refine qm (M1:=[]) ?_ (qm (M1:=[5]) (jW 5 (CompOk.of (k:=1) z8 ["_law_things", "_law_cell", "_law_rest", "_law_left", "_law_found", "_law_ranks", "_law_k"] (qu Tq1) rfl rfl rfl (by decide +kernel)) rfl (by decide +kernel) (qu Tq1) rfl (by decide +kernel) (by decide) (by decide) (Qt (ql.gl 2 rfl rfl) z_range (pda1 (zU ZF (ql.gl 1 rfl rfl) z_len VI (pda1 (pd_v ql 0))))) (fun _ _ _ _ _ _=>Qc) (fun _ _ _ _ _ _=>zZ (pda2 (qJ K__law_mixed hr (by decide) (ZP (by decide +kernel)) (pda2 (qQ 1 (qI (by decide +kernel)) (by decide)) (qQ 6 (qI (by decide +kernel)) (by decide))) rfl) (qQ 6 (qI (by decide +kernel)) (by decide))))) (qC (qP (jr (CompOk.of (k:=1) z8 ["_law_things", "_law_cell", "_law_rest", "_law_left", "_law_found", "_law_ranks", "_law_rank"] (qu Tq1) rfl rfl rfl (by decide +kernel)) rfl (by decide +kernel) (ZZ (ZX (qbd (qaX hr) (ql.gl 3 rfl rfl) z_sorted J0 (pda1 (pd_v ql 5))))) (fun _ _ _ _ _ _=>Qc) (fun _ _ _ _ _ _=>zf (qQ 0 (qI (by decide +kernel)) (by decide)) (zf (qQ 6 (qI (by decide +kernel)) (by decide)) qi))))))
 refine Qf (zb (d_eq hr) (qx QG (pd_v ql 1) qi) qi (zp _)) ?_ zF
 refine qm (M1:=[]) ?_ ?_
 refine qF 2 ?_ ?_ ?_ ?_ ?_ ?_ (qx Zc (pd_v ql 1) qi)
 ·exact ql.fs.nd
 ·exact (ql.loc 2 rfl)
 ·rfl
 ·rfl
 ·exact .inl rfl
 ·decide
 refine qm (M1:=[3]) ?_ ?_
 refine Z0 3 ?_ ?_ ?_ ?_ ?_ ?_ ?_ (W5 qdF (ql.gl 0 rfl rfl) z_list rfl (pda1 (pd_v ql 0)))
 ·exact ql.fs.nd
 ·exact (ql.loc 3 rfl)
 ·rfl
 ·rfl
 ·exact .inl rfl
 ·decide
 ·decide
 refine qm (M1:=[4,3]) ?_ ?_
 refine Z0 4 ?_ ?_ ?_ ?_ ?_ ?_ ?_ (yt QW)
 ·exact ql.fs.nd
 ·exact (ql.loc 4 rfl)
 ·rfl
 ·rfl
 ·exact .inl rfl
 ·decide
 ·decide
 refine qm (M1:=[4,3]) ?_ (qC (qP (pd_v ql 4)))
 refine JG VO (zb d_gt (zU ZF (ql.gl 1 rfl rfl) z_len VI (pda1 (pd_v ql 3))) qi (zp _)) ?_
 refine qm (M1:=[4,3]) (Y5 4 3 (ql.vis 4 rfl) (by decide) (by decide) (ql.vis 3 rfl) (by decide) (by decide) (by decide) (qx QG (pd_v ql 2) (zU ZF (ql.gl 1 rfl rfl) z_len VI (pda1 (pd_v ql 3))))) ?_
 refine qC ?_
 refine qa7 2 ?_ ?_ ?_ ?_ ?_ ?_ (qx Zc (pd_v ql 2) (qx q8 (zU ZF (ql.gl 1 rfl rfl) z_len VI (pda1 (pd_v ql 3))) qi))
 ·exact ql.fs.nd
 ·exact (ql.loc 2 rfl)
 ·rfl
 ·rfl
 ·exact .inl rfl
 ·decide
abbrev Tq9:K1:=top 11
noncomputable abbrev QM:List Str:=["_law_script", "_law_cells_here"]
theorem qU:ScOk QM ["_law_script"] ["_law_cell_at", "range"] (qu Tq9):=scmk (by kernel_rfl)
def Qj:Rho->Option Out:=(seqO (sSet 1 (evS (vr 0) (oS (kd (.int 2))) (oS (kd (.int 62))))) (seqO (sIf (tV (ev2 (ev2 (evC 2 (aC (vr 0) (aC (kd (.int 2)) aN)) qH) (kd (.int 2)) modD) (kd (.int 0)) eqD)) (Qz 1 (Qo 2 (evR (aC (kd (.int 60)) aN) zj) tT (evC 2 (aC (evC 2 (aC (vr 0) (aC (ev2 (kd (.int 2)) (vr 2) qZ) aN)) qH) (aC (vr 2) aN)) qz))) sN) (sRet (vr 1))))
def zr (ds:aj):Option Ka:=ob (Qj (rho0 QM.length ds)) outD
theorem yf (F:Fun K "_law_cells" "_law_cells" Tq9 f fd)(m:mg "_law_cells" = some (.ref f))(b:Binds K fd ["_law_script"] [])(K__law_cell_at:Known P w K mg base "_law_cell_at" 2 1 qH)(K__law_mixed:Known P w K mg base "_law_mixed" 2 1 qz)(z_range:mg "range" = none):Known P w K mg base "_law_cells" 1 2 zr:=by
 refine ⟨f,fd,["_law_script"],F.pure (k:=1) (u:=Qj) (M':=[]) qU.fs rfl (fun cdv A outer s H E hr G=>?_),m,F.kp,b⟩
 refine qm (M1:=[]) ?_ ?_
 refine qF 1 ?_ ?_ ?_ ?_ ?_ ?_ (Yi (pd_v qU 0) (jV qi) (jV qi))
 ·exact qU.fs.nd
 ·exact (qU.loc 1 rfl)
 ·rfl
 ·rfl
 ·exact .inl rfl
 ·decide
 refine qm (M1:=[]) ?_ (qC (qP (pd_v qU 1)))
 refine Qf (zb (d_eq hr) (qx QG (qJ K__law_cell_at hr (by decide) (qU.gl 0 rfl rfl) (pda2 (pd_v qU 0) qi) rfl) qi) qi (zp _)) ?_ zF
 refine qa6 (M':=[1]) [] (qC (jW 1 (CompOk.of (k:=1) QM ["_law_script", "_law_cells_here", "_law_k"] (qu Tq9) rfl rfl rfl (by decide +kernel)) rfl (by decide +kernel) (qu Tq9) rfl (by decide +kernel) (by decide) (by decide) (Qt (qU.gl 1 rfl rfl) z_range (pda1 qi)) (fun _ _ _ _ _ _=>Qc) (fun _ _ _ _ _ _=>qJ K__law_mixed hr (by decide) (ZP (by decide +kernel)) (pda2 (qJ K__law_cell_at hr (by decide) (ZP (by decide +kernel)) (pda2 (qQ 0 (qI (by decide +kernel)) (by decide)) (qx q8 qi (qQ 2 (qI (by decide +kernel)) (by decide)))) rfl) (qQ 2 (qI (by decide +kernel)) (by decide))) rfl))) ?_ ?_
 ·rfl
 ·rfl
abbrev Tq2:K1:=top 12
noncomputable abbrev Zm:List Str:=["_law_pairs", "_law_names", "_law_cell", "_law_called_here", "_law_rest", "_law_k", "_law_i", "_law_j", "_law_turned_about"]
theorem qe:ScOk Zm ["_law_pairs", "_law_names", "_law_cell"] ["_law_mixed", "len", "range"] (qu Tq2):=scmk (by kernel_rfl)
abbrev Q5:Rho->Option Out:=(seqO (sSet 6 (ev2 (vr 1) (ev2 (ev2 (vr 0) (vr 5) ixD) (kd (.int 0)) ixD) ixD)) (seqO (sSet 7 (ev2 (vr 1) (ev2 (ev2 (vr 0) (vr 5) ixD) (kd (.int 1)) ixD) ixD)) (seqO (sSet 8 (ev2 (ev2 (evC 2 (aC (vr 2) (aC (vr 5) aN)) qz) (kd (.int 8)) Zf) (kd (.int 2)) modD)) (seqO (sIf (tV (ev2 (ev2 (vr 2) (kd (.int 2)) modD) (kd (.int 1)) eqD)) (sSet 8 (ev2 (vr 4) (kd (.int 2)) modD)) sN) (seqO (sSet 4 (ev2 (vr 4) (kd (.int 2)) Zf)) (sApp 3 (ev2 (evA (aC (evA (aC (vr 6) (aC (vr 7) aN)) tupD) (aC (evA (aC (vr 7) (aC (vr 6) aN)) tupD) aN)) lstD) (vr 8) ixD)))))))
def QC:Rho->Option Out:=(seqO (Qz 3 (evA aN lstD)) (seqO (sSet 4 (ev2 (vr 2) (kd (.int 2)) Zf)) (seqO (sFor (evR (aC (evA (aC (vr 0) aN) lenD) aN) zj) (gNm 5) Q5) (sRet (vr 3)))))
def zB (ds:aj):Option Ka:=ob (QC (rho0 Zm.length ds)) outD
theorem Je (F:Fun K "_law_called" "_law_called" Tq2 f fd)(m:mg "_law_called" = some (.ref f))(b:Binds K fd ["_law_pairs", "_law_names", "_law_cell"] [])(K__law_mixed:Known P w K mg base "_law_mixed" 2 1 qz)(z_range:mg "range" = none)(z_len:mg "len" = none):Known P w K mg base "_law_called" 3 2 zB:=by
 refine ⟨f,fd,["_law_pairs", "_law_names", "_law_cell"],F.pure (k:=1) (u:=QC) (M':=[]) qe.fs rfl (fun cdv A outer s H E hr G=>?_),m,F.kp,b⟩
 refine qm (M1:=[3]) ?_ ?_
 refine Z0 3 ?_ ?_ ?_ ?_ ?_ ?_ ?_ (yt QW)
 ·exact qe.fs.nd
 ·exact (qe.loc 3 rfl)
 ·rfl
 ·rfl
 ·exact .inl rfl
 ·decide
 ·decide
 refine qm (M1:=[3]) ?_ ?_
 refine qF 4 ?_ ?_ ?_ ?_ ?_ ?_ (qx Zc (pd_v qe 2) qi)
 ·exact qe.fs.nd
 ·exact (qe.loc 4 rfl)
 ·rfl
 ·rfl
 ·exact .inl rfl
 ·decide
 refine qm (M1:=[3]) ?_ (qC (qP (pd_v qe 3)))
 refine jX VO rfl (Zw (qe.gl 2 rfl rfl) z_range (pda1 (zU ZF (qe.gl 1 rfl rfl) z_len VI (pda1 (pd_v qe 0))))) (QH qe 5) ?_
 refine qm (M1:=[3]) ?_ ?_
 refine qF 6 ?_ ?_ ?_ ?_ ?_ ?_ (zf (pd_v qe 1) (zf (zf (pd_v qe 0) (pd_v qe 5)) qi))
 ·exact qe.fs.nd
 ·exact (qe.loc 6 rfl)
 ·rfl
 ·rfl
 ·exact .inl rfl
 ·decide
 refine qm (M1:=[3]) ?_ ?_
 refine qF 7 ?_ ?_ ?_ ?_ ?_ ?_ (zf (pd_v qe 1) (zf (zf (pd_v qe 0) (pd_v qe 5)) qi))
 ·exact qe.fs.nd
 ·exact (qe.loc 7 rfl)
 ·rfl
 ·rfl
 ·exact .inl rfl
 ·decide
 refine qm (M1:=[3]) ?_ ?_
 refine qF 8 ?_ ?_ ?_ ?_ ?_ ?_ (qx QG (qx Zc (qJ K__law_mixed hr (by decide) (qe.gl 0 rfl rfl) (pda2 (pd_v qe 2) (pd_v qe 5)) rfl) qi) qi)
 ·exact qe.fs.nd
 ·exact (qe.loc 8 rfl)
 ·rfl
 ·rfl
 ·exact .inl rfl
 ·decide
 refine qm (M1:=[3]) ?_ ?_
 refine Qf (zb (d_eq hr) (qx QG (pd_v qe 2) qi) qi (zp _)) ?_ zF
 refine qC ?_
 refine qF 8 ?_ ?_ ?_ ?_ ?_ ?_ (qx QG (pd_v qe 4) qi)
 ·exact qe.fs.nd
 ·exact (qe.loc 8 rfl)
 ·rfl
 ·rfl
 ·exact .inl rfl
 ·decide
 refine qm (M1:=[3]) ?_ (qC (Wg 3 (qe.vis 3 rfl) (by decide) (by decide) (zf (jT (pda2 (zZ (pda2 (pd_v qe 6) (pd_v qe 7))) (zZ (pda2 (pd_v qe 7) (pd_v qe 6))))) (pd_v qe 8))))
 refine qF 4 ?_ ?_ ?_ ?_ ?_ ?_ (qx Zc (pd_v qe 4) qi)
 ·exact qe.fs.nd
 ·exact (qe.loc 4 rfl)
 ·rfl
 ·rfl
 ·exact .inl rfl
 ·decide
abbrev Tq3:K1:=top 1
abbrev Zn:List Str:=["n", "pairs"]
theorem zx:ScOk Zn ["n", "pairs"] ["table_of", "measure_of"] (qu Tq3):=scmk (by kernel_rfl)
def QD:Rho->Option Out:=(sRet (evC 1 (aC (evC 2 (aC (vr 0) (aC (vr 1) aN)) Qq) aN) zP))
def zE (ds:aj):Option Ka:=ob (QD (rho0 Zn.length ds)) outD
theorem Jg (F:Fun K "count_trees" "count_trees" Tq3 f fd)(m:mg "count_trees" = some (.ref f))(b:Binds K fd ["n", "pairs"] [])(K_measure_of:Known P w K mg base "measure_of" 1 1 zP)(K_table_of:Known P w K mg base "table_of" 2 1 Qq):Known P w K mg base "count_trees" 2 2 zE:=by
 refine ⟨f,fd,["n", "pairs"],F.pure (k:=1) (u:=QD) (M':=[]) zx.fs rfl (fun cdv A outer s H E hr G=>?_),m,F.kp,b⟩
 exact qC (qP (qJ K_measure_of hr (by decide) (zx.gl 1 rfl rfl) (pda1 (qJ K_table_of hr (by decide) (zx.gl 0 rfl rfl) (pda2 (pd_v zx 0) (pd_v zx 1)) rfl)) rfl))
abbrev Tq10:K1:=top 13
noncomputable abbrev jg:List Str:=["_law_n", "_law_pairs", "_law_mine", "_law_found"]
theorem qG:ScOk jg ["_law_n", "_law_pairs"] ["list", "count_trees", "_law_whole"] (qu Tq10):=scmk (by kernel_rfl)
def Zj:Rho->Option Out:=(seqO (sSet 2 (evA (aC (vr 1) aN) jk)) (seqO (sSet 3 (evC 2 (aC (vr 0) (aC (vr 2) aN)) zE)) (seqO (sIf (tO (tN (tV (evC 1 (aC (vr 3) aN) zO))) (tV (ev2 (vr 2) (vr 1) neD))) (sRet (ev1 (kd (.int 1)) negD)) sN) (sRet (vr 3)))))
def zm (ds:aj):Option Ka:=ob (Zj (rho0 jg.length ds)) outD
theorem Yb (F:Fun K "_law_told" "_law_told" Tq10 f fd)(m:mg "_law_told" = some (.ref f))(b:Binds K fd ["_law_n", "_law_pairs"] [])(K_count_trees:Known P w K mg base "count_trees" 2 2 zE)(K__law_whole:Known P w K mg base "_law_whole" 1 1 zO)(z_list:mg "list" = none):Known P w K mg base "_law_told" 2 3 zm:=by
 refine ⟨f,fd,["_law_n", "_law_pairs"],F.pure (k:=2) (u:=Zj) (M':=[]) qG.fs rfl (fun cdv A outer s H E hr G=>?_),m,F.kp,b⟩
 refine qm (M1:=[]) ?_ ?_
 refine qF 2 ?_ ?_ ?_ ?_ ?_ ?_ (W2 qc9 (qG.gl 0 rfl rfl) z_list rfl (pda1 (pd_v qG 1)))
 ·exact qG.fs.nd
 ·exact (qG.loc 2 rfl)
 ·rfl
 ·rfl
 ·exact .inl rfl
 ·decide
 refine qm (M1:=[]) ?_ (qm (M1:=[]) (Qf (PDW.pdt (qdS (qcq (qcs (qJ K__law_whole hr (by decide) (qG.gl 2 rfl rfl) (pda1 (pd_v qG 3)) rfl))) (qct (zb (d_ne hr) (pd_v qG 2) (pd_v qG 1) (zp _))))) (qC (qP (pd_un d_neg qi))) zF) (qC (qP (pd_v qG 3))))
 refine qF 3 ?_ ?_ ?_ ?_ ?_ ?_ (qJ K_count_trees hr (by decide) (qG.gl 1 rfl rfl) (pda2 (pd_v qG 0) (pd_v qG 2)) rfl)
 ·exact qG.fs.nd
 ·exact (qG.loc 3 rfl)
 ·rfl
 ·rfl
 ·exact .inl rfl
 ·decide
abbrev Tq12:K1:=top 14
noncomputable abbrev qan:List Str:=["_law_script", "_law_n", "_law_pairs", "_law_count", "_law_names", "_law_called_here", "_law_strewn_here"]
theorem qO:ScOk qan ["_law_script"] ["_law_cells", "_law_built", "_law_cell_at", "list", "range", "_law_strewn", "_law_called", "_law_told"] (qu Tq12):=scmk (by kernel_rfl)
def Wv:Rho->Option Out:=(seqO (sAsg (evC 1 (aC (evC 1 (aC (vr 0) aN) zr) aN) zN) (unpD 3 (gsC (gNm 1) (gsC (gNm 2) (gsC (gNm 3) gsN))))) (seqO (sSet 4 (evC 2 (aC (evA (aC (vr 1) aN) lrD) (aC (evC 2 (aC (vr 0) (aC (kd (.int 0)) aN)) qH) aN)) qX)) (seqO (sSet 5 (evC 3 (aC (vr 2) (aC (vr 4) (aC (evC 2 (aC (vr 0) (aC (kd (.int 62)) aN)) qH) aN))) zB)) (seqO (sSet 6 (evC 2 (aC (vr 5) (aC (evC 2 (aC (vr 0) (aC (kd (.int 1)) aN)) qH) aN)) qX)) (seqO (sIf (tV (ev2 (evC 2 (aC (vr 1) (aC (vr 6) aN)) zm) (vr 3) neD)) (sRet (kd (.bool false))) sN) (sRet (vO (ev2 (vr 1) (kd (.int 25)) gtD) (ev2 (evC 2 (aC (ev2 (vr 1) (kd (.int 1)) qZ) (aC (vr 6) aN)) zm) (kd (.int 0)) eqD))))))))
def qcS (ds:aj):Option Ka:=ob (Wv (rho0 qan.length ds)) outD
theorem qdH (F:Fun K "law" "law" Tq12 f fd)(K__law_built:Known P w K mg base "_law_built" 1 2 zN)(K__law_cells:Known P w K mg base "_law_cells" 1 2 zr)(K__law_strewn:Known P w K mg base "_law_strewn" 2 2 qX)(K__law_cell_at:Known P w K mg base "_law_cell_at" 2 1 qH)(K__law_called:Known P w K mg base "_law_called" 3 2 zB)(K__law_told:Known P w K mg base "_law_told" 2 3 zm)(z_list:mg "list" = none)(z_range:mg "range" = none):FnOk P w K mg base CX0 4 f fd ["_law_script"] (spF K 1 qcS):=by
 refine F.pure (k:=3) (u:=Wv) (M':=[]) qO.fs rfl (fun cdv A outer s H E hr G=>?_)
 refine qm (M1:=[]) (Wh (qJ K__law_built hr (by decide) (qO.gl 1 rfl rfl) (pda1 (qJ K__law_cells hr (by decide) (qO.gl 0 rfl rfl) (pda1 (pd_v qO 0)) rfl)) rfl) (yp rfl (zJ (QH qO 1) (zJ (QH qO 2) (zJ (QH qO 3) jU))))) ?_
 refine qm (M1:=[]) ?_ ?_
 refine qF 4 ?_ ?_ ?_ ?_ ?_ ?_ (qJ K__law_strewn hr (by decide) (qO.gl 5 rfl rfl) (pda2 (ZX (qbe hr (qO.gl 3 rfl rfl) z_list (qO.gl 4 rfl rfl) z_range (pda1 (pd_v qO 1)))) (qJ K__law_cell_at hr (by decide) (qO.gl 2 rfl rfl) (pda2 (pd_v qO 0) qi) rfl)) rfl)
 ·exact qO.fs.nd
 ·exact (qO.loc 4 rfl)
 ·rfl
 ·rfl
 ·exact .inl rfl
 ·decide
 refine qm (M1:=[]) ?_ ?_
 refine qF 5 ?_ ?_ ?_ ?_ ?_ ?_ (qJ K__law_called hr (by decide) (qO.gl 6 rfl rfl) (pda3 (pd_v qO 2) (pd_v qO 4) (qJ K__law_cell_at hr (by decide) (qO.gl 2 rfl rfl) (pda2 (pd_v qO 0) qi) rfl)) rfl)
 ·exact qO.fs.nd
 ·exact (qO.loc 5 rfl)
 ·rfl
 ·rfl
 ·exact .inl rfl
 ·decide
 refine qm (M1:=[]) ?_ (qm (M1:=[]) (Qf (zb (d_ne hr) (qJ K__law_told hr (by decide) (qO.gl 7 rfl rfl) (pda2 (pd_v qO 1) (pd_v qO 6)) rfl) (pd_v qO 3) (zp _)) (qC (qP pd_bl)) zF) (qC (qP (pd_or (qa0 d_gt (pd_v qO 1) qi (zp _)) (qa3 (qa0 (d_eq hr) (qJ K__law_told hr (by decide) (qO.gl 7 rfl rfl) (pda2 (qx q8 (pd_v qO 1) qi) (pd_v qO 6)) rfl) qi (zp _)))))))
 refine qF 6 ?_ ?_ ?_ ?_ ?_ ?_ (qJ K__law_strewn hr (by decide) (qO.gl 5 rfl rfl) (pda2 (pd_v qO 5) (qJ K__law_cell_at hr (by decide) (qO.gl 2 rfl rfl) (pda2 (pd_v qO 0) qi) rfl)) rfl)
 ·exact qO.fs.nd
 ·exact (qO.loc 6 rfl)
 ·rfl
 ·rfl
 ·exact .inl rfl
 ·decide
end SF
local macro_rules
 | `(tactic| simp_arith [$ts,*] $[$loc]?)=> do
  let q := ("L2.rho0 KF Uv Kk Ut Nat.reduceAdd Nat.reduceSub Ux Nat.sub_self Vw List.replicate_zero List.cons_append XI Vn L2.qbq L2.yK L2.qar L2.qap L2.qaq L2.ifO_t L2.ifO_f L2.sIf_b L2.tA_b L2.tO_b L2.vA_b L2.vO_b L2.vN L2.qeg L2.qek L2.qec L2.qc8 L2.nxO_s L2.qef L2.qd9 L2.sN L2.sBk L2.sCt L2.tV L2.tN L2.tT L2.ev2_b L2.qda L2.ev1 L2.vr_z L2.vr_s L2.kd L2.evA L2.evC_b L2.qbL L2.evC0 L2.aC_b L2.qbV L2.aN L2.YS L2.qdz L2.tupD L2.lstD L2.qca L2.qcb L2.qc4 L2.qep L2.qdG L2.jG L2.zT L2.qb0 L2.qcf L2.qdD L2.leD_i L2.gtD_i L2.geD_i L2.qbJ L2.jL L2.qaK L2.atI0 L2.atI1 L2.atI2 L2.atI3 L2.atI4 L2.atI5 L2.qdP L2.qdO L2.ob_s L2.gNm L2.gsN_n L2.gsC_c L2.qez List.set_cons_zero List.set_cons_succ List.set_nil L2.evI L2.evR L2.qeh L2.qei L2.zu L2.Wo L2.rngL L2.qbT L2.qbP L2.wR L2.qbR L2.wW L2.wV L2.qcc L2.qed L2.qdj L2.YJ L2.qdi L2.J9 L2.qb3 L2.qb2 L2.qb4 if_true if_false Ug Bool.not_true Bool.not_false Nat.reduceLeDiff and_self and_true true_and Int.reduceToNat Int.reduceAdd Int.reduceSub Int.reduceLE Int.reduceLT Int.reduceNeg reduceIte L2.isiD L2.qds L2.qdp L2.qdo L2.qdn L2.qdr L2.qdq String.reduceBEq L2.natLit Int.reduceBEq Bool.true_or Bool.or_true Bool.false_or Bool.or_false L2.qcI L2.qet L2.qb1 L2.qdf L2.qeb L2.qc7 L2.qc6 L2.evS_b L2.qen L2.oN L2.oS_b L2.qd1 Nat.reduceLT decide_true decide_false L2.qej L2.qbp L2.qbF L2.wY L2.qbU L2.wQ L2.wN L2.qbQ L2.qbS L2.qbO".splitOn " ").toArray.map fun s => Lean.mkIdent s.toName
  `(tactic| simp only [$[$q:term],*, $ts,*] $[$loc]?)
namespace SF
open PySem L2
def Qn (ns:aQ)(k:Int):Int:=ns.getD k.toNat 0
theorem cell_eq (ns:aQ)(k:Int)(hk:0<=k):qH [.list (ns.map .int),.int k]=some (.int (Qn ns k)):=by
 delta qH Qv
 simp_arith []
 by_cases h:k<((ns.map Kh).length:Int)
 ·have h':k.toNat<ns.length:=by rw [Kg] at h;omega
  have e:atI (ns.map Kh) k=some (.int (Qn ns k)):=by
   have e1:((k.toNat:Nat):Int)=k:=by omega
   have:=wK (xs:=ns.map Kh) (j:=k.toNat) (v:=.int (Qn ns k)) (by
    rw [KW,Kj h']
    unfold Qn
    rw [K6,Kj h']
    rfl)
   rw [e1] at this
   exact this
  simp_arith [decide_eq_true h,e]
 ·have h':¬ k.toNat<ns.length:=by rw [Kg] at h;omega
  have e:Qn ns k=0:=by
   unfold Qn
   rw [K6,List.getElem?_eq_none (by omega)]
   rfl
  simp_arith [decide_eq_false h,e]
theorem yX {α:Type}(enc:α->Ka){g:af}{u:ao}(I:List α->Rho->Prop)(all:List α)(step:∀ a∈all,∀ done ρ,done.length<all.length->I done ρ->∃ ρ',ob (g (enc a) ρ) u=some (.nx ρ')/\I (done++[a]) ρ') :
  ∀ (as done:List α) (ρ:Rho),(∀ a∈as,a∈all)->done.length+as.length=all.length->I done ρ->∃ ρ',forD g u (as.map enc) ρ=some (.nx ρ')/\I (done++as) ρ'
 | [],done,ρ,_,_,h=>⟨ρ,rfl,by rw [Vn];exact h⟩
 | a::as,done,ρ,hm,hl,h=>by
  rw [Kk] at hl
  obtain ⟨ρ1,e1,h1⟩:=step a (hm a (.head _)) done ρ (by omega) h
  obtain ⟨ρ2,e2,h2⟩:=yX enc I all step as (done++[a]) ρ1 (fun x hx=>hm x (.tail _ hx)) (by rw [Kv,KQ];omega) h1
  refine ⟨ρ2,?_,by rw [VW] at h2;exact h2⟩
  rw [KF,YJ,e1,J9]
  exact e2
theorem yW {α:Type}(enc:α->Ka){g:af}{u:ao}(I:List α->Rho->Prop)(as:List α)(ρ:Rho)(h:I [] ρ)(step:∀ a∈as,∀ done ρ,done.length<as.length->I done ρ->∃ ρ',ob (g (enc a) ρ) u=some (.nx ρ')/\I (done++[a]) ρ') :
  ∃ ρ',forD g u (as.map enc) ρ=some (.nx ρ')/\I as ρ':=by
 obtain ⟨ρ',e,i⟩:=yX enc I as step as [] ρ (fun _ h=>h) (by simp) h
 exact ⟨ρ',e,by rwa [XI] at i⟩
theorem Jq {α:Type}(enc:α->Ka){tt:ah}{te:aa}{ρ:Rho}(p:α->Bool)(f:α->Ka):∀ (as:List α),(∀ a∈as,tt (ρ++[some (enc a)])=some (p a))->(∀ a∈as,p a=true->te (ρ++[some (enc a)])=some (f a))->zc tt te ρ (as.map enc)=some ((as.filter p).map f)
 | [],_,_=>rfl
 | a::as,h1,h2=>by
  have ih:=Jq enc p f as (fun x hx=>h1 x (.tail _ hx)) (fun x hx=>h2 x (.tail _ hx))
  rw [KF,wR,h1 a (.head _),List.filter_cons]
  cases e:p a with
  | true=>rw [wW,h2 a (.head _) e,ih];rfl
  | false=>rw [wV,ih];rfl
theorem zG {α:Type}(enc:α->Ka){te:aa}{ρ:Rho}(f:α->Ka)(as:List α)(h2:∀ a∈as,te (ρ++[some (enc a)])=some (f a)):zc tT te ρ (as.map enc)=some (as.map f):=by
 have:=Jq enc (tt:=tT) (te:=te) (ρ:=ρ) (fun _=>true) f as (fun _ _=>rfl) (fun a ha _=>h2 a ha)
 rwa [List.filter_eq_self.mpr (fun _ _=>rfl)] at this
theorem JX {α β:Type}{f:α->β}{xs:List α}{k:Int}{x:α}(h0:0<=k)(h:xs[k.toNat]?=some x):atI (xs.map f) k=some (f x):=by
 have e1:((k.toNat:Nat):Int)=k:=by omega
 have:=wK (xs:=xs.map f) (j:=k.toNat) (v:=f x) (by rw [KW,h];rfl)
 rwa [e1] at this
theorem j7 {u w:ao}{ρ ρ':Rho}{r:Option Out}(h:u ρ=some (.nx ρ'))(h2:w ρ'=r):seqO u w ρ=r:=by rw [qbq,h,yK];exact h2
theorem jH {α:Type}(enc:α->Ka){g:af}{u:ao}(I:List α->Rho->Prop)(all:List α)(ρ:Rho)(h0:I [] ρ)(step:∀ a done rest ρ,all=done++a::rest->I done ρ->∃ ρ',ob (g (enc a) ρ) u=some (.nx ρ')/\I (done++[a]) ρ') :
  ∃ ρ',forD g u (all.map enc) ρ=some (.nx ρ')/\I all ρ':=by
 have key:∀ (as done:List α) (ρ:Rho),all=done++as->I done ρ->∃ ρ',forD g u (as.map enc) ρ=some (.nx ρ')/\I all ρ':=by
  intro as
  induction as with
  | nil=>intro done ρ e h;rw [Vn] at e;subst e;exact ⟨ρ,rfl,h⟩
  | cons a as ih =>
   intro done ρ e h
   obtain ⟨ρ1,e1,h1⟩:=step a done as ρ e h
   obtain ⟨ρ2,e2,h2⟩:=ih (done++[a]) ρ1 (by rw [e,VW];rfl) h1
   refine ⟨ρ2,?_,h2⟩
   rw [KF,YJ,e1,J9]
   exact e2
 exact key all [] ρ rfl h0
theorem qdg (i:Int):flat (.int i)=true:=rfl
theorem Qe (n:Nat):rngL 0 n=(Kf n).map fun k=>Kh (k:Nat):=by
 have:∀ (n m:Nat),rngL (m:Nat) n=(List.range' m n).map fun k=>Kh (k:Nat):=by
  intro n
  induction n with
  | zero=>intro m;rfl
  | succ n ih =>
   intro m
   rw [rngL,Xy,KF,← ih (m+1)]
   rfl
 rw [List.range_eq_range']
 exact this n 0
theorem qdc (ns:aQ){a b:Nat}:∃ ms:List Int,sliD (.list (ns.map .int)) (some (a:Int)) (some (b:Int))=some (.list (ms.map .int))/\ms.length<=b-a:=by
 refine ⟨(ns.drop (HT.sIx (ns.map Kh).length 0 (some (a:Int)))).take (HT.sIx (ns.map Kh).length (ns.map Kh).length (some (b:Int))-HT.sIx (ns.map Kh).length 0 (some (a:Int))),?_,?_⟩
 ·show some (VB (cutD (ns.map .int) (some (a:Int)) (some (b:Int))))=_
  unfold cutD
  rw [← List.map_drop,← List.map_take]
 ·rw [Up,Xr,HT.yx,HT.yx,Kg]
  omega
noncomputable def sumN:Nat->(Nat->Int)->Int
 | 0,_=>0
 | n+1,f=>sumN n f+f n
noncomputable def skp (i a:Nat):Nat:=if a<i then a else a+1
noncomputable def sgn (i:Nat):Int:=if i % 2=0 then 1 else -1
def detN:Nat->(Nat->Nat->Int)->Int
 | 0,_=>1
 | n+1,M=>sumN (n+1) fun i=>sgn i*M i 0*detN n (fun a b=>M (skp i a) (b+1))
theorem Zx {n:Nat}{f g:aL}(h:∀ i,i<n->f i=g i):sumN n f=sumN n g:=by
 induction n with
 | zero=>rfl
 | succ n ih=>unfold sumN;rw [ih fun i hi=>h i (by omega),h n (by omega)]
theorem Yy (x y:Int)(f g:aL)(n:Nat):sumN n (fun i=>x*f i+y*g i)=x*sumN n f+y*sumN n g:=by
 induction n with
 | zero=>simp [sumN]
 | succ n ih=>unfold sumN;rw [ih];simp only [Int.mul_add];omega
theorem qag {n:Nat}{f:aL}(h:∀ i,i<n->f i=0):sumN n f=0:=by
 induction n with
 | zero=>rfl
 | succ n ih=>unfold sumN;rw [ih fun i hi=>h i (by omega),h n (by omega)];rfl
theorem wu {n:Nat}{f:aL}(h:∀ i,0<i->i<n+1->f i=0):sumN (n+1) f=f 0:=by
 induction n with
 | zero=>show 0+f 0=f 0;omega
 | succ n ih =>
  show sumN (n+1) f+f (n+1)=f 0
  rw [ih fun i a b=>h i a (by omega),h (n+1) (by omega) (by omega)];omega
theorem qbw {n r:Nat}{f:aL}(hr:r+1<n)(h:∀ i,i<n->i≠r->i≠r+1->f i=0)(e:f r+f (r+1)=0):sumN n f=0:=by
 induction n with
 | zero=>omega
 | succ n ih =>
  show sumN n f+f n=0
  by_cases c:n=r+1
  ·subst c
   show sumN r f+f r+f (r+1)=0
   rw [qag fun i hi=>h i (by omega) (by omega) (by omega)];omega
  ·rw [ih (by omega) fun i a b d=>h i (by omega) b d,h n (by omega) (by omega) (by omega)];rfl
theorem qbs {i a n:Nat}(h:a<n):skp i a<n+1:=by unfold skp;split<;>omega
theorem qel (i a:Nat):skp i a≠i:=by unfold skp;split<;>omega
theorem qbr (i:Nat):sgn (i+1)=- sgn i:=by
 unfold sgn
 by_cases h:i % 2=0
 ·rw [if_pos h,if_neg (by omega)]
 ·rw [if_neg h,if_pos (by omega)];rfl
theorem Qp {n:Nat}{M N:ak}(h:∀ i j,i<n->j<n->M i j=N i j):detN n M=detN n N:=by
 induction n generalizing M N with
 | zero=>rfl
 | succ n ih =>
  unfold detN
  refine Zx fun i hi=>?_
  rw [h i 0 hi (by omega),ih fun a b ha hb=>h _ _ (qbs ha) (by omega)]
def upd (M:ak)(r:Nat)(v:aL):Nat->Nat->Int:=fun i=>if i=r then v else M i
theorem qN (M:ak)(r:Nat)(v:aL):upd M r v r=v:=if_pos rfl
theorem qp {M:ak}{r i:Nat}(v:aL)(h:i≠r):upd M r v i=M i:=if_neg h
theorem zX (M:ak)(r:Nat):upd M r (M r)=M:=by
 funext i
 by_cases h:i=r
 ·subst h;exact qN _ _ _
 ·exact qp _ h
theorem qR {M:ak}{r s:Nat}(h:r≠s)(u v:aL):upd (upd M r u) s v=upd (upd M s v) r u:=by
 funext i
 by_cases a:i=s
 ·subst a;rw [qN,qp _ (KN h),qN]
 ·rw [qp _ a]
  by_cases b:i=r
  ·subst b;rw [qN,qN]
  ·rw [qp _ b,qp _ b,qp _ a]
noncomputable def low (i r:Nat):Nat:=if r<i then r else r-1
theorem Z8 {M:ak}{i r:Nat}(v:aL)(h:i≠r):(fun a b=>upd M r v (skp i a) (b+1))=upd (fun a b=>M (skp i a) (b+1)) (low i r) (fun b=>v (b+1)):=by
 funext a
 by_cases e:skp i a=r
 ·have:a=low i r:=by unfold low;unfold skp at e;split at e<;>split<;>omega
  subst this
  rw [qN,e]
  funext b
  rw [qN]
 ·have:a≠low i r:=by
   intro c;subst c;apply e
   unfold low skp
   by_cases hr:r<i
   ·rw [if_pos hr,if_pos hr]
   ·rw [if_neg hr,if_neg (by omega)];omega
  rw [qp _ this]
  funext b
  rw [qp _ e]
theorem QV {M:ak}{r:Nat}(v:aL):(fun a b=>upd M r v (skp r a) (b+1))=fun a b=>M (skp r a) (b+1):=by
 funext a b
 rw [qp _ (qel r a)]
theorem qdC {i r n:Nat}(hi:i<n+1)(hr:r<n+1)(h:i≠r):low i r<n:=by unfold low;split<;>omega
theorem Ze {n r:Nat}(M:ak)(hr:r<n)(x y:Int)(u v:aL):detN n (upd M r (fun j=>x*u j+y*v j))=x*detN n (upd M r u)+y*detN n (upd M r v):=by
 induction n generalizing M r u v with
 | zero=>omega
 | succ n ih =>
  unfold detN
  rw [← Yy]
  refine Zx fun i hi=>?_
  by_cases h:i=r
  ·subst h
   rw [QV,QV,QV,qN,qN,qN]
   generalize detN n (fun a b=>M (skp i a) (b+1))=D
   simp only [Int.mul_add,Int.add_mul,UJ,VZ x,VZ y]
  ·rw [Z8 _ h,Z8 _ h,Z8 _ h,ih _ (qdC hi hr h),qp _ h,qp _ h,qp _ h]
   generalize detN n _=D
   generalize detN n _=D'
   simp only [Int.mul_add,UJ,VZ x,VZ y]
theorem yS {n r:Nat}{M:ak}(hr:r+1<n)(h:M r=M (r+1)):detN n M=0:=by
 induction n generalizing M r with
 | zero=>omega
 | succ n ih =>
  unfold detN
  refine qbw hr (fun i hi a b=>?_) ?_
  ·rw [ih (r:=if i<r then r-1 else r) (by split<;>omega),X8]
   by_cases c:i<r
   ·rw [if_pos c]
    have e1:skp i (r-1)=r:=by unfold skp;rw [if_neg (by omega)];omega
    have e2:skp i (r-1+1)=r+1:=by unfold skp;rw [if_neg (by omega)];omega
    rw [e1,e2,h]
   ·rw [if_neg c]
    have e1:skp i r=r:=by unfold skp;rw [if_pos (by omega)]
    have e2:skp i (r+1)=r+1:=by unfold skp;rw [if_pos (by omega)]
    rw [e1,e2,h]
  ·have e:(fun a b=>M (skp r a) (b+1))=fun a b=>M (skp (r+1) a) (b+1):=by
    funext a b
    by_cases c:a=r
    ·subst c
     have e1:skp a a=a+1:=by unfold skp;rw [if_neg (by omega)]
     have e2:skp (a+1) a=a:=by unfold skp;rw [if_pos (by omega)]
     rw [e1,e2,h]
    ·have e1:skp r a=skp (r+1) a:=by unfold skp;split<;>split<;>omega
     rw [e1]
   rw [e,h,qbr]
   generalize sgn r=s
   generalize detN n _=D
   rw [XW,XW]
   omega
theorem zM {n r:Nat}(M:ak)(hr:r<n)(u v:aL):detN n (upd M r (fun j=>u j+v j))=detN n (upd M r u)+detN n (upd M r v):=by
 have:=Ze M hr 1 1 u v
 simpa using this
theorem YF {n r:Nat}(M:ak)(hr:r+1<n)(u v:aL):detN n (upd (upd M r u) (r+1) v)=- detN n (upd (upd M r v) (r+1) u):=by
 have ne:r≠r+1:=by omega
 have z:∀ w,detN n (upd (upd M r w) (r+1) w)=0:=fun w=>yS hr (by rw [qN,qp _ ne,qN])
 have a:=z (fun j=>u j+v j)
 rw [zM _ hr,qR ne,qR ne (v:=v),zM _ (by omega),zM _ (by omega),qR (KN ne),qR (KN ne),qR (KN ne),qR (KN ne),z,z] at a
 omega
theorem Js {n:Nat}(d:Nat):∀ {r:Nat} {M:ak},r+d+1<n->M r=M (r+d+1)->detN n M=0:=by
 induction d with
 | zero=>intro r M hr h;exact yS hr h
 | succ d ih =>
  intro r M hr h
  have e:M=upd (upd M (r+d+1) (M (r+d+1))) (r+d+1+1) (M (r+d+1+1)):=by rw [zX,zX]
  rw [e,YF _ (by omega),ih (r:=r) (by omega),Int.neg_zero]
  rw [qp _ (by omega),qp _ (by omega),qp _ (by omega),qN]
  exact h
theorem jD {n r s:Nat}{M:ak}(hr:r<n)(hs:s<n)(ne:r≠s)(h:M r=M s):detN n M=0:=by
 by_cases c:r<s
 ·have e:s=r+(s-r-1)+1:=by omega
  exact Js (s-r-1) (r:=r) (by omega) (by rw [← e];exact h)
 ·have e:r=s+(r-s-1)+1:=by omega
  exact Js (r-s-1) (r:=s) (by omega) (by rw [← e];exact h.symm)
theorem Z4 {n r s:Nat}(M:ak)(hr:r<n)(hs:s<n)(ne:r≠s)(c k:Int)(u:aL):detN n (upd M r (fun j=>c*u j+k*M s j))=c*detN n (upd M r u):=by
 rw [Ze _ hr,jD (M:=upd M r (M s)) hr hs ne (by rw [qN,qp _ (KN ne)]),X8,X9]
theorem WK {n r s:Nat}(M:ak)(hr:r<n)(hs:s<n)(ne:r≠s)(u v:aL):detN n (upd (upd M r u) s v)=- detN n (upd (upd M r v) s u):=by
 have z:∀ w,detN n (upd (upd M r w) s w)=0:=fun w=>jD hr hs ne (by rw [qN,qp _ ne,qN])
 have a:=z (fun j=>u j+v j)
 rw [zM _ hs,qR ne,qR ne,zM _ hr,zM _ hr,qR (KN ne),qR (KN ne),qR (KN ne),qR (KN ne),z,z] at a
 omega
theorem WL {n r:Nat}{M:ak}(hr:r<n)(h:∀ j,M r j=0):detN n M=0:=by
 have e:M=upd M r (fun j=>0*M r j+0*M r j):=by
  have:(fun j=>0*M r j+0*M r j)=M r:=by funext j;rw [h j];rfl
  rw [this,zX]
 rw [e,Ze _ hr];omega
theorem Zd {n:Nat}{M:ak}(h:∀ i,0<i->i<n+1->M i 0=0):detN (n+1) M=M 0 0*detN n (fun a b=>M (a+1) (b+1)):=by
 show sumN (n+1) _=_
 rw [wu fun i a b=>by rw [h i a b,X8,Xz]]
 have e:sgn 0=1:=rfl
 rw [e,V5]
 congr 1
theorem Jr {n r:Nat}(M:ak)(hr:r<n)(c:Int)(k:aL)(t:Nat):t<=n->detN n (fun i=>if i≠r/\i<t then (fun j=>c*M i j+k i*M r j) else M i)=c ^ (if r<t then t-1 else t)*detN n M:=by
 induction t with
 | zero =>
  intro _
  have e:(fun i=>if i≠r/\i<0 then (fun j=>c*M i j+k i*M r j) else M i)=M:=by
   funext i;rw [if_neg (by omega)]
  rw [e,if_neg (by omega),UY,V5]
 | succ t ih =>
  intro ht
  have ih:=ih (by omega)
  by_cases c1:t=r
  ·subst c1
   have e:(fun i=>if i≠t/\i<t+1 then (fun j=>c*M i j+k i*M t j) else M i)=fun i=>if i≠t/\i<t then (fun j=>c*M i j+k i*M t j) else M i:=by
    funext i
    by_cases a:i≠t/\i<t
    ·rw [if_pos a,if_pos (by omega)]
    ·rw [if_neg a,if_neg (by omega)]
   rw [e,ih,if_neg (by omega),if_pos (by omega)];rfl
  ·generalize hW:(fun i=>if i≠r/\i<t then (fun j=>c*M i j+k i*M r j) else M i)=W at ih
   have w1:W r=M r:=by rw [← hW];exact if_neg (by omega)
   have w2:W t=M t:=by rw [← hW];exact if_neg (by omega)
   have e:(fun i=>if i≠r/\i<t+1 then (fun j=>c*M i j+k i*M r j) else M i)=upd W t (fun j=>c*M t j+k t*W r j):=by
    funext i
    by_cases a:i=t
    ·subst a;rw [qN,if_pos ⟨c1,by omega⟩,w1]
    ·rw [qp _ a,← hW]
     show _=if i≠r/\i<t then (fun j=>c*M i j+k i*M r j) else M i
     by_cases b:i≠r/\i<t
     ·rw [if_pos b,if_pos (by omega)]
     ·rw [if_neg b,if_neg (by omega)]
   rw [e,Z4 W (by omega) hr c1,← w2,zX,ih,← UJ]
   congr 1
   by_cases a:r<t
   ·rw [if_pos a,if_pos (by omega)]
    have:t+1-1=(t-1)+1:=by omega
    rw [this,UZ,Uy]
   ·rw [if_neg a,if_neg (by omega),UZ,Uy]
def chio (M:ak):Nat->Nat->Int:=fun i j=>M (i+1) (j+1)*M 0 0-M (i+1) 0*M 0 (j+1)
theorem qaw {n:Nat}(M:ak):M 0 0*detN n (chio M)=M 0 0 ^ n*detN (n+1) M:=by
 have a:=Jr (n:=n+1) (r:=0) M (by omega) (M 0 0) (fun i=>- M i 0) (n+1) (Ko _)
 rw [if_pos (by omega)] at a
 have:n+1-1=n:=rfl
 rw [this] at a
 rw [← a,Zd]
 ·show _=(if (0:Nat)≠0/\0<n+1 then _ else M 0) 0*_
  rw [if_neg (by omega)]
  congr 1
  refine Qp fun i j hi hj=>?_
  show M (i+1) (j+1)*M 0 0-M (i+1) 0*M 0 (j+1)=(if i+1≠0/\i+1<n+1 then (fun j=>M 0 0*M (i+1) j + - M (i+1) 0*M 0 j) else M (i+1)) (j+1)
  rw [if_pos (by omega)]
  show _=M 0 0*M (i+1) (j+1) + - M (i+1) 0*M 0 (j+1)
  rw [XW,Uy (M 0 0)];omega
 ·intro i a b
  show (if i≠0/\i<n+1 then (fun j=>M 0 0*M i j + - M i 0*M 0 j) else M i) 0=0
  rw [if_pos (by omega)]
  show M 0 0*M i 0 + - M i 0*M 0 0=0
  rw [XW,Uy (M 0 0)];omega
theorem Wz {n:Nat}{M:ak}(h:M 0 0≠0):detN (n+1) (chio M)=M 0 0 ^ n*detN (n+2) M:=by
 have a:=qaw (n:=n+1) M
 rw [UZ,Uy (M 0 0 ^ n),UJ] at a
 exact Xk h a
def ext0 (I:aD):Nat->Nat
 | 0=>0
 | i+1=>I i+1
def bor (k:Nat)(I:aD)(i:Nat):Nat:=if i<k then i else k+I (i-k)
theorem wL (k:Nat)(I:aD):bor k (ext0 I)=bor (k+1) I:=by
 funext i
 unfold bor
 by_cases a:i<k
 ·rw [if_pos a,if_pos (by omega)]
 ·rw [if_neg a]
  by_cases b:i<k+1
  ·rw [if_pos b]
   have:i-k=0:=by omega
   rw [this];show k+0=i;omega
  ·rw [if_neg b]
   obtain ⟨m,hm⟩:∃ m,i-k=m+1:=⟨i-k-1,by omega⟩
   have:i-(k+1)=m:=by omega
   rw [hm,this];show k+(I m+1)=k+1+I m;omega
def Bar (A:ak)(k:Nat)(M:ak)(a:Int):Prop:=∀ (s:Nat) (I J:aD),detN (s+1) (fun i j=>M (I i) (J j))=a ^ s*detN (k+s+1) (fun i j=>A (bor k I i) (bor k J j))
theorem bor0 (I:aD):bor 0 I=I:=by
 funext i;unfold bor;rw [if_neg (by omega)];show 0+I i=I i;omega
theorem bar0 (A:ak):Bar A 0 A 1:=fun s I J=>by
 rw [bor0,bor0,Int.one_pow,V5,Ux]
theorem det1 (M:ak):detN 1 M=M 0 0:=by
 have:=Zd (n:=0) (M:=M) (fun i a b=>by omega)
 rw [this];show M 0 0*1=_;omega
def mnr (A:ak)(k i j:Nat):Int:=detN (k+1) (fun a b=>A (if a<k then a else k+i) (if b<k then b else k+j))
theorem Bar.at {A:ak}{k:Nat}{M:ak}{a:Int}(h:Bar A k M a)(i j:Nat):M i j=mnr A k i j:=by
 have:=h 0 (fun _=>i) (fun _=>j)
 rw [det1,UY,V5] at this
 exact this
theorem Bar.step {A:ak}{k:Nat}{M:ak}{a:Int}(h:Bar A k M a)(ha:a≠0)(hc:M 0 0≠0) :
  (∀ i j,chio M i j=a*mnr A (k+1) i j)/\Bar A (k+1) (fun i j=>mnr A (k+1) i j) (M 0 0):=by
 have key:∀ (s:Nat) (I J:aD),detN (s+1) (fun i j=>chio M (I i) (J j))=M 0 0 ^ s*(a ^ (s+1)*detN (k+1+s+1) (fun i j=>A (bor (k+1) I i) (bor (k+1) J j))):=fun s I J=>by
  have e:(fun i j=>chio M (I i) (J j))=chio (fun i j=>M (ext0 I i) (ext0 J j)):=rfl
  have c:=Wz (n:=s) (M:=fun i j=>M (ext0 I i) (ext0 J j)) hc
  rw [e,c,h (s+1) (ext0 I) (ext0 J),wL,wL]
  have e2:k+(s+1)+1=k+1+s+1:=by omega
  rw [e2];rfl
 have one:∀ i j,chio M i j=a*mnr A (k+1) i j:=fun i j=>by
  have c:=key 0 (fun _=>i) (fun _=>j)
  rw [det1,UY,V5] at c
  rw [c]
  show a ^ 1*_=_
  rw [UZ,UY,V5]
  rfl
 refine ⟨one,fun s I J=>?_⟩
 have c:=key s I J
 have lin:∀ (n:Nat) (N:ak),detN n (fun i j=>a*N i j)=a ^ n*detN n N:=by
  intro n N
  induction n generalizing N with
  | zero=>show (1:Int)=a ^ 0*1;rw [UY];rfl
  | succ n ih =>
   unfold detN
   have z:=Yy (a ^ (n+1)) 0 (fun i=>sgn i*N i 0*detN n (fun x y=>N (skp i x) (y+1))) (fun _=>0) (n+1)
   simp only [Xz,X9] at z
   rw [← z]
   refine Zx fun i hi=>?_
   rw [ih (fun x y=>N (skp i x) (y+1)),UZ]
   generalize detN n _=D
   generalize sgn i=g
   show g*(a*N i 0)*(a ^ n*D)=a ^ n*a*(g*N i 0*D)
   generalize N i 0=y
   generalize a ^ n=p
   simp only [UJ,Uy,VZ]
 have e:(fun i j=>chio M (I i) (J j))=fun i j=>a*mnr A (k+1) (I i) (J j):=by funext i j;exact one _ _
 rw [e,lin,VZ] at c
 exact Xk (Int.pow_ne_zero ha) c
noncomputable def fbN (B:Nat):Nat->Nat
 | 0=>1
 | n+1=>(n+1)*(B*fbN B n)
theorem qbv {n c:Nat}{f:aL}(h:∀ i,i<n->(f i).natAbs<=c):(sumN n f).natAbs<=n*c:=by
 induction n with
 | zero=>show (0:Int).natAbs<=_;omega
 | succ n ih =>
  have a:=ih fun i hi=>h i (by omega)
  have b:=h n (by omega)
  have d:=Int.natAbs_add_le (sumN n f) (f n)
  show (sumN n f+f n).natAbs<=_
  rw [Nat.succ_mul];omega
theorem qcJ (i:Nat):(sgn i).natAbs=1:=by unfold sgn;split<;>rfl
theorem yR {B n:Nat}{M:ak}(h:∀ i j,i<n->j<n->(M i j).natAbs<=B):(detN n M).natAbs<=fbN B n:=by
 induction n generalizing M with
 | zero=>exact Ko 1
 | succ n ih =>
  show (sumN (n+1) _).natAbs<=(n+1)*(B*fbN B n)
  refine qbv fun i hi=>?_
  rw [Int.natAbs_mul,Int.natAbs_mul,qcJ,Nat.one_mul]
  exact Nat.mul_le_mul (h _ _ hi (by omega)) (ih fun a b ha hb=>h _ _ (qbs ha) (by omega))
def tieN (l:aD)(a b:Nat):Nat->Nat:=fun v=>if l v=b then a else l v
def qt (n:Nat):(Nat->Nat)->List (Nat×Nat)->Nat
 | l,[]=>if (∀ v,v<n->l v=l 0) then 1 else 0
 | l,p::ps=>qt n l ps+if l p.1=l p.2 then 0 else qt n (tieN l (l p.1) (l p.2)) ps
def InN (n:Nat)(ps:ai):Prop:=∀ p∈ps,p.1<n/\p.2<n
theorem InN.tail {n:Nat}{p:ba}{ps:ai}(h:InN n (p::ps)):InN n ps:=fun q hq=>h q (KY _ hq)
theorem Qu {l:aD}{a b u v:Nat}:tieN l a b u=tieN l a b v↔(l u=l v\/(l u=a\/l u=b)/\(l v=a\/l v=b)):=by
 unfold tieN
 by_cases h1:l u=b
 ·rw [if_pos h1]
  by_cases h2:l v=b
  ·rw [if_pos h2];omega
  ·rw [if_neg h2];omega
 ·rw [if_neg h1]
  by_cases h2:l v=b
  ·rw [if_pos h2];omega
  ·rw [if_neg h2];omega
theorem QL {n:Nat}{ps:ai}(hp:InN n ps)(h0:0<n):∀ {l l':aD},(∀ u v,u<n->v<n->(l u=l v↔l' u=l' v))->qt n l ps=qt n l' ps:=by
 induction ps with
 | nil =>
  intro l l' h
  unfold qt
  have:(∀ v,v<n->l v=l 0)↔(∀ v,v<n->l' v=l' 0):=⟨fun a v hv=>(h v 0 hv h0).mp (a v hv),fun a v hv=>(h v 0 hv h0).mpr (a v hv)⟩
  by_cases c:∀ v,v<n->l v=l 0
  ·rw [if_pos c,if_pos (this.mp c)]
  ·rw [if_neg c,if_neg fun d=>c (this.mpr d)]
 | cons p ps ih =>
  intro l l' h
  have hp1:=hp p (K0 ..)
  unfold qt
  rw [ih hp.tail h]
  congr 1
  by_cases c:l p.1=l p.2
  ·rw [if_pos c,if_pos ((h _ _ hp1.1 hp1.2).mp c)]
  ·rw [if_neg c,if_neg fun d=>c ((h _ _ hp1.1 hp1.2).mpr d)]
   refine ih hp.tail fun u v hu hv=>?_
   rw [Qu,Qu,h u v hu hv,h u _ hu hp1.1,h u _ hu hp1.2,h v _ hv hp1.1,h v _ hv hp1.2]
theorem wA {n:Nat}{ps:ai}(hp:InN n ps)(h0:0<n):∀ {l l':aD},(∀ u v,u<n->v<n->l u=l v->l' u=l' v)->qt n l' ps=0->qt n l ps=0:=by
 induction ps with
 | nil =>
  intro l l' h e
  unfold qt at *
  by_cases c:∀ v,v<n->l v=l 0
  ·rw [if_pos fun v hv=>h v 0 hv h0 (c v hv)] at e;cases e
  ·rw [if_neg c]
 | cons p ps ih =>
  intro l l' h e
  have hp1:=hp p (K0 ..)
  unfold qt at e ⊢
  have e1:qt n l' ps=0:=by omega
  rw [ih hp.tail h e1,Ux]
  by_cases c:l p.1=l p.2
  ·rw [if_pos c]
  ·rw [if_neg c]
   by_cases d:l' p.1=l' p.2
   ·refine ih (l':=l') hp.tail (fun u v hu hv g=>?_) e1
    rcases Qu.mp g with g|⟨g1,g2⟩
    ·exact h u v hu hv g
    ·have a1:l' u=l' p.1:=g1.elim (h _ _ hu hp1.1) fun g=>(h _ _ hu hp1.2 g).trans d.symm
     have a2:l' v=l' p.1:=g2.elim (h _ _ hv hp1.1) fun g=>(h _ _ hv hp1.2 g).trans d.symm
     rw [a1,a2]
   ·rw [if_neg d] at e
    refine ih (l':=tieN l' (l' p.1) (l' p.2)) hp.tail (fun u v hu hv g=>?_) (by omega)
    rw [Qu]
    rcases Qu.mp g with g|⟨g1,g2⟩
    ·exact .inl (h u v hu hv g)
    ·exact .inr ⟨g1.imp (h _ _ hu hp1.1) (h _ _ hu hp1.2),g2.imp (h _ _ hv hp1.1) (h _ _ hv hp1.2)⟩
def mapP (f:aD)(ps:ai):List (Nat×Nat):=ps.map fun p=>(f p.1,f p.2)
theorem je {n m:Nat}{f:aD}(hf:∀ v,v<n->f v<m)(hs:∀ w,w<m->∃ v,v<n/\f v=w)(h0:0<n)(ps:ai)(hp:InN n ps):∀ (l:aD),qt m l (mapP f ps)=qt n (fun v=>l (f v)) ps:=by
 induction ps with
 | nil =>
  intro l
  show qt m l []=_
  unfold qt
  have:(∀ v,v<m->l v=l 0)↔(∀ v,v<n->l (f v)=l (f 0)):=⟨fun a v hv=>by rw [a _ (hf v hv),a _ (hf 0 h0)],fun a v hv=>by
   obtain ⟨x,hx,rfl⟩:=hs v hv
   obtain ⟨z,hz,e⟩:=hs 0 (by omega)
   rw [a x hx,show l 0=l (f z) by rw [e],a z hz]⟩
  by_cases c:∀ v,v<m->l v=l 0
  ·rw [if_pos c,if_pos (this.mp c)]
  ·rw [if_neg c,if_neg fun d=>c (this.mpr d)]
 | cons p ps ih =>
  intro l
  show qt m l ((f p.1,f p.2)::mapP f ps)=_
  unfold qt
  rw [ih hp.tail l,ih hp.tail]
  rfl
noncomputable def eN (v j:Nat):Int:=if j+1=v then 1 else 0
noncomputable def dN (a b:Nat):Int:=if a=b then 1 else 0
def rowN (l:aD):List (Nat×Nat)->Nat->Nat->Int
 | [],_,_=>0
 | p::ps,a,j=>(dN a (l p.1)-dN a (l p.2))*(eN p.1 j-eN p.2 j)+rowN l ps a j
def tabN (l:aD)(ps:ai):Nat->Nat->Int:=fun i=>if l (i+1)=i+1 then rowN l ps (i+1) else fun j=>eN (i+1) j-eN (l (i+1)) j
structure Lots (n:Nat)(l:aD):Prop where
 z:l 0=0
 lt:∀ v,v<n->l v<n
 fix:∀ v,v<n->l (l v)=l v
theorem Lots.tie {n:Nat}{l:aD}(h:Lots n l){a b:Nat}(ha:a<n)(fa:l a=a)(ne:a≠b)(hb:b≠0):Lots n (tieN l a b):=by
 refine ⟨?_,fun v hv=>?_,fun v hv=>?_⟩
 ·unfold tieN;rw [h.z,if_neg (KN hb)]
 ·unfold tieN;split
  ·exact ha
  ·exact h.lt v hv
 ·unfold tieN
  by_cases c:l v=b
  ·rw [if_pos c,fa,if_neg ne]
  ·rw [if_neg c,h.fix v hv,if_neg c]
theorem qac (l:aD)(p:ba)(ps:ai):rowN l (p::ps)=rowN l ((p.2,p.1)::ps):=by
 funext a j
 unfold rowN
 congr 1
 generalize dN a (l p.1)=x
 generalize dN a (l p.2)=y
 generalize eN p.1 j=z
 generalize eN p.2 j=t
 show (x-y)*(z-t)=(y-x)*(t-z)
 rw [show y-x=-(x-y) by omega,show t-z=-(z-t) by omega,Int.neg_mul_neg]
theorem qah (l:aD)(p:ba)(ps:ai):tabN l (p::ps)=tabN l ((p.2,p.1)::ps):=by
 unfold tabN;rw [qac]
theorem Ys {l:aD}{a b c:Nat}(ne:a≠b)(ps:ai)(j:Nat):rowN (tieN l a b) ps c j=if c=a then rowN l ps a j+rowN l ps b j else if c=b then 0 else rowN l ps c j:=by
 have key:∀ v,dN c (tieN l a b v)=if c=a then dN a (l v)+dN b (l v) else if c=b then 0 else dN c (l v):=fun v=>by
  unfold dN tieN
  by_cases h:l v=b
  ·rw [if_pos h]
   by_cases c1:c=a
   ·subst c1;rw [if_pos rfl,if_pos rfl,h,if_neg ne,if_pos rfl];rfl
   ·rw [if_neg c1,if_neg c1]
    by_cases c2:c=b
    ·rw [if_pos c2]
    ·rw [if_neg c2,h,if_neg c2]
  ·rw [if_neg h]
   by_cases c1:c=a
   ·subst c1;rw [if_pos rfl,if_neg (c:=b=l v) (KN h),X9]
   ·rw [if_neg c1]
    by_cases c2:c=b
    ·subst c2;rw [if_pos rfl,if_neg (KN h)]
    ·rw [if_neg c2]
 induction ps with
 | nil =>
  unfold rowN
  split
  ·rfl
  ·split<;>rfl
 | cons p ps ih =>
  unfold rowN
  rw [ih,key,key]
  generalize eN p.1 j-eN p.2 j=z
  by_cases c1:c=a
  ·subst c1
   simp only [if_pos]
   generalize dN c (l p.1)=x1
   generalize dN c (l p.2)=x2
   generalize dN b (l p.1)=y1
   generalize dN b (l p.2)=y2
   rw [show x1+y1-(x2+y2)=(x1-x2)+(y1-y2) by omega,Int.add_mul];omega
  ·simp only [if_neg c1]
   by_cases c2:c=b
   ·subst c2;simp
   ·simp only [if_neg c2]
theorem qbY {n:Nat}{M:ak}(h:∀ i j,i<n->j<n->M i j=if i=j then 1 else 0):detN n M=1:=by
 induction n generalizing M with
 | zero=>rfl
 | succ n ih =>
  rw [Zd fun i a b=>by rw [h i 0 b (by omega),if_neg (by omega)],h 0 0 (by omega) (by omega),ih fun i j hi hj=>by
   rw [h (i+1) (j+1) (by omega) (by omega)]
   by_cases c:i=j
   ·rw [if_pos c,if_pos (by omega)]
   ·rw [if_neg c,if_neg (by omega)]]
  rfl
theorem qbz {n:Nat}{l:aD}(h:Lots (n+1) l):(qt (n+1) l []:Int)=detN n (tabN l []):=by
 unfold qt
 by_cases c:∀ v,v<n+1->l v=l 0
 ·rw [if_pos c,qbY]
  ·rfl
  ·intro i j hi hj
   have e:=c (i+1) (by omega)
   rw [h.z] at e
   unfold tabN
   rw [if_neg (by omega)]
   show eN (i+1) j-eN (l (i+1)) j=_
   rw [e]
   unfold eN
   rw [if_neg (c:=j+1=0) (by omega)]
   by_cases d:i=j
   ·rw [if_pos d,if_pos (by omega)];rfl
   ·rw [if_neg d,if_neg (by omega)];rfl
 ·rw [if_neg c]
  obtain ⟨v,hv,ne⟩:∃ v,v<n+1/\l v≠0:=by
   refine V4 fun d=>c fun v hv=>?_
   rw [h.z]
   exact V4 fun e=>d ⟨v,hv,e⟩
  obtain ⟨i,hi⟩:∃ i,l v=i+1:=⟨l v-1,by omega⟩
  have lt:=h.lt v hv
  rw [WL (r:=i) (by omega) fun j=>?_]
  ·rfl
  ·unfold tabN
   rw [← hi,h.fix v hv,if_pos rfl];rfl
theorem Z5 {n r s:Nat}(M:ak)(hr:r<n)(ne:r≠s)(a b c:aL):detN n (upd (upd M r (fun j=>a j+b j)) s c)=detN n (upd (upd M r a) s c)+detN n (upd (upd M r b) s c):=by
 rw [qR ne,zM _ hr,qR (KN ne),qR (KN ne)]
theorem qaC {n r s:Nat}(M:ak)(hr:r<n)(hs:s<n)(ne:r≠s)(a c d:aL):detN n (upd (upd M r a) s (fun j=>c j+d j))=detN n (upd (upd M r a) s c)+detN n (upd (upd M r a) s d):=zM _ hs c d
theorem JQ {n:Nat}{l:aD}(h:Lots (n+1) l){x y:Nat}(hx:x<n+1)(hy:y<n+1)(ne:l x≠l y)(hb:l y≠0)(ps:ai) :
  detN n (tabN l ((x,y)::ps))=detN n (tabN l ps)+detN n (tabN (tieN l (l x) (l y)) ps):=by
 have la:=h.lt x hx
 have lb:=h.lt y hy
 have fa:=h.fix x hx
 have fb:=h.fix y hy
 generalize ha:l x=a at *
 generalize hb':l y=b at *
 obtain ⟨ib,rfl⟩:∃ ib,b=ib+1:=⟨b-1,by omega⟩
 have hib:ib<n:=by omega
 have same:∀ i,i+1≠a->i≠ib->tabN l ((x,y)::ps) i=tabN l ps i:=fun i h1 h2=>by
  unfold tabN
  by_cases c:l (i+1)=i+1
  ·rw [if_pos c,if_pos c]
   funext j
   show (dN (i+1) (l x)-dN (i+1) (l y))*_+_=_
   unfold dN
   rw [ha,hb',if_neg h1,if_neg (by omega)];omega
  ·rw [if_neg c,if_neg c]
 have atb:tabN l ((x,y)::ps) ib=fun j=>rowN l ps (ib+1) j+(eN y j-eN x j):=by
  unfold tabN
  rw [if_pos fb]
  funext j
  show (dN (ib+1) (l x)-dN (ib+1) (l y))*(eN x j-eN y j)+_=_
  unfold dN
  rw [ha,hb',if_neg (KN ne),if_pos rfl];omega
 have oldb:tabN l ps ib=rowN l ps (ib+1):=by unfold tabN;rw [if_pos fb]
 have goal:∀ W:Nat->Nat->Int,(∀ i,i+1≠a->i≠ib->W i=tabN l ps i)->(∀ i,i+1=a->W i=fun j=>rowN l ps a j+rowN l ps (ib+1) j)->(W ib=fun j=>eN y j-eN x j)->detN n W=detN n (tabN (tieN l a (ib+1)) ps):=fun W w1 w2 w3=>by
  have s1:∃ c:Int,∀ j,eN y j=eN (ib+1) j+c*(eN y j-eN (ib+1) j)/\(c=0\/c=1/\y≠ib+1):=by
   by_cases c:y=ib+1
   ·exact ⟨0,fun j=>⟨by rw [c];omega,.inl rfl⟩⟩
   ·exact ⟨1,fun j=>⟨by omega,.inr ⟨rfl,c⟩⟩⟩
  have rowy:y≠ib+1->∃ iy,y=iy+1/\iy<n/\iy≠ib/\iy+1≠a/\W iy=fun j=>eN y j-eN (ib+1) j:=fun c=>by
   have y0:y≠0:=fun d=>by rw [d,h.z] at hb';omega
   obtain ⟨iy,rfl⟩:∃ iy,y=iy+1:=⟨y-1,by omega⟩
   have na:iy+1≠a:=fun d=>by rw [d,fa] at hb';exact ne hb'
   refine ⟨iy,rfl,by omega,by omega,na,?_⟩
   rw [w1 iy na (by omega)]
   unfold tabN
   rw [if_neg (by omega),hb']
  have rowx:x≠a->∃ ix,x=ix+1/\ix<n/\ix≠ib/\ix+1≠a/\W ix=fun j=>eN x j-eN a j:=fun c=>by
   have x0:x≠0:=fun d=>by rw [d,h.z] at ha;omega
   obtain ⟨ix,rfl⟩:∃ ix,x=ix+1:=⟨x-1,by omega⟩
   have nb:ix≠ib:=fun d=>by subst d;rw [fb] at ha;omega
   refine ⟨ix,rfl,by omega,nb,c,?_⟩
   rw [w1 ix c nb]
   unfold tabN
   rw [if_neg (by omega),ha]
  have e1:detN n W=detN n (upd W ib (fun j=>eN (ib+1) j-eN x j)):=by
   by_cases c:y=ib+1
   ·subst c;rw [← w3,zX]
   ·obtain ⟨iy,_,l1,n1,_,wy⟩:=rowy c
    have:=Z4 W hib l1 (KN n1) 1 1 (fun j=>eN (ib+1) j-eN x j)
    rw [wy,V5] at this
    rw [← this]
    have e:(fun j=>1*(eN (ib+1) j-eN x j)+1*(eN y j-eN (ib+1) j))=W ib:=by rw [w3];funext j;omega
    rw [e,zX]
  have e2:detN n (upd W ib (fun j=>eN (ib+1) j-eN x j))=detN n (upd W ib (fun j=>eN (ib+1) j-eN a j)):=by
   by_cases c:x=a
   ·rw [c]
   ·obtain ⟨ix,_,l1,n1,_,wx⟩:=rowx c
    have:=Z4 W hib l1 (KN n1) 1 (-1) (fun j=>eN (ib+1) j-eN a j)
    rw [wx,V5] at this
    rw [← this]
    have e:(fun j=>1*(eN (ib+1) j-eN a j) + -1*(eN x j-eN a j))=fun j=>eN (ib+1) j-eN x j:=by funext j;omega
    rw [e]
  rw [e1,e2]
  have e3:=Jr (upd W ib (fun j=>eN (ib+1) j-eN a j)) hib 1 (fun i=>if l (i+1)=ib+1 then 1 else 0) n (Ko _)
  rw [Int.one_pow,V5] at e3
  rw [← e3]
  refine Qp fun i j hi hj=>?_
  rw [qN]
  by_cases c:i=ib
  ·subst c
   rw [if_neg (by omega),qN]
   unfold tabN
   have t:tieN l a (i+1) (i+1)=a:=if_pos fb
   rw [t,if_neg ne]
  ·rw [if_pos ⟨c,hi⟩,qp _ c]
   show 1*W i j+(if l (i+1)=ib+1 then 1 else 0)*(eN (ib+1) j-eN a j)=_
   by_cases d:i+1=a
   ·have g:l (i+1)=a:=by rw [d,fa]
    have t:tieN l a (ib+1) (i+1)=i+1:=by unfold tieN;rw [g,if_neg ne,d]
    rw [w2 i d,if_neg (by omega)]
    unfold tabN
    rw [t,if_pos rfl,Ys ne,if_pos d]
    show 1*(rowN l ps a j+rowN l ps (ib+1) j)+_=_
    omega
   ·rw [w1 i d c]
    unfold tabN
    by_cases g:l (i+1)=i+1
    ·have t:tieN l a (ib+1) (i+1)=i+1:=by unfold tieN;rw [g,if_neg (by omega)]
     rw [if_pos g,t,if_pos rfl,Ys ne,if_neg d,if_neg (by omega),if_neg (by omega)];omega
    ·rw [if_neg g]
     by_cases f:l (i+1)=ib+1
     ·have t:tieN l a (ib+1) (i+1)=a:=if_pos f
      rw [t,if_neg (KN d),if_pos f,f];omega
     ·have t:tieN l a (ib+1) (i+1)=l (i+1):=if_neg f
      rw [t,if_neg g,if_neg f];omega
 by_cases a0:a=0
 ·
  have e:tabN l ((x,y)::ps)=upd (tabN l ps) ib (fun j=>rowN l ps (ib+1) j+(eN y j-eN x j)):=by
   funext i
   by_cases c:i=ib
   ·subst c;rw [qN,atb]
   ·rw [qp _ c,same i (by omega) c]
  rw [e,zM _ hib,← oldb,zX]
  congr 1
  exact goal _ (fun i _ c=>qp _ c) (fun i c=>by omega) (qN _ _ _)
 ·obtain ⟨ia,rfl⟩:∃ ia,a=ia+1:=⟨a-1,by omega⟩
  have hia:ia<n:=by omega
  have nab:ia≠ib:=by omega
  have olda:tabN l ps ia=rowN l ps (ia+1):=by unfold tabN;rw [if_pos fa]
  have ata:tabN l ((x,y)::ps) ia=fun j=>rowN l ps (ia+1) j+(eN x j-eN y j):=by
   unfold tabN
   rw [if_pos fa]
   funext j
   show (dN (ia+1) (l x)-dN (ia+1) (l y))*(eN x j-eN y j)+_=_
   unfold dN
   rw [ha,hb',if_pos rfl,if_neg (by omega)];omega
  have e:tabN l ((x,y)::ps)=upd (upd (tabN l ps) ia (fun j=>rowN l ps (ia+1) j+(eN x j-eN y j))) ib (fun j=>rowN l ps (ib+1) j+(eN y j-eN x j)):=by
   funext i
   by_cases c:i=ib
   ·subst c;rw [qN,atb]
   ·rw [qp _ c]
    by_cases d:i=ia
    ·subst d;rw [qN,ata]
    ·rw [qp _ d,same i (by omega) c]
  have g:=goal (upd (upd (tabN l ps) ia (fun j=>rowN l ps (ia+1) j+rowN l ps (ib+1) j)) ib (fun j=>eN y j-eN x j)) (fun i c d=>by rw [qp _ d,qp _ (by omega)]) (fun i c=>by
   have:i=ia:=by omega
   subst this
   rw [qp _ nab,qN]) (qN _ _ _)
  rw [← g,e,qaC _ hia hib nab,Z5 _ hia nab,Z5 _ hia nab,Z5 _ hia nab]
  have o1:upd (upd (tabN l ps) ia (fun j=>rowN l ps (ia+1) j)) ib (fun j=>rowN l ps (ib+1) j)=tabN l ps:=by
   have a1:(fun j=>rowN l ps (ia+1) j)=tabN l ps ia:=olda.symm
   have a2:(fun j=>rowN l ps (ib+1) j)=tabN l ps ib:=oldb.symm
   rw [a1,zX,a2,zX]
  show detN n (upd (upd (tabN l ps) ia (fun j=>rowN l ps (ia+1) j)) ib (fun j=>rowN l ps (ib+1) j))+detN n (upd (upd (tabN l ps) ia (fun j=>eN x j-eN y j)) ib (fun j=>rowN l ps (ib+1) j))+(detN n (upd (upd (tabN l ps) ia (fun j=>rowN l ps (ia+1) j)) ib (fun j=>eN y j-eN x j))+detN n (upd (upd (tabN l ps) ia (fun j=>eN x j-eN y j)) ib (fun j=>eN y j-eN x j)))=detN n (tabN l ps)+(detN n (upd (upd (tabN l ps) ia (fun j=>rowN l ps (ia+1) j)) ib (fun j=>eN y j-eN x j))+detN n (upd (upd (tabN l ps) ia (fun j=>rowN l ps (ib+1) j)) ib (fun j=>eN y j-eN x j)))
  rw [o1]
  have z:detN n (upd (upd (tabN l ps) ia (fun j=>eN x j-eN y j)) ib (fun j=>eN y j-eN x j))=0:=by
   have e1:(fun j=>eN y j-eN x j)=fun j=>-1*(eN x j-eN y j)+0*(eN x j-eN y j):=by funext j;omega
   rw [e1,Ze _ hib,jD (M:=upd (upd (tabN l ps) ia (fun j=>eN x j-eN y j)) ib (fun j=>eN x j-eN y j)) hia hib nab (by rw [qN,qp _ nab,qN])]
   rfl
  have sw:detN n (upd (upd (tabN l ps) ia (fun j=>eN x j-eN y j)) ib (fun j=>rowN l ps (ib+1) j))=detN n (upd (upd (tabN l ps) ia (fun j=>rowN l ps (ib+1) j)) ib (fun j=>eN y j-eN x j)):=by
   rw [WK _ hia hib nab]
   have e1:(fun j=>eN y j-eN x j)=fun j=>-1*(eN x j-eN y j)+0*(eN x j-eN y j):=by funext j;omega
   rw [e1,Ze _ hib];omega
  rw [z,sw];omega
theorem QK {n:Nat}{ps:ai}(hp:InN (n+1) ps):∀ {l:aD},Lots (n+1) l->(qt (n+1) l ps:Int)=detN n (tabN l ps):=by
 induction ps with
 | nil=>intro l h;exact qbz h
 | cons p ps ih =>
  intro l h
  obtain ⟨x,y⟩:=p
  obtain ⟨hx,hy⟩:x<n+1/\y<n+1:=hp (x,y) (K0 ..)
  unfold qt
  by_cases c:l x=l y
  ·rw [if_pos c,Nat.add_zero,ih hp.tail h]
   refine Qp fun i j _ _=>?_
   unfold tabN
   by_cases d:l (i+1)=i+1
   ·rw [if_pos d,if_pos d]
    show _=(dN (i+1) (l x)-dN (i+1) (l y))*_+_
    rw [c,Int.sub_self,Xz,Int.zero_add]
   ·rw [if_neg d,if_neg d]
  ·rw [if_neg c]
   show ((qt (n+1) l ps+qt (n+1) (tieN l (l x) (l y)) ps:Nat):Int)=_
   by_cases d:l y=0
   ·have e:qt (n+1) (tieN l (l x) (l y)) ps=qt (n+1) (tieN l (l y) (l x)) ps:=QL hp.tail (by omega) fun u v _ _=>by rw [Qu,Qu];omega
    rw [e,qah,JQ h hy hx (KN c) (by omega),Int.natCast_add,ih hp.tail h,ih hp.tail (h.tie (h.lt y hy) (h.fix y hy) (KN c) (by omega))]
   ·rw [JQ h hx hy c d,Int.natCast_add,ih hp.tail h,ih hp.tail (h.tie (h.lt x hx) (h.fix x hx) c d)]
theorem JM {l:aD}{ps qs:ai}(h:ps.Perm qs):rowN l ps=rowN l qs:=by
 induction h with
 | nil=>rfl
 | cons p _ ih=>funext a j;unfold rowN;rw [ih]
 | swap p q ps=>funext a j;unfold rowN;unfold rowN;omega
 | trans _ _ a b=>exact a.trans b
theorem Lots.id (n:Nat):Lots n id:=⟨rfl,fun _ h=>h,fun _ _=>rfl⟩
theorem Ja {n:Nat}{ps qs:ai}(hp:InN (n+1) ps)(h:ps.Perm qs):qt (n+1) id ps=qt (n+1) id qs:=by
 have hq:InN (n+1) qs:=fun q m=>hp q (h.mem_iff.mpr m)
 have a:=QK hp (Lots.id (n+1))
 have b:=QK hq (Lots.id (n+1))
 have e:tabN id ps=tabN id qs:=by unfold tabN;rw [JM h]
 rw [e,← b] at a
 exact Int.ofNat.inj a
noncomputable def eP (p:ba):Ka:=.tuple [.int (p.1:Nat),.int (p.2:Nat)]
noncomputable def rowT (m:Nat)(f:aL):Ka:=.list ((Kf m).map fun j=>.int (f j))
def tbl (m:Nat)(T:ak):Ka:=.list ((Kf m).map fun i=>rowT m (T i))
theorem jc {α:Type}(f:Nat->α){m i:Nat}(h:i<m):((Kf m).map f)[i]?=some (f i):=by
 rw [KW,List.getElem?_range h];rfl
theorem Wq {α:Type}(f:Nat->α){m i:Nat}(x:α):((Kf m).map f).set i x=(Kf m).map fun k=>if k=i then x else f k:=by
 refine Uq (by simp) fun k h1 h2=>?_
 rw [List.getElem_set,XA,XA,Ui]
 by_cases c:i=k
 ·rw [if_pos c,if_pos c.symm]
 ·rw [if_neg c,if_neg (KN c)]
theorem Qx {m i:Nat}(h:i<m):ixN m (i:Int)=some i:=by
 unfold ixN
 rw [if_pos (by omega),if_pos (by omega),KA]
def kauO (c k j y:aB)(h:aP)(i:Nat)(ρ:Rho):Option Out:=match c,k,j,y with
 | some c,some k,some j,some y=>ob (ZV c k) fun n=>ob (Jw c n) fun l=>ob (ixD l j) fun x=>ob (iiD (fun a b=>some (.int (h a b))) x y) fun z=>ob (setD l j z) fun l'=>some (.nx (ρ.set i (some (YQ c n l'))))
 | _,_,_,_=>none
theorem yz (i:Nat)(fk fj f:aa)(h:aP)(ρ:Rho):Yt i fk fj f h ρ=kauO (vr i ρ) (fk ρ) (fj ρ) (f ρ) h i ρ:=by
 unfold Yt kauO ob
 cases vr i ρ with
 | none=>rfl
 | some c =>
  cases fk ρ with
  | none=>rfl
  | some k =>
   cases fj ρ with
   | none =>
    dsimp only
    cases ZV c k with
    | none=>rfl
    | some n=>dsimp only;cases Jw c n<;>rfl
   | some j =>
    cases f ρ with
    | none =>
     dsimp only
     cases ZV c k with
     | none=>rfl
     | some n =>
      dsimp only
      cases Jw c n with
      | none=>rfl
      | some l=>dsimp only;cases ixD l j<;>rfl
    | some y=>rfl
def upT (T:ak)(i j:Nat)(v:Int):Nat->Nat->Int:=fun x y=>if x=i/\y=j then v else T x y
theorem qcP {m i j:Nat}(T:ak)(v:Int):VB (((Kf m).map fun i=>rowT m (T i)).set i (.list (((Kf m).map fun j=>Kh (T i j)).set j (.int v))))=tbl m (upT T i j v):=by
 rw [Wq,Wq]
 unfold tbl
 congr 1
 refine VD fun x _=>?_
 by_cases c:x=i
 ·subst c
  rw [if_pos rfl]
  unfold rowT
  congr 1
  refine VD fun y _=>?_
  unfold upT
  by_cases d:y=j
  ·rw [if_pos d,if_pos ⟨rfl,d⟩]
  ·rw [if_neg d,if_neg fun z=>d z.2]
 ·rw [if_neg c]
  congr 1
  funext y
  unfold upT
  rw [if_neg fun z=>c z.1]
theorem ZS {m i j:Nat}(hi:i<m)(hj:j<m)(T:ak)(h:aP)(v:Int)(ρ:Rho)(k:Nat):kauO (some (tbl m T)) (some (.int (i:Nat))) (some (.int (j:Nat))) (some (.int v)) h k ρ=some (.nx (ρ.set k (some (tbl m (upT T i j (h (T i j) v)))))):=by
 have h1:ZV (tbl m T) (.int (i:Nat))=some i:=by
  show ixN ((Kf m).map fun i=>rowT m (T i)).length _=_
  rw [Kg,Kq,Qx hi]
 have h2:Jw (tbl m T) i=some (rowT m (T i)):=jc (fun i=>rowT m (T i)) hi
 have h3:ixD (rowT m (T i)) (.int (j:Nat))=some (.int (T i j)):=by
  show atI ((Kf m).map fun j=>Kh (T i j)) _=_
  unfold atI
  rw [Kg,Kq,Qx hj]
  exact jc (fun j=>Kh (T i j)) hj
 have h4:setD (rowT m (T i)) (.int (j:Nat)) (.int (h (T i j) v))=some (.list (((Kf m).map fun j=>Kh (T i j)).set j (.int (h (T i j) v)))):=by
  show ob (ixN ((Kf m).map fun j=>Kh (T i j)).length _) _=_
  rw [Kg,Kq,Qx hj];rfl
 show ob (ZV (tbl m T) (.int (i:Nat))) _=_
 rw [h1,ob_s,h2,ob_s,h3,ob_s]
 show ob (some (Kh (h (T i j) v))) _=_
 rw [ob_s,h4,ob_s]
 show some (Out.nx (ρ.set k (some (VB (((Kf m).map fun i=>rowT m (T i)).set i (.list (((Kf m).map fun j=>Kh (T i j)).set j (.int (h (T i j) v)))))))) )=_
 rw [qcP]
theorem ixP0 (p:ba):ixD (eP p) (.int 0)=some (.int (p.1:Nat)):=rfl
theorem ixP1 (p:ba):ixD (eP p) (.int 1)=some (.int (p.2:Nat)):=rfl
theorem qeo {m:Nat}{p:ba}(h1:p.1<m+1)(h2:p.2<m+1)(T:ak)(o0 o1 o4 o5:aB) :
  ∃ o4' o5',QS [o0,o1,some (tbl m T),some (eP p),o4,o5]=some (.nx [o0,o1,some (tbl m (fun i j=>(dN (i+1) p.1-dN (i+1) p.2)*(eN p.1 j-eN p.2 j)+T i j)),some (eP p),o4',o5']):=by
 obtain ⟨x,y⟩:=p
 have h1:x<m+1:=h1
 have h2:y<m+1:=h2
 have key:∀ (T':ak),(∀ i j,i<m->j<m->T' i j=(dN (i+1) x-dN (i+1) y)*(eN x j-eN y j)+T i j)->tbl m T'=tbl m (fun i j=>(dN (i+1) x-dN (i+1) y)*(eN x j-eN y j)+T i j):=fun T' h=>by
  unfold tbl
  congr 1
  refine VD fun i hi=>?_
  unfold rowT
  congr 1
  refine VD fun j hj=>?_
  rw [h i j (KS.mp hi) (KS.mp hj)]
 by_cases cx:x=0
 ·subst cx
  by_cases cy:y=0
  ·subst cy
   refine ⟨some (.int (-1)),some (.int (-1)),?_⟩
   have g1:decide ((0:Int)<=((0:Nat):Int)-1)=false:=by decide
   simp_arith [ixP0,ixP1,g1]
   rw [key T fun i j _ _=>by rw [Int.sub_self,Xz,Int.zero_add]]
  ·obtain ⟨b,rfl⟩:∃ b,y=b+1:=⟨y-1,by omega⟩
   have eb:(((b+1:Nat):Int))-1=(b:Nat):=by omega
   have ez:((0:Nat):Int)-1=-1:=rfl
   have g1:decide ((0:Int) <= -1)=false:=by decide
   have g2:decide ((0:Int)<=(b:Nat))=true:=by simp
   have k1:=fun T' ρ=>ZS (m:=m) (i:=b) (j:=b) (by omega) (by omega) T' (fun i j=>i+j) 1 ρ 2
   refine ⟨some (.int (b:Nat)),some (.int (-1)),?_⟩
   simp_arith [ixP0,ixP1,g1,g2,eb,ez,yz,k1]
   rw [key (upT T b b (T b b+1)) fun i j _ _=>by
    unfold upT dN eN
    by_cases a1:i=b<;>by_cases a2:j=b<;>simp [a1,a2]<;>omega]
 ·obtain ⟨a,rfl⟩:∃ a,x=a+1:=⟨x-1,by omega⟩
  have ea:(((a+1:Nat):Int))-1=(a:Nat):=by omega
  have ga:decide ((0:Int)<=(a:Nat))=true:=by simp
  have k1:=fun T' ρ=>ZS (m:=m) (i:=a) (j:=a) (by omega) (by omega) T' (fun i j=>i+j) 1 ρ 2
  by_cases cy:y=0
  ·subst cy
   have ez:((0:Nat):Int)-1=-1:=rfl
   have g1:decide ((0:Int) <= -1)=false:=by decide
   refine ⟨some (.int (-1)),some (.int (a:Nat)),?_⟩
   simp_arith [ixP0,ixP1,g1,ga,ea,ez,yz,k1]
   rw [key (upT T a a (T a a+1)) fun i j _ _=>by
    unfold upT dN eN
    by_cases a1:i=a<;>by_cases a2:j=a<;>simp [a1,a2]<;>omega]
  ·obtain ⟨b,rfl⟩:∃ b,y=b+1:=⟨y-1,by omega⟩
   have eb:(((b+1:Nat):Int))-1=(b:Nat):=by omega
   have gb:decide ((0:Int)<=(b:Nat))=true:=by simp
   have k2:=fun T' ρ=>ZS (m:=m) (i:=b) (j:=b) (by omega) (by omega) T' (fun i j=>i+j) 1 ρ 2
   have k3:=fun T' ρ=>ZS (m:=m) (i:=a) (j:=b) (by omega) (by omega) T' (fun i j=>i-j) 1 ρ 2
   have k4:=fun T' ρ=>ZS (m:=m) (i:=b) (j:=a) (by omega) (by omega) T' (fun i j=>i-j) 1 ρ 2
   refine ⟨some (.int (b:Nat)),some (.int (a:Nat)),?_⟩
   simp_arith [ixP0,ixP1,ga,gb,ea,eb,yz,k1,k2,k3,k4]
   rw [key _ fun i j _ _=>?_]
   ·unfold upT dN eN
    by_cases a5:a=b
    ·subst a5
     by_cases a1:i=a<;>by_cases a2:j=a<;>simp [a1,a2]
    ·have a6:b≠a:=KN a5
     by_cases a1:i=a
     ·subst a1
      by_cases a2:j=i
      ·subst a2;simp [a5,a6]<;>omega
      ·by_cases a4:j=b
       ·subst a4;simp [a5,a6]<;>omega
       ·simp [a2,a4,a5,a6]
     ·by_cases a3:i=b
      ·subst a3
       by_cases a2:j=a
       ·subst a2;simp [a5,a6]<;>omega
       ·by_cases a4:j=i
        ·subst a4;simp [a5,a6]<;>omega
        ·simp [a2,a4,a5,a6]
      ·simp [a1,a3]
theorem yP {α:Type}(enc:α->Ka){k:Nat}{g:af}{te:aa}{ρ:Rho}(f:α->Ka)(as:List α)(h:∀ a∈as,ob (g (enc a) (ρ++Kl k none)) te=some (f a)):zA k g tT te ρ (as.map enc)=some (as.map f):=by
 induction as with
 | nil=>rfl
 | cons a as ih =>
  obtain ⟨ρ1,e1,e2⟩:=qd (h a (.head _))
  rw [KF,wY,e1,wQ]
  show yO (some true) _ _=_
  rw [wN,e2,ih fun x hx=>h x (.tail _ hx)]
  rfl
theorem qab (m:Nat):rngL 0 m=(Kf m).map fun k:Nat=>Kh (k:Nat):=Qe m
theorem qcO {m:Nat}(hm:m<=30){ps:ai}(hp:InN (m+1) ps):Qq [.int ((m+1:Nat):Int),.list (ps.map eP)]=some (tbl m (fun i j=>rowN id ps (i+1) j)):=by
 have em:(((m+1:Nat):Int))-1=(m:Nat):=by omega
 have hrep:repD (.list [.int 0]) (.int (m:Nat))=some (rowT m fun _=>0):=by
  show (if _ then some (VB (Kl ((m:Nat):Int).toNat [Kh 0]).flatten) else none)=_
  rw [if_pos (by rw [KA,KQ];omega),KA]
  unfold rowT
  congr 2
  refine Uq (by simp) fun k h1 h2=>?_
  simp
 have hv:wZ 6 1 (evR (aC (ev2 (vr 0) (kd (.int 1)) subD) aN) zj) (gNm 6) tT (ev2 (evA (aC (kd (.int 0)) aN) lstD) (ev2 (vr 0) (kd (.int 1)) subD) repD) [some (.int ((m+1:Nat):Int)),some (.list (ps.map eP)),none,none,none,none]=some (tbl m fun _ _=>0):=by
  have hc:zA 1 (gNm 6) tT (ev2 (evA (aC (kd (.int 0)) aN) lstD) (ev2 (vr 0) (kd (.int 1)) subD) repD) [some (.int ((m+1:Nat):Int)),some (.list (ps.map eP)),none,none,none,none] ((Kf m).map fun k:Nat=>Kh (k:Nat))=some ((Kf m).map fun _=>rowT m fun _=>0) :=
   yP (fun k:Nat=>Kh (k:Nat)) _ (Kf m) fun a _=>by simp_arith [em,hrep]
  have hr:(if (-1000:Int)<=((m:Nat):Int)/\((m:Nat):Int)<=1000 then some (rngL 0 (((m:Nat):Int)).toNat) else none)=some ((Kf m).map fun k:Nat=>Kh (k:Nat)):=by
   rw [if_pos (by omega),KA,qab]
  have hlen:((Kf m).map fun k:Nat=>Kh (k:Nat)).length<=1000:=by rw [Kg,Kq];omega
  have hg:Q6 6 1 (evR (aC (ev2 (vr 0) (kd (.int 1)) subD) aN) zj) (gNm 6) tT (ev2 (evA (aC (kd (.int 0)) aN) lstD) (ev2 (vr 0) (kd (.int 1)) subD) repD) [some (.int ((m+1:Nat):Int)),some (.list (ps.map eP)),none,none,none,none]=some (.list ((Kf m).map fun _=>rowT m fun _=>0)):=by
   simp_arith [em,hr,hlen,hc]
  show ob (Q6 6 1 _ (gNm 6) tT _ _) _=_
  rw [hg,ob_s]
  show (if ((Kf m).map fun _=>rowT m fun _=>0).all ZR=true then some (VB ((Kf m).map fun _=>rowT m fun _=>0)) else none)=_
  rw [if_pos (by rw [List.all_map];exact Vc.mpr fun _ _=>rfl)]
  rfl
 obtain ⟨ρ',el,T,o3,o4,o5,rfl,hT⟩:=yW eP (g:=gNm 3) (u:=QS)
  (fun done ρ=>∃ (T:ak) (o3 o4 o5:aB),ρ=[some (.int ((m+1:Nat):Int)),some (.list (ps.map eP)),some (tbl m T),o3,o4,o5]/\∀ i j,T i j=rowN id done (i+1) j) ps [some (.int ((m+1:Nat):Int)),some (.list (ps.map eP)),some (tbl m fun _ _=>0),none,none,none] ⟨_,none,none,none,rfl,fun _ _=>rfl⟩ (by
   rintro p hpm done ρ hdl ⟨T,o3,o4,o5,rfl,hT⟩
   obtain ⟨o4',o5',e⟩:=qeo (hp p hpm).1 (hp p hpm).2 T (some (.int ((m+1:Nat):Int))) (some (.list (ps.map eP))) o4 o5
   refine ⟨_,by show ob (gNm 3 _ _) _=_;exact e,_,some (eP p),o4',o5',rfl,fun i j=>?_⟩
   have pm:=JM (l:=id) (XZ (l₁:=done) (l₂:=[p]))
   rw [pm,hT]
   rfl)
 have eT:tbl m T=tbl m (fun i j=>rowN id ps (i+1) j):=by congr 1;funext i j;exact hT i j
 delta Qq Zy
 simp_arith [hv,el,eT]
theorem rngL1 (n:Nat):rngL 1 n=(Kf n).map fun k:Nat=>Kh ((k+1:Nat):Int):=by
 have:∀ (n m:Nat),rngL (m:Nat) n=(List.range' m n).map fun k=>Kh (k:Nat):=by
  intro n
  induction n with
  | zero=>intro m;rfl
  | succ n ih =>
   intro m
   rw [rngL,Xy,KF]
   congr 1
   exact ih (m+1)
 have e:=this n 1
 rw [XB,Vl] at e
 refine e.trans (VD fun k _=>?_)
 show Kh ((1+k:Nat):Int)=_
 rw [X6]
theorem cut1 (m:Nat)(f:Nat->Ka):sliD (.list ((Kf (m+1)).map f)) (some 1) none=some (.list ((Kf m).map fun i=>f (i+1))):=by
 show some (VB (cutD ((Kf (m+1)).map f) (some ((1:Nat):Int)) none))=_
 unfold cutD
 rw [HT.yx,HT.qbo,Kg,Kq]
 have e:min 1 (m+1)=1:=by omega
 rw [e]
 congr 2
 rw [UH,KF,List.drop_one,List.tail_cons,Vl,List.take_of_length_le (by rw [Kg,Kq];omega)]
 rfl
theorem jM {m j:Nat}(h:j<m)(f:aL):ixD (rowT m f) (.int (j:Nat))=some (.int (f j)):=by
 show atI ((Kf m).map fun j=>Kh (f j)) _=_
 unfold atI
 rw [Kg,Kq,Qx h]
 exact jc (fun j=>Kh (f j)) h
theorem YL {m i:Nat}(h:i<m)(T:ak):ixD (tbl m T) (.int (i:Nat))=some (rowT m (T i)):=by
 show atI ((Kf m).map fun i=>rowT m (T i)) _=_
 unfold atI
 rw [Kg,Kq,Qx h]
 exact jc (fun i=>rowT m (T i)) h
theorem YZ (A:ak)(k:Nat):mnr A k 0 0=detN (k+1) A:=by
 unfold mnr
 refine Qp fun i j hi hj=>?_
 have e:∀ x,x<k+1->(if x<k then x else k+0)=x:=fun x hx=>by
  by_cases c:x<k
  ·rw [if_pos c]
  ·rw [if_neg c];omega
 rw [e i hi,e j hj]
theorem qcd {A:ak}{B m k i j:Nat}(hB:∀ x y,x<m->y<m->(A x y).natAbs<=B)(hi:k+i<m)(hj:k+j<m):(mnr A k i j).natAbs<=fbN B (k+1):=by
 refine yR fun a b ha hb=>hB _ _ ?_ ?_
 ·split<;>omega
 ·split<;>omega
theorem YG {a x:Int}(ha:a≠0)(hb:a.natAbs<2 ^ 4000):jF (.int (a*x)) (.int a)=some (.int x):=by
 show (if wF (a*x) a then some (Kh ((a*x).fdiv a)) else none)=_
 have h:a.natAbs.log2<9000:=X7 ((Nat.log2_lt (by omega)).mpr hb) (by decide)
 rw [if_pos ⟨ha,h⟩,Int.mul_fdiv_cancel_left _ ha]
structure Elim (m:Nat)(A:ak):Prop where
 bd:∃ B,(∀ x y,x<m->y<m->(A x y).natAbs<=B)/\∀ k,k<m->fbN B (k+1)<2 ^ 4000
 zero:∀ k,k<m->detN (k+1) A=0->detN m A=0
theorem qb5 {n:Nat}(hn:n<=40){M N:ak}{a:Int}(ha:a≠0)(hab:a.natAbs<2 ^ 4000)(hM:∀ i j,i<n+1->j<n+1->(M i j).natAbs<2 ^ 4000)(hc:∀ i j,i<n->j<n->chio M i j=a*N i j){i:Nat}(hi:i<n)(o:aB) :
  (Qo 4 (evR (aC (kd (.int 1)) (aC (evA (aC (vr 3) aN) lenD) aN)) Zr) tT (ev2 (ev2 (ev2 (ev2 (vr 3) (vr 4) ixD) (vr 2) mulD) (ev2 (ev2 (vr 3) (kd (.int 0)) ixD) (ev2 (ev2 (vr 0) (kd (.int 0)) ixD) (vr 4) ixD) mulD) subD) (vr 1) jF)) [some (tbl (n+1) M),some (.int a),some (.int (M 0 0)),some (rowT (n+1) (M (i+1)))]=some (rowT n (N i)):=by
 have hl:((rowT (n+1) (M (i+1))))=.list ((Kf (n+1)).map fun j=>Kh (M (i+1) j)):=rfl
 have hlen:lenD [rowT (n+1) (M (i+1))]=some (.int ((n+1:Nat):Int)):=by
  rw [hl,YS,Kg,Kq]
 have hr:Zr [.int 1,.int ((n+1:Nat):Int)]=some ((Kf n).map fun k:Nat=>Kh ((k+1:Nat):Int)):=by
  show (if (-1000<=(1:Int)/\(1:Int)<=1000)/\(-1000<=((n+1:Nat):Int)/\((n+1:Nat):Int)<=1000) then some (rngL 1 (((n+1:Nat):Int)-1).toNat) else none)=_
  have e:(((n+1:Nat):Int)-1).toNat=n:=by omega
  rw [if_pos (by omega),e,rngL1]
 have i00:ixD (tbl (n+1) M) (.int 0)=some (rowT (n+1) (M 0)):=YL (i:=0) (by omega) M
 have ir0:ixD (rowT (n+1) (M (i+1))) (.int 0)=some (.int (M (i+1) 0)):=jM (j:=0) (by omega) _
 have hcomp:zc tT ((ev2 (ev2 (ev2 (ev2 (vr 3) (vr 4) ixD) (vr 2) mulD) (ev2 (ev2 (vr 3) (kd (.int 0)) ixD) (ev2 (ev2 (vr 0) (kd (.int 0)) ixD) (vr 4) ixD) mulD) subD) (vr 1) jF)) [some (tbl (n+1) M),some (.int a),some (.int (M 0 0)),some (rowT (n+1) (M (i+1)))] ((Kf n).map fun k:Nat=>Kh ((k+1:Nat):Int))=some ((Kf n).map fun j=>Kh (N i j)):=by
  refine zG (fun k:Nat=>Kh ((k+1:Nat):Int)) (fun j=>Kh (N i j)) (Kf n) fun j hj=>?_
  have hj:=KS.mp hj
  have i1:ixD (rowT (n+1) (M (i+1))) (.int ((j+1:Nat):Int))=some (.int (M (i+1) (j+1))):=jM (by omega) _
  have i2:ixD (rowT (n+1) (M 0)) (.int ((j+1:Nat):Int))=some (.int (M 0 (j+1))):=jM (by omega) _
  have m1:=Qy (Bd.ok (n:=4000) (m:=4000) (Bd.of (hM (i+1) (j+1) (by omega) (by omega))) (Bd.of (hM 0 0 (by omega) (by omega))))
  have m2:=Qy (Bd.ok (n:=4000) (m:=4000) (Bd.of (hM (i+1) 0 (by omega) (by omega))) (Bd.of (hM 0 (j+1) (by omega) (by omega))))
  have fd:jF (.int (M (i+1) (j+1)*M 0 0-M (i+1) 0*M 0 (j+1))) (.int a)=some (.int (N i j)):=by
   have e:M (i+1) (j+1)*M 0 0-M (i+1) 0*M 0 (j+1)=a*N i j:=hc i j hi hj
   rw [e,YG ha hab]
  simp_arith [i1,i2,i00,ir0,m1,m2,fd]
 have hz:((Kf n).map fun k:Nat=>Kh ((k+1:Nat):Int)).length<=1000:=by rw [Kg,Kq];omega
 simp_arith [-L2.Wo,-L2.YS,hlen,hr,hz,hcomp]
 rfl
theorem qdb {n:Nat}(hn:n<=40){M N:ak}{a:Int}(ha:a≠0)(hab:a.natAbs<2 ^ 4000)(hM:∀ i j,i<n+1->j<n+1->(M i j).natAbs<2 ^ 4000)(hc:∀ i j,i<n->j<n->chio M i j=a*N i j)(h0:M 0 0≠0)(o:aB) :
  qK [some (tbl (n+1) M),some (.int a),o]=some (.nx [some (tbl n N),some (.int (M 0 0)),some (.int (M 0 0))]):=by
 have i00:ixD (tbl (n+1) M) (.int 0)=some (rowT (n+1) (M 0)):=YL (i:=0) (by omega) M
 have ir0:ixD (rowT (n+1) (M 0)) (.int 0)=some (.int (M 0 0)):=jM (j:=0) (by omega) _
 have ne:(M 0 0==0)=false:=by rw [beq_eq_false_iff_ne];exact h0
 have hs:sliD (tbl (n+1) M) (some 1) none=some (.list ((Kf n).map fun i=>rowT (n+1) (M (i+1)))):=cut1 n _
 have hcomp:zc tT ((Qo 4 (evR (aC (kd (.int 1)) (aC (evA (aC (vr 3) aN) lenD) aN)) Zr) tT (ev2 (ev2 (ev2 (ev2 (vr 3) (vr 4) ixD) (vr 2) mulD) (ev2 (ev2 (vr 3) (kd (.int 0)) ixD) (ev2 (ev2 (vr 0) (kd (.int 0)) ixD) (vr 4) ixD) mulD) subD) (vr 1) jF))) [some (tbl (n+1) M),some (.int a),some (.int (M 0 0))] ((Kf n).map fun i=>rowT (n+1) (M (i+1)))=some ((Kf n).map fun i=>rowT n (N i)) :=
  zG (fun i=>rowT (n+1) (M (i+1))) (fun i=>rowT n (N i)) (Kf n) fun i hi=>qb5 hn ha hab hM hc (KS.mp hi) o
 have hz:((Kf n).map fun i=>rowT (n+1) (M (i+1))).length<=1000:=by rw [Kg,Kq];omega
 simp_arith [i00,ir0,ne,hs,hz,hcomp]
 rfl
theorem qeA {n:Nat}{M:ak}{a:Int}(h0:M 0 0=0)(o:aB):qK [some (tbl (n+1) M),some (.int a),o]=some (.rt (.int 0)):=by
 have i00:ixD (tbl (n+1) M) (.int 0)=some (rowT (n+1) (M 0)):=YL (i:=0) (by omega) M
 have ir0:ixD (rowT (n+1) (M 0)) (.int 0)=some (.int 0):=(jM (j:=0) (by omega) _).trans (by rw [h0])
 simp_arith [i00,ir0]
theorem qc3 (n:Nat)(T:ak)(o1 o2:aB):tW (vr 0) [some (tbl n T),o1,o2]=some (decide (n≠0)):=by
 show truD (tbl n T)=_
 show some (!((Kf n).map fun i=>rowT n (T i)).isEmpty)=_
 cases n with
 | zero=>rfl
 | succ n=>rw [UH];rfl
theorem qdA {m:Nat}(hm:m<=30){A:ak}(hA:Elim m A):∀ (d k fuel:Nat),k+d=m->d<fuel->detN k A≠0->Bar A k (mnr A k) (detN k A)->∀ o,∃ r,z7 (tW (vr 0)) (qK) fuel [some (tbl d (mnr A k)),some (.int (detN k A)),o]=some r/\(r=.rt (.int (detN m A))\/∃ o0 o2,r=.nx [o0,some (.int (detN m A)),o2]):=by
 obtain ⟨B,hB,hf⟩:=hA.bd
 intro d
 induction d with
 | zero =>
  intro k fuel hk hf0 _ _ o
  obtain ⟨f,rfl⟩:∃ f,fuel=f+1:=⟨fuel-1,by omega⟩
  have e:k=m:=by omega
  subst e
  refine ⟨.nx [some (tbl 0 (mnr A k)),some (.int (detN k A)),o],?_,.inr ⟨_,_,rfl⟩⟩
  show ob (tW (vr 0) _) _=_
  rw [qc3];rfl
 | succ d ih =>
  intro k fuel hk hf0 ha hbar o
  obtain ⟨f,rfl⟩:∃ f,fuel=f+1:=⟨fuel-1,by omega⟩
  have go:z7 (tW (vr 0)) (qK) (f+1) [some (tbl (d+1) (mnr A k)),some (.int (detN k A)),o]=ob (qK [some (tbl (d+1) (mnr A k)),some (.int (detN k A)),o]) fun r=>match r with
    | .nx ρ'=>z7 (tW (vr 0)) (qK) f ρ'
    | .ct ρ'=>z7 (tW (vr 0)) (qK) f ρ'
    | .bk ρ'=>some (.nx ρ')
    | .rt r=>some (.rt r):=by
   show ob (tW (vr 0) _) _=_
   rw [qc3,ob_s];rfl
  rw [go]
  have cor:=YZ A k
  by_cases c:detN (k+1) A=0
  ·rw [qeA (by rw [cor,c]),ob_s]
   exact ⟨_,rfl,.inl (by rw [hA.zero k (by omega) c])⟩
  ·have st:=hbar.step ha (by rw [cor];exact c)
   have ab:(detN k A).natAbs<2 ^ 4000:=by
    cases k with
    | zero=>show (1:Int).natAbs<_;exact Nat.one_lt_two_pow (by decide)
    | succ k=>exact Uw (yR fun i j hi hj=>hB i j (by omega) (by omega)) (hf k (by omega))
   have hM:∀ i j,i<d+1->j<d+1->(mnr A k i j).natAbs<2 ^ 4000:=fun i j hi hj=>Uw (qcd hB (by omega) (by omega)) (hf k (by omega))
   rw [qdb (n:=d) (by omega) ha ab hM (fun i j _ _=>st.1 i j) (by rw [cor];exact c),ob_s,cor]
   have b2:=st.2
   rw [cor] at b2
   exact ih (k+1) f (by omega) (by omega) c b2 _
theorem qdE {m:Nat}(hm:m<=30){A:ak}(hA:Elim m A):zP [tbl m A]=some (.int (detN m A)):=by
 have e0:mnr A 0=A:=by
  funext i j
  exact ((bar0 A).at i j).symm
 have b0:Bar A 0 (mnr A 0) (detN 0 A):=by rw [e0];exact bar0 A
 obtain ⟨r,e,h⟩:=qdA hm hA m 0 1000000 (by omega) (by omega) (by show (1:Int)≠0;decide) b0 none
 rw [e0] at e
 have e:j6 (tW (vr 0)) (qK) [some (tbl m A),some (.int 1),none]=some r:=e
 delta zP Q4
 simp_arith []
 rw [e]
 rcases h with rfl|⟨o0,o2,rfl⟩
 ·simp_arith []
 ·simp_arith []
theorem qaE:∀ k,k<30->fbN 64 (k+1)<2 ^ 4000:=by decide +kernel
theorem qbm (l:aD)(ps:ai)(a j:Nat):(rowN l ps a j).natAbs<=ps.length:=by
 induction ps with
 | nil=>exact Ko 0
 | cons p ps ih =>
  have c:((dN a (l p.1)-dN a (l p.2))*(eN p.1 j-eN p.2 j)).natAbs<=1:=by
   have z:∀ (q r:Prop) [Decidable q] [Decidable r],((if q then (1:Int) else 0)-(if r then 1 else 0))=0\/((if q then (1:Int) else 0)-(if r then 1 else 0))=1\/((if q then (1:Int) else 0)-(if r then 1 else 0))=-1:=fun q r _ _=>by
    by_cases h1:q<;>by_cases h2:r<;>simp [h1,h2]
   have z1:dN a (l p.1)-dN a (l p.2)=0\/dN a (l p.1)-dN a (l p.2)=1\/dN a (l p.1)-dN a (l p.2)=-1:=z _ _
   have z2:eN p.1 j-eN p.2 j=0\/eN p.1 j-eN p.2 j=1\/eN p.1 j-eN p.2 j=-1:=z _ _
   rcases z1 with h|h|h<;>rcases z2 with g|g|g<;>rw [h,g]<;>decide
  have d:=Int.natAbs_add_le ((dN a (l p.1)-dN a (l p.2))*(eN p.1 j-eN p.2 j)) (rowN l ps a j)
  show (_+rowN l ps a j).natAbs<=_
  rw [Kk]
  omega
theorem yH (ps:ai):tabN id ps=fun i j=>rowN id ps (i+1) j:=by
 funext i
 exact if_pos rfl
noncomputable def cap (k v:Nat):Nat:=if v<=k then v else 0
theorem qbn {k v j:Nat}(hv:v+1<=k)(hj:j+1<=k)(ps:ai):rowN id (mapP (cap k) ps) (v+1) j=rowN id ps (v+1) j:=by
 have d:∀ x,dN (v+1) (cap k x)=dN (v+1) x:=fun x=>by
  unfold dN cap
  by_cases h:x<=k
  ·rw [if_pos h]
  ·rw [if_neg h,if_neg (by omega),if_neg (by omega)]
 have e:∀ x,eN (cap k x) j=eN x j:=fun x=>by
  unfold eN cap
  by_cases h:x<=k
  ·rw [if_pos h]
  ·rw [if_neg h,if_neg (by omega),if_neg (by omega)]
 induction ps with
 | nil=>rfl
 | cons p ps ih =>
  show (dN (v+1) (cap k p.1)-dN (v+1) (cap k p.2))*(eN (cap k p.1) j-eN (cap k p.2) j)+rowN id (mapP (cap k) ps) (v+1) j=(dN (v+1) p.1-dN (v+1) p.2)*(eN p.1 j-eN p.2 j)+rowN id ps (v+1) j
  rw [d,d,e,e,ih]
theorem qde {m:Nat}(hm:m<=30){ps:ai}(hp:InN (m+1) ps)(hl:ps.length<=64):Elim m (tabN id ps):=by
 refine ⟨⟨64,fun x y _ _=>?_,fun k hk=>qaE k (by omega)⟩,fun k hk h=>?_⟩
 ·rw [yH]
  exact K7 (qbm id ps (x+1) y) hl
 ·have hq:InN (k+2) (mapP (cap (k+1)) ps):=fun q hq=>by
   obtain ⟨p,_,rfl⟩:=V8.mp hq
   unfold cap
   refine ⟨?_,?_⟩
   ·show (if _ then _ else _)<_
    split<;>omega
   ·show (if _ then _ else _)<_
    split<;>omega
  have a:=QK (n:=k+1) hq (Lots.id (k+2))
  have b:detN (k+1) (tabN id (mapP (cap (k+1)) ps))=detN (k+1) (tabN id ps):=by
   rw [yH,yH]
   exact Qp fun i j hi hj=>qbn (by omega) (by omega) ps
  rw [b,h] at a
  have a:qt (k+2) id (mapP (cap (k+1)) ps)=0:=Int.ofNat.inj a
  rw [je (n:=m+1) (f:=cap (k+1)) (fun v hv=>by unfold cap;split<;>omega) (fun w hw=>⟨w,by omega,by unfold cap;rw [if_pos (by omega)]⟩) (by omega) ps hp] at a
  have c:=wA hp (by omega) (l:=id) (l':=fun v=>id (cap (k+1) v)) (fun u v _ _ e=>by
   have e:u=v:=e
   rw [e]) a
  have d:=QK hp (Lots.id (m+1))
  rw [← d,c];rfl
theorem qbW {m:Nat}(hm:m<=30){ps:ai}(hp:InN (m+1) ps)(hl:ps.length<=64):zE [.int ((m+1:Nat):Int),.list (ps.map eP)]=some (.int (qt (m+1) id ps:Nat)):=by
 have t:=qcO hm hp
 rw [← yH] at t
 have e:=qdE hm (qde hm hp hl)
 rw [← QK hp (Lots.id (m+1))] at e
 delta zE QD
 simp_arith [t,e]
theorem J6 (ps:ai):Uh (.list (ps.map eP)) (.list (ps.map eP))=true/\Vz (.list (ps.map eP))=true:=by
 refine ⟨?_,?_⟩
 ·induction ps with
  | nil=>rfl
  | cons p ps ih =>
   have:Uh (.list ((p::ps).map eP)) (.list ((p::ps).map eP))=(Uh (eP p) (eP p)&&Uh (.list (ps.map eP)) (.list (ps.map eP))):=rfl
   rw [this,ih,Bool.and_true]
   show (((p.1:Nat):Int)==((p.1:Nat):Int)&&(((p.2:Nat):Int)==((p.2:Nat):Int)&&true))=true
   rw [beq_self_eq_true,beq_self_eq_true];rfl
 ·have e:ps.map eP=(ps.map fun p=>[((p.1:Nat):Int),((p.2:Nat):Int)]).map fun xs=>.tuple (xs.map .int):=by rw [Vl];rfl
  have h:Kn (ps.map eP)=true/\KB (ps.map eP)<=1:=by rw [e];exact jy _
  have h2:V7 (.list (ps.map eP))=KB (ps.map eP)+1:=rfl
  unfold Vz
  rw [h2,Kt]
  exact ⟨h.1,decide_eq_true (by omega)⟩
theorem qbA {m:Nat}(hm:m<=30){ps:ai}(hp:InN (m+1) ps)(hl:ps.length<=64):zm [.int ((m+1:Nat):Int),.list (ps.map eP)]=some (.int (qt (m+1) id ps:Nat)):=by
 have c:=qbW hm hp hl
 have n:neD (.list (ps.map eP)) (.list (ps.map eP))=some (.bool false):=by
  unfold neD
  rw [if_pos ⟨(J6 ps).2,(J6 ps).2⟩,(J6 ps).1];rfl
 have w:zO [.int (qt (m+1) id ps:Nat)]=some (.bool true):=by
  delta zO Q3
  simp_arith []
 delta zm Zj
 simp_arith [c,n,w]
theorem zq (n:Nat)(l:aD)(p:ba)(ps:ai):qt n l (p::ps)=qt n l ps+if l p.1=l p.2 then 0 else qt n (tieN l (l p.1) (l p.2)) ps:=by
 rw [qt]
theorem Yz {n:Nat}(h0:0<n){ps:ai}(hp:InN n ps):∀ {l:aD},(∀ u,u<n->l u≠l n)->qt (n+1) l ps=0:=by
 induction ps with
 | nil =>
  intro l h
  unfold qt
  rw [if_neg fun c=>h 0 h0 (c n (by omega)).symm]
 | cons p ps ih =>
  intro l h
  have h1:=hp p (.head _)
  rw [zq,ih hp.tail h,Ux]
  by_cases c:l p.1=l p.2
  ·rw [if_pos c]
  ·rw [if_neg c,ih hp.tail fun u hu e=>?_]
   rcases Qu.mp e with e|⟨_,e⟩
   ·exact h u hu e
   ·rcases e with e|e
    ·exact h _ h1.1 e.symm
    ·exact h _ h1.2 e.symm
theorem InN.up {n:Nat}{ps:ai}(h:InN n ps):InN (n+1) ps:=fun p hp=>⟨Ul (h p hp).1,Ul (h p hp).2⟩
theorem InN.app {n:Nat}{ps qs:ai}(h:InN n ps)(g:InN n qs):InN n (ps++qs):=fun p hp=>(Vy.mp hp).elim (h p) (g p)
theorem yI {n n' w:Nat}(hw:w<n')(h0:0<n){ps:ai}(hp:InN n ps):∀ {l:aD},(∀ u,u<n->l u≠l w)->qt n' l ps=0:=by
 induction ps with
 | nil =>
  intro l h
  unfold qt
  rw [if_neg fun c=>h 0 h0 (c w hw).symm]
 | cons p ps ih =>
  intro l h
  have h1:=hp p (.head _)
  rw [zq,ih hp.tail h,Ux]
  by_cases c:l p.1=l p.2
  ·rw [if_pos c]
  ·rw [if_neg c,ih hp.tail fun u hu e=>?_]
   rcases Qu.mp e with e|⟨_,e⟩
   ·exact h u hu e
   ·rcases e with e|e
    ·exact h _ h1.1 e.symm
    ·exact h _ h1.2 e.symm
noncomputable def emb (n v:Nat):Nat->Nat
 | 0=>v
 | i+1=>n+i
noncomputable def idxB (n v u:Nat):Nat:=if u=v then 0 else u-n+1
def zQ (n m v:Nat)(k:aD)(u:Nat):Nat:=if u=v\/n<=u then n+m+k (idxB n v u) else u
theorem Zg {n m v:Nat}(hv:v<n)(k:aD)(a:Nat):zQ n m v k (emb n v a)=n+m+k a:=by
 unfold zQ
 cases a with
 | zero =>
  show (if v=v\/n<=v then n+m+k (idxB n v v) else v)=_
  rw [if_pos (.inl rfl)]
  unfold idxB
  rw [if_pos rfl]
 | succ a =>
  show (if n+a=v\/n<=n+a then n+m+k (idxB n v (n+a)) else n+a)=_
  rw [if_pos (.inr (by omega))]
  unfold idxB
  rw [if_neg (by omega)]
  congr 2
  omega
theorem qaQ {n m v:Nat}(hv:v<n)(k:aD)(a b:Nat):tieN (zQ n m v k) (zQ n m v k (emb n v a)) (zQ n m v k (emb n v b))=zQ n m v (tieN k (k a) (k b)):=by
 rw [Zg hv,Zg hv]
 funext u
 unfold tieN zQ
 by_cases c:u=v\/n<=u
 ·rw [if_pos c,if_pos c]
  show _=n+m+if k (idxB n v u)=k b then k a else k (idxB n v u)
  by_cases d:k (idxB n v u)=k b
  ·rw [if_pos (by omega),if_pos d]
  ·rw [if_neg (by omega),if_neg d]
 ·rw [if_neg c,if_neg c,if_neg (by omega)]
theorem YB {n m v:Nat}(hv:v<n){ps:ai}(hp:InN n ps){cp:ai}(hc:InN (m+1) cp):∀ k:Nat->Nat,qt (n+m) (zQ n m v k) (mapP (emb n v) cp++ps)=qt (m+1) k cp*qt n id ps:=by
 have hp2:InN (n+m) ps:=fun p h=>⟨Ku (hp p h).1 (by omega),Ku (hp p h).2 (by omega)⟩
 induction cp with
 | nil =>
  intro k
  have nil:qt (m+1) k []=if (∀ w,w<m+1->k w=k 0) then 1 else 0:=by rw [qt]
  show qt (n+m) (zQ n m v k) ps=_
  rw [nil]
  by_cases c:∀ w,w<m+1->k w=k 0
  ·rw [if_pos c,Nat.one_mul]
   have f1:mapP (fun u=>if u<n then u else v) ps=ps:=by
    unfold mapP
    conv=>rhs;rw [← List.map_id ps]
    refine VD fun p h=>?_
    have:=hp p h
    show ((if p.1<n then p.1 else v),(if p.2<n then p.2 else v))=id p
    rw [if_pos this.1,if_pos this.2];rfl
   have e:=je (n:=n+m) (m:=n) (f:=fun u=>if u<n then u else v) (fun u _=>by
    show (if u<n then u else v)<n
    split<;>omega) (fun w hw=>⟨w,by omega,by show (if w<n then w else v)=w;rw [if_pos hw]⟩) (by omega) ps hp2 id
   rw [f1] at e
   refine Eq.trans (QL hp2 (by omega) fun u w hu hw=>?_) e.symm
   show zQ n m v k u=zQ n m v k w↔(if u<n then u else v)=if w<n then w else v
   have idl:∀ x,x<n+m->(x=v\/n<=x)->k (idxB n v x)=k 0:=fun x hx h=>c _ (by unfold idxB;split<;>omega)
   unfold zQ
   by_cases c1:u=v\/n<=u
   ·rw [if_pos c1,idl u hu c1]
    by_cases c2:w=v\/n<=w
    ·rw [if_pos c2,idl w hw c2]
     refine ⟨fun _=>?_,fun _=>rfl⟩
     by_cases d1:u<n
     ·rw [if_pos d1]
      by_cases d2:w<n
      ·rw [if_pos d2];omega
      ·rw [if_neg d2];omega
     ·rw [if_neg d1]
      by_cases d2:w<n
      ·rw [if_pos d2];omega
      ·rw [if_neg d2]
    ·rw [if_neg c2,if_pos (c:=w<n) (by omega)]
     refine ⟨fun h=>by omega,fun h=>?_⟩
     by_cases d1:u<n
     ·rw [if_pos d1] at h;omega
     ·rw [if_neg d1] at h;omega
   ·rw [if_neg c1,if_pos (c:=u<n) (by omega)]
    by_cases c2:w=v\/n<=w
    ·rw [if_pos c2]
     refine ⟨fun h=>by omega,fun h=>?_⟩
     by_cases d1:w<n
     ·rw [if_pos d1] at h;omega
     ·rw [if_neg d1] at h;omega
    ·rw [if_neg c2,if_pos (c:=w<n) (by omega)]
  ·rw [if_neg c,Nat.zero_mul]
   obtain ⟨a,ha,ne⟩:∃ a,a<m+1/\k a≠k 0:=by
    refine V4 fun d=>c fun w hw=>?_
    exact V4 fun e=>d ⟨w,hw,e⟩
   have a0:a≠0:=fun z=>ne (by rw [z])
   refine yI (n:=n) (w:=emb n v a) (by
    obtain ⟨b,rfl⟩:∃ b,a=b+1:=⟨a-1,by omega⟩
    show n+b<n+m
    omega) (by omega) hp fun u hu=>?_
   rw [Zg hv]
   unfold zQ
   by_cases d:u=v\/n<=u
   ·rw [if_pos d]
    unfold idxB
    rw [if_pos (by omega)]
    omega
   ·rw [if_neg d];omega
 | cons p cp ih =>
  intro k
  show qt (n+m) (zQ n m v k) ((emb n v p.1,emb n v p.2)::(mapP (emb n v) cp++ps))=_
  rw [zq,zq,qaQ hv,ih hc.tail,ih hc.tail,Nat.add_mul]
  congr 1
  show (if zQ n m v k (emb n v p.1)=zQ n m v k (emb n v p.2) then 0 else _)=_
  rw [Zg hv,Zg hv]
  by_cases c:k p.1=k p.2
  ·rw [if_pos c,if_pos (by omega),Nat.zero_mul]
  ·rw [if_neg c,if_neg (by omega)]
theorem qaD {n m v:Nat}(hv:v<n){a:Nat}(ha:a<m+1):emb n v a<n+m:=by
 cases a with
 | zero=>show v<n+m;omega
 | succ a=>show n+a<n+m;omega
theorem InN.hung {n m v:Nat}(hv:v<n){cp:ai}(hc:InN (m+1) cp):InN (n+m) (mapP (emb n v) cp):=fun q h=>by
 obtain ⟨p,hp,rfl⟩:=V8.mp h
 exact ⟨qaD hv (hc p hp).1,qaD hv (hc p hp).2⟩
theorem InN.wide {n m:Nat}{ps:ai}(hp:InN n ps):InN (n+m) ps:=fun p h=>⟨Ku (hp p h).1 (by omega),Ku (hp p h).2 (by omega)⟩
theorem wz {n m v:Nat}(hv:v<n){ps:ai}(hp:InN n ps){cp:ai}(hc:InN (m+1) cp):qt (n+m) id (ps++mapP (emb n v) cp)=qt n id ps*qt (m+1) id cp:=by
 obtain ⟨r,hr⟩:∃ r,n+m=r+1:=⟨n+m-1,by omega⟩
 have h1:InN (n+m) (ps++mapP (emb n v) cp):=InN.app hp.wide (InN.hung hv hc)
 have e1:qt (n+m) id (ps++mapP (emb n v) cp)=qt (n+m) id (mapP (emb n v) cp++ps):=by
  rw [hr] at h1 ⊢
  exact Ja h1 XZ
 rw [e1,Nat.mul_comm,← YB hv hp hc id]
 refine QL (InN.app (InN.hung hv hc) hp.wide) (by omega) fun u w hu hw=>?_
 show u=w↔zQ n m v id u=zQ n m v id w
 unfold zQ idxB
 refine ⟨fun h=>by rw [h],fun h=>?_⟩
 by_cases c1:u=v\/n<=u
 ·rw [if_pos c1] at h
  by_cases c2:w=v\/n<=w
  ·rw [if_pos c2] at h
   have h:(if u=v then 0 else u-n+1)=(if w=v then 0 else w-n+1):=by
    have h:n+m+(if u=v then 0 else u-n+1)=n+m+(if w=v then 0 else w-n+1):=h
    omega
   by_cases d1:u=v
   ·rw [if_pos d1] at h
    by_cases d2:w=v
    ·omega
    ·rw [if_neg d2] at h;omega
   ·rw [if_neg d1] at h
    by_cases d2:w=v
    ·rw [if_pos d2] at h;omega
    ·rw [if_neg d2] at h;omega
  ·rw [if_neg c2] at h
   have h:n+m+(if u=v then 0 else u-n+1)=w:=h
   omega
 ·rw [if_neg c1] at h
  by_cases c2:w=v\/n<=w
  ·rw [if_pos c2] at h
   have h:u=n+m+(if w=v then 0 else w-n+1):=h
   omega
  ·rw [if_neg c2] at h;exact h
inductive FlipL:List (Nat×Nat)->List (Nat×Nat)->Prop
 | nil:FlipL [] []
 | same {p:ba} {ps qs:ai}:FlipL ps qs->FlipL (p::ps) (p::qs)
 | flip {p:ba} {ps qs:ai}:FlipL ps qs->FlipL (p::ps) ((p.2,p.1)::qs)
theorem FlipL.InN {n:Nat}{ps qs:ai}(h:FlipL ps qs)(hp:SF.InN n ps):SF.InN n qs:=by
 induction h with
 | nil=>exact hp
 | @same p ps qs _ ih=>intro q hq;rcases Ks.mp hq with rfl|hq;exact hp _ (.head _);exact ih hp.tail q hq
 | @flip p ps qs _ ih=>intro q hq;rcases Ks.mp hq with rfl|hq;exact ⟨(hp p (.head _)).2,(hp p (.head _)).1⟩;exact ih hp.tail q hq
theorem FlipL.len {ps qs:ai}(h:FlipL ps qs):qs.length=ps.length:=by
 induction h with
 | nil=>rfl
 | same _ ih=>rw [Kk,Kk,ih]
 | flip _ ih=>rw [Kk,Kk,ih]
theorem FlipL.snoc {ps qs:ai}{p q:ba}(h:FlipL ps qs)(e:q=p\/q=(p.2,p.1)):FlipL (ps++[p]) (qs++[q]):=by
 induction h with
 | nil=>rcases e with rfl|rfl;exact .same .nil;exact .flip .nil
 | same _ ih=>exact .same ih
 | flip _ ih=>exact .flip ih
theorem ww {n:Nat}(h0:0<n){ps qs:ai}(h:FlipL ps qs)(hp:SF.InN n ps):∀ l:Nat->Nat,qt n l qs=qt n l ps:=by
 induction h with
 | nil=>intro l;rfl
 | same _ ih=>intro l;rw [zq,zq,ih hp.tail,ih hp.tail]
 | @flip p ps qs _ ih =>
  intro l
  rw [zq,zq,ih hp.tail,ih hp.tail]
  congr 1
  show (if l p.2=l p.1 then 0 else qt n (tieN l (l p.2) (l p.1)) ps)=_
  by_cases c:l p.1=l p.2
  ·rw [if_pos c,if_pos c.symm]
  ·rw [if_neg c,if_neg (KN c)]
   exact QL hp.tail h0 fun u v _ _=>by rw [Qu,Qu];omega
theorem YC {n:Nat}(h0:0<n){f:aD}(hf:∀ v,v<n->f v<n)(hs:∀ w,w<n->∃ v,v<n/\f v=w)(hi:∀ u v,u<n->v<n->f u=f v->u=v){ps:ai}(hp:SF.InN n ps):qt n id (mapP f ps)=qt n id ps:=by
 rw [je hf hs h0 ps hp id]
 exact QL hp h0 fun u v hu hv=>⟨hi u v hu hv,fun h=>by show f u=f v;rw [show u=v from h]⟩
theorem Wf (x:Int)(k:Nat)(hk:k<64):∃ v:Int,qz [.int x,.int (k:Nat)]=some (.int v):=by
 have a1:=VU x (b:=1000000007) (by decide)
 have a2:=VJ x (b:=1000000007) (by decide)
 have b1:Bd 31 (x % 1000000007):=Bd.of (by omega)
 have b2:Bd 8 ((k:Int)+3):=Bd.of (by omega)
 have b3:Bd 8 ((k:Int)+1):=Bd.of (by omega)
 have b4:Bd 8 ((k:Int)+5):=Bd.of (by omega)
 have c1:Bd 16 48271:=Bd.of (by decide)
 have c2:Bd 17 69621:=Bd.of (by decide)
 have c3:Bd 16 40692:=Bd.of (by decide)
 have m1:=Qy (b1.ok b2)
 have m2:=Qy ((b1.mul b2).ok c1)
 have m3:=Qy (b3.ok b4)
 have m4:=Qy ((b3.mul b4).ok c2)
 have b5:Bd 31 ((x % 1000000007*((k:Int)+3)*48271+((k:Int)+1)*((k:Int)+5)*69621) % 2147483647):=by
  generalize x % 1000000007*((k:Int)+3)*48271+((k:Int)+1)*((k:Int)+5)*69621=z
  have:=VU z (b:=2147483647) (by decide)
  have:=VJ z (b:=2147483647) (by decide)
  exact Bd.of (by omega)
 have m5:=Qy (b5.ok c3)
 refine ⟨(x % 1000000007*((k:Int)+3)*48271+((k:Int)+1)*((k:Int)+5)*69621) % 2147483647*40692 % 2147483399,?_⟩
 delta qz Q0
 simp_arith [m1,m2,m3,m4,m5]
theorem Yg (x:Int):∃ mx:Nat->Int,∀ k,k<64->qz [.int x,.int (k:Nat)]=some (.int (mx k)):=by
 have h:∀ k:Nat,∃ v:Int,k<64->qz [.int x,.int (k:Nat)]=some (.int v):=fun k=>by
  by_cases hk:k<64
  ·obtain ⟨v,e⟩:=Wf x k hk;exact ⟨v,fun _=>e⟩
  ·exact ⟨0,fun z=>absurd z hk⟩
 exact ⟨fun k=>(h k).choose,fun k=>(h k).choose_spec⟩
def appO (l l2 k:aB)(i o:Nat)(ρ:Rho):Option Out:=match l,l2,k with
 | some l,some l2,some k=>ob (jb l2 k) fun r=>ob (appD l r.1) fun l'=>some (.nx ((ρ.set o (some r.2)).set i (some l')))
 | _,_,_=>none
theorem qad (i o:Nat)(fk:aa)(ρ:Rho):jt i o fk ρ=appO (vr i ρ) (vr o ρ) (fk ρ) i o ρ:=by
 unfold jt appO ob
 cases vr i ρ with
 | none=>rfl
 | some l =>
  cases vr o ρ with
  | none=>rfl
  | some l2=>cases fk ρ<;>rfl
theorem pop44 {α:Type}(enc:α->Ka){ls:List α}{k:Nat}{a:α}(h:ls[k]?=some a)(hl:ls.length<=900):jb (.list (ls.map enc)) (.int (k:Nat))=some (enc a,.list ((ls.eraseIdx k).map enc)):=by
 obtain ⟨hk,_⟩:=Kz.mp h
 show ob (if -1000<=((k:Nat):Int)/\((k:Nat):Int)<=1000 then seqIndex? ((k:Nat):Int) (ls.map enc).length else none) _=_
 rw [if_pos (by omega),Kg,U5 (by omega) (by omega),ob_s,KA]
 show ob ((ls.map enc)[k]?) _=_
 rw [KW,h]
 show some (enc a,VB ((ls.map enc).eraseIdx k))=_
 rw [V9,V9,Vx,List.map_take,List.map_drop]
theorem qbc {α:Type}{ls:List α}{k:Nat}{a:α}(h:ls[k]?=some a):ls.Perm (a::ls.eraseIdx k):=by
 obtain ⟨hk,e⟩:=Kz.mp h
 have:ls=ls.take k++a::ls.drop (k+1):=by
  conv=>lhs;rw [← List.take_append_drop k ls]
  congr 1
  rw [K9 hk,e]
 rw [V9]
 conv=>lhs;rw [this]
 exact List.perm_middle
theorem qdB {α:Type}(enc:α->Ka)(xs:List α)(hx:xs.length<=64)(o0 o1 o5:aB):∀ (d fuel:Nat) (ls fs:List α) (r:Int),ls.length=d->d<fuel->(fs++ls).Perm xs->
  ∃ (ys:List α) (r':Int),z7 (tV (ev2 (evA (aC (vr 3) aN) lenD) (kd (.int 0)) gtD)) qT fuel [o0,o1,some (.int r),some (.list (ls.map enc)),some (.list (fs.map enc)),o5]=some (.nx [o0,o1,some (.int r'),some (.list []),some (.list (ys.map enc)),o5])/\ys.Perm xs:=by
 intro d
 induction d with
 | zero =>
  intro fuel ls fs r hl hf hp
  obtain ⟨f,rfl⟩:∃ f,fuel=f+1:=⟨fuel-1,by omega⟩
  have e:ls=[]:=List.length_eq_zero_iff.mp hl
  subst e
  refine ⟨fs,r,?_,by rw [Vn] at hp;exact hp⟩
  rfl
 | succ d ih =>
  intro fuel ls fs r hl hf hp
  obtain ⟨f,rfl⟩:∃ f,fuel=f+1:=⟨fuel-1,by omega⟩
  have hpl:=hp.length_eq
  rw [Kv] at hpl
  have ht:(tV (ev2 (evA (aC (vr 3) aN) lenD) (kd (.int 0)) gtD)) [o0,o1,some (.int r),some (.list (ls.map enc)),some (.list (fs.map enc)),o5]=some true:=by
   have:decide ((0:Int)<((ls.length:Nat):Int))=true:=decide_eq_true (by omega)
   simp_arith [Kg,this]
  obtain ⟨p1,p2⟩:r % (ls.length:Int)=((r % (ls.length:Int)).toNat:Nat)/\(r % (ls.length:Int)).toNat<ls.length:=by
   have a:=VU r (b:=(ls.length:Int)) (by omega)
   have b:=VJ r (b:=(ls.length:Int)) (by omega)
   omega
  have hm:modD (.int r) (.int ((ls.length:Nat):Int))=some (.int (((r % (ls.length:Int)).toNat:Nat):Int)):=by rw [zT _ (by omega),← p1]
  generalize (r % (ls.length:Int)).toNat=k at *
  obtain ⟨a,ha⟩:∃ a,ls[k]?=some a:=⟨_,Kj p2⟩
  have hpop:=pop44 enc ha (by omega)
  have hz:(fs.map enc).length<1000:=by rw [Kg];omega
  have el:(ls.eraseIdx k).length=d:=by rw [List.length_eraseIdx,if_pos p2];omega
  have ap:∀ ρ,appO (some (.list (fs.map enc))) (some (.list (ls.map enc))) (some (.int (k:Nat))) 4 3 ρ=some (.nx ((ρ.set 3 (some (.list ((ls.eraseIdx k).map enc)))).set 4 (some (.list ((fs++[a]).map enc))))):=fun ρ=>by
   show ob (jb _ _) _=_
   rw [hpop,ob_s]
   show ob (if (fs.map enc).length<1000 then some (VB (fs.map enc++[enc a])) else none) _=_
   rw [if_pos hz,ob_s,Vx];rfl
  have fd:Zf (.int r) (.int (((ls.eraseIdx k).length:Nat)+1))=some (.int (r / (((ls.eraseIdx k).length:Nat)+1))):=jG r (by omega) (by omega)
  have hb:qT [o0,o1,some (.int r),some (.list (ls.map enc)),some (.list (fs.map enc)),o5]=some (.nx [o0,o1,some (.int (r / (((ls.eraseIdx k).length:Nat)+1))),some (.list ((ls.eraseIdx k).map enc)),some (.list ((fs++[a]).map enc)),o5]):=by
   simp_arith [-L2.zT,-L2.jG,qad,Kg,hm,ap,fd,qdg]
  have go:z7 (tV (ev2 (evA (aC (vr 3) aN) lenD) (kd (.int 0)) gtD)) qT (f+1) [o0,o1,some (.int r),some (.list (ls.map enc)),some (.list (fs.map enc)),o5]=z7 (tV (ev2 (evA (aC (vr 3) aN) lenD) (kd (.int 0)) gtD)) qT f [o0,o1,some (.int (r / (((ls.eraseIdx k).length:Nat)+1))),some (.list ((ls.eraseIdx k).map enc)),some (.list ((fs++[a]).map enc)),o5]:=by
   show ob (_) _=_
   rw [ht,ob_s,if_pos rfl,hb,ob_s]
  rw [go]
  refine ih f (ls.eraseIdx k) (fs++[a]) _ el (by omega) ?_
  rw [VW]
  exact (List.Perm.append_left fs (qbc ha).symm).trans hp
theorem Yx {α:Type}(enc:α->Ka)(d0:α)(os:List α)(h:os.length<64)(x:Int):∃ ps:List α,qX [.list (os.map enc),.int x]=some (.list (ps.map enc))/\ps.Perm os:=by
 by_cases odd:x % 2=1
 ·obtain ⟨ys,r',e,p⟩:=qdB enc os (by omega) (some (.list (os.map enc))) (some (.int x)) none os.length 1000000 os [] (x / 2) rfl (by omega) (List.Perm.refl _)
  have e:j6 (tV (ev2 (evA (aC (vr 3) aN) lenD) (kd (.int 0)) gtD)) qT [some (.list (os.map enc)),some (.int x),some (.int (x / 2)),some (.list (os.map enc)),some (.list []),none]=some (.nx [some (.list (os.map enc)),some (.int x),some (.int r'),some (.list []),some (.list (ys.map enc)),none]):=e
  refine ⟨ys,?_,p⟩
  have o:(x % 2==1)=true:=by rw [odd];rfl
  delta qX z9
  simp_arith [o,e]
 ·obtain ⟨mx,hm⟩:=Yg x
  have o:(x % 2==1)=false:=by rw [beq_eq_false_iff_ne];exact odd
  let nss:List (List Int):=(Kf os.length).map fun k=>[mx k,(k:Int)]
  obtain ⟨mss,es,p,_⟩:=yE (nss:=nss) (by show ((Kf os.length).map _).length<64;simpa using h) (by
   intro ns hn
   obtain ⟨k,_,rfl⟩:=V8.mp hn
   exact fun z=>by cases z)
  let gt:List Int->α:=fun m=>os.getD (m.getD 1 0).toNat d0
  have hr:zj [.int (((os.map enc).length:Nat):Int)]=some ((Kf os.length).map fun k=>Kh (k:Nat)):=by
   rw [zu,Kg,if_pos (by omega),KA,Qe]
  have hz1:((Kf os.length).map fun k=>Kh (k:Nat)).length<=1000:=by rw [Kg,Kq];omega
  have hml:mss.length=os.length:=by rw [p.length_eq];show ((Kf os.length).map _).length=_;simp
  have hz2:(mss.map tI).length<=1000:=by rw [Kg];omega
  have hc1:zc tT (evA (aC (evC 2 (aC (vr 1) (aC (vr 6) aN)) qz) (aC (vr 6) aN)) tupD) [some (.list (os.map enc)),some (.int x),none,none,none,none] ((Kf os.length).map fun k=>Kh (k:Nat))=some (nss.map tI):=by
   have:=zG (fun k:Nat=>Kh (k:Nat)) (te:=evA (aC (evC 2 (aC (vr 1) (aC (vr 6) aN)) qz) (aC (vr 6) aN)) tupD) (ρ:=[some (.list (os.map enc)),some (.int x),none,none,none,none]) (fun k=>tI [mx k,(k:Int)]) (Kf os.length) (fun k hk=>by
    have e:=hm k (by have:=KS.mp hk;omega)
    simp_arith [e]
    rfl)
   rw [this]
   show _=some (((Kf os.length).map fun k=>[mx k,(k:Int)]).map tI)
   rw [Vl]
   rfl
  have hc2:zc tT (ev2 (vr 0) (ev2 (vr 6) (kd (.int 1)) ixD) ixD) [some (.list (os.map enc)),some (.int x),none,none,none,some (.list (nss.map tI))] (mss.map tI)=some (mss.map fun m=>enc (gt m)):=by
   refine zG tI (fun m=>enc (gt m)) mss fun m hmm=>?_
   obtain ⟨k,hk,rfl⟩:=V8.mp (p.mem_iff.mp hmm)
   have hk':=KS.mp hk
   have e:atI (os.map enc) (k:Int)=some (enc (gt [mx k,(k:Int)])):=JX (by omega) (by
    show os[((k:Int)).toNat]?=some (os.getD ((k:Int)).toNat d0)
    rw [KA,K6,Kj hk']
    rfl)
   simp_arith [tI,e]
  refine ⟨mss.map gt,?_,?_⟩
  ·delta qX z9
   simp_arith [o,hr,hz1,hc1,es,hz2,hc2,Vl]
   rfl
  ·have q:=p.map gt
   have:nss.map gt=os:=by
    show ((Kf os.length).map fun k=>[mx k,(k:Int)]).map gt=os
    rw [Vl]
    refine Uq (by simp) fun i h1 h2=>?_
    rw [XA,Ui]
    show os.getD ((i:Int)).toNat d0=_
    rw [KA,K6,Kj h2];rfl
   rwa [this] at q
theorem qbN (ns:aQ):∃ cs:List Int,zr [.list (ns.map .int)]=some (.list (cs.map .int))/\cs.length<=60:=by
 obtain ⟨ms,hcut,hml⟩:=qdc ns (a:=2) (b:=62)
 have hcut:sliD (.list (ns.map .int)) (some 2) (some 62)=some (.list (ms.map .int)):=hcut
 have e2:=cell_eq ns 2 (by decide)
 by_cases odd:Qn ns 2 % 2=0
 ·have o:(Qn ns 2 % 2==0)=true:=by rw [odd];rfl
  have hm:∀ k:Nat,∃ v:Int,k<64->qz [.int (Qn ns (2+(k:Int))),.int (k:Nat)]=some (.int v):=fun k=>by
   by_cases hk:k<64
   ·obtain ⟨v,e⟩:=Wf (Qn ns (2+(k:Int))) k hk;exact ⟨v,fun _=>e⟩
   ·exact ⟨0,fun z=>absurd z hk⟩
  obtain ⟨cv,hcv⟩:∃ cv:Nat->Int,∀ k:Nat,k<64->qz [.int (Qn ns (2+(k:Int))),.int (k:Nat)]=some (.int (cv k)):=⟨fun k=>(hm k).choose,fun k=>(hm k).choose_spec⟩
  have hr60:zj [.int 60]=some ((Kf 60).map fun k:Nat=>Kh (k:Nat)):=by
   rw [← Qe];rfl
  have hc:zc tT (evC 2 (aC (evC 2 (aC (vr 0) (aC (ev2 (kd (.int 2)) (vr 2) qZ) aN)) qH) (aC (vr 2) aN)) qz) [some (.list (ns.map .int)),some (.list (ms.map .int))] ((Kf 60).map fun k:Nat=>Kh (k:Nat))=some (((Kf 60).map cv).map .int):=by
   rw [Vl]
   refine zG (fun k:Nat=>Kh (k:Nat)) _ (Kf 60) fun k hk=>?_
   have hk:=KS.mp hk
   have ce:=cell_eq ns (2+(k:Int)) (by omega)
   have me:=hcv k (by omega)
   simp_arith [ce,me]
   rfl
  have hz:((Kf 60).map fun k:Nat=>Kh (k:Nat)).length<=1000:=by rw [Kg,Kq];decide
  refine ⟨(Kf 60).map cv,?_,by rw [Kg,Kq];exact Ko _⟩
  delta zr Qj
  simp_arith [-L2.zu,hcut,e2,o,hr60,hz,hc]
 ·have o:(Qn ns 2 % 2==0)=false:=by rw [beq_eq_false_iff_ne];exact odd
  refine ⟨ms,?_,by omega⟩
  delta zr Qj
  simp_arith [hcut,e2,o]
theorem qau {n:Nat}{nm:ar}(hn:nm.length=n){ps:ai}(hp:InN n ps)(hl:ps.length<=60)(c:Int) :
  ∃ qs:List (Nat×Nat),zB [.list (ps.map eP),.list (nm.map fun v:Nat=>Kh (v:Nat)),.int c]=some (.list (qs.map eP))/\FlipL (mapP (fun v=>nm.getD v 0) ps) qs:=by
 obtain ⟨mx,hm⟩:=Yg c
 have ixn:∀ v,v<n->ixD (.list (nm.map fun v:Nat=>Kh (v:Nat))) (.int (v:Nat))=some (.int ((nm.getD v 0:Nat):Int)):=fun v hv=>by
  show atI (nm.map fun v:Nat=>Kh (v:Nat)) _=_
  unfold atI
  rw [Kg,hn,Qx hv]
  show (nm.map fun v:Nat=>Kh (v:Nat))[v]?=_
  rw [KW,K6,Kj (by omega)];rfl
 have hr:zj [.int (((ps.map eP).length:Nat):Int)]=some ((Kf ps.length).map fun k=>Kh (k:Nat)):=by
  rw [zu,Kg,if_pos (by omega),KA,Qe]
 obtain ⟨ρ',el,qs,r,o5,o6,o7,o8,rfl,hq⟩:=jH (fun k:Nat=>Kh (k:Nat)) (g:=gNm 5) (u:=Q5)
  (fun done ρ=>∃ (qs:ai) (r:Int) (o5 o6 o7 o8:aB),ρ=[some (.list (ps.map eP)),some (.list (nm.map fun v:Nat=>Kh (v:Nat))),some (.int c),some (.list (qs.map eP)),some (.int r),o5,o6,o7,o8]/\FlipL (mapP (fun v=>nm.getD v 0) (ps.take done.length)) qs) (Kf ps.length) [some (.list (ps.map eP)),some (.list (nm.map fun v:Nat=>Kh (v:Nat))),some (.int c),some (.list []),some (.int (c / 2)),none,none,none,none] ⟨[],_,none,none,none,none,rfl,.nil⟩ (by
   rintro k done rest ρ hall ⟨qs,r,o5,o6,o7,o8,rfl,hq⟩
   have hk:k=done.length/\k<ps.length:=by
    have a:(Kf ps.length)[done.length]?=some k:=by rw [hall];simp
    obtain ⟨h1,h2⟩:=Kz.mp a
    rw [Ui] at h2
    rw [Kq] at h1
    omega
   obtain ⟨rfl,hkl⟩:=hk
   obtain ⟨⟨a,b⟩,hab⟩:∃ p,ps[done.length]?=some p:=⟨_,Kj hkl⟩
   obtain ⟨ha,hb⟩:a<n/\b<n:=hp (a,b) (KO hab)
   have ix:ixD (.list (ps.map eP)) (.int (done.length:Nat))=some (eP (a,b)):=by
    show atI (ps.map eP) _=_
    unfold atI
    rw [Kg,Qx hkl]
    show (ps.map eP)[done.length]?=_
    rw [KW,hab];rfl
   have i1:=ixn a ha
   have i2:=ixn b hb
   have ex0:ixD (eP (a,b)) (.int 0)=some (.int (a:Nat)):=rfl
   have ex1:ixD (eP (a,b)) (.int 1)=some (.int (b:Nat)):=rfl
   have me:=hm done.length (by omega)
   have hlq:=hq.len
   have hz:(qs.map eP).length<1000:=by
    rw [Kg,hlq]
    unfold mapP
    rw [Kg,Up];omega
   have tk:ps.take (done++[done.length]).length=ps.take done.length++[(a,b)]:=by
    rw [Kv,KQ,List.take_succ,hab];rfl
   have mt:mapP (fun v=>nm.getD v 0) (ps.take (done++[done.length]).length)=mapP (fun v=>nm.getD v 0) (ps.take done.length)++[(nm.getD a 0,nm.getD b 0)]:=by rw [tk];unfold mapP;rw [Vx];rfl
   have two:∀ z:Int,z % 2=0\/z % 2=1:=fun z=>by omega
   have lst:∀ (q:Ka) (z:Int),(z % 2=0->q=eP (nm.getD a 0,nm.getD b 0))->(z % 2=1->q=eP (nm.getD b 0,nm.getD a 0))->ixD (.list [.tuple [.int ((nm.getD a 0:Nat):Int),.int ((nm.getD b 0:Nat):Int)],.tuple [.int ((nm.getD b 0:Nat):Int),.int ((nm.getD a 0:Nat):Int)]]) (.int (z % 2))=some q:=fun q z h0 h1=>by
    rcases two z with e|e
    ·rw [e,h0 e];rfl
    ·rw [e,h1 e];rfl
   have pick:∀ z:Int,∃ q:Nat×Nat,ixD (.list [.tuple [.int ((nm.getD a 0:Nat):Int),.int ((nm.getD b 0:Nat):Int)],.tuple [.int ((nm.getD b 0:Nat):Int),.int ((nm.getD a 0:Nat):Int)]]) (.int (z % 2))=some (eP q)/\(q=(nm.getD a 0,nm.getD b 0)\/q=(nm.getD b 0,nm.getD a 0)):=fun z=>by
    rcases two z with e|e
    ·exact ⟨(nm.getD a 0,nm.getD b 0),by rw [e];rfl,.inl rfl⟩
    ·exact ⟨(nm.getD b 0,nm.getD a 0),by rw [e];rfl,.inr rfl⟩
   rcases two c with oc|oc
   ·have o:(c % 2==1)=false:=by rw [oc];rfl
    obtain ⟨q,eq,hqq⟩:=pick (mx done.length / 8)
    refine ⟨_,by simp_arith [-L2.jL,-L2.qaK,ix,ex0,ex1,i1,i2,me,o,eq,hz];rfl,qs++[q],r / 2,some (.int (done.length:Nat)),_,_,_,by rw [Vx];rfl,?_⟩
    rw [mt]
    exact hq.snoc hqq
   ·have o:(c % 2==1)=true:=by rw [oc];rfl
    obtain ⟨q,eq,hqq⟩:=pick r
    refine ⟨_,by simp_arith [-L2.jL,-L2.qaK,ix,ex0,ex1,i1,i2,me,o,eq,hz];rfl,qs++[q],r / 2,some (.int (done.length:Nat)),_,_,_,by rw [Vx];rfl,?_⟩
    rw [mt]
    exact hq.snoc hqq)
 rw [Kq,List.take_length] at hq
 refine ⟨qs,?_,hq⟩
 delta zB QC
 simp_arith [-L2.zu,hr,el]
def thD (n v m:Nat):Ka:=.list ((Kf (m+1)).map fun i=>.int (emb n v i:Nat))
theorem lr44 (n m:Nat)(hn:n<=100)(hm:m<=10):lr2D [.int (n:Nat),.int (((n:Nat):Int)+((m:Nat):Int))]=some (.list ((Kf m).map fun i=>Kh ((n+i:Nat):Int))):=by
 show ob (if (-1000<=((n:Nat):Int)/\((n:Nat):Int)<=1000)/\(-1000<=((n:Nat):Int)+((m:Nat):Int)/\((n:Nat):Int)+((m:Nat):Int)<=1000) then some (rngL ((n:Nat):Int) (((n:Nat):Int)+((m:Nat):Int)-((n:Nat):Int)).toNat) else none) _=_
 have e:(((n:Nat):Int)+((m:Nat):Int)-((n:Nat):Int)).toNat=m:=by omega
 rw [if_pos (by omega),ob_s,e]
 have key:∀ (m n:Nat),rngL (n:Nat) m=(List.range' n m).map fun k=>Kh (k:Nat):=by
  intro m
  induction m with
  | zero=>intro n;rfl
  | succ m ih =>
   intro n
   rw [rngL,Xy,KF]
   congr 1
   exact ih (n+1)
 rw [key,XB,Vl];rfl
theorem th44 (n v m:Nat)(hm:m<=10):qZ (.list [.int (v:Nat)]) (.list ((Kf m).map fun i=>Kh ((n+i:Nat):Int)))=some (thD n v m):=by
 rw [wI _ _ (by rw [Kg,Kq,KQ];omega)]
 unfold thD
 rw [UH,KF,Vl];rfl
theorem We {n v m k:Nat}(h:k<m+1):ixD (thD n v m) (.int (k:Nat))=some (.int (emb n v k:Nat)):=by
 show atI ((Kf (m+1)).map fun i=>Kh (emb n v i:Nat)) _=_
 unfold atI
 rw [Kg,Kq,Qx h]
 exact jc (fun i=>Kh (emb n v i:Nat)) h
theorem qdt (n v m:Nat):ixD (thD n v m) (.int (-1))=some (.int (emb n v m:Nat)):=by
 show atI ((Kf (m+1)).map fun i=>Kh (emb n v i:Nat)) _=_
 unfold atI
 rw [Kg,Kq]
 have e:ixN (m+1) (-1)=some m:=by
  unfold ixN
  rw [if_neg (by decide)]
  have e2:(-1+((m+1:Nat):Int))=(m:Nat):=by omega
  first
   | rw [if_pos (by omega),e2,KA]
   | (rw [e2];simp)
 rw [e]
 exact jc (fun i=>Kh (emb n v i:Nat)) (by omega)
theorem qaV (f:aD)(ps qs:ai):mapP f (ps++qs)=mapP f ps++mapP f qs:=by unfold mapP;rw [Vx]
noncomputable def rndP (m:Nat):List (Nat×Nat):=(Kf (m+1)).map fun k=>(k,if k=0 then m else k-1)
noncomputable def lowP (i:Nat):List (Nat×Nat):=(Kf i).map fun j=>(i,j)
def allP (m:Nat):List (Nat×Nat):=(Kf (m+1)).flatMap lowP
theorem Wu:qt 3 id (rndP 2)=3/\qt 4 id (rndP 3)=4/\qt 5 id (rndP 4)=5/\qt 6 id (rndP 5)=6:=by decide +kernel
theorem qc2:qt 4 id (allP 3)=16/\qt 5 id (allP 4)=125:=by decide +kernel
theorem Wt:qt 2 id (Kl 1 (0,1))=1/\qt 2 id (Kl 2 (0,1))=2/\qt 2 id (Kl 3 (0,1))=3/\qt 2 id (Kl 4 (0,1))=4:=by decide +kernel
def Blk (n:Nat)(r:aB):Prop:=∃ (m v T:Nat) (cp:ai),r=some (.tuple [.int (m:Nat),.list ((mapP (emb n v) cp).map eP),.int (T:Nat)])/\v<n/\m<=5/\1<=m/\InN (m+1) cp/\T=qt (m+1) id cp/\cp.length<=10/\T<=125
theorem q4 (c:Int):∃ t:Nat,c / 26 % 4=(t:Nat)/\t<4:=by
 obtain ⟨a,b⟩:c / 26 % 4=((c / 26 % 4).toNat:Nat)/\(c / 26 % 4).toNat<4:=by omega
 exact ⟨_,a,b⟩
theorem blk0 {n:Nat}(h1:1<=n)(hn:n<=26){k:Int}(hk:k<2)(c:Int):Blk n (qL [.int k,.int c,.int (n:Nat)]):=by
 obtain ⟨a1,a2⟩:c % (n:Int)=((c % (n:Int)).toNat:Nat)/\(c % (n:Int)).toNat<n:=by
  have a:=VU c (b:=(n:Int)) (by omega)
  have b:=VJ c (b:=(n:Int)) (by omega)
  omega
 have hv:modD (.int c) (.int (n:Nat))=some (.int (((c % (n:Int)).toNat:Nat):Int)):=by rw [zT _ (by omega),← a1]
 generalize (c % (n:Int)).toNat=v at *
 obtain ⟨t,ht,ht4⟩:=q4 c
 have e1:1+((t:Nat):Int)=((t+1:Nat):Int):=by omega
 have lt:decide (k<2)=true:=decide_eq_true hk
 have hr:zj [.int ((t+1:Nat):Int)]=some ((Kf (t+1)).map fun k:Nat=>Kh (k:Nat)):=by
  rw [zu,if_pos (by omega),KA,Qe]
 have hc:zc tT (evA (aC (vr 3) (aC (vr 2) aN)) tupD) [some (.int k),some (.int c),some (.int (n:Nat)),some (.int (v:Nat)),some (.int ((t+1:Nat):Int)),none,none,none,none,none,none] ((Kf (t+1)).map fun k:Nat=>Kh (k:Nat))=some ((mapP (emb n v) (Kl (t+1) (0,1))).map eP):=by
  have e:(mapP (emb n v) (Kl (t+1) (0,1))).map eP=(Kf (t+1)).map fun _=>eP (v,n):=by
   unfold mapP
   rw [List.map_replicate,List.map_replicate]
   refine Uq (by simp) fun i h1 h2=>?_
   simp [emb]
  rw [e]
  exact zG (fun k:Nat=>Kh (k:Nat)) (fun _=>eP (v,n)) (Kf (t+1)) fun k _=>by simp_arith [];rfl
 have hz:((Kf (t+1)).map fun k:Nat=>Kh (k:Nat)).length<=1000:=by rw [Kg,Kq];omega
 refine ⟨1,v,t+1,Kl (t+1) (0,1),?_,a2,by decide,by decide,?_,?_,by rw [K4];omega,by omega⟩
 ·delta qL zW
  simp_arith [-L2.zT,-L2.zu,hv,lt,zT (c / 26) (by decide:(0:Int)<4),ht,e1,hr,hz,hc]
 ·intro p h
  rw [List.eq_of_mem_replicate h]
  exact ⟨by decide,by decide⟩
 ·rcases (by omega:t=0\/t=1\/t=2\/t=3) with rfl|rfl|rfl|rfl
  ·exact Wt.1.symm
  ·exact Wt.2.1.symm
  ·exact Wt.2.2.1.symm
  ·exact Wt.2.2.2.symm
theorem blk2 {n:Nat}(h1:1<=n)(hn:n<=26)(c:Int):Blk n (qL [.int 2,.int c,.int (n:Nat)]):=by
 obtain ⟨a1,a2⟩:c % (n:Int)=((c % (n:Int)).toNat:Nat)/\(c % (n:Int)).toNat<n:=by
  have a:=VU c (b:=(n:Int)) (by omega)
  have b:=VJ c (b:=(n:Int)) (by omega)
  omega
 have hv:modD (.int c) (.int (n:Nat))=some (.int (((c % (n:Int)).toNat:Nat):Int)):=by rw [zT _ (by omega),← a1]
 generalize (c % (n:Int)).toNat=v at *
 obtain ⟨t,ht,ht4⟩:=q4 c
 obtain ⟨m,hm⟩:∃ m,m=t+2:=⟨_,rfl⟩
 have e1:2+((t:Nat):Int)=((m:Nat):Int):=by omega
 have e2:((m:Nat):Int)+1=((m+1:Nat):Int):=by omega
 have l1:=lr44 n m (by omega) (by omega)
 have l2:=th44 n v m (by omega)
 have hr:zj [.int ((m+1:Nat):Int)]=some ((Kf (m+1)).map fun k:Nat=>Kh (k:Nat)):=by
  rw [zu,if_pos (by omega),KA,Qe]
 have hc:zc tT (evA (aC (ev2 (vr 6) (vr 11) ixD) (aC (ev2 (vr 6) (ev2 (vr 11) (kd (.int 1)) subD) ixD) aN)) tupD) [some (.int 2),some (.int c),some (.int (n:Nat)),some (.int (v:Nat)),none,some (.int (m:Nat)),some (thD n v m),none,none,none,none] ((Kf (m+1)).map fun k:Nat=>Kh (k:Nat))=some ((mapP (emb n v) (rndP m)).map eP):=by
  have e:(mapP (emb n v) (rndP m)).map eP=(Kf (m+1)).map fun k=>eP (emb n v k,emb n v (if k=0 then m else k-1)):=by
   unfold mapP rndP
   rw [Vl,Vl];rfl
  rw [e]
  refine zG (fun k:Nat=>Kh (k:Nat)) (fun k=>eP (emb n v k,emb n v (if k=0 then m else k-1))) (Kf (m+1)) fun k hk=>?_
  have hk:=KS.mp hk
  have i1:=We (n:=n) (v:=v) hk
  by_cases c0:k=0
  ·subst c0
   have i2:=qdt n v m
   have i1:ixD (thD n v m) (.int 0)=some (.int (emb n v 0:Nat)):=i1
   have z0:((0:Nat):Int)=0:=rfl
   have e3:((0:Nat):Int)-1=-1:=rfl
   rw [if_pos rfl]
   simp_arith [-L2.jL,e3,i2,z0,i1]
   rfl
  ·have i2:=We (n:=n) (v:=v) (m:=m) (k:=k-1) (by omega)
   have e3:((k:Nat):Int)-1=((k-1:Nat):Int):=by omega
   rw [if_neg c0]
   simp_arith [-L2.jL,i1,e3,i2]
   rfl
 have hz:((Kf (m+1)).map fun k:Nat=>Kh (k:Nat)).length<=1000:=by rw [Kg,Kq];omega
 refine ⟨m,v,m+1,rndP m,?_,a2,by omega,by omega,?_,?_,by unfold rndP;rw [Kg,Kq];omega,by omega⟩
 ·delta qL zW
  simp_arith [-L2.zT,-L2.zu,hv,zT (c / 26) (by decide:(0:Int)<4),ht,e1,e2,l1,l2,hr,hz,hc]
 ·intro p h
  obtain ⟨k,hk,rfl⟩:=V8.mp h
  have:=KS.mp hk
  exact ⟨this,by show (if k=0 then m else k-1)<m+1;split<;>omega⟩
 ·subst hm
  rcases (by omega:t=0\/t=1\/t=2\/t=3) with rfl|rfl|rfl|rfl
  ·exact Wu.1.symm
  ·exact Wu.2.1.symm
  ·exact Wu.2.2.1.symm
  ·exact Wu.2.2.2.symm
theorem blk3 {n:Nat}(h1:1<=n)(hn:n<=26){m:Nat}(hm:m=3\/m=4)(c:Int):Blk n (qL [.int (m:Nat),.int c,.int (n:Nat)]):=by
 obtain ⟨a1,a2⟩:c % (n:Int)=((c % (n:Int)).toNat:Nat)/\(c % (n:Int)).toNat<n:=by
  have a:=VU c (b:=(n:Int)) (by omega)
  have b:=VJ c (b:=(n:Int)) (by omega)
  omega
 have hv:modD (.int c) (.int (n:Nat))=some (.int (((c % (n:Int)).toNat:Nat):Int)):=by rw [zT _ (by omega),← a1]
 generalize (c % (n:Int)).toNat=v at *
 have e2:((m:Nat):Int)+1=((m+1:Nat):Int):=by omega
 have l1:=lr44 n m (by omega) (by omega)
 have l2:=th44 n v m (by omega)
 have lt:decide (((m:Nat):Int)<2)=false:=decide_eq_false (by omega)
 have ne:(((m:Nat):Int)==2)=false:=by rw [beq_eq_false_iff_ne];omega
 have rg:∀ k:Nat,k<=100->zj [.int (k:Nat)]=some ((Kf k).map fun k:Nat=>Kh (k:Nat)):=fun k h=>by
  rw [zu,if_pos (by omega),KA,Qe]
 have all_len:∀ k,k<=5->((Kf k).flatMap lowP).length<=10:=by decide
 obtain ⟨ρ',el,o9,o10,rfl⟩:=jH (fun k:Nat=>Kh (k:Nat)) (g:=gNm 9) (u:=Ql)
  (fun done ρ=>∃ (o9 o10:aB),ρ=[some (.int (m:Nat)),some (.int c),some (.int (n:Nat)),some (.int (v:Nat)),none,some (.int (m:Nat)),none,some (.list ((mapP (emb n v) ((Kf done.length).flatMap lowP)).map eP)),some (thD n v m),o9,o10]) (Kf (m+1)) [some (.int (m:Nat)),some (.int c),some (.int (n:Nat)),some (.int (v:Nat)),none,some (.int (m:Nat)),none,some (.list []),some (thD n v m),none,none] ⟨none,none,rfl⟩ (by
   rintro i done rest ρ hall ⟨o9,o10,rfl⟩
   have hk:i=done.length/\i<m+1:=by
    have a:(Kf (m+1))[done.length]?=some i:=by rw [hall];simp
    obtain ⟨h1,h2⟩:=Kz.mp a
    rw [Ui] at h2
    rw [Kq] at h1
    omega
   obtain ⟨rfl,hi⟩:=hk
   have hi1:=We (n:=n) (v:=v) hi
   have hl:=all_len done.length (by omega)
   have nxt:(Kf (done++[done.length]).length).flatMap lowP=(Kf done.length).flatMap lowP++lowP done.length:=by
    rw [Kv,KQ,XD,List.flatMap_append];simp
   rw [nxt]
   generalize (Kf done.length).flatMap lowP=A at *
   unfold lowP
   have hi5:done.length<=4:=by omega
   generalize done.length=i at *
   obtain ⟨ρ1,e1,o10',rfl⟩:=jH (fun k:Nat=>Kh (k:Nat)) (g:=gNm 10) (u:=Za)
    (fun dn ρ=>∃ (o10:aB),ρ=[some (.int (m:Nat)),some (.int c),some (.int (n:Nat)),some (.int (v:Nat)),none,some (.int (m:Nat)),none,some (.list ((mapP (emb n v) (A++(Kf dn.length).map fun j=>(i,j))).map eP)),some (thD n v m),some (.int (i:Nat)),o10]) (Kf i) [some (.int (m:Nat)),some (.int c),some (.int (n:Nat)),some (.int (v:Nat)),none,some (.int (m:Nat)),none,some (.list ((mapP (emb n v) A).map eP)),some (thD n v m),some (.int (i:Nat)),o10] ⟨o10,by rw [Ut,List.range_zero,Uv,Vn]⟩ (by
     rintro j dn rest2 ρ hall2 ⟨o10,rfl⟩
     have hk2:j=dn.length/\j<i:=by
      have a:(Kf i)[dn.length]?=some j:=by rw [hall2];simp
      obtain ⟨h1,h2⟩:=Kz.mp a
      rw [Ui] at h2
      rw [Kq] at h1
      omega
     obtain ⟨rfl,hj⟩:=hk2
     have hj1:=We (n:=n) (v:=v) (m:=m) (k:=dn.length) (by omega)
     have hz:((mapP (emb n v) (A++(Kf dn.length).map fun j=>(i,j))).map eP).length<1000:=by
      unfold mapP
      rw [Kg,Kg,Kv,Kg,Kq];omega
     refine ⟨_,by simp_arith [-L2.jL,hi1,hj1,hz];rfl,some (.int (dn.length:Nat)),?_⟩
     have e:A++(Kf (dn++[dn.length]).length).map (fun j=>(i,j))=(A++(Kf dn.length).map fun j=>(i,j))++[(i,dn.length)]:=by
      rw [Kv,KQ,XD,Vx,VW];rfl
     rw [e,qaV (qs:=[(i,dn.length)]),Vx];rfl)
   have r1:=rg i (by omega)
   rw [Kq] at e1
   exact ⟨_,by simp_arith [-L2.zu,r1,e1],some (.int (i:Nat)),o10',rfl⟩)
 rw [Kq] at el
 have el:forD (gNm 9) Ql ((Kf (m+1)).map fun k:Nat=>Kh (k:Nat)) [some (.int (m:Nat)),some (.int c),some (.int (n:Nat)),some (.int (v:Nat)),none,some (.int (m:Nat)),none,some (.list []),some (thD n v m),none,none]=some (.nx [some (.int (m:Nat)),some (.int c),some (.int (n:Nat)),some (.int (v:Nat)),none,some (.int (m:Nat)),none,some (.list ((mapP (emb n v) (allP m)).map eP)),some (thD n v m),o9,o10]):=el
 have r2:=rg (m+1) (by omega)
 have inA:InN (m+1) (allP m):=fun p h=>by
  obtain ⟨i,hi,hp⟩:=List.mem_flatMap.mp h
  obtain ⟨j,hj,rfl⟩:=V8.mp hp
  have:=KS.mp hi
  have:=KS.mp hj
  exact ⟨by show i<m+1;omega,by show j<m+1;omega⟩
 have fin:∀ T:Nat,ixD (.list [.int 16,.int 125]) (.int (((m:Nat):Int)-3))=some (.int (T:Nat))->qL [.int (m:Nat),.int c,.int (n:Nat)]=some (.tuple [.int (m:Nat),.list ((mapP (emb n v) (allP m)).map eP),.int (T:Nat)]):=fun T hT=>by
  delta qL zW
  simp_arith [-L2.zT,-L2.zu,-L2.jL,hv,lt,ne,l1,l2,e2,r2,el,hT]
 rcases hm with rfl|rfl
 ·exact ⟨3,v,16,allP 3,fin 16 rfl,a2,by decide,by decide,inA,qc2.1.symm,by decide,by decide⟩
 ·exact ⟨4,v,125,allP 4,fin 125 rfl,a2,by decide,by decide,inA,qc2.2.symm,by decide,by decide⟩
theorem qbI {n:Nat}(h1:1<=n)(hn:n<=26){k:Int}(h0:0<=k)(h5:k<5)(c:Int):Blk n (qL [.int k,.int c,.int (n:Nat)]):=by
 by_cases a:k<2
 ·exact blk0 h1 hn a c
 ·rcases (by omega:k=2\/k=3\/k=4) with rfl|rfl|rfl
  ·exact blk2 h1 hn c
  ·exact blk3 h1 hn (m:=3) (.inl rfl) c
  ·exact blk3 h1 hn (m:=4) (.inr rfl) c
theorem qbK {cs:aQ}(hl:cs.length<=60):∃ (n C:Nat) (ps:ai),zN [.list (cs.map .int)]=some (.tuple [.int (n:Nat),.list (ps.map eP),.int (C:Nat)])/\1<=n/\n<=26/\ps.length<=60/\InN n ps/\C=qt n id ps:=by
 obtain ⟨ρ',el,n,C,ps,o4,o5,o6,o7,rfl,h1,h2,h3,h4,h5,h6⟩:=yW Kh (g:=gNm 4) (u:=Zb)
  (fun done ρ=>∃ (n C:Nat) (ps:ai) (o4 o5 o6 o7:aB),ρ=[some (.list (cs.map .int)),some (.int (n:Nat)),some (.list (ps.map eP)),some (.int (C:Nat)),o4,o5,o6,o7]/\1<=n/\n<=26/\ps.length<=60/\InN n ps/\C=qt n id ps/\C<2 ^ (10*done.length+1)) cs [some (.list (cs.map .int)),some (.int 1),some (.list []),some (.int 1),none,none,none,none] ⟨1,1,[],none,none,none,none,rfl,by decide,by decide,by decide,(fun p h=>by cases h),by decide +kernel,by decide⟩ (by
   rintro c _ done ρ hd ⟨n,C,ps,o4,o5,o6,o7,rfl,h1,h2,h3,h4,h5,h6⟩
   obtain ⟨m,v,T,cp,eb,hv,hm5,hm1,hc,hT,hcl,hT2⟩:=qbI h1 h2 (k:=c % 5) (VU _ (by decide)) (VJ _ (by decide)) (c / 5)
   have e1:((n:Nat):Int)+((m:Nat):Int)=((n+m:Nat):Int):=by omega
   have ml:(mapP (emb n v) cp).length=cp.length:=by unfold mapP;rw [Kg]
   have e2:((ps.length:Nat):Int)+(((mapP (emb n v) cp).length:Nat):Int)=((ps.length+cp.length:Nat):Int):=by rw [ml];omega
   have up:2 ^ (10*(done++[c]).length+1)=2 ^ (10*done.length+1)*1024:=by
    rw [Kv,KQ,show 10*(done.length+1)+1=10*done.length+1+10 by omega,Nat.pow_add]
   by_cases g:n+m<=26/\ps.length+cp.length<=60
   ·have g1:decide (((n+m:Nat):Int)<=26)=true:=decide_eq_true (by omega)
    have g2:decide (((ps.length+cp.length:Nat):Int)<=60)=true:=decide_eq_true (by omega)
    have ad:qZ (.list (ps.map eP)) (.list ((mapP (emb n v) cp).map eP))=some (.list ((ps++mapP (emb n v) cp).map eP)):=by
     rw [wI _ _ (by rw [Kg,Kg,ml];omega),Vx]
    have hC:C<2 ^ 601:=Ku h6 (Nat.pow_le_pow_right (by decide) (by omega))
    have mu:mulD (.int (C:Nat)) (.int (T:Nat))=some (.int ((C*T:Nat):Int)):=by
     rw [Qy (Bd.ok (n:=601) (m:=20) (Bd.of (by rw [Int.natAbs_natCast];exact hC)) (Bd.of (by omega))),Int.natCast_mul]
    refine ⟨_,by simp_arith [eb,e1,e2,Kg,g1,g2,ad,mu];rfl,n+m,C*T,ps++mapP (emb n v) cp,some (.int c),_,_,_,rfl,by omega,g.1,by rw [Kv,ml];exact g.2,InN.app h4.wide (InN.hung hv hc),by rw [wz hv h4 hc,← h5,← hT],?_⟩
    rw [up]
    exact Uw (Nat.mul_le_mul_left C (K7 hT2 (by decide:125<=1024))) (Nat.mul_lt_mul_of_pos_right h6 (by decide))
   ·have lift:C<2 ^ (10*(done++[c]).length+1):=by rw [up];omega
    by_cases g1:n+m<=26
    ·have d1:decide (((n+m:Nat):Int)<=26)=true:=decide_eq_true (by omega)
     have d2:decide (((ps.length+cp.length:Nat):Int)<=60)=false:=decide_eq_false (by omega)
     exact ⟨_,by simp_arith [eb,e1,e2,Kg,d1,d2];rfl,n,C,ps,some (.int c),_,_,_,rfl,h1,h2,h3,h4,h5,lift⟩
    ·have d1:decide (((n+m:Nat):Int)<=26)=false:=decide_eq_false (by omega)
     exact ⟨_,by simp_arith [eb,e1,Kg,d1];rfl,n,C,ps,some (.int c),_,_,_,rfl,h1,h2,h3,h4,h5,lift⟩)
 refine ⟨n,C,ps,?_,h1,h2,h3,h4,h5⟩
 delta zN QZ
 simp_arith [el]
theorem qce {n:Nat}{nm:ar}(h:nm.Perm (Kf n)):nm.length=n/\(∀ v,v<n->nm.getD v 0<n)/\(∀ w,w<n->∃ v,v<n/\nm.getD v 0=w)/\∀ u v,u<n->v<n->nm.getD u 0=nm.getD v 0->u=v:=by
 have hl:nm.length=n:=by rw [h.length_eq,Kq]
 have nd:nm.Nodup:=h.nodup_iff.mpr List.nodup_range
 have gd:∀ v (hv:v<n),nm.getD v 0=nm[v]'(by omega):=fun v hv=>by rw [K6,Kj (by omega)];rfl
 refine ⟨hl,fun v hv=>?_,fun w hw=>?_,fun u v hu hv e=>?_⟩
 ·rw [gd v hv]
  exact KS.mp (h.mem_iff.mp (Xx _))
 ·obtain ⟨i,hi,e⟩:=List.getElem_of_mem (h.mem_iff.mpr (KS.mpr hw))
  exact ⟨i,by omega,by rw [gd i (by omega)];exact e⟩
 ·rw [gd u hu,gd v hv] at e
  exact (List.getElem_inj nd).mp e
theorem WW (ns:aQ)(_:ns.length<=63)(hb:∀ k∈ns,VQ k<=2 ^ 20):qcS [.list (ns.map .int)]=some (.bool true):=by
 obtain ⟨cs,ec,lc⟩:=qbN ns
 obtain ⟨n,C,ps,eb,h1,h2,h3,h4,h5⟩:=qbK lc
 have e0:=cell_eq ns 0 (by decide)
 have e1:=cell_eq ns 1 (by decide)
 have e62:=cell_eq ns 62 (by decide)
 have hr:lrD [.int (n:Nat)]=some (.list ((Kf n).map fun v:Nat=>Kh (v:Nat))):=by
  show ob (zj [.int (n:Nat)]) _=_
  rw [zu,if_pos (by omega),KA,Qe];rfl
 obtain ⟨nm,es,pm⟩:=Yx (fun v:Nat=>Kh (v:Nat)) 0 (Kf n) (by rw [Kq];omega) (Qn ns 0)
 obtain ⟨nl,nlt,nsj,nij⟩:=qce pm
 obtain ⟨qs,eq,fl⟩:=qau nl h4 h3 (Qn ns 62)
 have hin:InN n (mapP (fun v=>nm.getD v 0) ps):=fun q h=>by
  obtain ⟨p,hp,rfl⟩:=V8.mp h
  exact ⟨nlt _ (h4 p hp).1,nlt _ (h4 p hp).2⟩
 have hq:InN n qs:=fl.InN hin
 have lq:qs.length<=60:=by rw [fl.len];unfold mapP;rw [Kg];exact h3
 obtain ⟨rs,er,pr⟩:=Yx eP (0,0) qs (by omega) (Qn ns 1)
 have hrs:InN n rs:=fun q h=>hq q (pr.mem_iff.mp h)
 have lr:rs.length<=60:=by rw [pr.length_eq];exact lq
 obtain ⟨m,rfl⟩:∃ m,n=m+1:=⟨n-1,by omega⟩
 have cnt:qt (m+1) id rs=C:=by
  rw [Ja hrs pr,ww (by omega) fl hin,YC (by omega) nlt nsj nij h4,h5]
 have t1:=qbA (m:=m) (by omega) hrs (by omega)
 rw [cnt] at t1
 have same:(((C:Nat):Int)==((C:Nat):Int))=true:=beq_self_eq_true _
 have go:Wv [some (.list (ns.map .int)),none,none,none,none,none,none]=some (.rt (.bool true)):=by
  show seqO _ _ _=_
  refine j7 (ρ':=[some (.list (ns.map .int)),some (.int ((m+1:Nat):Int)),some (.list (ps.map eP)),some (.int (C:Nat)),none,none,none]) (by simp_arith [ec,eb]) ?_
  refine j7 (ρ':=[some (.list (ns.map .int)),some (.int ((m+1:Nat):Int)),some (.list (ps.map eP)),some (.int (C:Nat)),some (.list (nm.map fun v:Nat=>Kh (v:Nat))),none,none]) (by simp_arith [hr,e0,es]) ?_
  refine j7 (ρ':=[some (.list (ns.map .int)),some (.int ((m+1:Nat):Int)),some (.list (ps.map eP)),some (.int (C:Nat)),some (.list (nm.map fun v:Nat=>Kh (v:Nat))),some (.list (qs.map eP)),none]) (by simp_arith [e62,eq]) ?_
  refine j7 (ρ':=[some (.list (ns.map .int)),some (.int ((m+1:Nat):Int)),some (.list (ps.map eP)),some (.int (C:Nat)),some (.list (nm.map fun v:Nat=>Kh (v:Nat))),some (.list (qs.map eP)),some (.list (rs.map eP))]) (by simp_arith [e1,er]) ?_
  refine j7 (ρ':=[some (.list (ns.map .int)),some (.int ((m+1:Nat):Int)),some (.list (ps.map eP)),some (.int (C:Nat)),some (.list (nm.map fun v:Nat=>Kh (v:Nat))),some (.list (qs.map eP)),some (.list (rs.map eP))]) (by simp_arith [t1,same]) ?_
  by_cases c:25<m+1
  ·have d:decide ((25:Int)<((m+1:Nat):Int))=true:=decide_eq_true (by omega)
   simp_arith [d]
  ·have d:decide ((25:Int)<((m+1:Nat):Int))=false:=decide_eq_false (by omega)
   have t2:=qbA (m:=m+1) (by omega) hrs.up (by omega)
   rw [Yz (by omega) hrs fun u hu=>by show u≠m+1;omega] at t2
   have e2:((m+1:Nat):Int)+1=((m+1+1:Nat):Int):=by omega
   have t2:zm [.int ((m+1+1:Nat):Int),.list (rs.map eP)]=some (.int 0):=t2
   simp_arith [d,e2,t2]
 show ob (Wv _) outD=_
 have e:rho0 qan.length [VB (ns.map .int)]=[some (.list (ns.map .int)),none,none,none,none,none,none]:=rfl
 rw [e,go]
 rfl
theorem qc5 {l:Xg}{w:KM}{K:Kb}{h:KI}{mg:au}{fa f12:Kd}(X:K.In h)(G:h.Ns mainGlobals mg)(hfa:mg "law" = some (.ref fa))
  {od12 an12:aR} {sl12:aI} {oc12 kV12 dc12 pm12 cd12 ct12:Kc}
  (h0:FnK K "table_of" Tq11)
  (h1:FnK K "measure_of" Tq4)
  (h2:FnK K "_law_cell_at" Tq0)
  (h3:FnK K "_law_whole" Tq5)
  (h4:FnK K "_law_mixed" Tq6)
  (h5:FnK K "_law_block" Tq7)
  (h6:FnK K "_law_built" Tq8)
  (h7:FnK K "_law_strewn" Tq1)
  (h8:FnK K "_law_cells" Tq9)
  (h9:FnK K "_law_called" Tq2)
  (h10:FnK K "count_trees" Tq3)
  (h11:FnK K "_law_told" Tq10)
  (a12:Vm K mainGlobals "law" = some (some (.ref f12))) (l12:K.lookup f12=some ⟨oc12,od12,.func (VN "law" "law" (Qw Tq12) (zL Tq12) (qu Tq12) .none kV12 dc12 pm12 an12 cd12 ct12),sl12⟩) (c12:Um K cd12 "law" = true) (k12:VR K (.ref f12)=true)
  (z0:Vm K mainGlobals "range" = some none)
  (z1:Vm K mainGlobals "len" = some none)
  (z2:Vm K mainGlobals "isinstance" = some none)
  (z3:Vm K mainGlobals "int" = some none)
  (z4:Vm K mainGlobals "bool" = some none)
  (z5:Vm K mainGlobals "list" = some none)
  (z6:Vm K mainGlobals "sorted" = some none)
  : ∃ fd:Vq,(∀ (s:Ke) (v:Kc),BindsTo s fd ⟨[v],[]⟩ [("_law_script", v)])/\∀ base:KI,K.In base->base.Ns mainGlobals mg->FnOk l.prog w K mg base CX0 4 fa fd ["_law_script"] (wk K 63):=by
 have g {n:Str} {v:Kc} (e:Vm K mainGlobals n=some (some v)):mg n=some v:=PySem.W.mg_of X G e
 have e:=hfa.symm.trans (g a12)
 cases e
 obtain ⟨f0,d0,a0,F0⟩:=h0
 have b0:=F0.binds (ps:=["n", "pairs"]) fun _ _ _ _ _ _=>L2.on2 fun _ _=>rfl
 obtain ⟨f1,d1,a1,F1⟩:=h1
 have b1:=F1.binds (ps:=["table"]) fun _ _ _ _ _ _=>L2.on1 fun _=>rfl
 obtain ⟨f2,d2,a2,F2⟩:=h2
 have b2:=F2.binds (ps:=["_law_script", "_law_k"]) fun _ _ _ _ _ _=>L2.on2 fun _ _=>rfl
 obtain ⟨f3,d3,a3,F3⟩:=h3
 have b3:=F3.binds (ps:=["_law_found"]) fun _ _ _ _ _ _=>L2.on1 fun _=>rfl
 obtain ⟨f4,d4,a4,F4⟩:=h4
 have b4:=F4.binds (ps:=["_law_cell", "_law_k"]) fun _ _ _ _ _ _=>L2.on2 fun _ _=>rfl
 obtain ⟨f5,d5,a5,F5⟩:=h5
 have b5:=F5.binds (ps:=["_law_kind", "_law_cell", "_law_n"]) fun _ _ _ _ _ _=>L2.on3 fun _ _ _=>rfl
 obtain ⟨f6,d6,a6,F6⟩:=h6
 have b6:=F6.binds (ps:=["_law_cells_here"]) fun _ _ _ _ _ _=>L2.on1 fun _=>rfl
 obtain ⟨f7,d7,a7,F7⟩:=h7
 have b7:=F7.binds (ps:=["_law_things", "_law_cell"]) fun _ _ _ _ _ _=>L2.on2 fun _ _=>rfl
 obtain ⟨f8,d8,a8,F8⟩:=h8
 have b8:=F8.binds (ps:=["_law_script"]) fun _ _ _ _ _ _=>L2.on1 fun _=>rfl
 obtain ⟨f9,d9,a9,F9⟩:=h9
 have b9:=F9.binds (ps:=["_law_pairs", "_law_names", "_law_cell"]) fun _ _ _ _ _ _=>L2.on3 fun _ _ _=>rfl
 obtain ⟨f10,d10,a10,F10⟩:=h10
 have b10:=F10.binds (ps:=["n", "pairs"]) fun _ _ _ _ _ _=>L2.on2 fun _ _=>rfl
 obtain ⟨f11,d11,a11,F11⟩:=h11
 have b11:=F11.binds (ps:=["_law_n", "_law_pairs"]) fun _ _ _ _ _ _=>L2.on2 fun _ _=>rfl
 have F12:=qaF (st:=Tq12) l12 c12 k12
 have z_range:=VL X G z0
 have z_len:=VL X G z1
 have z_isinstance:=VL X G z2
 have z_int:=VL X G z3
 have z_bool:=VL X G z4
 have z_list:=VL X G z5
 have z_sorted:=VL X G z6
 refine ⟨VN "law" "law" (Qw Tq12) (zL Tq12) (qu Tq12) .none kV12 dc12 pm12 an12 cd12 ct12,fun s v=>.of_eq rfl,fun base _ _=>?_⟩
 have b12:=F12.binds (ps:=["_law_script"]) fun _ _ _ _ _ _=>L2.on1 fun _=>rfl
 have K_table_of:=YM l.prog w base F0 (g a0) b0 z_range
 have K_measure_of:=yj l.prog w base F1 (g a1) b1 z_range z_len
 have K__law_cell_at:=jN l.prog w base F2 (g a2) b2 z_len
 have K__law_whole:=yh l.prog w base F3 (g a3) b3 z_isinstance z_int z_bool
 have K__law_mixed:=yg l.prog w base F4 (g a4) b4
 have K__law_block:=yc l.prog w base F5 (g a5) b5 z_range z_list
 have K__law_built:=ye l.prog w base F6 (g a6) b6 K__law_block z_len
 have K__law_strewn:=Jf l.prog w base F7 (g a7) b7 K__law_mixed z_list z_len z_range z_sorted
 have K__law_cells:=yf l.prog w base F8 (g a8) b8 K__law_cell_at K__law_mixed z_range
 have K__law_called:=Je l.prog w base F9 (g a9) b9 K__law_mixed z_range z_len
 have K_count_trees:=Jg l.prog w base F10 (g a10) b10 K_measure_of K_table_of
 have K__law_told:=Yb l.prog w base F11 (g a11) b11 K_count_trees K__law_whole z_list
 exact qaP (qdH l.prog w base F12 K__law_built K__law_cells K__law_strewn K__law_cell_at K__law_called K__law_told z_list z_range) WW
end SF
open PySem PySem.W PyProof.Rows
set_option maxRecDepth 100000 in
set_option maxHeartbeats 0 in
theorem PySem.Challenge.cw_sheetfold_k44_whole_trees_of_what_is_hun_holds : PySem.Challenge.rw_sheetfold_k44_whole_trees_of_what_is_hun.Holds := by
 w_on
 refine PySem.W.holds_law HD.said fun said=>?_
 refine PySem.W.holds_open (q:=HD.vw) (YP:=(PySem.W.kHook HD.KH HD.kA HD.kE).says) HD.left (PySem.W.Hook.of _) (PySem.W.Hook.keeps _) (fun s e=>PySem.W.xl_of s (X3.mp e).1) PySem.W.XL.keeps (by rfl) (by rfl) (by rfl) (fun s e=>PySem.W.recFacts_of (X3.mp e).2) (by rfl) (by first|assumption|decide +kernel) (by decide +kernel) ⟨rfl,rfl,rfl,rfl,rfl,by decide +kernel⟩ ?hw ?hc
 case hw=>w_witness2
 k_fill
 refine L2.qak (l:=PySem.Challenge.rw_sheetfold_k44_whole_trees_of_what_is_hun) (n:=63) (k:=4) (x := "_law_script") rfl (by decide) rfl ⟨rfl,by decide,by decide,rfl⟩ (fun w h Y=>PySem.W.kIn_of Y) ?F
 case F =>
  intro w mg fa h KX G hmg
  refine' SF.qc5 KX G hmg ?_ ?_ ?_ ?_ ?_ ?_ ?_ ?_ ?_ ?_ ?_ ?_ ?_ ?_ ?_ ?_ ?_ ?_ ?_ ?_ ?_ ?_ ?_
  all_goals try first|k_is|exact L2.FnK.of (by k_is) (by k_is) (by k_is) (by k_is)|kernel_rfl
