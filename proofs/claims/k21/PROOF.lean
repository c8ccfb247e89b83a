import PyProof.Rows.All
import Wide.All
import OpenK.AllK
import Wide.FinOn
import Lean
import PyProof.EqAt
import PyProof.EqKinds
import PyProof.TupleCall
import PySem.Challenge.RW_sheetfold_k21_a_solid_made
set_option Elab.async false
set_option linter.all false
set_option maxRecDepth 100000
open PySem renaming PyData→Ka,Value→Kb,Addr→Kd,Shared→Kf,wpAny_bind→Kg,wpAny_pure→Ks,Expr→Kw,Program→Kx,Heap→KA,World→KG,Around→KI,Stmt→KY,FuncData→Vi,wpAny_mono→Vk,Paired→Vo,Scope→Vq,boot_len→Vu,wpAny_truthy_bool→V4,mem_of_lookup→V5,wpAny_holding→V8,ReadsAll→Ua,wpAny_Call_Name_kw→Uh,sizeLine_eq→Uj,wpAny_newObj_type→Up,wpAny_execs_cons→Uw,wpAny_passesOwn→UF,strLen_append→UI,wpAny_loadPart_at→UK,codeAny_call_builtin→UM,Builtin→UZ,wpAny_execs_nil→U1,Reads→U5,codeAny_builtin→U6,Keyword→Xc,DictEntry→Xd,wpAny_standAt→Xk,plainId_quiet→Xl,wpAny_field→Xp,codeAny_mono→Xv,wpAny_call_entry→XJ,wpAny_call→XQ,wpAny_specialOf→XW,wpAny_seqItems→X5,IntMulOk→X6,wpAny_tryCatch→X7,wpAny_newFunctionEnv_cells→Nj,wpAny_newList→Np,intKind_is→NB,NameKind→NJ,concat_meets→NL,noFill_tuple_add→NM,wpAny_forIn_list→NP,PassesOwn→N0,pushCells_keeps→N2,wpAny_updateSeq→N5,join_length_add→N7,wpAny_letGo→Ea,wpAny_Expr_any→Ee,wpAny_setField→El
open PySem.W renaming Frag→Kc,nsIn→KF,findIn→KZ,kia_one→K7,kitOne→Vb,mg_none_of→VC,mroIn→VM,keepIn→VT,clsIn→V2,fnOf→Uc,looks_findIn→Uz,Looks→UD,hideAll→UE,codeIn→UQ,looks_mroIn→UR,typeIn→US,kas_rev→U0,callWith_K→U2,specialIn→U9,mg_of→Xn,cellsFrom_some→XC,kas_desc→XN,kas_descPart→X1,methodObj→Nu,kitx_list→Nv,kitx_dict→Nw,OpenLaw→Nx,emptyDict→Nz,plainGet→NH,kas_sort→NS,instObj→NZ,takesIn→N1,lookIn→Ef,hideAll_none→Ep,hideAll_get→Ew,of_hideAll→Ex,kitx_tuple→Ez,codeRec_of→EA,isNs_of_in→EC,isFn→ED,hasDictIn→EG,plainOver→EH,kitx_none→EI,kitx_bool→EJ
open PySem.Str renaming ofString→Ke,empty→Ey
open List renaming length_map→Kh,getElem?_eq_getElem→Kj,length_append→Kp,mem_cons→Kq,map_cons→Kr,size_toArray→Kt,length_singleton→Kv,mem_singleton→KC,range→KE,getElem?_eq_some_iff→KL,length_cons→KM,mem_of_getElem?→KO,mem_append_right→KP,mem_append→KQ,all_eq_true→KR,getElem?_set_self→Va,replicate→Vc,lookup_cons→Ve,length_range→Vj,mem_cons_of_mem→Vl,mem_append_left→Vm,length_set→Vs,getElem?_map→Vv,getElem?_set_ne→Vw,mem_map→VB,map_append→VD,getD_eq_getElem?_getD→VE,map_nil→VF,map_map→VG,getElem?_append_left→VI,mem_cons_self→VJ,mem_range→VL,append_nil→VN,find?_cons→VP,length_replicate→VR,drop_eq_getElem_cons→VU,not_mem_nil→V1,map_congr_left→Ub,getElem?_append_right→Ud,any_cons→Ue,lookup→Ul,getElem?_replicate→Us,length_take→Ux,getElem?_eq_none_iff→UO,length_drop→UT,getElem_mem→UW,filterMap_cons→UY,any_eq_true→Xi,count_cons_self→Xj,nodup_cons→Xq,length_nil→Xs,drop_eq_nil_of_le→XE,take_of_length_le→XG,drop_length→XM,of_mem_zip→XR,getElem_of_mem→X4,mem_filterMap→Nc,zip_cons_cons→Nd,pairwise_cons→Ng,find?_eq_none→Nh,mem_of_find?_eq_some→NC,pairwise_iff_getElem→ND,all_map→NW,map_id→Ec,drop_of_length_le→Ed,nodup_nil→Eh,set_append_right→Ej,getElem?_toArray→Ek,getElem?_eq_none→Em,countP_le_length→En,mem_of_mem_take→Es
open Option renaming none→Ki,some→Kl,ne_none_iff_exists'→Nq,isSome_iff_exists→NK,map_eq_some_iff→Eb
open PySem.Heap renaming get?_push_of_some→Kk,lt_size→Ku,get?_push_size→K4,get?_update_other→Vy,get?_update_self→Ui,get?_update_ne→Uu,size_push→Uy,SameBut→NG
open Nat renaming le_refl→Km,lt_of_lt_of_le→KS,ne_of_lt→K6,le_trans→Vg,zero_le→Vz,le_of_lt→VA,lt_irrefl→VS,le_succ→Uk,ne_of_gt→Uo,lt_succ_of_lt→UJ,add_assoc→Nm,succ_le_succ→NN,lt_succ_self→NO,le_max_right→NR,min_le_left→N3,le_max_left→N4,lt_trans→EB
open PySem.PyData renaming canLayAll0→Kn,int→Ky,eqv→Kz,depthAll→KB,canLay0→KJ,tuple→Vh,depth→VQ,list→Um,shown→UV,showable→XZ,str→NF,shownAll→N6,bool→N9,showableAll→EE,strOk→EF
open Bool renaming and_eq_true→Ko,false→KN,true→K1,false_eq_true→VZ,false_ne_true→Ug,and_self→Uq,eq_iff_iff→UG,eq_false_iff→XB,false_or→XI,or_eq_true→XX,and_eq_true_iff→X0,not_eq_true'→Ny,true_or→NT,and_false→Ei,not_true→Et
open PySem.Pos renaming mk→KD
open PySem.Value renaming builtin→KU,ref→KW,bool→K5,none→VH,type→VV,str→Xt,int→Xu,notImplemented→Er,float→EK
open PySem.SeqAt renaming canLay_of_shaped→K0,shaped→Vp,eqAt_reads→NQ
open Array renaming length_toList→K3,getElem?_eq_some_iff→UH,getElem?_eq_none→U8,mem_toList_iff→Xg,getElem?_setIfInBounds_self→XF,getElem_toList→XY,append_assoc→Nb,getElem?_eq_getElem→NA,getElem?_toList→Eg
open PySem.PassesOwn renaming never→K8
open Int renaming toNat_natCast→K9,emod_nonneg→U7,mul_le_mul_of_nonneg_right→X2,mul_le_mul_of_nonneg_left→X3,emod_lt_of_pos→Nf,mul_nonneg→Eo
open PySem.NameKind renaming free→Vd,cell→VO,globalImplicit→Ur
open PySem.Obj renaming mk→Vf,mapSeq→VW,mapFields→Xm
open PyProof.Rows renaming int_text_len_1921→Vn,slot_tuple_getitem→UB,callWith_type1→Xf,AllBare→Xo,callWith_builtin1→XU,listUpdate_at→Nn,seqEpoch_at→N8
open PySem.Expr renaming Name→Vr,Attribute→V9,FormattedValue→UX,JoinedStr→Xz,Constant→XH,Call→NY
open PySem.Builtin.Tuple renaming tupleHashOf→Vt,tupleExact→UU,tupleItemsOf→Nl
open False renaming elim→Vx
open PySem.ClassData renaming mk→VX
open Ne renaming symm→VY
open True renaming intro→V0
open PySem.Data renaming dict→V3,cls→Uv,fields→UP,func→X8
open PySem.Builtin.Int renaming intBits→V6
open Option.some renaming inj→V7
open PySem.F renaming plainAttrs_list→Ut,plain_min_loop→UA,slot_list_append→U3,slot_tuple_hash→Xa,excAttr_ValueError→Xh,args_tuple_add_2→Xw,type_list_append→Xy,entry_tuple_add→XA,slot_tuple_add→XD,typeOf_object_class→XO,excBase_ValueError→Nt,entry_min_loop→NU,store_ValueError→NV,slot_list_count→NX,slot_gs_get→Eu
open PySem.ScopeKind renaming function→UC
open PySem.Builtin.Slice renaming slicePlaces→UL,sliceAdjust→Xr,sliceApplied→Nk
open PySem.Around renaming under_plainId→UN,under→NI
open ForInStep renaming yield→U4
open PySem.FuncBody renaming stmts→Xb
open PySem.W.Fast renaming tw14364793385576792824→Xe,tw14082659384304107361→X9,te14364793385576792824→Na,tw1435165496053646825→Ni
open PySem.W.Looks renaming ld→Xx
namespace HD
open PySem PySem.W PySem.Calls PyProof.Rows
noncomputable def vw:Kx:=view PySem.Challenge.pw_sheetfold_k21_a_solid_made [1,2,3,4,5,6,7,8,9,10,11,12,13,14,16,17,18,19,21,22,23,25,26,27,29,30,31,32,33,34,35,36,37,38,39,40,41]
def tp (i:Nat):KY:=PySem.Challenge.pw_sheetfold_k21_a_solid_made.main.body.getD i (.Pass ⟨0,0,0,0⟩)
def dA:KY->Arguments
 | .FunctionDef _ a _ _ _ _ _ _ _ _=>a
 | _=>default
def dB:KY->List KY
 | .FunctionDef _ _ b _ _ _ _ _ _ _=>b
 | _=>[]
def dS:KY->Vq
 | .FunctionDef _ _ _ _ _ _ s _ _ _=>s
 | _=>default
abbrev de (P:Params)(x:String)(t:Nat)(v:Kb):Xd:=DictEntry.mk (PyData.keyHash P (Ke x)) (Xt (Ke x) t) v
abbrev S (x:String)(t:Nat):Kb:=Xt (Ke x) t
abbrev I (n:Int)(t:Nat):Kb:=Xu n t
abbrev R (a:Kd):Kb:=KW a
abbrev Y (x:String):Kb:=VV x
abbrev N:Kb:=VH
abbrev tu (a:Array Kb):Obj:=Vf (VV "tuple") Ki (Data.seq a) #[]
abbrev cc (x:String)(t1 t2 t3:Nat)(l n:Int)(a1:Kd)(k:Int)(a2:Kd)(u v:Kb)(a3:Kd)(t4:Int)(t5:Nat):Obj:=Vf (VV "code") Ki (UP #[S x t1,S x t2,S "/claim/cut.py" t3,I l 0,I n 0,I 0 0,I 0 0,I 3 0,R a1,K5 K1,I k 0,R a2,N,u,v,R a3,I t4 0,I l 0,S "/claim/cut.py" t5]) #[]
abbrev fu (x:String)(i:Nat)(m:String)(t:Nat)(c:Kd):Obj:=Vf (VV "function") Ki (X8 (FuncData.mk (Ke x) (Ke x) (dA (tp i)) (Xb (dB (tp i))) (dS (tp i)) 3 [] N N N (S m t) Ki (R c) N 0)) #[]
set_option maxHeartbeats 0 in
noncomputable def KH:Params->Kc:=fun P =>
(nat_lit 2,Vf N Ki (V3 #[]) #[]) ::
(nat_lit 3,Vf (Y "dict") Ki (V3 #[de P "__name__" 165 (S "law_sheetfold_k21_a_solid_made" 564),de P "__doc__" 166 N,de P "__package__" 167 N,de P "__loader__" 168 (KU "__main__.__loader__#opaque"),de P "__spec__" 169 N,de P "__annotations__" 170 (R 6),de P "__builtins__" 171 (R 4),de P "__file__" 173 (S "/claim/cut.py" 172),de P "__cached__" 174 N,de P "SheetError" 206 (R 24),de P "NoDrawing" 222 (R 37),de P "NoBend" 238 (R 49),de P "NoSquare" 254 (R 61),de P "TooMany" 270 (R 73),de P "NoTurn" 286 (R 85),de P "NoRow" 302 (R 97),de P "NoName" 318 (R 109),de P "NotClosed" 334 (R 121),de P "NoSheet" 359 (R 140),de P "NoSolid" 384 (R 159),de P "NoTree" 409 (R 178),de P "NoWay" 434 (R 197),de P "Crowded" 459 (R 216),de P "least_twice" 471 (R 225),de P "links_of" 477 (R 230),de P "reached_from" 489 (R 237),de P "least_apart" 499 (R 244),de P "UNITS" 523 (R 251),de P "added" 531 (R 258),de P "negated" 538 (R 265),de P "MOST_CUBES" 542 (I 6 541),de P "solid_of" 553 (R 272),de P "side_pairs" 563 (R 279),de P "_law_cell_at" 573 (R 286),de P "_law_whole" 580 (R 293),de P "_law_spots" 589 (R 300),de P "_law_base" 598 (R 307),de P "_law_mixed" 606 (R 314),de P "_law_solid" 622 (R 321),de P "_law_kinds" 631 (R 328),de P "_law_far" 641 (R 335),de P "_law_fault" 647 (R 340),de P "_law_refused" 659 (R 347),de P "_law_right" 669 (R 354),de P "_law_spoilt" 684 (R 361),de P "law" 690 (R 366)] 46) #[]) ::
(nat_lit 15,tu #[Y "ValueError"]) ::
(nat_lit 22,tu #[]) ::
(nat_lit 23,Vf (Y "dict") Ki (V3 #[de P "__module__" 196 (S "sheetfold.errors" 187),de P "__firstlineno__" 200 (I 2 199),de P "__static_attributes__" 201 (R 22),de P "__weakref__" 203 (R 25),de P "__doc__" 204 N] 3) #[]) ::
(nat_lit 24,Vf (Y "type") Ki (Uv (VX (Ke "SheetError") [Y "ValueError"] [R 24,Y "ValueError", Y "Exception", Y "BaseException", Y "object"] 23 (Ke "SheetError") K1 [] [R 37,R 49,R 61,R 73,R 85,R 97,R 109,R 121,R 140,R 159,R 178,R 197,R 216] KN Ki KN)) #[Kl (R 15),Ki,Kl (S "SheetError" 189),Kl (S "SheetError" 197),Kl (KU "ValueError.__new__"),Kl (K5 K1)]) ::
(nat_lit 25,Vf (Y "getset_descriptor") Ki (UP #[S "__weakref__" 202,R 24,KU "ExceptionGroup.__weakref__", N]) #[]) ::
(nat_lit 28,tu #[R 24]) ::
(nat_lit 35,tu #[]) ::
(nat_lit 36,Vf (Y "dict") Ki (V3 #[de P "__module__" 214 (S "sheetfold.errors" 187),de P "__firstlineno__" 218 (I 4 217),de P "__static_attributes__" 219 (R 35),de P "__doc__" 220 N] 2) #[]) ::
(nat_lit 37,Vf (Y "type") Ki (Uv (VX (Ke "NoDrawing") [R 24] [R 37,R 24,Y "ValueError", Y "Exception", Y "BaseException", Y "object"] 36 (Ke "NoDrawing") K1 [] [] KN Ki KN)) #[Kl (R 28),Ki,Kl (S "NoDrawing" 207),Kl (S "NoDrawing" 215),Kl (KU "ValueError.__new__"),Kl (K5 K1)]) ::
(nat_lit 40,tu #[R 24]) ::
(nat_lit 47,tu #[]) ::
(nat_lit 48,Vf (Y "dict") Ki (V3 #[de P "__module__" 230 (S "sheetfold.errors" 187),de P "__firstlineno__" 234 (I 6 233),de P "__static_attributes__" 235 (R 47),de P "__doc__" 236 N] 2) #[]) ::
(nat_lit 49,Vf (Y "type") Ki (Uv (VX (Ke "NoBend") [R 24] [R 49,R 24,Y "ValueError", Y "Exception", Y "BaseException", Y "object"] 48 (Ke "NoBend") K1 [] [] KN Ki KN)) #[Kl (R 40),Ki,Kl (S "NoBend" 223),Kl (S "NoBend" 231),Kl (KU "ValueError.__new__"),Kl (K5 K1)]) ::
(nat_lit 52,tu #[R 24]) ::
(nat_lit 59,tu #[]) ::
(nat_lit 60,Vf (Y "dict") Ki (V3 #[de P "__module__" 246 (S "sheetfold.errors" 187),de P "__firstlineno__" 250 (I 8 249),de P "__static_attributes__" 251 (R 59),de P "__doc__" 252 N] 2) #[]) ::
(nat_lit 61,Vf (Y "type") Ki (Uv (VX (Ke "NoSquare") [R 24] [R 61,R 24,Y "ValueError", Y "Exception", Y "BaseException", Y "object"] 60 (Ke "NoSquare") K1 [] [] KN Ki KN)) #[Kl (R 52),Ki,Kl (S "NoSquare" 239),Kl (S "NoSquare" 247),Kl (KU "ValueError.__new__"),Kl (K5 K1)]) ::
(nat_lit 64,tu #[R 24]) ::
(nat_lit 71,tu #[]) ::
(nat_lit 72,Vf (Y "dict") Ki (V3 #[de P "__module__" 262 (S "sheetfold.errors" 187),de P "__firstlineno__" 266 (I 10 265),de P "__static_attributes__" 267 (R 71),de P "__doc__" 268 N] 2) #[]) ::
(nat_lit 73,Vf (Y "type") Ki (Uv (VX (Ke "TooMany") [R 24] [R 73,R 24,Y "ValueError", Y "Exception", Y "BaseException", Y "object"] 72 (Ke "TooMany") K1 [] [] KN Ki KN)) #[Kl (R 64),Ki,Kl (S "TooMany" 255),Kl (S "TooMany" 263),Kl (KU "ValueError.__new__"),Kl (K5 K1)]) ::
(nat_lit 76,tu #[R 24]) ::
(nat_lit 83,tu #[]) ::
(nat_lit 84,Vf (Y "dict") Ki (V3 #[de P "__module__" 278 (S "sheetfold.errors" 187),de P "__firstlineno__" 282 (I 12 281),de P "__static_attributes__" 283 (R 83),de P "__doc__" 284 N] 2) #[]) ::
(nat_lit 85,Vf (Y "type") Ki (Uv (VX (Ke "NoTurn") [R 24] [R 85,R 24,Y "ValueError", Y "Exception", Y "BaseException", Y "object"] 84 (Ke "NoTurn") K1 [] [] KN Ki KN)) #[Kl (R 76),Ki,Kl (S "NoTurn" 271),Kl (S "NoTurn" 279),Kl (KU "ValueError.__new__"),Kl (K5 K1)]) ::
(nat_lit 88,tu #[R 24]) ::
(nat_lit 95,tu #[]) ::
(nat_lit 96,Vf (Y "dict") Ki (V3 #[de P "__module__" 294 (S "sheetfold.errors" 187),de P "__firstlineno__" 298 (I 14 297),de P "__static_attributes__" 299 (R 95),de P "__doc__" 300 N] 2) #[]) ::
(nat_lit 97,Vf (Y "type") Ki (Uv (VX (Ke "NoRow") [R 24] [R 97,R 24,Y "ValueError", Y "Exception", Y "BaseException", Y "object"] 96 (Ke "NoRow") K1 [] [] KN Ki KN)) #[Kl (R 88),Ki,Kl (S "NoRow" 287),Kl (S "NoRow" 295),Kl (KU "ValueError.__new__"),Kl (K5 K1)]) ::
(nat_lit 100,tu #[R 24]) ::
(nat_lit 107,tu #[]) ::
(nat_lit 108,Vf (Y "dict") Ki (V3 #[de P "__module__" 310 (S "sheetfold.errors" 187),de P "__firstlineno__" 314 (I 16 313),de P "__static_attributes__" 315 (R 107),de P "__doc__" 316 N] 2) #[]) ::
(nat_lit 109,Vf (Y "type") Ki (Uv (VX (Ke "NoName") [R 24] [R 109,R 24,Y "ValueError", Y "Exception", Y "BaseException", Y "object"] 108 (Ke "NoName") K1 [] [] KN Ki KN)) #[Kl (R 100),Ki,Kl (S "NoName" 303),Kl (S "NoName" 311),Kl (KU "ValueError.__new__"),Kl (K5 K1)]) ::
(nat_lit 112,tu #[R 24]) ::
(nat_lit 119,tu #[]) ::
(nat_lit 120,Vf (Y "dict") Ki (V3 #[de P "__module__" 326 (S "sheetfold.errors" 187),de P "__firstlineno__" 330 (I 18 329),de P "__static_attributes__" 331 (R 119),de P "__doc__" 332 N] 2) #[]) ::
(nat_lit 121,Vf (Y "type") Ki (Uv (VX (Ke "NotClosed") [R 24] [R 121,R 24,Y "ValueError", Y "Exception", Y "BaseException", Y "object"] 120 (Ke "NotClosed") K1 [] [] KN Ki KN)) #[Kl (R 112),Ki,Kl (S "NotClosed" 319),Kl (S "NotClosed" 327),Kl (KU "ValueError.__new__"),Kl (K5 K1)]) ::
(nat_lit 124,tu #[R 24]) ::
(nat_lit 131,tu #[]) ::
(nat_lit 133,tu #[S "self" 350,S "why" 351]) ::
(nat_lit 134,tu #[]) ::
(nat_lit 136,Vf (Y "code") Ki (UP #[S "__init__" 347,S "NoSheet.__init__" 348,S "/claim/cut.py" 349,I 22 0,I 2 0,I 0 0,I 0 0,I 3 0,R 131,K5 K1,I 181 0,R 132,N,R 133,R 134,R 135,I 352 0,I 22 0,S "/claim/cut.py" 353]) #[]) ::
(nat_lit 137,Vf (Y "function") Ki (X8 (FuncData.mk (Ke "__init__") (Ke "NoSheet.__init__") (Arguments.mk [] [Arg.mk (Ke "self") Ki (KD 22 17 22 21),Arg.mk (Ke "why") Ki (KD 22 23 22 26)] Ki [] [] Ki []) (Xb [Stmt.Expr (NY (V9 (Vr (Ke "SheetError") (KD 23 8 23 18)) (Ke "__init__") (KD 23 8 23 27)) [Vr (Ke "self") (KD 23 28 23 32),Xz [XH (Const.str (Ke "no sheet: ")) 0 (KD 23 36 23 46),UX (Vr (Ke "why") (KD 23 47 23 50)) 114 Ki (KD 23 46 23 53)] (KD 23 34 23 54)] [] (KD 23 8 23 55)) (KD 23 8 23 55),Stmt.Assign [V9 (Vr (Ke "self") (KD 24 8 24 12)) (Ke "why") (KD 24 8 24 16)] (Vr (Ke "why") (KD 24 19 24 22)) (KD 24 8 24 22)]) (Scope.mk UC [(Ke "self", NameKind.local),(Ke "why", NameKind.local),(Ke "SheetError", Ur)] KN KN []) 3 [] N N N (S "sheetfold.errors" 187) Ki (R 136) N 0)) #[]) ::
(nat_lit 138,tu #[S "why" 355]) ::
(nat_lit 139,Vf (Y "dict") Ki (V3 #[de P "__module__" 342 (S "sheetfold.errors" 187),de P "__firstlineno__" 346 (I 20 345),de P "__init__" 354 (R 137),de P "__static_attributes__" 356 (R 138),de P "__doc__" 357 N] 2) #[]) ::
(nat_lit 140,Vf (Y "type") Ki (Uv (VX (Ke "NoSheet") [R 24] [R 140,R 24,Y "ValueError", Y "Exception", Y "BaseException", Y "object"] 139 (Ke "NoSheet") K1 [] [] KN Ki KN)) #[Kl (R 124),Ki,Kl (S "NoSheet" 335),Kl (S "NoSheet" 343),Kl (KU "ValueError.__new__"),Kl (K5 K1)]) ::
(nat_lit 143,tu #[R 24]) ::
(nat_lit 150,tu #[]) ::
(nat_lit 152,tu #[S "self" 375,S "why" 376]) ::
(nat_lit 153,tu #[]) ::
(nat_lit 155,Vf (Y "code") Ki (UP #[S "__init__" 372,S "NoSolid.__init__" 373,S "/claim/cut.py" 374,I 27 0,I 2 0,I 0 0,I 0 0,I 3 0,R 150,K5 K1,I 181 0,R 151,N,R 152,R 153,R 154,I 377 0,I 27 0,S "/claim/cut.py" 378]) #[]) ::
(nat_lit 156,Vf (Y "function") Ki (X8 (FuncData.mk (Ke "__init__") (Ke "NoSolid.__init__") (Arguments.mk [] [Arg.mk (Ke "self") Ki (KD 27 17 27 21),Arg.mk (Ke "why") Ki (KD 27 23 27 26)] Ki [] [] Ki []) (Xb [Stmt.Expr (NY (V9 (Vr (Ke "SheetError") (KD 28 8 28 18)) (Ke "__init__") (KD 28 8 28 27)) [Vr (Ke "self") (KD 28 28 28 32),Xz [XH (Const.str (Ke "no solid: ")) 0 (KD 28 36 28 46),UX (Vr (Ke "why") (KD 28 47 28 50)) 114 Ki (KD 28 46 28 53)] (KD 28 34 28 54)] [] (KD 28 8 28 55)) (KD 28 8 28 55),Stmt.Assign [V9 (Vr (Ke "self") (KD 29 8 29 12)) (Ke "why") (KD 29 8 29 16)] (Vr (Ke "why") (KD 29 19 29 22)) (KD 29 8 29 22)]) (Scope.mk UC [(Ke "self", NameKind.local),(Ke "why", NameKind.local),(Ke "SheetError", Ur)] KN KN []) 3 [] N N N (S "sheetfold.errors" 187) Ki (R 155) N 0)) #[]) ::
(nat_lit 157,tu #[S "why" 380]) ::
(nat_lit 158,Vf (Y "dict") Ki (V3 #[de P "__module__" 367 (S "sheetfold.errors" 187),de P "__firstlineno__" 371 (I 25 370),de P "__init__" 379 (R 156),de P "__static_attributes__" 381 (R 157),de P "__doc__" 382 N] 2) #[]) ::
(nat_lit 159,Vf (Y "type") Ki (Uv (VX (Ke "NoSolid") [R 24] [R 159,R 24,Y "ValueError", Y "Exception", Y "BaseException", Y "object"] 158 (Ke "NoSolid") K1 [] [] KN Ki KN)) #[Kl (R 143),Ki,Kl (S "NoSolid" 360),Kl (S "NoSolid" 368),Kl (KU "ValueError.__new__"),Kl (K5 K1)]) ::
(nat_lit 162,tu #[R 24]) ::
(nat_lit 169,tu #[]) ::
(nat_lit 171,tu #[S "self" 400,S "why" 401]) ::
(nat_lit 172,tu #[]) ::
(nat_lit 174,Vf (Y "code") Ki (UP #[S "__init__" 397,S "NoTree.__init__" 398,S "/claim/cut.py" 399,I 32 0,I 2 0,I 0 0,I 0 0,I 3 0,R 169,K5 K1,I 181 0,R 170,N,R 171,R 172,R 173,I 402 0,I 32 0,S "/claim/cut.py" 403]) #[]) ::
(nat_lit 175,Vf (Y "function") Ki (X8 (FuncData.mk (Ke "__init__") (Ke "NoTree.__init__") (Arguments.mk [] [Arg.mk (Ke "self") Ki (KD 32 17 32 21),Arg.mk (Ke "why") Ki (KD 32 23 32 26)] Ki [] [] Ki []) (Xb [Stmt.Expr (NY (V9 (Vr (Ke "SheetError") (KD 33 8 33 18)) (Ke "__init__") (KD 33 8 33 27)) [Vr (Ke "self") (KD 33 28 33 32),Xz [XH (Const.str (Ke "no tree: ")) 0 (KD 33 36 33 45),UX (Vr (Ke "why") (KD 33 46 33 49)) 114 Ki (KD 33 45 33 52)] (KD 33 34 33 53)] [] (KD 33 8 33 54)) (KD 33 8 33 54),Stmt.Assign [V9 (Vr (Ke "self") (KD 34 8 34 12)) (Ke "why") (KD 34 8 34 16)] (Vr (Ke "why") (KD 34 19 34 22)) (KD 34 8 34 22)]) (Scope.mk UC [(Ke "self", NameKind.local),(Ke "why", NameKind.local),(Ke "SheetError", Ur)] KN KN []) 3 [] N N N (S "sheetfold.errors" 187) Ki (R 174) N 0)) #[]) ::
(nat_lit 176,tu #[S "why" 405]) ::
(nat_lit 177,Vf (Y "dict") Ki (V3 #[de P "__module__" 392 (S "sheetfold.errors" 187),de P "__firstlineno__" 396 (I 30 395),de P "__init__" 404 (R 175),de P "__static_attributes__" 406 (R 176),de P "__doc__" 407 N] 2) #[]) ::
(nat_lit 178,Vf (Y "type") Ki (Uv (VX (Ke "NoTree") [R 24] [R 178,R 24,Y "ValueError", Y "Exception", Y "BaseException", Y "object"] 177 (Ke "NoTree") K1 [] [] KN Ki KN)) #[Kl (R 162),Ki,Kl (S "NoTree" 385),Kl (S "NoTree" 393),Kl (KU "ValueError.__new__"),Kl (K5 K1)]) ::
(nat_lit 181,tu #[R 24]) ::
(nat_lit 188,tu #[]) ::
(nat_lit 190,tu #[S "self" 425,S "at" 426]) ::
(nat_lit 191,tu #[]) ::
(nat_lit 193,Vf (Y "code") Ki (UP #[S "__init__" 422,S "NoWay.__init__" 423,S "/claim/cut.py" 424,I 37 0,I 2 0,I 0 0,I 0 0,I 3 0,R 188,K5 K1,I 181 0,R 189,N,R 190,R 191,R 192,I 427 0,I 37 0,S "/claim/cut.py" 428]) #[]) ::
(nat_lit 194,Vf (Y "function") Ki (X8 (FuncData.mk (Ke "__init__") (Ke "NoWay.__init__") (Arguments.mk [] [Arg.mk (Ke "self") Ki (KD 37 17 37 21),Arg.mk (Ke "at") Ki (KD 37 23 37 25)] Ki [] [] Ki []) (Xb [Stmt.Expr (NY (V9 (Vr (Ke "SheetError") (KD 38 8 38 18)) (Ke "__init__") (KD 38 8 38 27)) [Vr (Ke "self") (KD 38 28 38 32),Xz [XH (Const.str (Ke "no join leads on from place ")) 0 (KD 38 36 38 64),UX (Vr (Ke "at") (KD 38 65 38 67)) 114 Ki (KD 38 64 38 70)] (KD 38 34 38 71)] [] (KD 38 8 38 72)) (KD 38 8 38 72),Stmt.Assign [V9 (Vr (Ke "self") (KD 39 8 39 12)) (Ke "at") (KD 39 8 39 15)] (Vr (Ke "at") (KD 39 18 39 20)) (KD 39 8 39 20)]) (Scope.mk UC [(Ke "self", NameKind.local),(Ke "at", NameKind.local),(Ke "SheetError", Ur)] KN KN []) 3 [] N N N (S "sheetfold.errors" 187) Ki (R 193) N 0)) #[]) ::
(nat_lit 195,tu #[S "at" 430]) ::
(nat_lit 196,Vf (Y "dict") Ki (V3 #[de P "__module__" 417 (S "sheetfold.errors" 187),de P "__firstlineno__" 421 (I 35 420),de P "__init__" 429 (R 194),de P "__static_attributes__" 431 (R 195),de P "__doc__" 432 N] 2) #[]) ::
(nat_lit 197,Vf (Y "type") Ki (Uv (VX (Ke "NoWay") [R 24] [R 197,R 24,Y "ValueError", Y "Exception", Y "BaseException", Y "object"] 196 (Ke "NoWay") K1 [] [] KN Ki KN)) #[Kl (R 181),Ki,Kl (S "NoWay" 410),Kl (S "NoWay" 418),Kl (KU "ValueError.__new__"),Kl (K5 K1)]) ::
(nat_lit 200,tu #[R 24]) ::
(nat_lit 207,tu #[]) ::
(nat_lit 209,tu #[S "self" 450,S "edge" 451]) ::
(nat_lit 210,tu #[]) ::
(nat_lit 212,Vf (Y "code") Ki (UP #[S "__init__" 447,S "Crowded.__init__" 448,S "/claim/cut.py" 449,I 42 0,I 2 0,I 0 0,I 0 0,I 3 0,R 207,K5 K1,I 181 0,R 208,N,R 209,R 210,R 211,I 452 0,I 42 0,S "/claim/cut.py" 453]) #[]) ::
(nat_lit 213,Vf (Y "function") Ki (X8 (FuncData.mk (Ke "__init__") (Ke "Crowded.__init__") (Arguments.mk [] [Arg.mk (Ke "self") Ki (KD 42 17 42 21),Arg.mk (Ke "edge") Ki (KD 42 23 42 27)] Ki [] [] Ki []) (Xb [Stmt.Expr (NY (V9 (Vr (Ke "SheetError") (KD 43 8 43 18)) (Ke "__init__") (KD 43 8 43 27)) [Vr (Ke "self") (KD 43 28 43 32),Xz [XH (Const.str (Ke "four squares meet at ")) 0 (KD 43 36 43 57),UX (Vr (Ke "edge") (KD 43 58 43 62)) 114 Ki (KD 43 57 43 65)] (KD 43 34 43 66)] [] (KD 43 8 43 67)) (KD 43 8 43 67),Stmt.Assign [V9 (Vr (Ke "self") (KD 44 8 44 12)) (Ke "edge") (KD 44 8 44 17)] (Vr (Ke "edge") (KD 44 20 44 24)) (KD 44 8 44 24)]) (Scope.mk UC [(Ke "self", NameKind.local),(Ke "edge", NameKind.local),(Ke "SheetError", Ur)] KN KN []) 3 [] N N N (S "sheetfold.errors" 187) Ki (R 212) N 0)) #[]) ::
(nat_lit 214,tu #[S "edge" 455]) ::
(nat_lit 215,Vf (Y "dict") Ki (V3 #[de P "__module__" 442 (S "sheetfold.errors" 187),de P "__firstlineno__" 446 (I 40 445),de P "__init__" 454 (R 213),de P "__static_attributes__" 456 (R 214),de P "__doc__" 457 N] 2) #[]) ::
(nat_lit 216,Vf (Y "type") Ki (Uv (VX (Ke "Crowded") [R 24] [R 216,R 24,Y "ValueError", Y "Exception", Y "BaseException", Y "object"] 215 (Ke "Crowded") K1 [] [] KN Ki KN)) #[Kl (R 200),Ki,Kl (S "Crowded" 435),Kl (S "Crowded" 443),Kl (KU "ValueError.__new__"),Kl (K5 K1)]) ::
(nat_lit 219,tu #[]) ::
(nat_lit 221,tu #[S "things" 465,S "ordered" 466,S "one" 467,S "other" 468]) ::
(nat_lit 222,tu #[]) ::
(nat_lit 224,cc "least_twice" 462 463 464 46 1 219 181 220 (R 221) (R 222) 223 469 470) ::
(nat_lit 225,fu "least_twice" 16 "sheetfold.hanging" 460 224) ::
(nat_lit 226,tu #[]) ::
(nat_lit 229,cc "links_of" 472 473 474 52 2 226 181 227 N N 228 475 476) ::
(nat_lit 230,fu "links_of" 17 "sheetfold.hanging" 460 229) ::
(nat_lit 231,tu #[]) ::
(nat_lit 233,tu #[S "start" 481,S "links" 482,S "origins" 483,S "waiting" 484,S "k" 485,S "j" 486]) ::
(nat_lit 234,tu #[]) ::
(nat_lit 236,cc "reached_from" 478 479 480 58 2 231 181 232 (R 233) (R 234) 235 487 488) ::
(nat_lit 237,fu "reached_from" 18 "sheetfold.hanging" 460 236) ::
(nat_lit 238,tu #[]) ::
(nat_lit 240,tu #[S "count" 493,S "pairs" 494,S "reached" 495,S "k" 496]) ::
(nat_lit 241,tu #[]) ::
(nat_lit 243,cc "least_apart" 490 491 492 68 2 238 181 239 (R 240) (R 241) 242 497 498) ::
(nat_lit 244,fu "least_apart" 19 "sheetfold.hanging" 460 243) ::
(nat_lit 245,tu #[I (-1) 503,I 0 504,I 0 505]) ::
(nat_lit 246,tu #[I 0 506,I (-1) 508,I 0 509]) ::
(nat_lit 247,tu #[I 0 510,I 0 511,I (-1) 513]) ::
(nat_lit 248,tu #[I 0 514,I 0 515,I 1 516]) ::
(nat_lit 249,tu #[I 0 517,I 1 518,I 0 519]) ::
(nat_lit 250,tu #[I 1 520,I 0 521,I 0 522]) ::
(nat_lit 251,tu #[R 245,R 246,R 247,R 248,R 249,R 250]) ::
(nat_lit 252,tu #[]) ::
(nat_lit 254,tu #[S "one" 527,S "other" 528]) ::
(nat_lit 255,tu #[]) ::
(nat_lit 257,cc "added" 524 525 526 76 2 252 181 253 (R 254) (R 255) 256 529 530) ::
(nat_lit 258,fu "added" 22 "sheetfold.turns" 500 257) ::
(nat_lit 259,tu #[]) ::
(nat_lit 261,tu #[S "spot" 535]) ::
(nat_lit 262,tu #[]) ::
(nat_lit 264,cc "negated" 532 533 534 78 1 259 181 260 (R 261) (R 262) 263 536 537) ::
(nat_lit 265,fu "negated" 23 "sheetfold.turns" 500 264) ::
(nat_lit 266,tu #[]) ::
(nat_lit 268,tu #[S "cubes" 546,S "count" 547,S "twice" 548,S "ordered" 549,S "apart" 550]) ::
(nat_lit 269,tu #[]) ::
(nat_lit 271,cc "solid_of" 543 544 545 82 1 266 181 267 (R 268) (R 269) 270 551 552) ::
(nat_lit 272,fu "solid_of" 26 "sheetfold.solids" 539 271) ::
(nat_lit 273,tu #[]) ::
(nat_lit 275,tu #[S "cubes" 557,S "pairs" 558,S "j" 559,S "i" 560]) ::
(nat_lit 276,tu #[]) ::
(nat_lit 278,cc "side_pairs" 554 555 556 94 1 273 181 274 (R 275) (R 276) 277 561 562) ::
(nat_lit 279,fu "side_pairs" 27 "sheetfold.solids" 539 278) ::
(nat_lit 280,tu #[]) ::
(nat_lit 282,tu #[S "_law_script" 569,S "_law_k" 570]) ::
(nat_lit 283,tu #[]) ::
(nat_lit 285,cc "_law_cell_at" 566 567 568 102 2 280 181 281 (R 282) (R 283) 284 571 572) ::
(nat_lit 286,fu "_law_cell_at" 29 "law_sheetfold_k21_a_solid_made" 564 285) ::
(nat_lit 287,tu #[]) ::
(nat_lit 289,tu #[S "_law_found" 577]) ::
(nat_lit 290,tu #[]) ::
(nat_lit 292,cc "_law_whole" 574 575 576 106 1 287 181 288 (R 289) (R 290) 291 578 579) ::
(nat_lit 293,fu "_law_whole" 30 "law_sheetfold_k21_a_solid_made" 564 292) ::
(nat_lit 294,tu #[]) ::
(nat_lit 296,tu #[S "_law_found" 584,S "_law_spot" 585,S "_law_number" 586]) ::
(nat_lit 297,tu #[]) ::
(nat_lit 299,cc "_law_spots" 581 582 583 108 1 294 181 295 (R 296) (R 297) 298 587 588) ::
(nat_lit 300,fu "_law_spots" 31 "law_sheetfold_k21_a_solid_made" 564 299) ::
(nat_lit 301,tu #[]) ::
(nat_lit 303,tu #[S "_law_cells" 593,S "_law_base_here" 594,S "_law_cell" 595]) ::
(nat_lit 304,tu #[]) ::
(nat_lit 306,cc "_law_base" 590 591 592 118 1 301 181 302 (R 303) (R 304) 305 596 597) ::
(nat_lit 307,fu "_law_base" 32 "law_sheetfold_k21_a_solid_made" 564 306) ::
(nat_lit 308,tu #[]) ::
(nat_lit 310,tu #[S "_law_cell" 602,S "_law_k" 603]) ::
(nat_lit 311,tu #[]) ::
(nat_lit 313,cc "_law_mixed" 599 600 601 126 2 308 181 309 (R 310) (R 311) 312 604 605) ::
(nat_lit 314,fu "_law_mixed" 33 "law_sheetfold_k21_a_solid_made" 564 313) ::
(nat_lit 315,tu #[]) ::
(nat_lit 317,tu #[S "_law_cells" 610,S "_law_base_here" 611,S "_law_kind" 612,S "_law_cubes" 613,S "_law_corner" 614,S "_law_spot" 615,S "_law_k" 616,S "_law_cell" 617,S "_law_cube" 618,S "_law_axis" 619]) ::
(nat_lit 318,tu #[]) ::
(nat_lit 320,cc "_law_solid" 607 608 609 128 3 315 181 316 (R 317) (R 318) 319 620 621) ::
(nat_lit 321,fu "_law_solid" 34 "law_sheetfold_k21_a_solid_made" 564 320) ::
(nat_lit 322,tu #[]) ::
(nat_lit 324,tu #[S "_law_e" 626,S "_law_one" 627,S "_law_two" 628]) ::
(nat_lit 325,tu #[]) ::
(nat_lit 327,cc "_law_kinds" 623 624 625 144 1 322 181 323 (R 324) (R 325) 326 629 630) ::
(nat_lit 328,fu "_law_kinds" 35 "law_sheetfold_k21_a_solid_made" 564 327) ::
(nat_lit 329,tu #[]) ::
(nat_lit 331,tu #[S "_law_cube" 635,S "_law_one" 636,S "_law_far_here" 637,S "_law_k" 638]) ::
(nat_lit 332,tu #[]) ::
(nat_lit 334,cc "_law_far" 632 633 634 148 2 329 181 330 (R 331) (R 332) 333 639 640) ::
(nat_lit 335,fu "_law_far" 36 "law_sheetfold_k21_a_solid_made" 564 334) ::
(nat_lit 336,tu #[]) ::
(nat_lit 339,cc "_law_fault" 642 643 644 153 1 336 181 337 N N 338 645 646) ::
(nat_lit 340,fu "_law_fault" 37 "law_sheetfold_k21_a_solid_made" 564 339) ::
(nat_lit 341,tu #[]) ::
(nat_lit 343,tu #[S "_law_cubes" 651,S "_law_due" 652,S "_law_told" 653,S "_law_kinds_here" 654,S "_law_mine" 655,S "_law_e" 656]) ::
(nat_lit 344,tu #[]) ::
(nat_lit 346,cc "_law_refused" 648 649 650 170 2 341 181 342 (R 343) (R 344) 345 657 658) ::
(nat_lit 347,fu "_law_refused" 38 "law_sheetfold_k21_a_solid_made" 564 346) ::
(nat_lit 348,tu #[]) ::
(nat_lit 350,tu #[S "_law_cubes" 663,S "_law_due" 664,S "_law_mine" 665,S "_law_found" 666]) ::
(nat_lit 351,tu #[]) ::
(nat_lit 353,cc "_law_right" 660 661 662 185 1 348 181 349 (R 350) (R 351) 352 667 668) ::
(nat_lit 354,fu "_law_right" 39 "law_sheetfold_k21_a_solid_made" 564 353) ::
(nat_lit 355,tu #[]) ::
(nat_lit 357,tu #[S "_law_cubes" 673,S "_law_cells" 674,S "_law_base_here" 675,S "_law_made" 676,S "_law_cell" 677,S "_law_way" 678,S "_law_at" 679,S "_law_far_here" 680,S "_law_k" 681]) ::
(nat_lit 358,tu #[]) ::
(nat_lit 360,cc "_law_spoilt" 670 671 672 192 3 355 181 356 (R 357) (R 358) 359 682 683) ::
(nat_lit 361,fu "_law_spoilt" 40 "law_sheetfold_k21_a_solid_made" 564 360) ::
(nat_lit 362,tu #[]) ::
(nat_lit 365,cc "law" 685 686 687 206 1 362 181 363 N N 364 688 689) ::
(nat_lit 366,fu "law" 41 "law_sheetfold_k21_a_solid_made" 564 365)::[]
def kA:List Kd:=[2,3,15,22,23,24,25,28,35,36,37,40,47,48,49,52,59,60,61,64,71,72,73,76,83,84,85,88,95,96,97,100,107,108,109,112,119,120,121,124,131,133,134,136,137,138,139,140,143,150,152,153,155,156,157,158,159,162,169,171,172,174,175,176,177,178,181,188,190,191,193,194,195,196,197,200,207,209,210,212,213,214,215,216,219,221,222,224,225,226,229,230,231,233,234,236,237,238,240,241,243,244,245,246,247,248,249,250,251,252,254,255,257,258,259,261,262,264,265,266,268,269,271,272,273,275,276,278,279,280,282,283,285,286,287,289,290,292,293,294,296,297,299,300,301,303,304,306,307,308,310,311,313,314,315,317,318,320,321,322,324,325,327,328,329,331,332,334,335,336,339,340,341,343,344,346,347,348,350,351,353,354,355,357,358,360,361,362,365,366]
theorem kE (P:Params):kA=(KH P).map (·.1):=by kernel_rfl
noncomputable abbrev hk:Hook:=kHook KH kA kE
noncomputable def tfQ (tr:(String->Option UZ)->Kx->KG->Nat->Option Kb->Nat->Kf->Thread->Option Kf)(tb:String->Option UZ)(p:Kx)(w:KG)(N:Nat)(s:Kf):Option Kf :=
 match s.heap.isNs mainGlobals&&s.gens.size==0 with
 | true=>(tr tb p w s.heap.objs.size (s.heap.nsMap mainGlobals "__annotations__") N s (topStub p)).bind fun u =>
   match staticsOk (importedModules p.main.body) s.heap u.heap&&namesBound p u.heap&&gensDone u&&laidKept s.heap u.heap with
   | true=>some u
   | false=>none
 | false=>none
theorem tf_q (p:Kx)(w:KG)(N:Nat):topFrom treeTable p w N=tfQ X9 Xe p w N:=by
 rw [← Fast.te14082659384304107361,← Na]
 rfl
noncomputable def opQ (p:Kx)(w:KG)(N:Nat):Option Kf :=
 (Fast.tw10274390034422433532 Xe (opening p) w N (Ni (opening p)).1 (Ni (opening p)).2).bind (Fast.tw14289696077712309145 p)
theorem op_q (p:Kx)(w:KG)(N:Nat):fencedOpening treeTable p w N=opQ p w N:=by
 unfold opQ
 rw [← Fast.te10274390034422433532,← Na,← Fast.te1435165496053646825,← Fast.te14289696077712309145]
 rfl
noncomputable def endsQ (p:Kx)(w:KG)(N:Nat):Option Kf:=(opQ p w N).bind (tfQ X9 Xe p w N)
theorem qhe (p:Kx)(w:KG)(N:Nat):openEnds treeTable p w N=endsQ p w N:=by
 unfold openEnds endsQ
 rw [op_q,tf_q]
set_option maxHeartbeats 0 in
theorem left:LeftO PySem.Challenge.pw_sheetfold_k21_a_solid_made vw [] (fun s=>xlAt vw [] s&&recOk (RowW.records (OpenRow.toRowW (OpenLaw.row PySem.Challenge.rw_sheetfold_k21_a_solid_made))) s) (Hook.obs hk) (Hook.val hk) 7884:=by
 intro w
 rw [qhe,Fast.te4187177175401517315]
 kernel_rfl
end HD
namespace L2
open PySem PySem.Spec PyProof.Rows
abbrev Key:=Sum Int Str
def qgU:Key->Kb->Bool
 | .inl k,v=>Value.isInt k v
 | .inr x,v=>Value.isStrOf x v
def keyH (w:KG):Key->Int
 | .inl k=>hashInt k
 | .inr x=>hashStr w x
theorem zO:∀ {k:Key} {v:Kb},qgU k v=true->(∃ i t,k=Sum.inl i/\v=Xu i t)\/(∃ x t,k=Sum.inr x/\v=Xt x t)
 | .inl i,v,h=>by
  obtain ⟨t,e⟩:=Value.isInt_shape (k:=i) (v:=v) h
  exact .inl ⟨i,t,rfl,e⟩
 | .inr x,v,h=>by
  obtain ⟨t,e⟩:=Value.isStrOf_shape (x:=x) (v:=v) h
  exact .inr ⟨x,t,rfl,e⟩
theorem qhy (a b:Int):decide ((Sum.inl a:Key)=Sum.inl b)=(a==b):=by
 by_cases e:a=b
 ·subst e;simp
 ·have h:¬ (Sum.inl a:Key)=Sum.inl b:=fun q=>e (Sum.inl.inj q)
  rw [decide_eq_false h]
  exact (beq_eq_false_iff_ne.mpr e).symm
theorem qhB (a b:Str):decide ((Sum.inr a:Key)=Sum.inr b)=decide (a=b):=by
 by_cases e:a=b
 ·subst e;simp
 ·have h:¬ (Sum.inr a:Key)=Sum.inr b:=fun q=>e (Sum.inr.inj q)
  rw [decide_eq_false h,decide_eq_false e]
theorem qhz (a:Int)(b:Str):decide ((Sum.inl a:Key)=Sum.inr b)=false:=decide_eq_false (fun q=>nomatch q)
theorem qhA (a:Str)(b:Int):decide ((Sum.inr a:Key)=Sum.inl b)=false:=decide_eq_false (fun q=>nomatch q)
def Wq (prog:Kx)(w:KG):PySem.KeyKind prog w Key where
 is:=qgU
 hash:=keyH w
 inj:=fun v a b ha hb=>by
  rcases zO ha with ⟨i,t,rfl,rfl⟩|⟨x,t,rfl,rfl⟩
  ·rcases zO hb with ⟨j,u,rfl,e⟩|⟨y,u,rfl,e⟩
   ·injection e with e1 _;rw [e1]
   ·exact nomatch e
  ·rcases zO hb with ⟨j,u,rfl,e⟩|⟨y,u,rfl,e⟩
   ·exact nomatch e
   ·injection e with e1 _;rw [e1]
 byValue:=fun k v h=>by
  rcases zO h with ⟨i,t,rfl,rfl⟩|⟨x,t,rfl,rfl⟩<;>rfl
 pyHash:=fun hv h=>by
  rcases zO hv with ⟨i,t,rfl,rfl⟩|⟨x,t,rfl,rfl⟩
  ·exact wpAny_pyHash_int h
  ·exact wpAny_pyHash_str h
 eqBool:=fun hu hv h=>by
  rcases zO hu with ⟨i,t,rfl,rfl⟩|⟨x,t,rfl,rfl⟩
  ·rcases zO hv with ⟨j,u,rfl,rfl⟩|⟨y,u,rfl,rfl⟩
   ·rw [qhy] at h;exact wpAny_eqBool_int h
   ·rw [qhz] at h;exact SeqAt.EqAt.int_str i t y u _ _ _ _ h
  ·rcases zO hv with ⟨j,u,rfl,rfl⟩|⟨y,u,rfl,rfl⟩
   ·rw [qhA] at h;exact SeqAt.EqAt.str_int x t j u _ _ _ _ h
   ·rw [qhB] at h;exact wpAny_eqBool_str h
 «strs»:=fun k x t v h=>by
  rcases zO h with ⟨i,u,rfl,e⟩|⟨y,u,rfl,e⟩
  ·exact nomatch e
  ·injection e with e1 _
   subst e1
   cases v<;>rfl
inductive V where
 | non|bl (b:Bool)|int (i:Int)|str (x:Str)|byt (b:Array UInt8)|flt (b:UInt64)|ref (a:Kd)|ty (n:String)
 deriving DecidableEq
def RelV:V->Kb->Prop
 | .non,u=>u=VH
 | .bl b,u=>u=K5 b
 | .int i,u=>∃ t,u=Xu i t
 | .str x,u=>∃ t,u=Xt x t
 | .byt b,u=>∃ t,u=Value.bytes b t
 | .flt b,u=>∃ t,u=EK b t
 | .ref a,u=>u=KW a
 | .ty n,u=>u=VV n
abbrev Vals:List V->List Kb->Prop:=Vo RelV
theorem Vals.length {xs:List V}{us:List Kb}(r:Vals xs us):xs.length=us.length:=Paired.length r
theorem Vals.get:∀ {xs:List V} {us:List Kb} {i:Nat} {x:V},Vals xs us->xs[i]?=some x->∃ u,us[i]?=some u/\RelV x u
 | _,_,_,_,.nil,e=>by simp at e
 | _,_,0,_,.cons r _,e=>by simp at e;subst e;exact ⟨_,rfl,r⟩
 | _,_,i+1,x,.cons _ t,e=>by
  obtain ⟨u,h1,h2⟩:=Vals.get (i:=i) (x:=x) t (by simpa using e)
  exact ⟨u,by simpa using h1,h2⟩
theorem Vals.set {x:V}{u:Kb}(r:RelV x u):∀ {xs:List V} {us:List Kb} (i:Nat),Vals xs us->Vals (xs.set i x) (us.set i u)
 | _,_,_,.nil=>.nil
 | _,_,0,.cons _ t=>.cons r t
 | _,_,i+1,.cons q t=>.cons q (Vals.set r i t)
theorem Vals.append:∀ {xs ys:List V} {us ws:List Kb},Vals xs us->Vals ys ws->Vals (xs++ys) (us++ws)
 | _,_,_,_,.nil,s=>s
 | _,_,_,_,.cons r t,s=>.cons r (Vals.append t s)
theorem Vals.take:∀ {xs:List V} {us:List Kb} (n:Nat),Vals xs us->Vals (xs.take n) (us.take n)
 | _,_,0,_=>.nil
 | _,_,_+1,.nil=>.nil
 | _,_,n+1,.cons r t=>.cons r (Vals.take n t)
theorem Vals.drop:∀ {xs:List V} {us:List Kb} (n:Nat),Vals xs us->Vals (xs.drop n) (us.drop n)
 | _,_,0,r=>r
 | _,_,_+1,.nil=>.nil
 | _,_,n+1,.cons _ t=>Vals.drop n t
def RelO:Option V->Option Kb->Prop
 | some v,some u=>RelV v u
 | none,none=>True
 | _,_=>False
def KV {κ:Type}:List (κ×V)->List (κ×Value)->Prop:=Vo fun (p:κ×V) (q:κ×Value)=>p.1=q.1/\RelV p.2 q.2
def kV:Key->V
 | .inl i=>.int i
 | .inr x=>.str x
inductive HO where
 | lst (xs:List V)
 | tup (xs:List V)
 | dK (kvs:List (Key×V))|dT (kvs:List (List Key×V))
 | set (S:Int->Bool) (n:Nat)
 | ins (C dx:Kd) (fs:List (Str×V))
 | own (x:Kd)
 | xd (fs:List (Str×V))
 | met (f x:Kd)
 | rng (lo hi:Int)
 | frz (o:Obj) (u:HO)
 | tbl (ps:Array Kb)
 | ext (φ:KA->Prop)
abbrev Hp:=Kd->Option HO
def upd (H:Hp)(a:Kd)(o:HO):Hp:=fun b=>if b=a then some o else H b
theorem qI {H:Hp}{a:Kd}{o:HO}:upd H a o a=some o:=by unfold upd;rw [if_pos rfl]
theorem qD {H:Hp}{a b:Kd}{o:HO}(h:b≠a):upd H a o b=H b:=by unfold upd;rw [if_neg h]
theorem ne_of {H:Hp}{a b:Kd}{o u:HO}(h:H a=some o)(h':H b=some u)(d:o≠u):a≠b:=by
 intro e;subst e;rw [h] at h';exact d (V7 h')
theorem qT {H:Hp}{a b:Kd}{o:HO}(h:H a=some o)(h':H b=none):a≠b:=by
 intro e;subst e;rw [h] at h';cases h'
section
variable (P:Kx)(w:KG)
def zK (H:Hp)(h:KA)(a:Kd):HO->Prop
 | .lst xs=>xs.length<=sizeLine/\∃ (its:List Kb) (n:Nat),Vals xs its/\h.get? a=some { cls:=.type "list", data:=.seq its.toArray n }
 | .tup xs=>xs.length<=sizeLine/\∃ its:List Kb,Vals xs its/\IsTup h a its.toArray
 | .dK kvs=>kvs.length<=sizeLine/\(a==sysModules)=false/\∃ vs,KV kvs vs/\h.DictOf (Wq P w) a vs
 | .dT kvs=>kvs.length<=sizeLine/\(a==sysModules)=false/\∃ xs:List (List Key×Addr×Value),
   Vo (fun (p:List Key×V) (q:List Key×Addr×Value)=>p.1=q.1/\H q.2.1=some (.tup (p.1.map kV))/\RelV p.2 q.2.2) kvs xs/\
   ∃ o es ep,h.get? a=some o/\o.ExactDict/\o.data=.dict es ep/\es.toList=xs.map (entryOfKey (tupleKind (Wq P w)))/\(xs.map (·.1)).Nodup
 | .set S n=>h.SetOf (intKind P w) a S n
 | .ins C dx fs=>H dx=some (.own a)/\fs.length<=1000/\dx≠a/\h.get? a=some (NZ C dx)/\
   ∃ mA,h.Ns1 dx mA/\(∀ f,RelO (fs.lookup f) (mA f))/\PySem.Within mA (fs.map (·.1))
 | .own _=>∃ o,h.get? a=some o
 | .xd fs=>∃ mA,h.Ns1 a mA/\∀ f,RelO (fs.lookup f) (mA f)
 | .rng lo hi=>∃ t u v,h.get? a=some { cls:=.type "range", data:=.fields #[.int lo t,.int hi u,.int 1 v] }
 | .frz o u=>h.get? a=some o/\zK H h a u
 | .tbl ps=>h.get? a=some { cls:=.none,data:=.fields ps }
 | .met f x=>h.get? a=some (Nu (.ref f) (.ref x))
 | .ext φ=>φ h/\(∃ o,h.get? a=some o)/\∀ h1 h2:KA,φ h1->(∀ o,h1.get? a=some o->h2.get? a=some o)->φ h2
def HOk (H:Hp)(h:KA):Prop:=∀ a o,H a=some o->zK P w H h a o
end
section
variable {P:Kx}{w:KG}{H H':Hp}{h h':KA}{a:Kd}{o:HO}
theorem zK.lt (x:zK P w H h a o):a<h.objs.size:=by
 cases o with
 | lst xs=>obtain ⟨_,_,_,_,e⟩:=x;exact Ku e
 | tup xs=>obtain ⟨_,_,_,p⟩:=x;exact p.lt
 | dK kvs=>obtain ⟨_,_,_,_,o,_,_,e,_⟩:=x;exact Ku e
 | dT kvs=>obtain ⟨_,_,_,_,o,_,_,e,_⟩:=x;exact Ku e
 | set S n=>obtain ⟨o,_,_,_,e,_⟩:=x;exact Ku e
 | ins C dx fs=>obtain ⟨_,_,_,e,_⟩:=x;exact Ku e
 | own y=>obtain ⟨_,e⟩:=x;exact Ku e
 | xd fs=>obtain ⟨_,⟨_,_,_,e,_⟩,_⟩:=x;exact Ku e
 | rng lo hi=>obtain ⟨_,_,_,e⟩:=x;exact Ku e
 | frz ob u=>obtain ⟨e,_⟩:=x;exact Ku e
 | tbl ps=>exact Ku (show h.get? a=some _ from x)
 | met f y=>exact Ku (show h.get? a=some _ from x)
 | ext φ=>obtain ⟨_,⟨_,e⟩,_⟩:=x;exact Ku e
theorem Paired.mapP {α β:Type}{F G:α->β->Prop}:∀ {l₁:List α} {l₂:List β},Vo F l₁ l₂->(∀ a b,F a b->G a b)->Vo G l₁ l₂
 | _,_,.nil,_=>.nil
 | _,_,.cons r t,f=>.cons (f _ _ r) (Paired.mapP t f)
theorem zK.stay (x:zK P w H h a o)(k:∀ b u,(b=a\/H b=some (.own a))->h.get? b=some u->h'.get? b=some u)
  (ho:∀ b,H b=some (.own a)->H' b=some (.own a)) (ht:∀ b xs,H b=some (.tup xs)->H' b=some (.tup xs)):zK P w H' h' a o:=by
 induction o with
 | lst xs=>obtain ⟨z,its,n,r,e⟩:=x;exact ⟨z,its,n,r,k _ _ (.inl rfl) e⟩
 | tup xs=>obtain ⟨z,its,r,ob,e,c⟩:=x;exact ⟨z,its,r,ob,k _ _ (.inl rfl) e,c⟩
 | dK kvs=>obtain ⟨z,y,vs,r,ob,es,ep,e,c⟩:=x;exact ⟨z,y,vs,r,ob,es,ep,k _ _ (.inl rfl) e,c⟩
 | dT kvs =>
  obtain ⟨z,y,xs,r,ob,es,ep,e,c⟩:=x
  exact ⟨z,y,xs,Paired.mapP r fun p q z=>⟨z.1,ht _ _ z.2.1,z.2.2⟩,ob,es,ep,k _ _ (.inl rfl) e,c⟩
 | set S n=>obtain ⟨ob,es,ep,t,e,c⟩:=x;exact ⟨ob,es,ep,t,k _ _ (.inl rfl) e,c⟩
 | ins C dx fs =>
  obtain ⟨d,z,ne,e,mA,⟨od,es,ep,e2,c⟩,r⟩:=x
  exact ⟨ho _ d,z,ne,k _ _ (.inl rfl) e,mA,⟨od,es,ep,k _ _ (.inr d) e2,c⟩,r⟩
 | own y=>obtain ⟨ob,e⟩:=x;exact ⟨ob,k _ _ (.inl rfl) e⟩
 | xd fs=>obtain ⟨mA,⟨od,es,ep,e,c⟩,r⟩:=x;exact ⟨mA,⟨od,es,ep,k _ _ (.inl rfl) e,c⟩,r⟩
 | rng lo hi=>obtain ⟨t,u,v,e⟩:=x;exact ⟨t,u,v,k _ _ (.inl rfl) e⟩
 | frz ob u ih=>obtain ⟨e,q⟩:=x;exact ⟨k _ _ (.inl rfl) e,ih q⟩
 | tbl ps =>
  have e:h.get? a=some { cls:=.none,data:=.fields ps }:=x
  show h'.get? a=some { cls:=.none,data:=.fields ps }
  exact k a _ (.inl rfl) e
 | met f y =>
  have e:h.get? a=some (Nu (.ref f) (.ref y)):=x
  show h'.get? a=some (Nu (.ref f) (.ref y))
  exact k a _ (.inl rfl) e
 | ext φ=>obtain ⟨p,⟨o,e⟩,st⟩:=x;exact ⟨st _ _ p fun o q=>k _ _ (.inl rfl) q,⟨o,k _ _ (.inl rfl) e⟩,st⟩
theorem HOk.lt (x:HOk P w H h)(e:H a=some o):a<h.objs.size:=(x a o e).lt
theorem HOk.fresh (x:HOk P w H h)(e:h.objs.size<=a):H a=none:=by
 cases q:H a with
 | none=>rfl
 | some u=>exact absurd (KS (x.lt q) e) (VS _)
theorem HOk.kept (x:HOk P w H h)(k:∀ b u,h.get? b=some u->h'.get? b=some u):HOk P w H h':=fun a o e =>
 (x a o e).stay (fun b u _ q=>k b u q) (fun _ q=>q) fun _ _ q=>q
theorem HOk.laid (x:HOk P w H h)(k:∀ b u,h.get? b=some u->h'.get? b=some u)(hp:h.objs.size<=a)(new:zK P w (upd H a o) h' a o):HOk P w (upd H a o) h':=fun b u e=>by
 have hn:=x.fresh hp
 by_cases hb:b=a
 ·subst hb;rw [qI] at e;cases e;exact new
 ·rw [qD hb] at e
  exact (x b u e).stay (fun c v _ q=>k c v q) (fun c q=>by rw [qD (qT q hn)];exact q) fun c xs q=>by rw [qD (qT q hn)];exact q
end
def Rd (H:Hp)(a:Kd)(u:HO):Prop:=H a=some u\/∃ o,H a=some (.frz o u)
theorem Rd.ok {P:Kx}{w:KG}{H:Hp}{h:KA}{a:Kd}{u:HO}(r:Rd H a u)(x:HOk P w H h):zK P w H h a u:=by
 rcases r with r|⟨o,r⟩
 ·exact x a u r
 ·obtain ⟨_,q⟩:=x a _ r
  exact q
def Mut:Option HO->Prop
 | some (.lst _)=>True
 | some (.dK _)=>True
 | some (.dT _)=>True
 | some (.set _ _)=>True
 | some (.ins _ _ _)=>True
 | some (.ext _)=>True
 | _=>False
section
variable {P:Kx}{w:KG}{H:Hp}{h h':KA}{x e:Kd}{o':HO}
theorem HOk.write (ok:HOk P w H h)(mu:Mut (H x))(he:e=x\/H e=some (.own x))(k:∀ b u,b≠e->h.get? b=some u->h'.get? b=some u)(heo:∃ u,h'.get? e=some u)
  (new:zK P w (upd H x o') h' x o'):HOk P w (upd H x o') h':=fun b u q=>by
 have nown:∀ c y,H c=some (.own y)->c≠x:=fun c y r z=>by subst z;rw [r] at mu;exact mu
 have ntup:∀ c xs,H c=some (.tup xs)->c≠x:=fun c xs r z=>by subst z;rw [r] at mu;exact mu
 by_cases hb:b=x
 ·subst hb;rw [qI] at q;cases q;exact new
 ·rw [qD hb] at q
  by_cases hbe:b=e
  ·have q':H b=some (.own x):=by
    rcases he with z|z
    ·exact absurd (hbe.trans z) hb
    ·rw [hbe];exact z
   rw [q] at q';cases q'
   obtain ⟨v,hv⟩:=heo
   exact ⟨v,by rw [hbe];exact hv⟩
  ·refine (ok b u q).stay (fun c v hc r=>k c v ?_ r) (fun c r=>by rw [qD (nown c b r)];exact r) fun c xs r=>by rw [qD (ntup c xs r)];exact r
   rcases hc with rfl|hc
   ·exact hbe
   ·rintro rfl
    rcases he with z|z
    ·exact nown c b hc z
    ·rw [hc] at z;cases z;exact hb rfl
end
structure Un (fs ex:List Kd)(H H':Hp)(h h':KA):Prop where
 keep:∀ b o,h.get? b=some o->H b=none->b∉fs->b∉ex->h'.get? b=some o
 slot:∀ b o,h.get? b=some o->H b=none->b∈fs->b∉ex->∃ sl,h'.get? b=some { o with slots:=sl }
 free:∀ b o,h.get? b=some o->H b=none->b∉ex->H' b=none
 there:∀ b o,h.get? b=some o->b∉ex->∃ o',h'.get? b=some o'
 tups:∀ b xs,H b=some (.tup xs)->H' b=some (.tup xs)
 frzs:∀ b o u,H b=some (.frz o u)->H' b=some (.frz o u)
 tbls:∀ b ps,H b=some (.tbl ps)->∃ more,H' b=some (.tbl (ps++more))
section
variable {fs fs' ex ex':List Kd}{H H1 H2:Hp}{h h1 h2 h':KA}{a x e:Kd}{o:HO}
theorem Un.any (u:Un fs ex H H1 h h1){b:Kd}{ob:Obj}(q:h.get? b=some ob)(n:H b=none)(hx:b∉ex):∃ sl,h1.get? b=some { ob with slots:=sl }:=by
 by_cases hb:b∈fs
 ·exact u.slot b ob q n hb hx
 ·exact ⟨ob.slots,u.keep b ob q n hb hx⟩
theorem Un.trans (a:Un fs ex H H1 h h1)(b:Un fs ex H1 H2 h1 h2):Un fs ex H H2 h h2 where
 keep:=fun c ob q n hc hx=>b.keep c ob (a.keep c ob q n hc hx) (a.free c ob q n hx) hc hx
 slot:=fun c ob q n hc hx=>by
  obtain ⟨sl,e1⟩:=a.slot c ob q n hc hx
  obtain ⟨sl',e2⟩:=b.slot c _ e1 (a.free c ob q n hx) hc hx
  exact ⟨sl',e2⟩
 free:=fun c ob q n hx=>by
  obtain ⟨o',e1⟩:=a.there c ob q hx
  exact b.free c o' e1 (a.free c ob q n hx) hx
 there:=fun c ob q hx=>by
  obtain ⟨o',e1⟩:=a.there c ob q hx
  exact b.there c o' e1 hx
 tups:=fun c xs q=>b.tups c xs (a.tups c xs q)
 frzs:=fun c ob xs q=>b.frzs c ob xs (a.frzs c ob xs q)
 tbls:=fun c ps q=>by
  obtain ⟨m1,e1⟩:=a.tbls c ps q
  obtain ⟨m2,e2⟩:=b.tbls c _ e1
  exact ⟨m1++m2,by rw [e2,Nb]⟩
theorem Un.kept (k:∀ b u,h.get? b=some u->h'.get? b=some u):Un fs ex H H h h' :=
 ⟨fun b ob q _ _ _=>k b ob q,fun b ob q _ _ _=>⟨ob.slots,k b ob q⟩,fun _ _ _ n _=>n,fun b ob q _=>⟨ob,k b ob q⟩,fun _ _ q=>q,fun _ _ _ q=>q,fun _ ps q=>⟨#[],by rw [q];simp⟩⟩
theorem Un.refl:Un fs ex H H h h:=Un.kept fun _ _ q=>q
theorem Un.laid (k:∀ b u,h.get? b=some u->h'.get? b=some u)(hp:h.objs.size<=a)(hn:H a=none):Un fs ex H (upd H a o) h h' where
 keep:=fun b u q _ _ _=>k b u q
 slot:=fun b u q _ _ _=>⟨u.slots,k b u q⟩
 free:=fun b u q n _=>by rw [qD (K6 (KS (Ku q) hp))];exact n
 there:=fun b u q _=>⟨u,k b u q⟩
 tups:=fun b xs q=>by rw [qD (qT q hn)];exact q
 frzs:=fun b u xs q=>by rw [qD (qT q hn)];exact q
 tbls:=fun b ps q=>⟨#[],by rw [qD (qT q hn),q];simp⟩
theorem Un.write (mu:Mut (H x))(he:e=x\/H e=some (.own x))(k:∀ b u,b≠e->h.get? b=some u->h'.get? b=some u)(heo:∃ u,h'.get? e=some u):Un fs ex H (upd H x o) h h':=by
 have hx:∀ b,H b=none->b≠x:=fun b n z=>by subst z;rw [n] at mu;exact mu
 have hb:∀ b,H b=none->b≠e:=fun b n z=>by
  subst z
  rcases he with r|r
  ·exact hx b n r
  ·rw [n] at r;cases r
 have hm:∀ b u,H b=some u->¬ Mut (some u)->b≠x:=fun b u q nm z=>by subst z;rw [q] at mu;exact nm mu
 refine ⟨fun b u q n _ _=>k b u (hb b n) q,fun b u q n _ _=>⟨u.slots,k b u (hb b n) q⟩,fun b u q n _=>by rw [qD (hx b n)];exact n,fun b u q _=>?_,
  fun b xs q=>by rw [qD (hm b _ q fun z=>z)];exact q,fun b u xs q=>by rw [qD (hm b _ q fun z=>z)];exact q,fun b ps q=>⟨#[],by rw [qD (hm b _ q fun z=>z),q];simp⟩⟩
 by_cases hbe:b=e
 ·subst hbe;exact heo
 ·exact ⟨u,k b u hbe q⟩
end
def trk (h:KA)(H:Hp):List Kd:=(KE h.objs.size).filter fun a=>(H a).isSome
def hidT (h:KA)(H:Hp):KA:=UE h (trk h H)
theorem qcy (h:KA)(H:Hp):(hidT h H).objs.size=h.objs.size:=PySem.W.hideAll_size _ _
theorem qdH {h:KA}{H:Hp}{b:Kd}{o:Obj}(e:h.get? b=some o)(n:H b=none):(hidT h H).get? b=some o :=
 Ew _ e fun hm=>by
  have q:(H b).isSome=true:=(List.mem_filter.mp hm).2
  rw [n] at q;simp at q
theorem qf2 {h:KA}{H:Hp}{b:Kd}{o:Obj}(e:(hidT h H).get? b=some o):h.get? b=some o/\H b=none:=by
 have e':h.get? b=some o:=Ex (trk h H) e
 refine ⟨e',?_⟩
 cases q:H b with
 | none=>rfl
 | some x =>
  have hm:b∈trk h H:=List.mem_filter.mpr ⟨VL.mpr (Ku e'),by simp [q]⟩
  have z:(hidT h H).get? b=none:=Ep (trk h H) hm
  rw [z] at e;cases e
structure Mod (K:Kc)(mg:Str->Option Kb)(base:KA):Prop where
 kin:K.In base
 glob:base.Ns mainGlobals mg
 blt:∃ mb,base.Ns builtinsNs mb/\∀ x:Str,x ≠ "__name__"->mb x=bootBuiltins x
 nolimit:base.NoLimit
structure Cx where
 prog:Kx
 w:KG
 K:Kc
 mg:Str->Option Kb
 base:KA
 A:KI
 N:List Str
 s₀:Kf
 H₀:Hp
 env:Env
 outer:List Env
 stack:List Env
 ex:List Kd
 fn:Str->Bool
 calm:Bool
 pn:List (Kd×Obj)
 xe:Kb->Kf->Prop
def frs (l:List Env):List Kd:=l.filterMap (·.frame)
abbrev Cx.fs (X:Cx):List Kd:=frs X.outer
def Vis (sc:Vq)(x:Str):Prop:=sc.names.lookup x=some .local\/sc.names.lookup x=some .cell\/sc.names.lookup x=some .free
def Loc (sc:Vq)(x:Str):Prop:=sc.names.lookup x=some .local\/sc.names.lookup x=some .cell
def Look (env:Env)(h:KA)(m:Str->Option Kb)(x:Str)(u:Kb):Prop :=
 (env.kindOf x=some .local/\m x=some u)\/((env.kindOf x=some .cell\/env.kindOf x=some .free)/\∃ c,env.cells.lookup x=some c/\h.IsCell c (some u))
structure Cx.Ok (X:Cx):Prop where
 mod:Mod X.K X.mg X.base
 kind:X.env.scope.kind=.function
 glob:X.env.globals=mainGlobals
 blt:X.env.builtins=builtinsNs
 above:X.s₀.heap.objs.size<=X.env.locals
 inj:∀ x y c,X.env.cells.lookup x=some c->X.env.cells.lookup y=some c->x=y
 has:∀ x,(X.env.kindOf x=some .cell\/X.env.kindOf x=some .free)->∃ c,X.env.cells.lookup x=some c
 cab:∀ x c,X.fn x=true->X.env.cells.lookup x=some c->X.s₀.heap.objs.size<=c
 hd:X.calm=true->X.A.handled=none
 frames:X.A.frames=some X.stack
 stk:X.stack=X.outer\/(X.stack=X.env::X.outer/\X.env.frame=some X.env.locals)
 exf:∀ b∈X.ex,b≠X.env.locals/\∀ x c,X.env.cells.lookup x=some c->c≠b
 bs:∀ b o,X.base.get? b=some o->X.s₀.heap.get? b=some o/\X.H₀ b=none
 bsz:X.base.objs.size<=X.s₀.heap.objs.size
 noex:∀ b o,X.base.get? b=some o->b∉X.ex
 exfs:∀ b∈X.ex,b∉X.fs
 funs:X.s₀.heap.FunFrames X.base X.outer
 frf:∀ b∈X.fs,X.H₀ b=none
structure Inv (X:Cx)(pins:List (Kd×Obj))(σ:List (Option V))(H:Hp)(s:Kf):Prop where
 ok:X.Ok
 os:s.os=X.s₀.os
 bare:Xo s.gens
 base:Un X.fs X.ex X.H₀ H X.s₀.heap s.heap
 loc:∃ m,s.heap.Ns X.env.locals m/\∀ (i:Nat) (x:Str) (v:V),X.N[i]?=some x->σ[i]?=some (some v)->Vis X.env.scope x->∃ u,RelV v u/\Look X.env s.heap m x u
 cell:∀ x c,X.env.cells.lookup x=some c->∃ v,s.heap.IsCell c v
 free:H X.env.locals=none
 freeC:∀ x c,X.env.cells.lookup x=some c->H c=none
 pin:∀ p∈X.pn++pins,s.heap.get? p.1=some p.2/\H p.1=none/\p.1≠X.env.locals/\p.1∉X.fs/\∀ v,p.2.data≠.cell v
 hok:HOk X.prog X.w H s.heap
 len:σ.length=X.N.length
section
variable {X:Cx}{pins:List (Kd×Obj)}{σ:List (Option V)}{H H':Hp}{s:Kf}{h':KA}
theorem Cx.Ok.nofr (ok:X.Ok){b:Kd}{o:Obj}(e:X.base.get? b=some o):b∉X.fs:=fun hb=>by
 have:=(ok.funs.mem hb).1
 rw [e] at this;cases this
theorem Inv.bs (I:Inv X pins σ H s):∀ b o,X.base.get? b=some o->s.heap.get? b=some o/\H b=none:=fun b o e =>
 ⟨I.base.keep b o (I.ok.bs b o e).1 (I.ok.bs b o e).2 (I.ok.nofr e) (I.ok.noex b o e),I.base.free b o (I.ok.bs b o e).1 (I.ok.bs b o e).2 (I.ok.noex b o e)⟩
theorem Inv.bk (I:Inv X pins σ H s):∀ b o,X.base.get? b=some o->s.heap.get? b=some o:=fun b o e=>(I.bs b o e).1
theorem Inv.mod (I:Inv X pins σ H s):Mod X.K X.mg X.base:=I.ok.mod
theorem Inv.kIn (I:Inv X pins σ H s):X.K.In s.heap:=I.ok.mod.kin.keeps I.bk
theorem Inv.lt (I:Inv X pins σ H s):X.env.locals<s.heap.objs.size:=let ⟨_,hn,_⟩:=I.loc;hn.lt
theorem Inv.sz (I:Inv X pins σ H s):X.s₀.heap.objs.size<=s.heap.objs.size:=Vg I.ok.above (VA I.lt)
theorem Inv.nofs (I:Inv X pins σ H s){a:Kd}(h:s.heap.objs.size<=a):a∉X.fs:=fun hb=>by
 obtain ⟨_,o,ho,_⟩:=I.ok.funs.mem hb
 exact absurd (KS (Ku ho) (Vg I.sz h)) (VS _)
theorem Inv.cne (I:Inv X pins σ H s):∀ x c,X.env.cells.lookup x=some c->c≠X.env.locals:=fun x c e z=>by
 obtain ⟨v,o,ho,hd⟩:=I.cell x c e
 obtain ⟨m,⟨o',es,ep,ho',hd',_⟩,_⟩:=I.loc
 rw [z,ho'] at ho;cases ho;rw [hd'] at hd;cases hd
theorem Inv.funs (I:Inv X pins σ H s):s.heap.FunFrames X.base X.outer:=by
 have all:∀ (l:List Env),(∀ b∈frs l,b∈X.fs)->X.s₀.heap.FunFrames X.base l->s.heap.FunFrames X.base l:=by
  intro l
  induction l with
  | nil=>intro _ _;trivial
  | cons env r ih =>
   intro hs hl
   obtain ⟨hk,⟨L,o,hf,hn,ho,hd⟩,hr⟩:=hl
   have hL:L∈X.fs:=hs L (by unfold frs;rw [UY,hf];exact VJ)
   obtain ⟨sl,e⟩:=I.base.slot L o ho (I.ok.frf L hL) hL fun z=>I.ok.exfs L z hL
   exact ⟨hk,⟨L,_,hf,hn,e,hd⟩,ih (fun b hb=>hs b (by unfold frs;rw [UY,hf];exact Vl _ hb)) hr⟩
 exact all X.outer (fun _ hb=>hb) I.ok.funs
theorem Inv.stack (I:Inv X pins σ H s):s.heap.FunFrames X.base X.stack:=by
 rcases I.ok.stk with e|⟨e,hf⟩
 ·rw [e];exact I.funs
 ·rw [e]
  obtain ⟨m,hn,_⟩:=I.loc
  refine .cons (by rw [I.ok.kind];decide) hf hn ?_ I.funs
  exact Heap.get?_none_of_le (Vg I.ok.bsz I.ok.above)
theorem Inv.stkSub (I:Inv X pins σ H s):∀ b∈frs X.stack,b∈X.env.locals::X.fs:=fun b hb=>by
 rcases I.ok.stk with e|⟨e,hf⟩
 ·rw [e] at hb;exact Vl _ hb
 ·rw [e] at hb
  unfold frs at hb
  rw [UY,hf] at hb
  exact hb
theorem Inv.stkFree (I:Inv X pins σ H s):∀ b∈frs X.stack,H b=none:=fun b hb=>by
 rcases Kq.mp (I.stkSub b hb) with e|hb
 ·rw [e];exact I.free
 ·obtain ⟨_,o,ho,_⟩:=I.ok.funs.mem hb
  exact I.base.free b o ho (I.ok.frf b hb) fun z=>I.ok.exfs b z hb
theorem Inv.step {g':Array GenState}{t':Nat}{d':Drawn}{ch:List Kd}(I:Inv X pins σ H s)
  (hch:∀ b∈ch,(b∈X.ex\/X.s₀.heap.objs.size<=b)/\b≠X.env.locals/\(∀ x c,X.env.cells.lookup x=some c->c≠b)/\∀ p∈X.pn++pins,p.1≠b)
  (keep:∀ b o,b≠X.env.locals->b∉X.fs->b∉ch->s.heap.get? b=some o->H b=none->h'.get? b=some o)
  (slot:∀ b o,b≠X.env.locals->b∈X.fs->b∉ch->s.heap.get? b=some o->H b=none->∃ sl,h'.get? b=some { o with slots:=sl }) (free:∀ b o,b∉ch->s.heap.get? b=some o->H b=none->H' b=none)
  (there:∀ b o,b∉ch->s.heap.get? b=some o->∃ o',h'.get? b=some o')
  (tups:∀ b xs,H b=some (.tup xs)->H' b=some (.tup xs)) (frzs:∀ b o u,H b=some (.frz o u)->H' b=some (.frz o u)) (tbls:∀ b ps,H b=some (.tbl ps)->∃ more,H' b=some (.tbl (ps++more)))
  (ns:∀ m,s.heap.Ns X.env.locals m->h'.Ns X.env.locals m) (hok:HOk X.prog X.w H' h') (hg:Xo g') :
  Inv X pins σ H' { s with heap:=h',gens:=g',drawn:=d',toks:=t' }:=by
 have neL:∀ b o,X.s₀.heap.get? b=some o->b≠X.env.locals:=fun b o e=>K6 (KS (Ku e) I.ok.above)
 have neC:∀ b o,X.s₀.heap.get? b=some o->b∉X.ex->b∉ch:=fun b o e hx hb=>by
  rcases (hch b hb).1 with z|z
  ·exact hx z
  ·exact absurd (KS (Ku e) z) (VS _)
 have cellK:∀ x c,X.env.cells.lookup x=some c->∀ v,s.heap.IsCell c v->h'.IsCell c v:=fun x c e v ⟨o,ho,hd⟩=>by
  have nch:c∉ch:=fun z=>(hch c z).2.2.1 x c e rfl
  by_cases hc:c∈X.fs
  ·obtain ⟨sl,q⟩:=slot c o (I.cne x c e) hc nch ho (I.freeC x c e)
   exact ⟨_,q,hd⟩
  ·exact ⟨o,keep c o (I.cne x c e) hc nch ho (I.freeC x c e),hd⟩
 refine ⟨I.ok,I.os,hg,⟨fun b o e n hb hx=>?_,fun b o e n hb hx=>?_,fun b o e n hx=>?_,fun b o e hx=>?_,fun b xs e=>tups b xs (I.base.tups b xs e),fun b o xs e=>frzs b o xs (I.base.frzs b o xs e),fun b ps e=>?_⟩,?_,fun x c e=>?_,?_,fun x c e=>?_,fun p hp=>?_,hok,I.len⟩
 ·exact keep b o (neL b o e) hb (neC b o e hx) (I.base.keep b o e n hb hx) (I.base.free b o e n hx)
 ·obtain ⟨sl,e1⟩:=I.base.slot b o e n hb hx
  obtain ⟨sl',e2⟩:=slot b _ (neL b o e) hb (neC b o e hx) e1 (I.base.free b o e n hx)
  exact ⟨sl',e2⟩
 ·obtain ⟨o',e1⟩:=I.base.there b o e hx
  exact free b o' (neC b o e hx) e1 (I.base.free b o e n hx)
 ·obtain ⟨o',e1⟩:=I.base.there b o e hx
  exact there b o' (neC b o e hx) e1
 ·obtain ⟨m1,e1⟩:=I.base.tbls b ps e
  obtain ⟨m2,e2⟩:=tbls b _ e1
  exact ⟨m1++m2,by rw [e2,Nb]⟩
 ·obtain ⟨m,hn,hl⟩:=I.loc
  refine ⟨m,ns m hn,fun i x v e1 e2 e3=>?_⟩
  obtain ⟨u,r,l⟩:=hl i x v e1 e2 e3
  refine ⟨u,r,?_⟩
  rcases l with l|⟨k,c,e,z⟩
  ·exact .inl l
  ·exact .inr ⟨k,c,e,cellK x c e _ z⟩
 ·obtain ⟨v,z⟩:=I.cell x c e
  exact ⟨v,cellK x c e v z⟩
 ·obtain ⟨m,⟨o,_,_,ho,_⟩,_⟩:=I.loc
  exact free _ o (fun z=>(hch _ z).2.1 rfl) ho I.free
 ·obtain ⟨v,o,ho,hd⟩:=I.cell x c e
  exact free c o (fun z=>(hch c z).2.2.1 x c e rfl) ho (I.freeC x c e)
 ·obtain ⟨e,n,ne,nf,d⟩:=I.pin p hp
  have nch:p.1∉ch:=fun z=>(hch p.1 z).2.2.2 p hp rfl
  exact ⟨keep p.1 p.2 ne nf nch e n,free p.1 p.2 nch e n,ne,nf,d⟩
theorem Inv.un {t':Nat}(I:Inv X pins σ H s)(u:Un X.fs [] H H' s.heap h')(hok:HOk X.prog X.w H' h'):Inv X pins σ H' { s with heap:=h',toks:=t' }:=by
 obtain ⟨m,⟨o,es,ep,ho,r⟩,_⟩:=id I.loc
 obtain ⟨sl,hL⟩:=u.any ho I.free (by simp)
 exact I.step (g':=s.gens) (d':=s.drawn) (ch:=[]) (fun _ z=>nomatch z) (fun b o _ hb _ e n=>u.keep b o e n hb (by simp)) (fun b o _ hb _ e n=>u.slot b o e n hb (by simp)) (fun b o _ e n=>u.free b o e n (by simp)) (fun b o _ e=>u.there b o e (by simp)) u.tups u.frzs u.tbls (fun m' hm=>by
  obtain ⟨o',es',ep',ho',r'⟩:=hm
  rw [ho] at ho';cases ho'
  exact ⟨_,es',ep',hL,r'⟩) hok I.bare
theorem Inv.call {g':Array GenState}{t':Nat}{d':Drawn}{ch:List Kd}(I:Inv X pins σ H s)(u:Un (frs X.stack) ch H H' s.heap h')(hok:HOk X.prog X.w H' h')(hg:Xo g')
  (hch:∀ b∈ch,(b∈X.ex\/X.s₀.heap.objs.size<=b)/\b≠X.env.locals/\(∀ x c,X.env.cells.lookup x=some c->c≠b)/\∀ p∈X.pn++pins,p.1≠b) :
  Inv X pins σ H' { s with heap:=h',gens:=g',drawn:=d',toks:=t' }:=by
 obtain ⟨m,⟨o,es,ep,ho,r⟩,_⟩:=id I.loc
 obtain ⟨sl,hL⟩:=u.any ho I.free fun z=>(hch _ z).2.1 rfl
 exact I.step (ch:=ch) hch (fun b o hL hb hc e n=>u.keep b o e n (fun z=>(Kq.mp (I.stkSub b z)).elim hL hb) hc) (fun b o _ _ hc e n=>u.any e n hc) (fun b o hc e n=>u.free b o e n hc) (fun b o hc e=>u.there b o e hc) u.tups u.frzs u.tbls (fun m' hm=>by
  obtain ⟨o',es',ep',ho',r'⟩:=hm
  rw [ho] at ho';cases ho'
  exact ⟨_,es',ep',hL,r'⟩) hok hg
theorem Inv.turned {t':Nat}{it:Kd}(I:Inv X pins σ H s)(k:∀ b o,b≠it->s.heap.get? b=some o->h'.get? b=some o)(hn:H it=none)(hL:it≠X.env.locals)
  (h1:it∈X.ex\/X.s₀.heap.objs.size<=it) (h2:∀ x c,X.env.cells.lookup x=some c->c≠it) (h3:∀ p∈X.pn++pins,p.1≠it):Inv X pins σ H { s with heap:=h',toks:=t' }:=by
 have nit:∀ b u,H b=some u->b≠it:=fun b u e z=>by rw [z,hn] at e;cases e
 refine I.step (g':=s.gens) (d':=s.drawn) (ch:=[it]) (fun b hb=>?_) (fun b o _ _ hc e _=>k b o (fun z=>hc (by simp [z])) e) (fun b o _ _ hc e _=>⟨o.slots,k b o (fun z=>hc (by simp [z])) e⟩) (fun _ _ _ _ n=>n)
  (fun b o hc e=>⟨o,k b o (fun z=>hc (by simp [z])) e⟩) (fun _ _ e=>e) (fun _ _ _ e=>e) (fun b ps e=>⟨#[],by rw [e];simp⟩) (fun m hm=>?_) (fun b u e=>?_) I.bare
 ·have e:b=it:=by simpa using hb
  subst e
  exact ⟨h1,hL,h2,h3⟩
 ·obtain ⟨o,es,ep,ho,r⟩:=hm
  exact ⟨o,es,ep,k _ o (VY hL) ho,r⟩
 ·refine (I.hok b u e).stay (fun c v hc q=>k c v ?_ q) (fun _ q=>q) fun _ _ q=>q
  rcases hc with z|z
  ·rw [z];exact nit b u e
  ·exact nit c _ z
theorem Inv.tok (I:Inv X pins σ H s)(t:Nat):Inv X pins σ H { s with toks:=t }:=I.un (h':=s.heap) (t':=t) Un.refl I.hok
theorem Inv.kept {t':Nat}(I:Inv X pins σ H s)(k:∀ b u,s.heap.get? b=some u->h'.get? b=some u):Inv X pins σ H { s with heap:=h',toks:=t' }:=I.un (Un.kept k) (I.hok.kept k)
theorem Inv.laid {a:Kd}{o:HO}{t':Nat}(I:Inv X pins σ H s)(k:∀ b u,s.heap.get? b=some u->h'.get? b=some u)(hp:s.heap.objs.size<=a)(new:zK X.prog X.w (upd H a o) h' a o) :
  Inv X pins σ (upd H a o) { s with heap:=h',toks:=t' }:=I.un (Un.laid k hp (I.hok.fresh hp)) (I.hok.laid k hp new)
theorem Inv.write {x e:Kd}{o:HO}{t':Nat}(I:Inv X pins σ H s)(mu:Mut (H x))(he:e=x\/H e=some (.own x))(k:∀ b u,b≠e->s.heap.get? b=some u->h'.get? b=some u)(heo:∃ u,h'.get? e=some u)
  (new:zK X.prog X.w (upd H x o) h' x o):Inv X pins σ (upd H x o) { s with heap:=h',toks:=t' }:=I.un (Un.write mu he k heo) (I.hok.write mu he k heo new)
theorem Inv.pins_of {pins':List (Kd×Obj)}(I:Inv X pins σ H s)(h:∀ p∈pins',s.heap.get? p.1=some p.2/\H p.1=none/\p.1≠X.env.locals/\p.1∉X.fs/\∀ v,p.2.data≠.cell v):Inv X pins' σ H s :=
 ⟨I.ok,I.os,I.bare,I.base,I.loc,I.cell,I.free,I.freeC,fun p hp=>(KQ.mp hp).elim (fun z=>I.pin p (Vm _ z)) (h p),I.hok,I.len⟩
theorem Yg {N:List Str}(hN:N.Nodup){i j:Nat}{x:Str}(a:N[i]?=some x)(b:N[j]?=some x):i=j:=by
 obtain ⟨h1,e1⟩:=KL.mp a
 obtain ⟨h2,e2⟩:=KL.mp b
 exact (List.getElem_inj hN).mp (e1.trans e2.symm)
theorem wI {M:Model}{A:KI}{E:Kb->Kf->Prop}{i:Nat}{x:Str}{v:V}{u:Kb}{Q:Unit->Kf->Prop}(I:Inv X pins σ H s)(hN:X.N.Nodup)(hi:X.N[i]?=some x)(hx:Loc X.env.scope x)(r:RelV v u)
  (h:∀ s',Inv X pins (σ.set i (some v)) H s'->(∃ a,NG a s.heap s'.heap/\(a=X.env.locals\/X.env.cells.lookup x=some a))->Q () s') (hf:X.fn x=true\/X.env.scope.names.lookup x=some .local:=by first|exact .inl rfl|exact .inr rfl|assumption):wpAny M A (storeName X.env x u) Q E s:=by
 obtain ⟨m,hn,hl⟩:=id I.loc
 have hcls:(X.env.scope.kind==.class||(X.env.scope.kind==.module&&X.env.locals != X.env.globals))=false:=by rw [I.ok.kind];rfl
 have hiσ:i<σ.length:=by rw [I.len];exact (KL.mp hi).1
 have cne:=I.cne
 have tracked:∀ {a:Kd} {h':KA},(∃ o,s.heap.get? a=some o/\H a=none)->NG a s.heap h'->HOk X.prog X.w H h':=fun {a h'} ha hs b ob e=>by
  obtain ⟨_,_,hfree⟩:=ha
  refine (I.hok b ob e).stay (fun c w' hc q=>(hs.2 c ?_).trans q) (fun _ q=>q) fun _ _ q=>q
  rintro rfl
  rcases hc with rfl|hc
  ·rw [hfree] at e;cases e
  ·rw [hfree] at hc;cases hc
 rcases hx with hk|hk
 ·refine wpAny_storeName_local hk hn (fun h' hn' hs=>?_) hcls
  obtain ⟨oL,_,_,hoL,_⟩:=id hn
  refine h _ ⟨I.ok,I.os,I.bare,⟨fun b o e n hb hx=>?_,fun b o e n hb hx=>?_,I.base.free,fun b o e hx=>?_,I.base.tups,I.base.frzs,I.base.tbls⟩,⟨_,hn',fun j y v' e1 e2 e3=>?_⟩,fun y c e=>?_,I.free,I.freeC,fun p hp=>?_,tracked ⟨oL,hoL,I.free⟩ hs,by simpa using I.len⟩ ⟨_,hs,.inl rfl⟩
  ·exact (hs.2 b (K6 (KS (Ku e) I.ok.above))).trans (I.base.keep b o e n hb hx)
  ·obtain ⟨sl,e1⟩:=I.base.slot b o e n hb hx
   exact ⟨sl,(hs.2 b (K6 (KS (Ku e) I.ok.above))).trans e1⟩
  ·obtain ⟨o',e1⟩:=I.base.there b o e hx
   exact ⟨o',(hs.2 b (K6 (KS (Ku e) I.ok.above))).trans e1⟩
  ·by_cases hj:j=i
   ·subst hj
    rw [hi] at e1;cases e1
    rw [Va hiσ] at e2
    cases e2
    exact ⟨u,r,.inl ⟨hk,by simp⟩⟩
   ·rw [Vw (VY hj)] at e2
    obtain ⟨u',r',q⟩:=hl j y v' e1 e2 e3
    refine ⟨u',r',?_⟩
    rcases q with ⟨k,e⟩|⟨k,c,e,z⟩
    ·refine .inl ⟨k,?_⟩
     have:y≠x:=fun e=>hj (Yg hN e1 (e ▸ hi))
     simp [this,e]
    ·exact .inr ⟨k,c,e,z.sameBut hs (cne y c e)⟩
  ·obtain ⟨w',z⟩:=I.cell y c e
   exact ⟨w',z.sameBut hs (cne y c e)⟩
  ·obtain ⟨e,n,ne,nf,d⟩:=I.pin p hp
   exact ⟨(hs.2 p.1 ne).trans e,n,ne,nf,d⟩
 ·have hfn:X.fn x=true:=by
   rcases hf with z|z
   ·exact z
   ·rw [z] at hk;cases hk
  obtain ⟨c,hc⟩:=I.ok.has x (.inl hk)
  obtain ⟨w',z⟩:=I.cell x c hc
  refine wpAny_storeName_cell I.ok.kind hk hc z (fun h' hc' hs=>?_)
  obtain ⟨oc,hoc,hocd⟩:=id z
  refine h { s with heap:=h' } ⟨I.ok,I.os,I.bare,⟨fun b o e n hb hx=>?_,fun b o e n hb hx=>?_,I.base.free,fun b o e hx=>?_,I.base.tups,I.base.frzs,I.base.tbls⟩,⟨m,hn.sameBut hs (VY (cne x c hc)),fun j y v' e1 e2 e3=>?_⟩,fun y c' e=>?_,I.free,I.freeC,fun p hp=>?_,tracked ⟨oc,hoc,I.freeC x c hc⟩ hs,by simpa using I.len⟩ ⟨c,hs,.inr hc⟩
  ·exact (hs.2 b (K6 (KS (Ku e) (I.ok.cab x c hfn hc)))).trans (I.base.keep b o e n hb hx)
  ·obtain ⟨sl,e1⟩:=I.base.slot b o e n hb hx
   exact ⟨sl,(hs.2 b (K6 (KS (Ku e) (I.ok.cab x c hfn hc)))).trans e1⟩
  ·obtain ⟨o',e1⟩:=I.base.there b o e hx
   exact ⟨o',(hs.2 b (K6 (KS (Ku e) (I.ok.cab x c hfn hc)))).trans e1⟩
  ·by_cases hj:j=i
   ·subst hj
    rw [hi] at e1;cases e1
    rw [Va hiσ] at e2
    cases e2
    exact ⟨u,r,.inr ⟨.inl hk,c,hc,hc'⟩⟩
   ·rw [Vw (VY hj)] at e2
    obtain ⟨u',r',q⟩:=hl j y v' e1 e2 e3
    refine ⟨u',r',?_⟩
    rcases q with q|⟨k,c',e,z'⟩
    ·exact .inl q
    ·refine .inr ⟨k,c',e,z'.sameBut hs ?_⟩
     rintro rfl
     exact hj (Yg hN e1 (I.ok.inj _ _ _ e hc ▸ hi))
  ·by_cases hcc:c'=c
   ·subst hcc;exact ⟨_,hc'⟩
   ·obtain ⟨w2,z2⟩:=I.cell y c' e
    exact ⟨w2,z2.sameBut hs hcc⟩
  ·obtain ⟨e,n,ne,nf,d⟩:=I.pin p hp
   refine ⟨(hs.2 p.1 ?_).trans e,n,ne,nf,d⟩
   intro q
   rw [q,hoc] at e
   have q':oc=p.2:=V7 e
   exact d w' (by rw [← q'];exact hocd)
theorem Yt {M:Model}{A:KI}{E:Kb->Kf->Prop}{i:Nat}{x:Str}{v:V}{u:Kb}{Q:Unit->Kf->Prop}(I:Inv X pins σ H s)(hN:X.N.Nodup)(hi:X.N[i]?=some x)(hx:Loc X.env.scope x)(r:RelV v u)
  (h:∀ s',Inv X pins (σ.set i (some v)) H s'->Q () s') (hf:X.fn x=true\/X.env.scope.names.lookup x=some .local:=by first|exact .inl rfl|exact .inr rfl|assumption):wpAny M A (storeName X.env x u) Q E s :=
 wI I hN hi hx r (fun s' I' _=>h s' I') hf
theorem Inv.call' {s':Kf}{ch:List Kd}(I:Inv X pins σ H s)(ho:s'.os=s.os)(u:Un (frs X.stack) ch H H' s.heap s'.heap)(hok:HOk X.prog X.w H' s'.heap)(hg:Xo s'.gens)
  (hch:∀ b∈ch,(b∈X.ex\/X.s₀.heap.objs.size<=b)/\b≠X.env.locals/\(∀ x c,X.env.cells.lookup x=some c->c≠b)/\∀ p∈X.pn++pins,p.1≠b):Inv X pins σ H' s':=by
 obtain ⟨h',g',d',t',o'⟩:=s'
 have e:o'=s.os:=ho
 subst e
 exact I.call (g':=g') (t':=t') (d':=d') u hok hg hch
end
abbrev XK:=Kb->Option Kd->Hp->Prop
abbrev St:=List (Option V)
abbrev VK:=V->Hp->Prop
abbrev TE:=St->Hp->VK->Prop
abbrev TT:=St->Hp->(Bool->Hp->Prop)->Prop
abbrev TA:=St->Hp->(List V->Hp->Prop)->Prop
structure Ends where
 nx:St->Hp->Prop
 rt:VK
 bk:St->Hp->Prop:=fun _ _=>False
 ct:St->Hp->Prop:=fun _ _=>False
abbrev TS:=Ends->St->Hp->Prop
def EP (X:Cx)(pins:List (Kd×Obj))(σ:St)(Q:VK)(u:Kb)(s':Kf):Prop:=∃ v H',Inv X pins σ H' s'/\RelV v u/\Q v H'
def TP (X:Cx)(pins:List (Kd×Obj))(σ:St)(Q:Bool->Hp->Prop)(b:Bool)(s':Kf):Prop:=∃ H',Inv X pins σ H' s'/\Q b H'
def AP (X:Cx)(pins:List (Kd×Obj))(σ:St)(Q:List V->Hp->Prop)(us:List Kb)(s':Kf):Prop:=∃ vs H',Inv X pins σ H' s'/\Vals vs us/\Q vs H'
def SP (X:Cx)(pins:List (Kd×Obj))(D:Ends)(f:Flow)(s':Kf):Prop :=
 match f with
 | .next=>∃ σ' H',Inv X pins σ' H' s'/\D.nx σ' H'
 | .brk=>∃ σ' H',Inv X pins σ' H' s'/\D.bk σ' H'
 | .cont=>∃ σ' H',Inv X pins σ' H' s'/\D.ct σ' H'
 | .ret u=>∃ v σ' H',Inv X pins σ' H' s'/\RelV v u/\D.rt v H'
def PE (X:Cx)(e:Kw)(t:TE):Prop :=
 ∀ (pins:List (Kd×Obj)) (s:Kf) (σ:St) (H:Hp) (Q:VK),Inv X pins σ H s->t σ H Q->wpAny (model X.prog X.w) X.A (eval e X.env) (EP X pins σ Q) X.xe s
def PT (X:Cx)(e:Kw)(t:TT):Prop :=
 ∀ (pins:List (Kd×Obj)) (s:Kf) (σ:St) (H:Hp) (Q:Bool->Hp->Prop),Inv X pins σ H s->t σ H Q->wpAny (model X.prog X.w) X.A (isTrue e X.env (eval e X.env)) (TP X pins σ Q) X.xe s
def PW (X:Cx)(e:Kw)(t:TT):Prop :=
 ∀ (whole:Sem Kb) (pins:List (Kd×Obj)) (s:Kf) (σ:St) (H:Hp) (Q:Bool->Hp->Prop),Inv X pins σ H s->t σ H Q->wpAny (model X.prog X.w) X.A (isTrue e X.env whole) (TP X pins σ Q) X.xe s
theorem PW.pt {X:Cx}{e:Kw}{t:TT}(h:PW X e t):PT X e t:=h _
def PA (X:Cx)(es:List Kw)(t:TA):Prop :=
 ∀ (pos:Pos) (pins:List (Kd×Obj)) (s:Kf) (σ:St) (H:Hp) (Q:List V->Hp->Prop),Inv X pins σ H s->t σ H Q->wpAny (model X.prog X.w) X.A (spliced (backTo pos (starEach es X.env))) (AP X pins σ Q) X.xe s
def PS (X:Cx)(st:KY)(t:TS):Prop :=
 ∀ (pins:List (Kd×Obj)) (s:Kf) (σ:St) (H:Hp) (D:Ends),Inv X pins σ H s->t D σ H->wpAny (model X.prog X.w) X.A (exec st X.env) (SP X pins D) X.xe s
def PSs (X:Cx)(st:List KY)(t:TS):Prop :=
 ∀ (pins:List (Kd×Obj)) (s:Kf) (σ:St) (H:Hp) (D:Ends),Inv X pins σ H s->t D σ H->wpAny (model X.prog X.w) X.A (execs st X.env) (SP X pins D) X.xe s
theorem thn {α:Type}{t:Sem α}{Q Q':α->Kf->Prop}{M:Model}{A:KI}{E:Kb->Kf->Prop}{s:Kf}(h:wpAny M A t Q E s)(hQ:∀ a s,Q a s->Q' a s):wpAny M A t Q' E s:=Vk h hQ fun _ _ x=>x
section
variable {X:Cx}
def tVar (i:Nat):TE:=fun σ H Q=>∃ v,σ[i]?=some (some v)/\Q v H
def tC (v:V):TE:=fun _ H Q=>Q v H
theorem JS {i:Nat}{x:Str}{pos:Pos}(hN:X.N[i]?=some x)(hv:Vis X.env.scope x)(hd:(x==("__debug__" : Str))=false:=by decide)(hcd:(x==("__classdict__" : Str))=false:=by decide):PE X (.Name x pos) (tVar i):=by
 intro pins s σ H Q I h
 obtain ⟨v,e,h⟩:=h
 obtain ⟨m,hn,hl⟩:=I.loc
 obtain ⟨u,r,l⟩:=hl i x v hN e hv
 have fin:EP X pins σ Q u s:=⟨v,H,I,r,h⟩
 rcases l with ⟨hk,hm⟩|⟨hk,c,hc,hcell⟩
 ·exact wpAny_Name (wpAny_loadName_local I.ok.kind hk hn hm fin) hd
 ·rcases hk with hk|hk
  ·exact wpAny_Name (wpAny_loadName_cell I.ok.kind hk hc hcell fin) hd
  ·exact wpAny_Name (wpAny_loadName_free I.ok.kind hk hc hcell fin hcd) hd
theorem qhV {i j pos}:PE X (.Constant (.int i) j pos) (tC (.int i)):=fun _ _ _ H _ I h=>wpAny_Constant_int ⟨.int i,H,I.tok _,⟨_,rfl⟩,h⟩
theorem pe_bl {b j pos}:PE X (.Constant (.bool b) j pos) (tC (.bl b)):=fun _ _ _ H _ I h=>Constant_bool ⟨.bl b,H,I,rfl,h⟩
theorem qhW {j pos}:PE X (.Constant .none j pos) (tC .non):=fun _ _ _ H _ I h=>Constant_none ⟨.non,H,I,rfl,h⟩
theorem qhZ {x j pos}:PE X (.Constant (.str x) j pos) (tC (.str x)):=fun _ _ _ H _ I h=>Calls.Constant_str ⟨.str x,H,I.tok _,⟨_,rfl⟩,h⟩
def Gl (X:Cx)(x:Str):Prop:=X.env.kindOf x=some .globalImplicit
theorem Zr {E:Kb->Kf->Prop}{pins:List (Kd×Obj)}{s:Kf}{σ:St}{H:Hp}{x:Str}{u:Kb}{pos:Pos}{Q:Kb->Kf->Prop}(I:Inv X pins σ H s)(hg:Gl X x)(hm:X.mg x=some u)(h:Q u s)
  (hd:(x==("__debug__" : Str))=false:=by decide):wpAny (model X.prog X.w) X.A (eval (.Name x pos) X.env) Q E s :=
 Calls.Name_function_global I.ok.kind hg (Calls.loadGlobal_global (by rw [I.ok.glob];exact I.mod.glob.keeps I.bk) hm h) hd
theorem Yc {E:Kb->Kf->Prop}{pins:List (Kd×Obj)}{s:Kf}{σ:St}{H:Hp}{x:Str}{u:Kb}{pos:Pos}{Q:Kb->Kf->Prop}(I:Inv X pins σ H s)(hg:Gl X x)(hm:X.mg x=none)(hv:bootBuiltins x=some u)(h:Q u s)
  (hn:x ≠ "__name__" := by decide) (hd:(x==("__debug__" : Str))=false:=by decide):wpAny (model X.prog X.w) X.A (eval (.Name x pos) X.env) Q E s:=by
 obtain ⟨mb,h1,h2⟩:=I.mod.blt
 exact Calls.Name_function_global I.ok.kind hg (Calls.loadGlobal_builtin (by rw [I.ok.glob];exact I.mod.glob.keeps I.bk) hm (by rw [I.ok.blt];exact h1.keeps I.bk) ((h2 x hn).trans hv) h) hd
theorem Ww {x:Str}{v:V}{u:Kb}{pos:Pos}(hg:Gl X x)(hm:X.mg x=some u)(r:RelV v u)(hd:(x==("__debug__" : Str))=false:=by decide):PE X (.Name x pos) (tC v) :=
 fun _ _ _ H _ I h=>Zr I hg hm ⟨v,H,I,r,h⟩ hd
theorem qb2 {x:Str}{v:V}{u:Kb}{pos:Pos}(hg:Gl X x)(hm:X.mg x=none)(hv:bootBuiltins x=some u)(r:RelV v u)(hn:x ≠ "__name__" := by decide)(hd:(x==("__debug__" : Str))=false:=by decide):PE X (.Name x pos) (tC v) :=
 fun _ _ _ H _ I h=>Yc I hg hm hv ⟨v,H,I,r,h⟩ hn hd
variable {a b:Kw}{ta tb:TE}{pos:Pos}
def tB (t:TE):TT:=fun σ H Q=>t σ H fun x H1=>∃ c,x=.bl c/\Q c H1
theorem qh8 {e:Kw}{t:TE}(h:PE X e t)(he:∀ whole,isTrue e X.env whole=(do let v ← whole;standAt e.pos;holding [v] (truthy v)):=by intro _;rfl):PT X e (tB t):=by
 intro pins s σ H Q I hw
 refine isTrue_plain (thn (h pins s σ H _ I hw) fun v s1 ⟨x,H1,I1,r1,q1⟩=>?_) (he _)
 obtain ⟨d,rfl,q⟩:=q1
 cases r1
 exact V4 ⟨H1,I1,q⟩
variable {tA tB':TT}{rest:List Kw}
def tAnd (t u:TT):TT:=fun σ H Q=>t σ H fun c H1=>if c=true then u σ H1 Q else Q false H1
def tOr (t u:TT):TT:=fun σ H Q=>t σ H fun c H1=>if c=true then Q true H1 else u σ H1 Q
def tNot (t:TT):TT:=fun σ H Q=>t σ H fun c H1=>Q (!c) H1
theorem qgx (ha:PT X a tA):PW X (.BoolOp .And [a] pos) tA:=by
 intro wh pins s σ H Q I h
 refine isTrue_and (thn (ha pins s σ H Q I h) fun c s1 e=>?_)
 cases c with
 | true=>exact isTrue_and_nil e
 | false=>exact e
theorem qic (ha:PT X a tA):PW X (.BoolOp .Or [a] pos) tA:=by
 intro wh pins s σ H Q I h
 refine isTrue_or (thn (ha pins s σ H Q I h) fun c s1 e=>?_)
 cases c with
 | false=>exact isTrue_or_nil e
 | true=>exact e
theorem qib (ha:PT X a tA)(hb:PW X (.BoolOp .And (b::rest) pos) tB'):PW X (.BoolOp .And (a::b::rest) pos) (tAnd tA tB'):=by
 intro wh pins s σ H Q I h
 refine isTrue_and (thn (ha pins s σ H _ I h) fun c s1 ⟨H1,I1,q1⟩=>?_)
 cases c with
 | true=>exact hb wh pins s1 σ H1 Q I1 q1
 | false=>exact ⟨H1,I1,q1⟩
theorem pw_or (ha:PT X a tA)(hb:PW X (.BoolOp .Or (b::rest) pos) tB'):PW X (.BoolOp .Or (a::b::rest) pos) (tOr tA tB'):=by
 intro wh pins s σ H Q I h
 refine isTrue_or (thn (ha pins s σ H _ I h) fun c s1 ⟨H1,I1,q1⟩=>?_)
 cases c with
 | true=>exact ⟨H1,I1,q1⟩
 | false=>exact hb wh pins s1 σ H1 Q I1 q1
theorem qh7 (ha:PT X a tA):PT X (.UnaryOp .Not a pos) (tNot tA):=by
 intro pins s σ H Q I h
 exact isTrue_not (ha pins s σ H (fun c H1=>Q (!c) H1) I h)
def tAndV (ta tb:TE):TE:=fun σ H Q=>ta σ H fun x H1=>∃ c,x=.bl c/\if c=true then tb σ H1 Q else Q (.bl false) H1
def tOrV (ta tb:TE):TE:=fun σ H Q=>ta σ H fun x H1=>∃ c,x=.bl c/\if c=true then Q (.bl true) H1 else tb σ H1 Q
def tNotV (ta:TE):TE:=fun σ H Q=>ta σ H fun x H1=>∃ c,x=.bl c/\Q (.bl (!c)) H1
theorem qhY {op}{t:TE}(h:PE X a t):PE X (.BoolOp op [a] pos) t:=fun pins s σ H Q I hw=>BoolOp_one (h pins s σ H Q I hw)
theorem qhU (ha:PE X a ta)(hb:PE X (.BoolOp .And (b::rest) pos) tb):PE X (.BoolOp .And (a::b::rest) pos) (tAndV ta tb):=by
 intro pins s σ H Q I h
 refine BoolOp_and (thn (ha pins s σ H _ I h) fun v s1 ⟨x,H1,I1,r1,q1⟩=>?_)
 obtain ⟨c,rfl,q1⟩:=q1
 cases r1
 refine V4 ?_
 cases c with
 | true=>exact hb pins s1 σ H1 Q I1 q1
 | false=>exact ⟨.bl false,H1,I1,rfl,q1⟩
theorem pe_or (ha:PE X a ta)(hb:PE X (.BoolOp .Or (b::rest) pos) tb):PE X (.BoolOp .Or (a::b::rest) pos) (tOrV ta tb):=by
 intro pins s σ H Q I h
 refine BoolOp_or (thn (ha pins s σ H _ I h) fun v s1 ⟨x,H1,I1,r1,q1⟩=>?_)
 obtain ⟨c,rfl,q1⟩:=q1
 cases r1
 refine V4 ?_
 cases c with
 | false=>exact hb pins s1 σ H1 Q I1 q1
 | true=>exact ⟨.bl true,H1,I1,rfl,q1⟩
theorem qhX (ha:PE X a ta):PE X (.UnaryOp .Not a pos) (tNotV ta):=by
 intro pins s σ H Q I h
 refine UnaryOp_ (thn (ha pins s σ H _ I h) fun v s1 ⟨x,H1,I1,r1,q1⟩=>?_)
 obtain ⟨c,rfl,q1⟩:=q1
 cases r1
 exact not_of (V4 ⟨.bl (!c),H1,I1,rfl,q1⟩)
end
def SqL (K:Kc)(H:Hp)(a:Kd)(xs:List V):Prop :=
 Rd H a (.lst xs)\/
  ∃ (o:Obj) (its:Array Kb) (n:Nat),K.lookup a=some o/\o.cls=.type "list"/\o.dict=none/\o.data=.seq its n/\its.size<=sizeLine/\Vals xs its.toList
def SqT (K:Kc)(H:Hp)(a:Kd)(xs:List V):Prop :=
 Rd H a (.tup xs)\/
  ∃ (o:Obj) (its:Array Kb) (n:Nat),K.lookup a=some o/\o.cls=.type "tuple"/\o.data=.seq its n/\its.size<=sizeLine/\Vals xs its.toList
def absV:Kb->Option V
 | .none=>some .non
 | .bool b=>some (.bl b)
 | .int i _=>some (.int i)
 | .str x _=>some (.str x)
 | .bytes b _=>some (.byt b)
 | .float b _=>some (.flt b)
 | .ref a=>some (.ref a)
 | .type n=>some (.ty n)
 | _=>none
theorem RelV.abs {x:V}{u:Kb}(r:RelV x u):absV u=some x:=by
 cases x with
 | non=>cases r;rfl
 | bl _=>cases r;rfl
 | int _=>obtain ⟨t,rfl⟩:=r;rfl
 | str _=>obtain ⟨t,rfl⟩:=r;rfl
 | byt _=>obtain ⟨t,rfl⟩:=r;rfl
 | flt _=>obtain ⟨t,rfl⟩:=r;rfl
 | ref _=>cases r;rfl
 | ty _=>cases r;rfl
theorem RelV.inj {x y:V}{u:Kb}(r:RelV x u)(q:RelV y u):x=y:=V7 (r.abs.symm.trans q.abs)
theorem Vals.inj:∀ {xs ys:List V} {us:List Kb},Vals xs us->Vals ys us->xs=ys
 | _,_,_,.nil,.nil=>rfl
 | _,_,_,.cons r t,.cons r' t'=>by rw [r.inj r',Vals.inj t t']
section
variable {X:Cx}{pins:List (Kd×Obj)}{σ:St}{H:Hp}{s:Kf}{a:Kd}{xs ys:List V}
theorem SqL.of {K:Kc}(h:H a=some (.lst xs)):SqL K H a xs:=.inl (.inl h)
theorem SqT.of {K:Kc}(h:H a=some (.tup xs)):SqT K H a xs:=.inl (.inl h)
theorem Inv.list (I:Inv X pins σ H s)(h:SqL X.K H a xs):∃ its:List Kb,Vals xs its/\PlainL s.heap a its.toArray/\xs.length<=sizeLine:=by
 rcases h with h|⟨o,its,n,hk,hc,hd,hs,hz,r⟩
 ·obtain ⟨z,its,n,r,e⟩:=h.ok I.hok
  exact ⟨its,r,⟨_,n,e,rfl,rfl,rfl⟩,z⟩
 ·refine ⟨its.toList,r,⟨o,n,I.kIn a o hk,hc,hd,by simpa using hs⟩,?_⟩
  have e:=r.length
  simp only [K3] at e
  omega
theorem Inv.tuple (I:Inv X pins σ H s)(h:SqT X.K H a xs):∃ its:List Kb,Vals xs its/\IsTup s.heap a its.toArray/\xs.length<=sizeLine:=by
 rcases h with h|⟨o,its,n,hk,hc,hs,hz,r⟩
 ·obtain ⟨z,its,r,p⟩:=h.ok I.hok
  exact ⟨its,r,p,z⟩
 ·refine ⟨its.toList,r,⟨o,I.kIn a o hk,hc,n,by simpa using hs⟩,?_⟩
  have e:=r.length
  simp only [K3] at e
  omega
theorem Inv.list_inj (I:Inv X pins σ H s)(h:SqL X.K H a xs)(h':SqL X.K H a ys):xs=ys:=by
 obtain ⟨its,r,⟨o,n,e,_,_,d⟩,_⟩:=I.list h
 obtain ⟨its',r',⟨o',n',e',_,_,d'⟩,_⟩:=I.list h'
 rw [e] at e';cases e'
 rw [d] at d'
 injection d' with d1 _
 have:its=its':=by simpa using congrArg Array.toList d1
 subst this
 exact r.inj r'
theorem Inv.tuple_inj (I:Inv X pins σ H s)(h:SqT X.K H a xs)(h':SqT X.K H a ys):xs=ys:=by
 obtain ⟨its,r,⟨o,e,_,n,d⟩,_⟩:=I.tuple h
 obtain ⟨its',r',⟨o',e',_,n',d'⟩,_⟩:=I.tuple h'
 rw [e] at e';cases e'
 rw [d] at d'
 injection d' with d1 _
 have:its=its':=by simpa using congrArg Array.toList d1
 subst this
 exact r.inj r'
end
abbrev Cx.wish (X:Cx)(E:Kb->Kf->Prop):Cx:={ X with xe:=E }
abbrev Cx.nox (X:Cx):Cx:=X.wish fun _ _=>False
theorem Cx.Ok.wish {X:Cx}(ok:X.Ok)(E:Kb->Kf->Prop):(X.wish E).Ok :=
 ⟨ok.mod,ok.kind,ok.glob,ok.blt,ok.above,ok.inj,ok.has,ok.cab,ok.hd,ok.frames,ok.stk,ok.exf,ok.bs,ok.bsz,ok.noex,ok.exfs,ok.funs,ok.frf⟩
theorem Cx.Ok.unwish {X:Cx}{E:Kb->Kf->Prop}(ok:(X.wish E).Ok):X.Ok :=
 ⟨ok.mod,ok.kind,ok.glob,ok.blt,ok.above,ok.inj,ok.has,ok.cab,ok.hd,ok.frames,ok.stk,ok.exf,ok.bs,ok.bsz,ok.noex,ok.exfs,ok.funs,ok.frf⟩
section
variable {X:Cx}{pins:List (Kd×Obj)}{σ:St}{H:Hp}{s:Kf}{E:Kb->Kf->Prop}
theorem Inv.wish (I:Inv X pins σ H s)(E:Kb->Kf->Prop):Inv (X.wish E) pins σ H s:=⟨I.ok.wish E,I.os,I.bare,I.base,I.loc,I.cell,I.free,I.freeC,I.pin,I.hok,I.len⟩
theorem Inv.unwish (I:Inv (X.wish E) pins σ H s):Inv X pins σ H s:=⟨I.ok.unwish,I.os,I.bare,I.base,I.loc,I.cell,I.free,I.freeC,I.pin,I.hok,I.len⟩
theorem SP.unwish {D:Ends}{f:Flow}{s':Kf}(h:SP (X.wish E) pins D f s'):SP X pins D f s':=by
 cases f with
 | next=>obtain ⟨σ',H',I,q⟩:=h;exact ⟨σ',H',I.unwish,q⟩
 | brk=>obtain ⟨σ',H',I,q⟩:=h;exact ⟨σ',H',I.unwish,q⟩
 | cont=>obtain ⟨σ',H',I,q⟩:=h;exact ⟨σ',H',I.unwish,q⟩
 | ret u=>obtain ⟨v,σ',H',I,r,q⟩:=h;exact ⟨v,σ',H',I.unwish,r,q⟩
theorem PSs.nox {st:List KY}{t:TS}(h:PSs X.nox st t):PSs X st t:=fun pins s σ H D I hw =>
 Vk (h pins s σ H D (I.wish _) hw) (fun _ _ q=>q.unwish) fun _ _ z=>Vx z
end
section
variable {X:Cx}{st:KY}{rest:List KY}{t u:TS}{e:Kw}{te:TE}{pos:Pos}
def tNext:TS:=fun D σ H=>D.nx σ H
def tSeq (t u:TS):TS:=fun D σ H=>t { D with nx:=u D } σ H
theorem qgs:PSs X [] tNext:=fun _ _ σ H _ I h=>U1 ⟨σ,H,I,h⟩
theorem qex (h1:PS X st t)(h2:PSs X rest u):PSs X (st::rest) (tSeq t u):=by
 intro pins s σ H D I h
 refine Uw (thn (h1 pins s σ H { D with nx:=u D } I h) fun f s1 q=>?_)
 cases f with
 | next =>
  obtain ⟨σ',H',I',q⟩:=q
  exact h2 pins s1 σ' H' D I' q
 | ret v=>exact q
 | brk=>exact q
 | cont=>exact q
theorem qgt (h1:PS X st t):PSs X [st] t:=by
 intro pins s σ H D I h
 refine Uw (thn (h1 pins s σ H D I h) fun f s1 q=>?_)
 cases f with
 | next=>exact U1 q
 | ret v=>exact q
 | brk=>exact q
 | cont=>exact q
theorem Inv.quiet {pins:List (Kd×Obj)}{σ:St}{H:Hp}{s:Kf}(I:Inv X pins σ H s):interactive X.env=false:=by simp [interactive,I.ok.kind]
def tDrop (te:TE):TS:=fun D σ H=>te σ H fun _ H1=>D.nx σ H1
theorem yt (he:PE X e te)(hs:swapsWith e none pos.line X.env=pure false:=by rfl):PS X (.Expr e pos) (tDrop te):=by
 intro pins s σ H D I h
 exact Ee (thn (he pins s σ H _ I h) fun v s1 ⟨x,H1,I1,r1,q1⟩=>⟨σ,H1,I1,q1⟩) I.quiet hs
def tRet (te:TE):TS:=fun D σ H=>te σ H D.rt
theorem qh6 (he:PE X e te):PS X (.Return (some e) pos) (tRet te):=by
 intro pins s σ H D I h
 exact wpAny_Return_some (thn (he pins s σ H _ I h) fun v s1 ⟨x,H1,I1,r1,q1⟩=>⟨x,σ,H1,I1,r1,q1⟩)
def tIfS (c:TT)(t u:TS):TS:=fun D σ H=>c σ H fun b H1=>if b=true then t D σ H1 else u D σ H1
theorem ps_if {c:Kw}{a b:List KY}{tc:TT}(hc:PT X c tc)(ha:PSs X a t)(hb:PSs X b u):PS X (.If c a b pos) (tIfS tc t u):=by
 intro pins s σ H D I h
 refine wpAny_If (thn (hc pins s σ H _ I h) fun d s1 ⟨H1,I1,q1⟩=>?_)
 cases d with
 | true=>exact ha pins s1 σ H1 D I1 q1
 | false=>exact hb pins s1 σ H1 D I1 q1
end
abbrev TG:=V->St->Hp->(St->Hp->Prop)->Prop
abbrev TGs:=List V->St->Hp->(St->Hp->Prop)->Prop
def PG (X:Cx)(target:Kw)(t:TG):Prop :=
 ∀ (pins:List (Kd×Obj)) (s:Kf) (σ:St) (H:Hp) (v:V) (u:Kb) (Q:St->Hp->Prop),Inv X pins σ H s->RelV v u->t v σ H Q->
  wpAny (model X.prog X.w) X.A (assign target X.env u) (fun _ s'=>∃ σ' H',Inv X pins σ' H' s'/\Q σ' H') X.xe s
def PGs (X:Cx)(ts:List Kw)(t:TGs):Prop :=
 ∀ (pins:List (Kd×Obj)) (s:Kf) (σ:St) (H:Hp) (vs:List V) (us:List Kb) (Q:St->Hp->Prop),Inv X pins σ H s->Vals vs us->t vs σ H Q->
  wpAny (model X.prog X.w) X.A (assignInOrder ((assignEach ts X.env).map (·.2)) us) (fun _ s'=>∃ σ' H',Inv X pins σ' H' s'/\Q σ' H') X.xe s
abbrev TSet:=V->V->V->Hp->(Hp->Prop)->Prop
def PSet (X:Cx)(t:TSet):Prop :=
 ∀ (pins:List (Kd×Obj)) (s:Kf) (σ:St) (H:Hp) (o i v:V) (ov iv u:Kb) (Q:Hp->Prop),Inv X pins σ H s->RelV o ov->RelV i iv->RelV v u->t o i v H Q->
  wpAny (model X.prog X.w) X.A (setItem ov iv u) (fun _ s'=>∃ H',Inv X pins σ H' s'/\Q H') X.xe s
section
variable {X:Cx}{pos:Pos}
def qbM (i:Nat):TG:=fun v σ H Q=>Q (σ.set i (some v)) H
theorem qb5 {i:Nat}{x:Str}(hN:X.N.Nodup)(hi:X.N[i]?=some x)(hx:Loc X.env.scope x)(hf:X.fn x=true\/X.env.scope.names.lookup x=some .local:=by first|exact .inl rfl|exact .inr rfl|assumption):PG X (.Name x pos) (qbM i):=by
 intro pins s σ H v u Q I r h
 exact wpAny_assign_Name (Yt I hN hi hx r (fun s' I'=>⟨_,H,I',h⟩) hf)
def gNil:TGs:=fun vs σ H Q=>vs=[]/\Q σ H
def gCons (t:TG)(u:TGs):TGs:=fun vs σ H Q=>∃ v r,vs=v::r/\t v σ H fun σ' H'=>u r σ' H' Q
theorem qgp:PGs X [] gNil:=by
 intro pins s σ H vs us Q I r h
 obtain ⟨e,h⟩:=h
 subst e
 cases r
 exact assignInOrder_nil ⟨σ,H,I,h⟩
theorem qer {e:Kw}{es:List Kw}{t:TG}{u:TGs}(h1:PG X e t)(h2:PGs X es u)
  (hs:(assignEach (e::es) X.env).map (·.2)=assign e X.env::(assignEach es X.env).map (·.2):=by rfl):PGs X (e::es) (gCons t u):=by
 intro pins s σ H vs us Q I r h
 obtain ⟨v,vr,e1,h⟩:=h
 subst e1
 cases r with
 | cons r rr =>
  rw [hs]
  refine assignInOrder_cons (thn (h1 pins s σ H _ _ _ I r h) fun _ s1 ⟨σ1,H1,I1,q1⟩=>?_)
  exact h2 pins s1 σ1 H1 _ _ Q I1 rr q1
def gTup (K:Kc)(n:Nat)(t:TGs):TG:=fun v σ H Q=>∃ a xs,v=.ref a/\SqT K H a xs/\xs.length=n/\t xs σ H Q
theorem qh0 {es:List Kw}{k:Nat}{t:TGs}{n:Nat}(hc:X.calm=true)(h:PGs X es t)
  (hn:(assignEach es X.env).length=n:=by rfl) (hst:(assignEach es X.env).findIdx? (·.1)=none:=by rfl):PG X (.Tuple es k pos) (gTup X.K n t):=by
 intro pins s σ H v u Q I r hw
 obtain ⟨a,xs,e1,hq,hl,hw⟩:=hw
 subst e1
 cases r
 obtain ⟨its,rv,ht,hz⟩:=I.tuple hq
 refine assign_Tuple_tuple (I.ok.hd hc) ht (by simp [hn,← hl,rv.length]) hst fun h' hx=>?_
 have I1:Inv X pins σ H { s with heap:=h' }:=I.kept (t':=s.toks) fun b o e=>hx b o (K6 (Ku e)) e
 exact h pins _ σ H xs _ Q I1 (by simpa using rv) hw
def gSub (to ti:TE)(t:TSet):TG:=fun v σ H Q=>to σ H fun o H1=>ti σ H1 fun i H2=>t o i v H2 fun H3=>Q σ H3
theorem qeq {o i:Kw}{to ti:TE}{t:TSet}(ho:PE X o to)(hi:PE X i ti)(hs:PSet X t)
  (ha:∀ v,assign (.Subscript o i pos) X.env v=(do
   let ov ← holding [v] (eval o X.env)
   let iv ← holding [v,ov] (eval i X.env)
   standAt pos
   holding [v,ov,iv] (setItem ov iv v)
   release [v,ov,iv] []):=by intro _;rfl):PG X (.Subscript o i pos) (gSub to ti t):=by
 intro pins s σ H v u Q I r h
 rw [ha]
 refine Kg (V8 (thn (ho pins s σ H _ I h) fun ov s1 ⟨x,H1,I1,r1,q1⟩=>?_))
 refine Kg (V8 (thn (hi pins s1 σ H1 _ I1 q1) fun iv s2 ⟨y,H2,I2,r2,q2⟩=>?_))
 refine Kg (Xk (Kg (V8 (thn (hs pins s2 σ H2 x y v ov iv u _ I2 r1 r2 r q2) fun _ s3 ⟨H3,I3,q3⟩=>?_))))
 exact wpAny_release ⟨σ,H3,I3,q3⟩
def tAsg (te:TE)(g:TG):TS:=fun D σ H=>te σ H fun x H1=>g x σ H1 D.nx
theorem qeu {tg e:Kw}{te:TE}{g:TG}(he:PE X e te)(hg:PG X tg g)(hs:swapsWithSole [tg] e pos.line X.env=pure false:=by rfl)(hw:swappedStores [tg] e X.env=pure none:=by rfl)
  (h1:(assignEach [tg] X.env).map (·.2)=[assign tg X.env]:=by rfl):PS X (.Assign [tg] e pos) (tAsg te g):=by
 intro pins s σ H D I h
 refine wpAny_Assign_stores (thn (he pins s σ H _ I h) fun v s1 ⟨x,H1,I1,r1,q1⟩=>?_) hs hw
 rw [h1]
 exact thn (hg pins s1 σ H1 x v _ I1 r1 q1) fun _ s2 q=>q
theorem Yl {i:Nat}{x:Str}{e:Kw}{te:TE}{pos':Pos}(hN:X.N.Nodup)(hi:X.N[i]?=some x)(hx:Loc X.env.scope x)(he:PE X e te)(hs:swapsWith e (some (.Name x pos')) pos.line X.env=pure false:=by rfl)(hf:X.fn x=true\/X.env.scope.names.lookup x=some .local:=by first|exact .inl rfl|exact .inr rfl|assumption) :
  PS X (.Assign [.Name x pos'] e pos) (tAsg te (qbM i)):=by
 intro pins s σ H D I h
 refine wpAny_Assign_Name (thn (he pins s σ H _ I h) fun v s1 ⟨y,H1,I1,r1,q1⟩=>?_) hs
 exact Yt I1 hN hi hx r1 (fun s2 I2=>⟨_,H1,I2,q1⟩) hf
end
section
variable {X:Cx}{pos:Pos}
def qiy (c:TT)(tb:TS):TS:=fun D σ H=>∃ W:Nat->St->Hp->Prop,(∃ m,W m σ H)/\∀ m σ H,W m σ H->
 c σ H fun b H1=>if b=true then ∃ N:St->Hp->Prop,(∀ σ' H',N σ' H'->∃ m',m'<m/\W m' σ' H')/\tb { D with nx:=N,ct:=N,bk:=D.nx } σ H1 else D.nx σ H1
theorem qew {c:Kw}{body:List KY}{tc:TT}{tb:TS}(hp:N0 (model X.prog X.w) X.A X.env X.xe)(hc:PT X c tc)(hb:PSs X body tb):PS X (.While c body [] pos) (qiy tc tb):=by
 intro pins s σ H D I h
 obtain ⟨W,⟨m0,w0⟩,turn⟩:=h
 refine wpAny_While (codeAny_whileLoop (fun n s'=>∃ σ' H',Inv X pins σ' H' s'/\W n σ' H') ?_ m0 ⟨σ,H,I,w0⟩)
 rintro n s1 ⟨σ1,H1,I1,w1⟩
 refine UF hp (thn (hc pins s1 σ1 H1 _ I1 (turn n σ1 H1 w1)) fun b s2 ⟨H2,I2,q2⟩=>?_)
 cases b with
 | true =>
  obtain ⟨N,hN,q2⟩:=q2
  rw [if_pos rfl]
  refine UF hp (thn (hb pins s2 σ1 H2 _ I2 q2) fun f s3 q3=>?_)
  cases f with
  | next =>
   obtain ⟨σ3,H3,I3,n3⟩:=q3
   obtain ⟨m',hm,w3⟩:=hN σ3 H3 n3
   exact ⟨m',hm,σ3,H3,I3,w3⟩
  | cont =>
   obtain ⟨σ3,H3,I3,n3⟩:=q3
   obtain ⟨m',hm,w3⟩:=hN σ3 H3 n3
   exact ⟨m',hm,σ3,H3,I3,w3⟩
  | brk=>exact q3
  | ret v=>exact q3
 | false =>
  rw [if_neg Ug]
  exact U1 ⟨σ1,H2,I2,q2⟩
end
structure It where
 go:Nat->Hp->Prop
 yld:Nat->Hp->V->Hp->Prop
 stop:Nat->Hp->Prop
def FpOk (X:Cx)(pins:List (Kd×Obj))(H:Hp)(b:Kd):Prop :=
 H b=none/\b≠X.env.locals/\b∉X.fs/\(b∈X.ex\/X.s₀.heap.objs.size<=b)/\(∀ x c,X.env.cells.lookup x=some c->c≠b)/\∀ p∈X.pn++pins,p.1≠b
theorem Inv.fpOk {X:Cx}{pins:List (Kd×Obj)}{σ:St}{H H':Hp}{s:Kf}{b:Kd}(I:Inv X pins σ H s)(hb:s.heap.objs.size<=b)(hn:H' b=none):FpOk X pins H' b:=by
 refine ⟨hn,Uo (KS I.lt hb),I.nofs hb,.inr (Vg I.sz hb),fun x c e z=>?_,fun p hp z=>?_⟩
 ·obtain ⟨v,q⟩:=I.cell x c e
  exact absurd (KS q.lt (by rw [z];exact hb)) (VS _)
 ·exact absurd (KS (Ku (I.pin p hp).1) (by rw [z];exact hb)) (VS _)
structure Turn (P:Kx)(w:KG)(K:Kc)(tg:Kw)(J:It)(fp:List Kd)(it:Kd)(tn:Nat->KA->Prop):Prop where
 mem:it∈fp
 obj:∀ i h,tn i h->∀ b∈fp,∃ o,h.get? b=some o/\∀ v,o.data≠.cell v
 keep:∀ i h h',tn i h->(∀ b∈fp,∀ o,h.get? b=some o->h'.get? b=some o)->tn i h'
 item:∀ (X:Cx),X.prog=P->X.w=w->X.K=K->X.calm=true->∀ (i:Nat) (pins:List (Kd×Obj)) (s:Kf) (σ:St) (H:Hp) (E:Kb->Kf->Prop),Inv X pins σ H s->(∀ b∈fp,FpOk X pins H b)->tn i s.heap->J.go i H->
  wpAny (model P w) X.A (pyNext (.ref it)) (fun r s1=>∃ u,r=some u/\
   wpAny (model P w) X.A (letOwnedTupleGo tg (.ref it) u) (fun _ s2=>∃ x H',Inv X pins σ H' s2/\RelV x u/\J.yld i H x H'/\tn (i+1) s2.heap/\∀ b∈fp,H' b=none) E s1) E s
 done:∀ (X:Cx),X.prog=P->X.w=w->X.K=K->X.calm=true->∀ (i:Nat) (pins:List (Kd×Obj)) (s:Kf) (σ:St) (H:Hp) (E:Kb->Kf->Prop),Inv X pins σ H s->(∀ b∈fp,FpOk X pins H b)->tn i s.heap->J.stop i H->
  wpAny (model P w) X.A (pyNext (.ref it)) (fun r s1=>r=none/\Inv X pins σ H s1) E s
 self:∀ (A:KI) (i:Nat) (s:Kf) (Q:Kb->Kf->Prop) (E:Kb->Kf->Prop),tn i s.heap->Q (.ref it) s->wpAny (model P w) A (pyIter (.ref it)) Q E s
abbrev TI:=St->Hp->(It->Hp->Prop)->Prop
def PIE (X:Cx)(pins:List (Kd×Obj))(σ:St)(tg:Kw)(R:It->Hp->Prop)(itv:Kb)(s2:Kf):Prop :=
 ∃ (it:Kd) (fp:List Kd) (tn:Nat->KA->Prop) (J:It) (H':Hp),itv=.ref it/\Inv X pins σ H' s2/\Turn X.prog X.w X.K tg J fp it tn/\tn 0 s2.heap/\(∀ b∈fp,FpOk X pins H' b)/\R J H'
def PI (X:Cx)(tg iter:Kw)(wi:TI):Prop :=
 ∀ (pins:List (Kd×Obj)) (s:Kf) (σ:St) (H:Hp) (R:It->Hp->Prop),Inv X pins σ H s->wi σ H R->
  wpAny (model X.prog X.w) X.A (eval iter X.env) (fun v s1=>wpAny (model X.prog X.w) X.A (pyIter v) (PIE X pins σ tg R) X.xe s1) X.xe s
theorem qdG {M:Model}{A:KI}{E:Kb->Kf->Prop}{s:Kf}{tg:Kw}{it:Kd}{u:Kb}{o:Obj}{n:String}{vs:Array Kb}{Q:Unit->Kf->Prop}(ho:s.heap.get? it=some o)(hc:o.cls=.type n)(hd:o.data=.fields vs)
  (hn:["enumerate", "zip", "dict_itemiterator", "dict_reverseitemiterator", "odict_iterator", "itertools.zip_longest", "itertools.pairwise"].contains n=false) (hQ:Q () s):wpAny M A (letOwnedTupleGo tg (.ref it) u) Q E s:=by
 unfold letOwnedTupleGo
 cases tg<;>first
  | exact Ks hQ
  | (cases u<;>first
    | exact Ks hQ
    | (
      refine Kg (wpAny_load ho ?_)
      rw [hc,hd]
      show wpAny M A (if (["enumerate", "zip", "dict_itemiterator", "dict_reverseitemiterator", "odict_iterator", "itertools.zip_longest", "itertools.pairwise"].contains n&&vs[0]?==some (rawInt _))=true then _ else _) Q E s
      rw [if_neg (by intro h;rw [hn,Bool.false_and] at h;cases h)]
      exact Ks hQ))
def Itl (K:Kc)(a:Kd):It :=
 ⟨fun i H=>∃ xs x,SqL K H a xs/\xs[i]?=some x,fun i H x H'=>H'=H/\∀ xs,SqL K H a xs->xs[i]?=some x,fun i H=>∃ xs,SqL K H a xs/\xs.length<=i⟩
def Itt (K:Kc)(a:Kd):It :=
 ⟨fun i H=>∃ xs x,SqT K H a xs/\xs[i]?=some x,fun i H x H'=>H'=H/\∀ xs,SqT K H a xs->xs[i]?=some x,fun i H=>∃ xs,SqT K H a xs/\xs.length<=i⟩
def Itr (lo:Int)(n:Nat):It:=⟨fun i _=>i<n,fun i H x H'=>H'=H/\x=.int (lo+i),fun i _=>n<=i⟩
theorem qc4 {P:Kx}{w:KG}{K:Kc}{tg:Kw}(a it:Kd):Turn P w K tg (Itl K a) [it] it (fun i h=>h.IsListIter it a i) where
 mem:=by simp
 obj:=fun i h st b hb=>by
  have e:b=it:=by simpa using hb
  subst e
  obtain ⟨o,e,c,d⟩:=st
  exact ⟨o,e,fun v z=>by rw [d] at z;cases z⟩
 keep:=fun i h h' st k=>st.at fun o e=>k it (by simp) o e
 item:=by
  intro X hP hw hK hc i pins s σ H E I hf st hg
  subst hP hw hK
  obtain ⟨xs,x,hq,hx⟩:=hg
  obtain ⟨its,rv,p,hz⟩:=I.list hq
  obtain ⟨u,hu,ru⟩:=rv.get hx
  obtain ⟨f0,f1,f2,f3,f4,f5⟩:=hf it (by simp)
  refine wpAny_pyNext_list_item st p.isList (x:=u) (by simpa using hu) fun h' st' sb=>?_
  have I1:Inv X pins σ H { s with heap:=h' }:=I.turned (t':=s.toks) (fun b o hb e=>(sb.2 b hb).trans e) f0 f1 f3 f4 f5
  obtain ⟨o,e,c,d⟩:=id st'
  exact ⟨u,rfl,qdG (s:={ s with heap:=h' }) e c d (by decide) ⟨x,H,I1,ru,⟨rfl,fun ys hy=>by rw [I.list_inj hy hq];exact hx⟩,st',fun b hb=>(hf b hb).1⟩⟩
 done:=by
  intro X hP hw hK hc i pins s σ H E I hf st hg
  subst hP hw hK
  obtain ⟨xs,hq,hx⟩:=hg
  obtain ⟨its,rv,p,hz⟩:=I.list hq
  obtain ⟨f0,f1,f2,f3,f4,f5⟩:=hf it (by simp)
  have hl:=rv.length
  exact wpAny_pyNext_list_end (I.ok.hd hc) st p.isList (by simp;omega) fun h' eb=>⟨rfl,I.turned (t':=s.toks) (fun b o hb e=>eb b o hb e) f0 f1 f3 f4 f5⟩
 self:=fun _ _ _ _ _ st h=>wpAny_pyIter_listiter st h
theorem qbi {P:Kx}{w:KG}{K:Kc}{tg:Kw}(a it:Kd):Turn P w K tg (Itt K a) [it] it (fun i h=>h.IsTupleIter it a i) where
 mem:=by simp
 obj:=fun i h st b hb=>by
  have e:b=it:=by simpa using hb
  subst e
  obtain ⟨o,e,c,d⟩:=st
  exact ⟨o,e,fun v z=>by rw [d] at z;cases z⟩
 keep:=fun i h h' st k=>st.at fun o e=>k it (by simp) o e
 item:=by
  intro X hP hw hK hc i pins s σ H E I hf st hg
  subst hP hw hK
  obtain ⟨xs,x,hq,hx⟩:=hg
  obtain ⟨its,rv,p,hz⟩:=I.tuple hq
  obtain ⟨u,hu,ru⟩:=rv.get hx
  obtain ⟨f0,f1,f2,f3,f4,f5⟩:=hf it (by simp)
  refine wpAny_pyNext_tuple_item st (show s.heap.IsTuple a its.toArray from p) (x:=u) (by simpa using hu) fun h' st' sb=>?_
  have I1:Inv X pins σ H { s with heap:=h' }:=I.turned (t':=s.toks) (fun b o hb e=>(sb.2 b hb).trans e) f0 f1 f3 f4 f5
  obtain ⟨o,e,c,d⟩:=id st'
  exact ⟨u,rfl,qdG (s:={ s with heap:=h' }) e c d (by decide) ⟨x,H,I1,ru,⟨rfl,fun ys hy=>by rw [I.tuple_inj hy hq];exact hx⟩,st',fun b hb=>(hf b hb).1⟩⟩
 done:=by
  intro X hP hw hK hc i pins s σ H E I hf st hg
  subst hP hw hK
  obtain ⟨xs,hq,hx⟩:=hg
  obtain ⟨its,rv,p,hz⟩:=I.tuple hq
  obtain ⟨f0,f1,f2,f3,f4,f5⟩:=hf it (by simp)
  have hl:=rv.length
  exact wpAny_pyNext_tuple_end (I.ok.hd hc) st (show s.heap.IsTuple a its.toArray from p) (by simp;omega) fun h' eb=>⟨rfl,I.turned (t':=s.toks) (fun b o hb e=>eb b o hb e) f0 f1 f3 f4 f5⟩
 self:=fun _ _ _ _ _ st h=>wpAny_pyIter_tupleiter st h
theorem qbh {P:Kx}{w:KG}{K:Kc}{tg:Kw}(it:Kd)(lo:Int)(n:Nat):Turn P w K tg (Itr lo n) [it] it (fun i h=>IsRangeIter h it (lo+(i:Nat)*1) ((n:Int)-(i:Nat)) 1) where
 mem:=by simp
 obj:=fun i h st b hb=>by
  have e:b=it:=by simpa using hb
  subst e
  exact ⟨_,st,fun v z=>by
   have z':UP _=Data.cell v:=z
   cases z'⟩
 keep:=fun i h h' st k=>k it (by simp) _ st
 item:=by
  intro X hP hw hK hc i pins s σ H E I hf st hg
  subst hP hw hK
  obtain ⟨f0,f1,f2,f3,f4,f5⟩:=hf it (by simp)
  have W:=Walks.range (prog:=X.prog) (w:=X.w) (I.ok.hd hc) it lo 1 n
  refine W.item i s _ _ hg st fun v h' tk hv st' kk=>?_
  obtain ⟨t,rfl⟩:=hv
  have I1:Inv X pins σ H { s with heap:=h',toks:=tk }:=I.turned (fun b o hb e=>kk b o (by simpa using hb) e) f0 f1 f3 f4 f5
  refine ⟨_,rfl,qdG (s:={ s with heap:=h',toks:=tk }) (n := "range_iterator") st' rfl rfl (by decide) ⟨.int (lo+i),H,I1,⟨t,?_⟩,⟨rfl,rfl⟩,st',fun b hb=>(hf b hb).1⟩⟩
  rw [Int.mul_one]
 done:=by
  intro X hP hw hK hc i pins s σ H E I hf st hg
  subst hP hw hK
  obtain ⟨f0,f1,f2,f3,f4,f5⟩:=hf it (by simp)
  exact wpAny_pyNext_range_end (I.ok.hd hc) st (by have:n<=i:=hg;omega) fun h' eb=>⟨rfl,I.turned (t':=s.toks) (fun b o hb e=>eb b o hb e) f0 f1 f3 f4 f5⟩
 self:=fun _ _ _ _ _ st h=>wpAny_pyIter_rangeiter st h
section
variable {X:Cx}{tg:Kw}
theorem qeE {pins:List (Kd×Obj)}{σ:St}{H:Hp}{s:Kf}{R:It->Hp->Prop}{E:Kb->Kf->Prop}{lo hi:Int}{t u v:Tok}{tk:Nat}(I:Inv X pins σ H s)(h1:-(2 ^ 62)<=lo)(h2:lo<2 ^ 62)(h3:-(2 ^ 62)<=hi)(h4:hi<2 ^ 62)
  (q:R (Itr lo (hi-lo).toNat) H):wpAny (model X.prog X.w) X.A (pyIter (.ref s.heap.objs.size)) (PIE X pins σ tg R) E { s with heap:=s.heap.push { cls:=.type "range", data:=.fields #[.int lo t,.int hi u,.int 1 v] },toks:=tk }:=by
 refine wpAny_pyIter_range (IsRange.new ..) (small_one h1 h2 h3 h4) ?_
 have I1:Inv X pins σ H { s with heap:=s.heap.push { cls:=.type "range", data:=.fields #[.int lo t,.int hi u,.int 1 v] },toks:=tk }:=I.kept fun b o e=>Kk _ e
 refine ⟨(s.heap.push { cls:=.type "range", data:=.fields #[.int lo t,.int hi u,.int 1 v] }).objs.size,[(s.heap.push { cls:=.type "range", data:=.fields #[.int lo t,.int hi u,.int 1 v] }).objs.size],_,_,H,rfl,
  I1.kept (t':=tk) fun b o e=>Kk _ e,qbh _ lo (hi-lo).toNat,?_,fun b hb=>?_,q⟩
 ·have e1:lo+((0:Nat):Int)*1=lo:=by simp
  have e2:(((hi-lo).toNat:Nat):Int)-((0:Nat):Int)=Builtin.Range.rangeSize lo hi 1:=by rw [rangeSize_one];split<;>omega
  show IsRangeIter _ _ (lo+((0:Nat):Int)*1) ((((hi-lo).toNat:Nat):Int)-((0:Nat):Int)) 1
  rw [e1,e2]
  exact K4 _ rfl
 ·have e:b=(s.heap.push { cls:=.type "range", data:=.fields #[.int lo t,.int hi u,.int 1 v] }).objs.size:=by simpa using hb
  subst e
  exact I1.fpOk (Km _) (I1.hok.fresh (Km _))
def iRng1 (ta:TA):TI:=fun σ H R=>ta σ H fun vs H1=>∃ j:Int,vs=[.int j]/\-(2 ^ 62)<=j/\j<2 ^ 62/\R (Itr 0 j.toNat) H1
theorem wF {a:Kw}{ta:TA}{p pos:Pos}(hg:Gl X "range")(hm:X.mg "range" = none)(ha:PA X [a] ta)(hs:starEach [a] X.env=[(false,eval a X.env)]:=by rfl):PI X tg (.Call (.Name "range" p) [a] [] pos) (iRng1 ta):=by
 intro pins s σ H R I h
 refine Call_ (Yc I hg hm boot_range (Xf (thn (ha pos pins s σ H _ I h) fun us s1 ⟨vs,H1,I1,r1,q1⟩=>?_) hs rfl))
 obtain ⟨j,e,q1,q2,q⟩:=q1
 subst e
 cases r1 with
 | cons r rr =>
  cases rr
  obtain ⟨t,rfl⟩:=r
  exact call_range_1 (qeE I1 (by omega) (by omega) q1 q2 (by simpa using q))
def tFor (wi:TI)(g:TG)(tb:TS):TS:=fun D σ H=>wi σ H fun J H1=>∃ W:Nat->Nat->St->Hp->Prop,(∃ m,W 0 m σ H1)/\∀ i m σ H,W i m σ H->
 (J.stop i H/\D.nx σ H)\/(J.go i H/\∃ N:St->Hp->Prop,(∀ σ' H',N σ' H'->∃ m',m'<m/\W (i+1) m' σ' H')/\∀ x H',J.yld i H x H'->g x σ H' fun σ2 H2=>tb { D with nx:=N,ct:=N,bk:=D.nx } σ2 H2)
def QS (fp:List Kd)(h:KA):List (Kd×Obj):=fp.filterMap fun b=>(h.get? b).map fun o=>(b,o)
theorem QJ {fp:List Kd}{h:KA}{b:Kd}{o:Obj}(hb:b∈fp)(e:h.get? b=some o):(b,o)∈QS fp h:=Nc.mpr ⟨b,hb,by rw [e];rfl⟩
theorem JL {fp:List Kd}{h:KA}{p:Kd×Obj}(hp:p∈QS fp h):p.1∈fp/\h.get? p.1=some p.2:=by
 obtain ⟨b,hb,e⟩:=Nc.mp hp
 cases q:h.get? b with
 | none=>rw [q] at e;cases e
 | some o =>
  rw [q] at e
  have e':(b,o)=p:=V7 e
  subst e'
  exact ⟨hb,q⟩
theorem Inv.pinned {pins:List (Kd×Obj)}{σ:St}{H:Hp}{s:Kf}{fp:List Kd}(I:Inv X pins σ H s)(hf:∀ b∈fp,FpOk X pins H b)(ho:∀ b∈fp,∃ o,s.heap.get? b=some o/\∀ v,o.data≠.cell v):Inv X (pins++QS fp s.heap) σ H s :=
 I.pins_of fun p hp=>(KQ.mp hp).elim (fun z=>I.pin p (KP _ z)) fun z=>by
  obtain ⟨hb,e⟩:=JL z
  obtain ⟨f0,f1,f2,_⟩:=hf p.1 hb
  obtain ⟨o,e',d⟩:=ho p.1 hb
  rw [e] at e';cases e'
  exact ⟨e,f0,f1,f2,d⟩
theorem Inv.unpinned {pins pl:List (Kd×Obj)}{σ:St}{H:Hp}{s:Kf}(I:Inv X (pins++pl) σ H s):Inv X pins σ H s:=I.pins_of fun p hp=>I.pin p (KP _ (Vm _ hp))
theorem qev {iter:Kw}{body:List KY}{wi:TI}{g:TG}{tb:TS}{pos:Pos}(hp:N0 (model X.prog X.w) X.A X.env X.xe)(hc:X.calm=true)(hi:PI X tg iter wi)(hg:PG X tg g)(hb:PSs X body tb)
  (hs:∀ x,foldedSetIterable iter X.env x=pure x:=by intro _;rfl):PS X (.For tg iter body [] pos) (tFor wi g tb):=by
 intro pins s σ H D I h
 refine wpAny_For (thn (hi pins s σ H _ I h) fun v s1 h1=>thn h1 fun itv s2 h2=>?_) hs
 obtain ⟨it,fp,tn,J,H2,e,I2,T,st2,f2,W,⟨m0,w0⟩,turn⟩:=h2
 subst e
 have stat:∀ {H':Hp},(∀ b∈fp,H' b=none)->∀ b∈fp,FpOk X pins H' b:=fun hn b hb=>⟨hn b hb,(f2 b hb).2⟩
 refine codeAny_forLoop_any (fun n s'=>∃ i σ' H',Inv X pins σ' H' s'/\tn i s'.heap/\(∀ b∈fp,H' b=none)/\W i n σ' H') ?_ m0 ⟨0,σ,H2,I2,st2,fun b hb=>(f2 b hb).1,w0⟩
 rintro n s3 ⟨i,σ3,H3,I3,st3,fr3,w3⟩
 rcases turn i n σ3 H3 w3 with ⟨stop,qn⟩|⟨go,N,hN,step⟩
 ·refine UF hp (thn (T.done X rfl rfl rfl hc i pins s3 σ3 H3 X.xe I3 (stat fr3) st3 stop) fun r s4 ⟨hr,I4⟩=>?_)
  subst hr
  exact U1 ⟨σ3,H3,I4,qn⟩
 ·refine UF hp (thn (T.item X rfl rfl rfl hc i pins s3 σ3 H3 X.xe I3 (stat fr3) st3 go) fun r s4 ⟨u,hr,h4⟩=>?_)
  subst hr
  refine UF hp (thn h4 fun _ s5 ⟨x,H5,I5,r5,y5,st5,fr5⟩=>?_)
  have I5':=I5.pinned (stat fr5) (T.obj _ _ st5)
  refine UF hp (thn (hg _ s5 σ3 H5 x u _ I5' r5 (step x H5 y5)) fun _ s6 ⟨σ6,H6,I6,q6⟩=>?_)
  refine UF hp (thn (hb _ s6 σ6 H6 _ I6 q6) fun f s7 q7=>?_)
  have again:∀ {σ7:St} {H7:Hp},Inv X (pins++QS fp s5.heap) σ7 H7 s7->N σ7 H7->∃ m,m<n/\∃ i σ' H',Inv X pins σ' H' s7/\tn i s7.heap/\(∀ b∈fp,H' b=none)/\W i m σ' H':=fun {σ7 H7} I7 n7=>by
   obtain ⟨m',hm,w7⟩:=hN σ7 H7 n7
   refine ⟨m',hm,i+1,σ7,H7,I7.unpinned,T.keep _ _ _ st5 fun b hb o e=>(I7.pin (b,o) (KP _ (KP _ (QJ hb e)))).1,fun b hb=>?_,w7⟩
   obtain ⟨o,e,d⟩:=T.obj _ _ st5 b hb
   exact (I7.pin (b,o) (KP _ (KP _ (QJ hb e)))).2.1
  cases f with
  | next=>obtain ⟨σ7,H7,I7,n7⟩:=q7;exact again I7 n7
  | cont=>obtain ⟨σ7,H7,I7,n7⟩:=q7;exact again I7 n7
  | brk=>obtain ⟨σ7,H7,I7,q7⟩:=q7;exact ⟨σ7,H7,I7.unpinned,q7⟩
  | ret v=>obtain ⟨x7,σ7,H7,I7,r7,q7⟩:=q7;exact ⟨x7,σ7,H7,I7.unpinned,r7,q7⟩
end
abbrev R2:=V->V->Hp->VK->Prop
def OpR (X:Cx)(f:Kb->Kb->Sem Kb)(r:R2):Prop :=
 ∀ (pins:List (Kd×Obj)) (s:Kf) (σ:St) (H:Hp) (x y:V) (v u:Kb) (Q:VK),Inv X pins σ H s->RelV x v->RelV y u->r x y H Q->
  wpAny (model X.prog X.w) X.A (f v u) (EP X pins σ Q) X.xe s
def UnR (X:Cx)(f:Kb->Sem Kb)(r:V->Hp->VK->Prop):Prop :=
 ∀ (pins:List (Kd×Obj)) (s:Kf) (σ:St) (H:Hp) (x:V) (v:Kb) (Q:VK),Inv X pins σ H s->RelV x v->r x H Q->
  wpAny (model X.prog X.w) X.A (f v) (EP X pins σ Q) X.xe s
def QT (X:Cx)(f:Kb)(r:List V->Hp->VK->Prop):Prop :=
 ∀ (pins:List (Kd×Obj)) (s:Kf) (σ:St) (H:Hp) (xs:List V) (us:List Kb) (Q:VK),Inv X pins σ H s->Vals xs us->r xs H Q->
  wpAny (model X.prog X.w) X.A (call f us) (EP X pins σ Q) X.xe s
def TruR (X:Cx)(r:V->Hp->(Bool->Hp->Prop)->Prop):Prop :=
 ∀ (pins:List (Kd×Obj)) (s:Kf) (σ:St) (H:Hp) (x:V) (v:Kb) (Q:Bool->Hp->Prop),Inv X pins σ H s->RelV x v->r x H Q->
  wpAny (model X.prog X.w) X.A (truthy v) (TP X pins σ Q) X.xe s
def tOp (r:R2)(ta tb:TE):TE:=fun σ H Q=>ta σ H fun x H1=>tb σ H1 fun y H2=>r x y H2 Q
def tUn (r:V->Hp->VK->Prop)(ta:TE):TE:=fun σ H Q=>ta σ H fun x H1=>r x H1 Q
def rI (C:Int->Int->Prop)(g:Int->Int->V):R2:=fun x y H Q=>∃ i j,x=.int i/\y=.int j/\C i j/\Q (g i j) H
def rI0 (g:Int->Int->V):R2:=fun x y H Q=>∃ i j,x=.int i/\y=.int j/\Q (g i j) H
def rU (g:Int->V):V->Hp->VK->Prop:=fun x H Q=>∃ i,x=.int i/\Q (g i) H
section
variable {X:Cx}{a b c:Kw}{ta tb tc:TE}{pos:Pos}
theorem binT (ha:PE X a ta)(hb:PE X b tb){pins:List (Kd×Obj)}{s:Kf}{σ:St}{H:Hp}{R:V->V->Hp->Prop}(I:Inv X pins σ H s)
  (h:ta σ H fun x H1=>tb σ H1 fun y H2=>R x y H2) {Q:Kb->Kf->Prop} {f:Kb->Kb->Sem Kb}
  (hf:∀ v u s2 x y H2,Inv X pins σ H2 s2->RelV x v->RelV y u->R x y H2->wpAny (model X.prog X.w) X.A (f v u) Q X.xe s2) :
  wpAny (model X.prog X.w) X.A (eval a X.env) (fun v s₁=>wpAny (model X.prog X.w) X.A (eval b X.env) (fun u s₂=>wpAny (model X.prog X.w) X.A (f v u) Q X.xe s₂) X.xe s₁) X.xe s:=by
 refine thn (ha pins s σ H _ I h) fun v s1 ⟨x,H1,I1,r1,q1⟩=>?_
 refine thn (hb pins s1 σ H1 _ I1 q1) fun u s2 ⟨y,H2,I2,r2,q2⟩=>?_
 exact hf v u s2 x y H2 I2 r1 r2 q2
theorem qgY {op:Operator}{r:R2}(ho:OpR X (binaryOp op) r)(ha:PE X a ta)(hb:PE X b tb):PE X (.BinOp a op b pos) (tOp r ta tb):=by
 intro pins s σ H Q I h
 exact wpAny_BinOp (binT ha hb I h fun v u s2 x y H2 I2 rx ry q=>ho pins s2 σ H2 x y v u Q I2 rx ry q)
theorem pe_un {op:UnaryOp}{r:V->Hp->VK->Prop}(ho:UnR X (unaryOp op) r)(ha:PE X a ta):PE X (.UnaryOp op a pos) (tUn r ta):=by
 intro pins s σ H Q I h
 exact UnaryOp_ (thn (ha pins s σ H _ I h) fun v s1 ⟨x,H1,I1,r1,q1⟩=>ho pins s1 σ H1 x v Q I1 r1 q1)
theorem opI {f:Kb->Kb->Sem Kb}{C:Int->Int->Prop}{g:Int->Int->Int}
  (rule:∀ (i j:Int) (t u:Tok) (s:Kf) (Q:Kb->Kf->Prop) (E:Kb->Kf->Prop),C i j->Q (.int (g i j) s.toks) { s with toks:=s.toks+1 }->wpAny (model X.prog X.w) X.A (f (.int i t) (.int j u)) Q E s) :
  OpR X f (rI C fun i j=>.int (g i j)):=by
 intro pins s σ H x y v u Q I rx ry h
 obtain ⟨i,j,rfl,rfl,hc,q⟩:=h
 obtain ⟨t,rfl⟩:=rx
 obtain ⟨t',rfl⟩:=ry
 exact rule i j t t' s _ _ hc ⟨.int (g i j),H,I.tok _,⟨_,rfl⟩,q⟩
theorem opI0 {f:Kb->Kb->Sem Kb}{g:Int->Int->Int}
  (rule:∀ (i j:Int) (t u:Tok) (s:Kf) (Q:Kb->Kf->Prop) (E:Kb->Kf->Prop),Q (.int (g i j) s.toks) { s with toks:=s.toks+1 }->wpAny (model X.prog X.w) X.A (f (.int i t) (.int j u)) Q E s) :
  OpR X f (rI0 fun i j=>.int (g i j)):=by
 intro pins s σ H x y v u Q I rx ry h
 obtain ⟨i,j,rfl,rfl,q⟩:=h
 obtain ⟨t,rfl⟩:=rx
 obtain ⟨t',rfl⟩:=ry
 exact rule i j t t' s _ _ ⟨.int (g i j),H,I.tok _,⟨_,rfl⟩,q⟩
theorem opB0 {f:Kb->Kb->Sem Kb}{g:Int->Int->Bool}
  (rule:∀ (i j:Int) (t u:Tok) (s:Kf) (Q:Kb->Kf->Prop) (E:Kb->Kf->Prop),Q (.bool (g i j)) s->wpAny (model X.prog X.w) X.A (f (.int i t) (.int j u)) Q E s) :
  OpR X f (rI0 fun i j=>.bl (g i j)):=by
 intro pins s σ H x y v u Q I rx ry h
 obtain ⟨i,j,rfl,rfl,q⟩:=h
 obtain ⟨t,rfl⟩:=rx
 obtain ⟨t',rfl⟩:=ry
 exact rule i j t t' s _ _ ⟨.bl (g i j),H,I,rfl,q⟩
def CDiv (i j:Int):Prop:=0<j/\j<1073741824
def CPow (i j:Int):Prop:=0<=j/\j<=1000000/\i.natAbs<2 ^ 64
theorem qhL:OpR X (binaryOp .Add) (rI0 fun i j=>.int (i+j)):=opI0 fun _ _ _ _ _ _ _ q=>add_int q
theorem qhQ:OpR X (binaryOp .Sub) (rI0 fun i j=>.int (i-j)):=opI0 fun _ _ _ _ _ _ _ q=>sub_int q
theorem qf6:OpR X (binaryOp .FloorDiv) (rI CDiv fun i j=>.int (i / j)):=opI fun i j _ _ _ _ _ hc q=>by
 have h1:(0:Int)<j:=hc.1
 have h2:j<1073741824:=hc.2
 exact floordiv_int (by omega) (by rw [Int.fdiv_eq_ediv_of_nonneg i (by omega)];exact q) (.inl (PyProof.noPylong_small (by omega)))
theorem qhN:OpR X (binaryOp .Mod) (rI (fun _ j=>0<j) fun i j=>.int (i % j)):=opI fun i j _ _ _ _ _ hc q=>by
 have h1:(0:Int)<j:=hc
 exact mod_int' (by omega) (by rw [Int.fmod_eq_emod_of_nonneg i (by omega)];exact q)
theorem qhP:OpR X (binaryOp .Pow) (rI CPow fun i j=>.int (i ^ j.toNat)):=opI fun _ _ _ _ _ _ _ hc q=>pow_int_small hc.1 hc.2.1 hc.2.2 q
theorem unI {f:Kb->Sem Kb}{g:Int->Int}
  (rule:∀ (i:Int) (t:Tok) (s:Kf) (Q:Kb->Kf->Prop) (E:Kb->Kf->Prop),Q (.int (g i) s.toks) { s with toks:=s.toks+1 }->wpAny (model X.prog X.w) X.A (f (.int i t)) Q E s) :
  UnR X f (rU fun i=>.int (g i)):=by
 intro pins s σ H x v Q I rx h
 obtain ⟨i,rfl,q⟩:=h
 obtain ⟨t,rfl⟩:=rx
 exact rule i t s _ _ ⟨.int (g i),H,I.tok _,⟨_,rfl⟩,q⟩
theorem qiF:UnR X (unaryOp .USub) (rU fun i=>.int (-i)):=unI fun _ _ _ _ _ q=>neg_int q
end
section
variable {X:Cx}{a b c:Kw}{ta tb tc:TE}{pos:Pos}
theorem Zt {pins:List (Kd×Obj)}{σ:St}{H:Hp}{s:Kf}{Q:VK}{k k':Bool}(I:Inv X pins σ H s)(q:Q (.bl k) H)(e:k=k'):EP X pins σ Q (.bool k') s:=by
 subst e
 exact ⟨.bl k,H,I,rfl,q⟩
theorem op_le:OpR X (compareOp .LtE) (rI0 fun i j=>.bl (decide (i<=j))):=opB0 fun _ _ _ _ _ _ _ q=>le_int q
theorem op_gt:OpR X (compareOp .Gt) (rI0 fun i j=>.bl (decide (j<i))):=opB0 fun _ _ _ _ _ _ _ q=>gt_int q
theorem qf8:OpR X (compareOp .IsNot) (fun x y H Q=>y=.non/\Q (.bl (!decide (x=.non))) H):=by
 intro pins s σ H x y v u Q I rx ry h
 obtain ⟨rfl,q⟩:=h
 cases ry
 refine isnot_none_gen (Zt I q ?_)
 cases x<;>first
  | (cases rx;rfl)
  | (obtain ⟨t,rfl⟩:=rx;rfl)
theorem OpR.or {f:Kb->Kb->Sem Kb}{r r':R2}(h:OpR X f r)(h':OpR X f r'):OpR X f (fun x y H Q=>r x y H Q\/r' x y H Q):=by
 intro pins s σ H x y v u Q I rx ry q
 rcases q with q|q
 ·exact h pins s σ H x y v u Q I rx ry q
 ·exact h' pins s σ H x y v u Q I rx ry q
theorem qX (b:Kw){op:CmpOp}(h:op≠.In:=by decide)(h2:op≠.NotIn:=by decide):behindInMarks op b=false:=by
 have e1:(op==CmpOp.In)=false:=by cases op<;>first|rfl|exact absurd rfl h
 have e2:(op==CmpOp.NotIn)=false:=by cases op<;>first|rfl|exact absurd rfl h2
 cases b<;>simp [behindInMarks,e1,e2]
theorem qgn {op:CmpOp}{r:R2}(ho:OpR X (compareOp op) r)(ha:PE X a ta)(hb:PE X b tb)(hm:behindInMarks op b=false):PE X (.Compare a [op] [b] pos) (tOp r ta tb):=by
 intro pins s σ H Q I h
 exact wpAny_Compare1 (binT ha hb I h fun v u s2 x y H2 I2 rx ry q=>ho pins s2 σ H2 x y v u Q I2 rx ry q) hm
def qg4 (t:TE):TT:=fun σ H Q=>t σ H fun x H'=>∃ k,x=.bl k/\Q k H'
theorem qgu {op:CmpOp}{r:R2}(ho:OpR X (compareOp op) r)(ha:PE X a ta)(hb:PE X b tb)(hm:behindInMarks op b=false):PT X (.Compare a [op] [b] pos) (qg4 (tOp r ta tb)):=by
 intro pins s σ H Q I h
 refine wpAny_isTrue_Compare1 (thn (ha pins s σ H _ I h) fun v s1 ⟨x,H1,I1,r1,q1⟩=>thn (hb pins s1 σ H1 _ I1 q1) fun u s2 ⟨y,H2,I2,r2,q2⟩ =>
  thn (ho pins s2 σ H2 x y v u _ I2 r1 r2 q2) fun c s3 ⟨z,H3,I3,r3,k,e,q3⟩=>?_) hm
 subst e
 cases r3
 exact V4 ⟨H3,I3,q3⟩
def qeT (r r':R2)(ta tb tc:TE):TE:=fun σ H Q=>ta σ H fun x H1=>tb σ H1 fun y H2=>r x y H2 fun z H3=>∃ k,z=.bl k/\
 (if k=true then tc σ H3 fun w' H4=>r' y w' H4 Q else Q (.bl false) H3)
theorem qey {op op':CmpOp}{r r':R2}(ho:OpR X (compareOp op) r)(ho':OpR X (compareOp op') r')(ha:PE X a ta)(hb:PE X b tb)(hc:PE X c tc)
  (hm:lastMarks [op,op'] [b,c]=false:=by with_unfolding_all rfl):PT X (.Compare a [op,op'] [b,c] pos) (qg4 (qeT r r' ta tb tc)):=by
 intro pins s σ H Q I h
 refine isTrue_chain (thn (ha pins s σ H _ I h) fun v s1 ⟨x,H1,I1,r1,q1⟩=>test_link (thn (hb pins s1 σ H1 _ I1 q1) fun u s2 ⟨y,H2,I2,r2,q2⟩ =>
  thn (ho pins s2 σ H2 x y v u _ I2 r1 r2 q2) fun d s3 ⟨z,H3,I3,r3,k,e,q3⟩=>?_)) hm
 subst e
 cases r3
 refine V4 ?_
 cases k with
 | false =>
  obtain ⟨k',e',q'⟩:=q3
  cases e'
  exact ite_ff ⟨H3,I3,q'⟩
 | true =>
  refine ite_tt (test_last (thn (hc pins s3 σ H3 _ I3 q3) fun w' s4 ⟨z',H4,I4,r4,q4⟩=>thn (ho' pins s4 σ H4 y z' u w' _ I4 r2 r4 q4) fun d' s5 ⟨z2,H5,I5,r5,k2,e2,q5⟩=>?_))
  subst e2
  cases r5
  exact V4 ⟨H5,I5,q5⟩
def TruV (K:Kc)(x:V)(H:Hp)(k:Bool):Prop :=
 match x with
 | .non=>k=false
 | .bl b=>k=b
 | .int i=>k=(i != 0)
 | .str y=>y.length<=sizeLine/\k=((y.length:Int) != 0)
 | .byt y=>y.size<=sizeLine/\k=((y.size:Int) != 0)
 | .ref p=>(∃ xs,SqL K H p xs/\k=!xs.isEmpty)\/(∃ xs,SqT K H p xs/\k=!xs.isEmpty)\/∃ kvs,H p=some (.dK kvs)/\k=!kvs.isEmpty
 | _=>False
theorem qaQ {κ:Type}{kvs:List (κ×V)}{vs:List (κ×Value)}(r:KV kvs vs):(!vs.isEmpty)=!kvs.isEmpty:=by
 cases r<;>rfl
theorem yS {xs:List V}{its:List Kb}(r:Vals xs its):(!its.toArray.isEmpty)=!xs.isEmpty:=by
 cases r<;>simp
theorem Yd:(sizeLine:Nat)<2 ^ 63:=by rw [Uj];decide
theorem qiB:TruR X (fun x H Q=>∃ k,TruV X.K x H k/\Q k H):=by
 intro pins s σ H x v Q I rx h
 obtain ⟨k,e,q⟩:=h
 have hl:=Yd
 have hs:sizeLine=16777216:=Uj
 cases x with
 | non =>
  cases rx
  have e':k=false:=e
  subst e'
  exact truthy_none ⟨H,I,q⟩
 | bl b =>
  cases rx
  have e':k=b:=e
  subst e'
  exact V4 ⟨H,I,q⟩
 | int i =>
  obtain ⟨t,rfl⟩:=rx
  have e':k=(i != 0):=e
  subst e'
  exact PySem.P.truthy_int ⟨H,I,q⟩
 | str y =>
  obtain ⟨t,rfl⟩:=rx
  obtain ⟨hy,e'⟩:y.length<=sizeLine/\k=((y.length:Int) != 0):=e
  subst e'
  exact PySem.P.truthy_str (by omega) ⟨H,I.tok _,q⟩
 | byt y =>
  obtain ⟨t,rfl⟩:=rx
  obtain ⟨hy,e'⟩:y.size<=sizeLine/\k=((y.size:Int) != 0):=e
  subst e'
  exact PySem.W.truthy_bytes (by omega) ⟨H,I.tok _,q⟩
 | ref p =>
  cases rx
  have e':(∃ xs,SqL X.K H p xs/\k=!xs.isEmpty)\/(∃ xs,SqT X.K H p xs/\k=!xs.isEmpty)\/∃ kvs,H p=some (.dK kvs)/\k=!kvs.isEmpty:=e
  rcases e' with ⟨xs,hx,e'⟩|⟨xs,hx,e'⟩|⟨kvs,hx,e'⟩
  ·subst e'
   obtain ⟨its,r,pl,hz⟩:=I.list hx
   have hlen:=r.length
   exact wpAny_truthy_list pl.isList (by simp only [Kt];omega) ⟨H,I.tok _,by rw [yS r];exact q⟩
  ·subst e'
   obtain ⟨its,r,pl,hz⟩:=I.tuple hx
   have hlen:=r.length
   exact truthy_tuple pl (by simp only [Kt];omega) ⟨H,I.tok _,by rw [yS r];exact q⟩
  ·subst e'
   obtain ⟨hz,hS,vs,r,m⟩:kvs.length<=sizeLine/\(p==sysModules)=false/\∃ vs,KV kvs vs/\s.heap.DictOf (Wq X.prog X.w) p vs:=I.hok p _ hx
   have hlen:kvs.length=vs.length:=Paired.length r
   exact wpAny_truthy_dict hS m (by omega) ⟨H,I.tok _,by rw [qaQ r];exact q⟩
 | _=>exact (show False from e).elim
theorem qez (ha:PE X a ta)(he:∀ whole,isTrue a X.env whole=(do let v ← whole;standAt a.pos;holding [v] (truthy v))) :
  PT X a (fun σ H Q=>ta σ H fun x H'=>∃ k,TruV X.K x H' k/\Q k H'):=by
 intro pins s σ H Q I h
 exact isTrue_plain (thn (ha pins s σ H _ I h) fun v s1 ⟨x,H1,I1,r1,q1⟩=>qiB pins s1 σ H1 x v Q I1 r1 q1) (he _)
theorem vals1 {x:V}{us:List Kb}(r:Vals [x] us):∃ u,us=[u]/\RelV x u:=by
 cases r with
 | cons r1 r2=>cases r2;exact ⟨_,rfl,r1⟩
theorem qdi:QT X (.builtin "abs") (fun xs H Q=>∃ i,xs=[.int i]/\Q (.int (if i<0 then -i else i)) H):=by
 intro pins s σ H xs us Q I r h
 obtain ⟨i,rfl,q⟩:=h
 obtain ⟨u,rfl,t,rfl⟩:=vals1 r
 exact call_abs_int fun u tk=>⟨.int (if i<0 then -i else i),H,I.tok _,⟨_,rfl⟩,q⟩
end
structure ObjM (h:KA)(x dx C:Kd)(mA:Str->Option Kb):Prop where
 obj:h.get? x=some (NZ C dx)
 ns:h.Ns1 dx mA
 ne:dx≠x
theorem qcJ {h:KA}{dx:Kd}{mA:Str->Option Kb}(n:h.Ns1 dx mA):∃ od,h.get? dx=some od/\∀ name,Ef name od=some (mA name):=by
 obtain ⟨o,es,ep,ho,hd,hk,_,hm⟩:=n
 refine ⟨o,ho,fun name=>?_⟩
 have e:=hm name
 unfold nsFind findBy at e
 rw [← Array.find?_toList] at e
 unfold Ef
 rw [hd]
 dsimp only
 split
 ·rename_i y q
  rw [q] at e
  exact congrArg some e
 ·rename_i q
  rw [q] at e
  have a:es.toList.any (·.refKey)=false:=by
   rw [List.any_eq_false]
   intro y hy
   obtain ⟨z,t,hkey⟩:=hk y (Xg.mp hy)
   simp [DictEntry.refKey,hkey]
  have a':¬ es.toList.any (·.refKey)=true:=by rw [a];exact Ug
  rw [if_neg a']
  exact congrArg some e
theorem ObjM.look {h:KA}{x dx C:Kd}{mA:Str->Option Kb}(I:ObjM h x dx C mA):∃ od,PySem.W.InstAt h x (NZ C dx) C (some od)/\∀ name,Ef name od=some (mA name) :=
 let ⟨od,ho,hl⟩:=qcJ I.ns
 ⟨od,⟨I.obj,rfl,rfl,ho⟩,hl⟩
theorem RelO.some_of {v:V}{o:Option Kb}(r:RelO (some v) o):∃ u,o=some u/\RelV v u:=by
 cases o with
 | none=>exact (show False from r).elim
 | some u=>exact ⟨u,rfl,r⟩
theorem qcw {v:V}{u:Kb}(r:RelV v u):PySem.W.handedIn u=true:=by
 cases v with
 | non=>cases (show u=VH from r);rfl
 | bl b=>cases (show u=K5 b from r);rfl
 | int i=>obtain ⟨t,e⟩:=(show ∃ t,u=Xu i t from r);cases e;rfl
 | str x=>obtain ⟨t,e⟩:=(show ∃ t,u=Xt x t from r);cases e;rfl
 | byt b=>obtain ⟨t,e⟩:=(show ∃ t,u=Value.bytes b t from r);cases e;rfl
 | flt b=>obtain ⟨t,e⟩:=(show ∃ t,u=EK b t from r);cases e;rfl
 | ref a=>cases (show u=KW a from r);rfl
 | ty n=>cases (show u=VV n from r);rfl
section
variable {P:Kx}{w:KG}{H H':Hp}{h h':KA}{a C dx:Kd}{fs fs':List (Str×V)}
theorem qfF (hok:HOk P w H h)(e:H a=some (.ins C dx fs)):∃ mA,ObjM h a dx C mA/\(∀ f,RelO (fs.lookup f) (mA f))/\PySem.Within mA (fs.map (·.1))/\fs.length<=1000/\H dx=some (.own a):=by
 obtain ⟨d,z,ne,ob,mA,n,r,q⟩:=(show zK P w H h a (.ins C dx fs) from hok a _ e)
 exact ⟨mA,⟨ob,n,ne⟩,r,q,z,d⟩
end
structure Cls (K:Kc)(C:Kd):Prop where
 pg:NH K C Ey=true
 hd:EG K C=true
 po:EH K C=true
 sa:KZ K (.ref C) "__setattr__" = some (some (.builtin "object.__setattr__"))
theorem Cls.get {K:Kc}{C:Kd}(c:Cls K C)(f:Str):NH K C f=true:=c.pg
section
variable {X:Cx}{pins:List (Kd×Obj)}{σ:St}{H:Hp}{s:Kf}{a C dx:Kd}{fs:List (Str×V)}{f:Str}{v:V}{A:KI}{E:Kb->Kf->Prop}
theorem qe8 {prog:Kx}{w:KG}{env:Env}{e:Kw}{f:Str}{pos:Pos}{s:Kf}{Q:Kb->Kf->Prop}(hb:attributeBase e f env (eval e env)=eval e env)
  (h:wpAny (model prog w) A (eval e env) (fun o s₁=>wpAny (model prog w) A (getAttr o f true) Q E s₁) E s):wpAny (model prog w) A (eval (.Attribute e f pos) env) Q E s :=
 Attribute_any_ h (by rw [arm_eval_Attribute,hb])
end
section
variable {X:Cx}{pins:List (Kd×Obj)}{σ:St}{H:Hp}{s:Kf}{A:KI}{E:Kb->Kf->Prop}{Q:Kb->Kf->Prop}{c:Kb}{b:Bool}
inductive TyOf (K:Kc)(H:Hp):V->Kb->Prop where
 | non:TyOf K H .non (.type "NoneType")
 | bl (x:Bool):TyOf K H (.bl x) (.type "bool")
 | int (i:Int):TyOf K H (.int i) (.type "int")
 | str (x:Str):TyOf K H (.str x) (.type "str")
 | flt (x:UInt64):TyOf K H (.flt x) (.type "float")
 | lst {a:Kd} {xs:List V} (e:H a=some (.lst xs)):TyOf K H (.ref a) (.type "list")
 | frz {a:Kd} {o:Obj} {xs:List V} (e:H a=some (.frz o (.lst xs))):TyOf K H (.ref a) (.type "list")
 | tup {a:Kd} {xs:List V} (e:H a=some (.tup xs)):TyOf K H (.ref a) (.type "tuple")
 | dK {a:Kd} {kvs:List (Key×V)} (e:H a=some (.dK kvs)):TyOf K H (.ref a) (.type "dict")
 | dT {a:Kd} {kvs:List (List Key×V)} (e:H a=some (.dT kvs)):TyOf K H (.ref a) (.type "dict")
 | ins {a C dx:Kd} {fs:List (Str×V)} (e:H a=some (.ins C dx fs)) (cl:Cls K C) (ha:KZ K (.ref C) "__class__" = some (some (.builtin "object.__class__")))
   (hn:U9 K (.builtin "object.__class__") "__get__" = some (some (.builtin "getset_descriptor.__get__"))) (htk:N1 K (.builtin "object.__class__")=some true)
   (hm:VM K C (.type "object")=some true):TyOf K H (.ref a) (.ref C)
theorem qcC {x:V}{u t:Kb}(I:Inv X pins σ H s)(rx:RelV x u)(ty:TyOf X.K H x t)(e:Vb X.K t c=some b)(h:∀ tk,Q (.bool b) { s with toks:=tk }) :
  wpAny (model X.prog X.w) A (call (.builtin "isinstance") [u,c]) Q E s:=by
 cases ty with
 | non=>cases (show u=VH from rx);exact K7 EI I.kIn V0 e (fun z=>nomatch z) h
 | bl y=>cases (show u=K5 y from rx);exact K7 EJ I.kIn V0 e (fun z=>nomatch z) h
 | int i=>obtain ⟨t,q⟩:=(show ∃ t,u=Xu i t from rx);cases q;exact K7 PySem.W.kitx_int I.kIn V0 e (fun z=>nomatch z) h
 | str y=>obtain ⟨t,q⟩:=(show ∃ t,u=Xt y t from rx);cases q;exact K7 PySem.W.kitx_str I.kIn V0 e (fun z=>nomatch z) h
 | flt y=>obtain ⟨t,q⟩:=(show ∃ t,u=EK y t from rx);cases q;exact K7 PySem.W.kitx_float I.kIn V0 e (fun z=>nomatch z) h
 | @lst a xs ea =>
  cases (show u=KW a from rx)
  obtain ⟨_,_,n,_,h1⟩:=(show zK X.prog X.w H s.heap a (.lst xs) from I.hok a _ ea)
  exact K7 Nv I.kIn ⟨_,h1,rfl⟩ e (fun z=>nomatch z) h
 | @frz a ob xs ea =>
  cases (show u=KW a from rx)
  obtain ⟨_,_,_,n,_,h1⟩:=(show zK X.prog X.w H s.heap a (.frz ob (.lst xs)) from I.hok a _ ea)
  exact K7 Nv I.kIn ⟨_,h1,rfl⟩ e (fun z=>nomatch z) h
 | @tup a xs ea =>
  cases (show u=KW a from rx)
  obtain ⟨_,_,_,p⟩:=(show zK X.prog X.w H s.heap a (.tup xs) from I.hok a _ ea)
  obtain ⟨o,h1,h2,_⟩:=p
  exact K7 Ez I.kIn ⟨o,h1,h2⟩ e (fun z=>nomatch z) h
 | @dK a kvs ea =>
  cases (show u=KW a from rx)
  obtain ⟨_,_,vs,_,p⟩:=(show zK X.prog X.w H s.heap a (.dK kvs) from I.hok a _ ea)
  obtain ⟨o,es,ep,h1,h2,_⟩:=p
  exact K7 Nw I.kIn ⟨o,h1,h2.1⟩ e (fun z=>nomatch z) h
 | @dT a kvs ea =>
  cases (show u=KW a from rx)
  obtain ⟨_,_,xs,_,o,es,ep,h1,h2,_⟩:=(show zK X.prog X.w H s.heap a (.dT kvs) from I.hok a _ ea)
  exact K7 Nw I.kIn ⟨o,h1,h2.1⟩ e (fun z=>nomatch z) h
 | @ins a C dx fs ea cl ha hn htk hm =>
  cases (show u=KW a from rx)
  obtain ⟨mA,O,_⟩:=qfF I.hok ea
  obtain ⟨od,J,_⟩:=O.look
  exact K7 (PySem.W.kitx_own (cl.get _) cl.hd ha hn htk hm) I.kIn J e (fun z=>nomatch z) h
end
structure Room (k:Nat)(A:KI):Prop where
 hd:A.handled=none
 dp:A.depth+3*k+5<recursionLimit
 un:A.units+16*k+200<cLine
 gd:A.guards=some []
theorem Room.mono {j k:Nat}{A:KI}(r:Room k A)(h:j<=k):Room j A:=⟨r.hd,by have:=r.dp;omega,by have:=r.un;omega,r.gd⟩
theorem Room.deeper {k:Nat}{A:KI}(r:Room (k+1) A)(env:Env):Room k (A.deeper env) :=
 ⟨r.hd,by have:=r.dp;show A.depth+1+3*k+5<_;omega,by have:=r.un;show A.units+3+16*k+200<_;omega,r.gd⟩
theorem qa0 {A:KI}{C:Kd}{us:List Kb}{kw:List (Str×Value)}:(A.under (.builtin "type.__call__" ⟨.ref C::us,kw⟩)).depth=A.depth+1:=by
 first|rfl|simp [NI,Code.weight,Code.isCreation,Code.isGuard,Code.isCaller,Code.frames,Code.isFrame,guardIds]
theorem qa2 {A:KI}{C:Kd}{us:List Kb}{kw:List (Str×Value)}:(A.under (.builtin "type.__call__" ⟨.ref C::us,kw⟩)).units=A.units+1:=by
 first|rfl|simp [NI,Code.cUnits,Code.frames,Code.isFrame]
theorem Room.make {k:Nat}{A:KI}(r:Room (k+1) A)(C:Kd)(us:List Kb)(kw:List (Str×Value)):Room k (A.under (.builtin "type.__call__" ⟨.ref C::us,kw⟩)) :=
 ⟨r.hd,by have:=r.dp;rw [qa0];omega,by have:=r.un;rw [qa2];omega,by first|exact r.gd|simpa [NI,Code.isGuard,guardIds] using r.gd⟩
theorem Room.depth {k:Nat}{A:KI}(r:Room k A):A.depth<recursionLimit:=by have:=r.dp;omega
theorem Room.units {k:Nat}{A:KI}(r:Room k A):A.units+64<cLine:=by have:=r.un;omega
def tNil:TA:=fun _ H Q=>Q [] H
def tCons (ta:TE)(tr:TA):TA:=fun σ H Q=>ta σ H fun x H1=>tr σ H1 fun xs H2=>Q (x::xs) H2
section
variable {X:Cx}{e:Kw}{es:List Kw}{te:TE}{t:TA}{pos:Pos}
theorem JM:PA X [] tNil:=fun _ _ _ _ H Q I h=>Calls.spliced_nil ⟨[],H,I,.nil,h⟩
theorem Q0 (ha:PE X e te)(hr:PA X es t)(hs:starEach (e::es) X.env=(false,eval e X.env)::starEach es X.env:=by rfl):PA X (e::es) (tCons te t):=by
 intro pos pins s σ H Q I h
 rw [hs]
 show wpAny _ _ (spliced ((false,eval e X.env)::backTo pos (starEach es X.env))) _ _ s
 refine Calls.spliced_cons (thn (ha pins s σ H _ I h) fun u s1 ⟨x,H1,I1,r1,q1⟩=>?_)
 exact thn (hr pos pins s1 σ H1 _ I1 q1) fun us s2 ⟨xs,H2,I2,r2,q2⟩=>⟨x::xs,H2,I2,.cons r1 r2,q2⟩
def tTup (t:TA):TE:=fun σ H Q=>t σ H fun xs H1=>xs.length<=sizeLine/\∀ p,H1 p=none->Q (.ref p) (upd H1 p (.tup xs))
def tLst (t:TA):TE:=fun σ H Q=>t σ H fun xs H1=>xs.length<=sizeLine/\∀ p,H1 p=none->Q (.ref p) (upd H1 p (.lst xs))
theorem qem {x1}(h:PA X es t):PE X (.Tuple es x1 pos) (tTup t):=by
 intro pins s σ H Q I hq
 refine wpAny_Tuple_spliced (thn (h pos pins s σ H _ I hq) fun us s1 ⟨xs,H1,I1,r,z,q⟩=>⟨by rw [← r.length];exact z,?_⟩)
 have hf:H1 s1.heap.objs.size=none:=I1.hok.fresh (Km _)
 refine ⟨.ref s1.heap.objs.size,upd H1 s1.heap.objs.size (.tup xs),I1.laid (t':=s1.toks) (fun b u e=>Kk _ e) (Km _) ?_,rfl,q _ hf⟩
 exact ⟨z,us,r,⟨_,K4 _ rfl,rfl,_,rfl⟩⟩
theorem qel (h:PA X es t):PE X (.List es pos) (tLst t):=by
 intro pins s σ H Q I hq
 refine wpAny_List_spliced (thn (h pos pins s σ H _ I hq) fun us s1 ⟨xs,H1,I1,r,z,q⟩=>⟨by rw [← r.length];exact z,?_⟩)
 have hf:H1 s1.heap.objs.size=none:=I1.hok.fresh (Km _)
 refine ⟨.ref s1.heap.objs.size,upd H1 s1.heap.objs.size (.lst xs),I1.laid (t':=s1.toks) (fun b u e=>Kk _ e) (Km _) ?_,rfl,q _ hf⟩
 exact ⟨z,us,0,r,K4 _ rfl⟩
end
abbrev Sp:=List V->Hp->VK->XK->Prop
abbrev CXT:=List Env->Hp->Kf->XK->Kb->Kf->Prop
structure Env0 (P:Kx)(w:KG)(K:Kc)(mg:Str->Option Kb)(base:KA)(A:KI)(outer:List Env)(s:Kf)(H:Hp):Prop where
 frames:A.frames=some outer
 mod:Mod K mg base
 bs:∀ b o,base.get? b=some o->s.heap.get? b=some o/\H b=none
 bsz:base.objs.size<=s.heap.objs.size
 funs:s.heap.FunFrames base outer
 frf:∀ b∈frs outer,H b=none
 hok:HOk P w H s.heap
 bare:Xo s.gens
def CE (outer:List Env)(P:Kx)(w:KG)(H:Hp)(s:Kf)(Q:VK)(u:Kb)(s':Kf):Prop :=
 ∃ v H',s'.os=s.os/\Xo s'.gens/\Un (frs outer) [] H H' s.heap s'.heap/\HOk P w H' s'.heap/\RelV v u/\Q v H'
def CR (CX:CXT)(outer:List Env)(P:Kx)(w:KG)(H:Hp)(s:Kf)(Q:VK)(E:XK)(r:Result)(s':Kf):Prop :=
 match r with
 | .ok (.ret u)=>CE outer P w H s Q u s'
 | .ok _=>False
 | .error e=>CX outer H s E e s'
structure FnOk (P:Kx)(w:KG)(K:Kc)(mg:Str->Option Kb)(base:KA)(CX:CXT)(k:Nat)(f:Kd)(fd:Vi)(ps:List Str)(sp:Sp):Prop where
 len:∀ vs H Q E,sp vs H Q E->vs.length=ps.length
 run:∀ (A:KI) (outer:List Env) (s:Kf) (H:Hp) (args:Args) (us:List Kb) (vs:List V) (Q:VK) (E:XK),Room k A->Env0 P w K mg base A outer s H->BindsTo s fd args (ps.zip us)->Vals vs us->sp vs H Q E->
  codeAny (model P w) A (.call (.ref f) args) (CR CX outer P w H s Q E) s
theorem FnOk.imp {P:Kx}{w:KG}{K:Kc}{mg:Str->Option Kb}{base:KA}{CX:CXT}{k:Nat}{f:Kd}{fd:Vi}{ps:List Str}{sp sp':Sp}(F:FnOk P w K mg base CX k f fd ps sp)
  (h:∀ vs H Q E,sp' vs H Q E->sp vs H Q E):FnOk P w K mg base CX k f fd ps sp' :=
 ⟨fun vs H Q E q=>F.len vs H Q E (h _ _ _ _ q),fun A outer s H args us vs Q E hr he hb hv hs=>F.run A outer s H args us vs Q E hr he hb hv (h _ _ _ _ hs)⟩
theorem Env0.make {P:Kx}{w:KG}{K:Kc}{mg:Str->Option Kb}{base:KA}{A:KI}{outer:List Env}{s:Kf}{H:Hp}(e:Env0 P w K mg base A outer s H)(C:Kd)(us:List Kb)(kw:List (Str×Value)) :
  Env0 P w K mg base (A.under (.builtin "type.__call__" ⟨.ref C::us,kw⟩)) outer s H:=⟨by first|exact e.frames|(simpa [NI,Code.envs,Code.isFrame,pushEnvs] using e.frames),e.mod,e.bs,e.bsz,e.funs,e.frf,e.hok,e.bare⟩
section
variable {X:Cx}{pins:List (Kd×Obj)}{σ:St}{H:Hp}{s s':Kf}
theorem Inv.env0 (I:Inv X pins σ H s):Env0 X.prog X.w X.K X.mg X.base X.A X.stack s H :=
 ⟨I.ok.frames,I.ok.mod,I.bs,Vg I.ok.bsz I.sz,I.stack,I.stkFree,I.hok,I.bare⟩
theorem Inv.after {Q:VK}{u:Kb}(I:Inv X pins σ H s)(h:CE X.stack X.prog X.w H s Q u s'):EP X pins σ Q u s':=by
 obtain ⟨v,H',os,bare,un,hok,r,q⟩:=h
 obtain ⟨hh,g,d,t,os'⟩:=s'
 obtain rfl:os'=s.os:=os
 exact ⟨v,H',I.call (h':=hh) (g':=g) (d':=d) (t':=t) (ch:=[]) un hok bare (fun b z=>absurd z (by simp)),r,q⟩
end
def tCall (sp:Sp)(dvs:List V)(E:XK)(t:TA):TE:=fun σ H Q=>t σ H fun vs H1=>sp (vs++dvs) H1 Q E
def Binds (K:Kc)(fd:Vi)(ps:List Str)(ds:List Kb):Prop :=
 ∀ (s:Kf) (us:List Kb),K.In s.heap->(us++ds).length=ps.length->BindsTo s fd ⟨us,[]⟩ (ps.zip (us++ds))
theorem Binds.all {K:Kc}{fd:Vi}{ps:List Str}(h:∀ us:List Kb,us.length=ps.length->bindArgs fd ⟨us,[]⟩=pure (ps.zip us)):Binds K fd ps []:=fun s us _ hl=>by
 rw [VN] at hl ⊢
 exact .of_eq (h us hl)
def wN (CX:CXT)(X:Cx)(E:XK):Prop:=∀ (pins:List (Kd×Obj)) (σ:St) (H:Hp) (s:Kf) (e:Kb) (s':Kf),Inv X pins σ H s->CX X.stack H s E e s'->X.xe e s'
section
variable {X:Cx}{CX:CXT}{k:Nat}{f C:Kd}{fd:Vi}{ps:List Str}{sp:Sp}{dvs:List V}{ds:List Kb}{E:XK}{x m:Str}{p pos apos:Pos}{e o:Kw}{es:List Kw}{ta:TE}{t:TA}
theorem qih {pins:List (Kd×Obj)}{σ:St}{H:Hp}{s:Kf}{Q:VK}{us:List Kb}{vs:List V}(F:FnOk X.prog X.w X.K X.mg X.base CX k f fd ps sp)(hr:Room k X.A)(hb:Binds X.K fd ps ds)(hd:Vals dvs ds)(hx:wN CX X E)
  (I:Inv X pins σ H s) (r:Vals vs us) (h:sp (vs++dvs) H Q E):wpAny (model X.prog X.w) X.A (call (.ref f) us) (EP X pins σ Q) X.xe s:=by
 have r2:Vals (vs++dvs) (us++ds):=r.append hd
 have hl:(us++ds).length=ps.length:=by rw [← r2.length];exact F.len _ _ _ _ h
 refine XQ (Xv (F.run X.A X.stack s H ⟨us,[]⟩ (us++ds) (vs++dvs) Q E hr I.env0 (hb s us I.kIn hl) r2 h) fun r s' hq=>?_)
 cases r with
 | error e=>exact hx pins σ H s e s' I hq
 | ok fl =>
  cases fl with
  | ret u=>exact I.after hq
  | next=>exact Vx hq
  | brk=>exact Vx hq
  | cont=>exact Vx hq
theorem qgm (F:FnOk X.prog X.w X.K X.mg X.base CX k f fd ps sp)(hr:Room k X.A)(hg:Gl X x)(hm:X.mg x=some (.ref f))(hk:VT X.K (.ref f)=true)(hb:Binds X.K fd ps ds)(hd:Vals dvs ds)(hx:wN CX X E)
  (ha:PA X (e::es) t) (hdb:(x==("__debug__" : Str))=false:=by decide) (he:starEach (e::es) X.env=(false,eval e X.env)::starEach es X.env:=by rfl) (hpl:(backTo pos (starEach es X.env)).any (·.1)=false:=by rfl) :
  PE X (.Call (.Name x p) (e::es) [] pos) (tCall sp dvs E t):=by
 intro pins s σ H Q I h
 refine Uh (Zr I hg hm ?_ hdb)
 refine U2 (h₀:=X.base) I.ok.mod.kin hk (thn (ha pos pins s σ H _ I h) fun us s1 ⟨vs,H1,I1,r,q⟩=>⟨I1.kIn,?_⟩) he hpl
 exact qih F hr hb hd hx I1 r q
end
structure FnScope (N P:List Str)(sc:Vq):Prop where
 kind:sc.kind=.function
 co:sc.isCoroutine=false
 gen:sc.isGenerator=false
 nd:N.Nodup
 pre:N.take P.length=P
 par:∀ x∈P,sc.names.lookup x=some .local\/sc.names.lookup x=some .cell
 nofree:∀ y∈sc.names,y.2≠.free
theorem YM {kindOf:Str->Option NJ}{x:Str}:∀ {binds:List (Str×Value)} {m:Str->Option Kb},(∀ v,(x,v)∉binds)->bindL kindOf binds m x=m x
 | [],_,_=>rfl
 | (n,v)::r,m,h=>by
  unfold bindL
  rw [YM fun w hw=>h w (Vl _ hw)]
  split
  ·have:x≠n:=by rintro rfl;exact h v VJ
   simp [this]
  ·rfl
theorem YK {kindOf:Str->Option NJ}{x:Str}:∀ {binds:List (Str×Value)} {m:Str->Option Kb},(∀ v,(x,v)∉binds)->bindC kindOf binds m x=m x
 | [],_,_=>rfl
 | (n,v)::r,m,h=>by
  unfold bindC
  rw [YK fun w hw=>h w (Vl _ hw)]
  split
  ·rfl
  ·have:x≠n:=by rintro rfl;exact h v VJ
   simp [this]
theorem YL {kindOf:Str->Option NJ}{x:Str}{v:Kb}:∀ {P:List Str} {vs:List Kb} {i:Nat} {m:Str->Option Kb},P.Nodup->P[i]?=some x->vs[i]?=some v->kindOf x=some .local->
  bindL kindOf (P.zip vs) m x=some v
 | [],_,_,_,_,h,_,_=>by simp at h
 | _::_,[],_,_,_,_,h,_=>by simp at h
 | p::P,w::vs,0,m,nd,h1,h2,hk=>by
  simp at h1 h2;subst h1;subst h2
  show bindL kindOf ((p,w)::P.zip vs) m p=_
  unfold bindL
  rw [YM fun v hv=>(Xq.mp nd).1 (XR hv).1,if_pos hk]
  simp
 | p::P,w::vs,i+1,m,nd,h1,h2,hk=>by
  show bindL kindOf ((p,w)::P.zip vs) m x=_
  unfold bindL
  exact YL (i:=i) (Xq.mp nd).2 (by simpa using h1) (by simpa using h2) hk
theorem YJ {kindOf:Str->Option NJ}{x:Str}{v:Kb}:∀ {P:List Str} {vs:List Kb} {i:Nat} {m:Str->Option Kb},P.Nodup->P[i]?=some x->vs[i]?=some v->kindOf x≠some .local->
  bindC kindOf (P.zip vs) m x=some v
 | [],_,_,_,_,h,_,_=>by simp at h
 | _::_,[],_,_,_,_,h,_=>by simp at h
 | p::P,w::vs,0,m,nd,h1,h2,hk=>by
  simp at h1 h2;subst h1;subst h2
  show bindC kindOf ((p,w)::P.zip vs) m p=_
  unfold bindC
  rw [YK fun v hv=>(Xq.mp nd).1 (XR hv).1,if_neg hk]
  simp
 | p::P,w::vs,i+1,m,nd,h1,h2,hk=>by
  show bindC kindOf ((p,w)::P.zip vs) m x=_
  unfold bindC
  exact YJ (i:=i) (Xq.mp nd).2 (by simpa using h1) (by simpa using h2) hk
def start (N:List Str)(vs:List V):St:=vs.map some++Vc (N.length-vs.length) none
def cxOf (CX:CXT)(P:Kx)(w:KG)(K:Kc)(mg:Str->Option Kb)(base:KA)(N:List Str)(qual:Str)(scope:Vq)(f:Kd)(cd:Kb)(A:KI)(outer:List Env)(s:Kf)(H:Hp)(E:XK):Cx where
 prog:=P
 w:=w
 K:=K
 mg:=mg
 base:=base
 A:=A.deeper (envOfC qual scope s.heap.objs.size f cd)
 N:=N
 s₀:=s
 H₀:=H
 env:=envOfC qual scope s.heap.objs.size f cd
 outer:=outer
 stack:=envOfC qual scope s.heap.objs.size f cd::outer
 ex:=[]
 calm:=true
 fn:=fun _=>true
 pn:=[]
 xe:=fun e s'=>wpAny (model P w) (A.deeper (envOfC qual scope s.heap.objs.size f cd)) (leaving (envOfC qual scope s.heap.objs.size f cd) e) (fun _ s''=>CX outer H s E e s'') (fun e' s''=>CX outer H s E e' s'') s'
theorem WY {sc:Vq}{n:Nat}{x:Str}(h:sc.names.lookup x=some .cell):∃ c,(cellsFrom n sc.names []).lookup x=some c:=by
 have q:=XC sc.names n [] (.inl h)
 exact NK.mp q
theorem Y0 {CX:CXT}{P:Kx}{w:KG}{K:Kc}{mg:Str->Option Kb}{base:KA}{N ps:List Str}{qual:Str}{scope:Vq}{f:Kd}{cd:Kb}{A:KI}{outer:List Env}{s s1:Kf}{H:Hp}{E:XK}{us:List Kb}{vs:List V}
  (S:FnScope N ps scope) (hd:A.handled=none) (e0:Env0 P w K mg base A outer s H) (hl:vs.length=ps.length) (r:Vals vs us)
  (x:InCallC s s.heap.objs.size (bindL (envOfC qual scope s.heap.objs.size f cd).kindOf (ps.zip us) fun _=>none) (cellsFrom (s.heap.objs.size+1) scope.names []) (bindC (envOfC qual scope s.heap.objs.size f cd).kindOf (ps.zip us) fun _=>none) s1) :
  Inv (cxOf CX P w K mg base N qual scope f cd A outer s H E) [] (start N vs) H s1:=by
 have hpl:ps.length<=N.length:=by have:=congrArg List.length S.pre;rw [Ux] at this;omega
 obtain ⟨h1,tk,rfl,hk⟩:=x.done
 have noA:∀ b:Kd,b∉(cxOf CX P w K mg base N qual scope f cd A outer s H E).ex:=fun b z=>absurd (show b∈([]:List Kd) from z) (by simp)
 refine ⟨⟨e0.mod,S.kind,rfl,rfl,Km _,fun y z c h1 h2=>?_,fun y hy=>?_,fun y c _ h=>?_,fun _=>hd,Around.frames_deeper e0.frames,.inr ⟨rfl,rfl⟩,fun b z=>absurd z (noA b),e0.bs,e0.bsz,fun b _ _=>noA b,fun b z=>absurd z (noA b),e0.funs,e0.frf⟩,
  rfl,e0.bare,Un.kept hk,⟨_,x.toInCall.ns,fun i y v h1 h2 h3=>?_⟩,fun y c h=>⟨_,x.cell y c h⟩,e0.hok.fresh (Km _),fun y c h=>?_,fun p hp=>absurd (show p∈([]:List (Kd×Obj)) from hp) (by simp),e0.hok.kept hk,?_⟩
 ·exact name_of_addr x.apart (V5 h1) (V5 h2)
 ·have hy:scope.names.lookup y=some .cell\/scope.names.lookup y=some .free:=hy
  rcases hy with hy|hy
  ·exact WY hy
  ·exact absurd rfl (S.nofree _ (V5 hy))
 ·exact VA (x.above y c (V5 h))
 ·have hi:i<vs.length:=by
   unfold start at h2
   by_cases hi:i<vs.length
   ·exact hi
   ·rw [Ud (by simpa using hi)] at h2
    rw [Us] at h2
    split at h2<;>cases h2
  have ha:vs[i]?=some v:=by
   unfold start at h2
   rw [VI (by simpa using hi),Vv] at h2
   cases e:vs[i]? with
   | none=>rw [e] at h2;cases h2
   | some a=>rw [e] at h2;cases h2;rfl
  obtain ⟨u,hu,rv⟩:=r.get ha
  have hp:ps[i]?=some y:=by
   rw [← S.pre,List.getElem?_take_of_lt (by omega)];exact h1
  have ndP:ps.Nodup:=by rw [← S.pre];exact S.nd.sublist (List.take_sublist _ _)
  refine ⟨u,rv,?_⟩
  rcases S.par y (KO hp) with k|k
  ·exact .inl ⟨k,YL ndP hp hu k⟩
  ·obtain ⟨c,e⟩:=WY (n:=s.heap.objs.size+1) k
   refine .inr ⟨.inl k,c,e,?_⟩
   have q:=x.cell y c e
   rw [YJ ndP hp hu (by show scope.names.lookup y≠_;rw [k];decide)] at q
   exact q
 ·exact e0.hok.fresh (VA (x.above y c (V5 h)))
 ·unfold start
  show _=N.length
  rw [Kp,Kh,VR]
  omega
theorem qdF {CX:CXT}{P:Kx}{w:KG}{K:Kc}{mg:Str->Option Kb}{base:KA}{k:Nat}{f:Kd}{name qual:Str}{params:Arguments}{body:List KY}{scope:Vq}{dV kV doc pm cdv ct oc:Kb}{an od:Option Kd}
  {osl:Array (Option Kb)} {N ps:List Str} {sp:Sp} (lk:K.lookup f=some ⟨oc,od,.func (Uc name qual params body scope dV kV doc pm an cdv ct),osl⟩) (hcd:UQ K cdv qual=true) (S:FnScope N ps scope)
  (len:∀ vs H Q E,sp vs H Q E->vs.length=ps.length)
  (hbody:∀ (A:KI) (outer:List Env) (s:Kf) (H:Hp) (vs:List V) (Q:VK) (E:XK),Room k (A.deeper (envOfC qual scope s.heap.objs.size f cdv))->sp vs H Q E->
   ∃ t,PSs (cxOf CX P w K mg base N qual scope f cdv A outer s H E) body t/\t { nx:=fun _ H'=>Q .non H',rt:=Q } (start N vs) H) :
  FnOk P w K mg base CX (k+1) f (Uc name qual params body scope dV kV doc pm an cdv ct) ps sp:=by
 refine ⟨len,fun A outer s H args us vs Q E hr e0 hb r hsp=>?_⟩
 have hl:=len _ _ _ _ hsp
 have KX:K.In s.heap:=e0.mod.kin.keeps fun b o e=>(e0.bs b o e).1
 have lim:s.heap.NoLimit:=e0.mod.nolimit.keeps fun b o e=>(e0.bs b o e).1
 have hkind:∀ y∈ps.zip us,scope.names.lookup y.1=some .local\/(scope.names.lookup y.1=some .cell/\((cellsFrom (s.heap.objs.size+1) scope.names []).lookup y.1).isSome=true):=fun ⟨n,v⟩ hy=>by
  rcases S.par n (XR hy).1 with q|q
  ·exact .inl q
  ·exact .inr ⟨q,XC _ _ _ (.inl q)⟩
 refine codeAny_call_function hr.depth (KX _ _ lk) rfl S.co S.gen rfl (EA KX hcd) (hb _ _ _ _ ?_)
 refine Nj S.kind hkind fun env he s1 x=>?_
 subst he
 refine ⟨lim.keeps x.toInCall.keep,codeAny_func ?_⟩
 obtain ⟨t,ht,hq⟩:=hbody A outer s H vs Q E (hr.deeper _) hsp
 have I:Inv (cxOf CX P w K mg base N qual scope f cdv A outer s H E) [] (start N vs) H s1:=Y0 S hr.hd e0 hl r x
 refine Vk (ht [] s1 (start N vs) H _ I hq) (fun fl s' hs=>?_) fun e s' hs=>hs
 have fin:∀ {σ':St} {H':Hp} {v:V} {u:Kb},Inv (cxOf CX P w K mg base N qual scope f cdv A outer s H E) [] σ' H' s'->RelV v u->Q v H'->CE outer P w H s Q u s' :=
  fun {σ' H' v u} J rv q=>⟨v,H',J.os,J.bare,J.base,J.hok,rv,q⟩
 cases fl with
 | ret u =>
  obtain ⟨v,σ',H',J,rv,q⟩:=hs
  exact fin J rv q
 | next =>
  obtain ⟨σ',H',J,q⟩:=hs
  exact fin (v:=V.non) (u:=VH) J rfl q
 | brk =>
  obtain ⟨_,_,_,q⟩:=hs
  exact Vx q
 | cont =>
  obtain ⟨_,_,_,q⟩:=hs
  exact Vx q
section
variable {X:Cx}{x:Str}{p pos:Pos}{e:Kw}{es:List Kw}{t:TA}{id T:String}{r:List V->Hp->VK->Prop}
def tCB (r:List V->Hp->VK->Prop)(t:TA):TE:=fun σ H Q=>t σ H fun vs H1=>r vs H1 Q
theorem Jk (hc:QT X (.builtin id) r)(hg:Gl X x)(hm:X.mg x=none)(hv:bootBuiltins x=some (.builtin id))(ha:PA X (e::es) t)(hn:x ≠ "__name__" := by decide)(hdb:(x==("__debug__" : Str))=false:=by decide)
  (he:starEach (e::es) X.env=(false,eval e X.env)::starEach es X.env:=by rfl) (hpl:(backTo pos (starEach es X.env)).any (·.1)=false:=by rfl):PE X (.Call (.Name x p) (e::es) [] pos) (tCB r t):=by
 intro pins s σ H Q I h
 refine Uh (Yc I hg hm hv ?_ hn hdb)
 exact XU (thn (ha pos pins s σ H _ I h) fun us s1 ⟨vs,H1,I1,r1,q1⟩=>hc pins s1 σ H1 vs us Q I1 r1 q1) he hpl
theorem wC (hc:QT X (.type T) r)(hg:Gl X x)(hm:X.mg x=none)(hv:bootBuiltins x=some (.type T))(ha:PA X (e::es) t)(hn:x ≠ "__name__" := by decide)(hdb:(x==("__debug__" : Str))=false:=by decide)
  (he:starEach (e::es) X.env=(false,eval e X.env)::starEach es X.env:=by rfl) (hpl:(backTo pos (starEach es X.env)).any (·.1)=false:=by rfl):PE X (.Call (.Name x p) (e::es) [] pos) (tCB r t):=by
 intro pins s σ H Q I h
 refine Uh (Yc I hg hm hv ?_ hn hdb)
 exact Xf (thn (ha pos pins s σ H _ I h) fun us s1 ⟨vs,H1,I1,r1,q1⟩=>hc pins s1 σ H1 vs us Q I1 r1 q1) he hpl
end
end L2
namespace HT
open PySem PyProof.Rows
def lexLt:List Int->List Int->Bool
 | [],[]=>false
 | [],_::_=>true
 | _::_,[]=>false
 | x::xs,y::ys=>if x=y then lexLt xs ys else decide (x<y)
theorem QH (x y:Int)(xs ys:List Int):lexLt (x::xs) (y::ys)=if x=y then lexLt xs ys else decide (x<y):=rfl
theorem qaz (A:KI)(s:Kf)(a:Int)(t:Tok)(c:Int)(u:Tok)(prog:Kx)(w:KG)(E:Kb->Kf->Prop)(Q:Kb->Kf->Prop)(h:Q (.bool (decide (a<c))) s) :
  wpAny (model prog w) A (richCompare .Lt (.int a t) (.int c u)) Q E s :=
 (PyProof.Rows.lt_int h:wpAny (model prog w) A (compareOp .Lt (.int a t) (.int c u)) Q E s)
section
open PySem.SeqAt
open PySem.AutoSeq1 (wpAny_loadPart')
open PySem.MeetsSeq PySem.MeetsSeq2 PySem.MeetsSeq3
end
section
variable {prog:Kx}{w:KG}{A:KI}{E:Kb->Kf->Prop}{s:Kf}
theorem qff {t b:Kd}{vs ws:List Kb}{Q:Kb->Kf->Prop}(ht:IsTup s.heap t vs.toArray)(hb:IsTup s.heap b ws.toArray)(hv:vs≠[])
  (h1:ws=[]->Q (.ref t) s) (h2:ws≠[]->Q (.ref s.heap.objs.size) { s with heap:=s.heap.push { cls:=.type "tuple", data:=.seq (vs++ws).toArray } })
  (hsz:vs.length+ws.length<=sizeLine):wpAny (model prog w) A (binaryOp .Add (.ref t) (.ref b)) Q E s:=by
 obtain ⟨⟨cls,dd,data,sl⟩,ho,hc,n,hd⟩:=id ht
 obtain ⟨⟨cls2,dd2,data2,sl2⟩,ho2,hc2,n2,hd2⟩:=id hb
 simp only at hc hd hc2 hd2
 subst hc hd hc2 hd2
 have e:vs.toArray++ws.toArray=(vs++ws).toArray:=by simp
 by_cases hw:ws=[]
 ·exact NL ⟨_,ho,rfl⟩ ⟨_,ho2,rfl⟩ NM seq_tuple_add XD XA (Xw _ _)
   (tuple_addW1 t b vs.toArray ws.toArray n n2 dd dd2 sl sl2 (by simpa using hv) (by simp [hw])) ⟨ho,ho2,h1 hw⟩
 ·refine NL ⟨_,ho,rfl⟩ ⟨_,ho2,rfl⟩ NM seq_tuple_add XD XA (Xw _ _)
   (tuple_addW2 t b vs.toArray ws.toArray n n2 dd dd2 sl sl2 (by simpa using hv) (by simpa using hw) (by rw [Kt,Kt];exact hsz)) ⟨ho,ho2,?_⟩
  rw [e]
  exact h2 hw
def sIx (n d:Nat):Option Int->Nat
 | none=>d
 | some v=>if v<0 then (v+(n:Int)).toNat else min v.toNat n
theorem yu (n d k:Nat):sIx n d (some (k:Int))=min k n:=by
 show (if (k:Int)<0 then ((k:Int)+(n:Int)).toNat else min (k:Int).toNat n)=min k n
 rw [if_neg (by omega),K9]
theorem qik (n d:Nat)(hd:d<=n)(o:Option Int):sIx n d o<=n:=by
 cases o with
 | none=>exact hd
 | some v =>
  show (if v<0 then (v+(n:Int)).toNat else min v.toNat n)<=n
  by_cases hv:v<0
  ·rw [if_pos hv];omega
  ·rw [if_neg hv];exact Nat.min_le_right _ _
theorem qbr (v:Int)(n d:Nat):(if v<0 then max (v+(n:Int)) 0 else min v (n:Int))=((sIx n d (some v):Nat):Int):=by
 show (if v<0 then max (v+(n:Int)) 0 else min v (n:Int))=(((if v<0 then (v+(n:Int)).toNat else min v.toNat n):Nat):Int)
 by_cases hv:v<0
 ·simp only [if_pos hv];omega
 ·simp only [if_neg hv];omega
theorem qaG (lo hi:Option Int)(n:Nat):Xr lo hi 1 (n:Int)=(((sIx n 0 lo:Nat):Int),((sIx n n hi:Nat):Int)):=by
 have h1:¬ ((1:Int)<0):=by omega
 unfold Xr
 simp only [h1,if_false]
 refine Prod.ext ?_ ?_
 ·cases lo with
  | none=>rfl
  | some v=>exact qbr v n 0
 ·cases hi with
  | none=>rfl
  | some v=>exact qbr v n n
theorem qa8 (i j:Nat):UL (i:Int) (j:Int) 1=j-i:=by
 unfold UL
 have h1:(1:Int) > 0:=by omega
 simp only [h1,if_true,Int.ediv_one]
 split<;>omega
theorem Ys {v:Kb}{o:Option Int}{Q:Option Int->Kf->Prop}(p:IsPart v o)(h:Q o s):wpAny (model prog w) A (Builtin.Slice.slicePartIndex v) Q E s:=by
 cases p with
 | none=>exact slicePart_none h
 | int i t=>exact slicePart_int h
theorem JX {sl:Kd}{vl vu:Kb}{lo hi:Option Int}{n:Nat}{Q:Int×Int×Nat->Kf->Prop}(hs:s.heap.IsSliceOf sl vl vu .none)(pl:IsPart vl lo)(pu:IsPart vu hi)
  (h:Q (((sIx n 0 lo:Nat):Int),1,sIx n n hi-sIx n 0 lo) s):wpAny (model prog w) A (Nk (.ref sl) (pure (n:Int))) Q E s:=by
 obtain ⟨os,hos,hcs,hds⟩:=id hs
 unfold Nk Builtin.Slice.sliceFields
 refine Kg (Kg (Xp hos hds (x:=vl) rfl (Kg (Xp hos hds (x:=vu) rfl (Kg (Xp hos hds (x:=.none) rfl (Ks ?_)))))))
 refine Kg (slicePart_none ?_)
 show wpAny _ _ (if ((1:Int)==0)=true then _ else _) _ _ s
 rw [if_neg (by decide)]
 refine Kg (Ys pl (Kg (Ys pu (Kg (Ks ?_)))))
 show wpAny _ _ (match Xr lo hi 1 (n:Int) with | (lo,hi)=>pure (lo,(1:Int),UL lo hi 1)) _ _ s
 rw [qaG lo hi n]
 show wpAny _ _ (pure (((sIx n 0 lo:Nat):Int),(1:Int),UL ((sIx n 0 lo:Nat):Int) ((sIx n n hi:Nat):Int) 1)) _ _ s
 rw [qa8]
 exact Ks h
theorem qes (xs:Array Kb)(i k:Nat):((KE k).filterMap fun (m:Nat)=>xs[((i:Int)+(m:Int)*1).toNat]?).toArray=((xs.toList.drop i).take k).toArray:=by
 have e:(fun (m:Nat)=>xs[((i:Int)+(m:Int)*1).toNat]?)=fun m=>xs[i+m]?:=by
  funext m
  have:((i:Int)+(m:Int)*1).toNat=i+m:=by omega
  rw [this]
 rw [e]
 have:=pick_run xs i k
 rw [List.filterMap_map] at this
 have e2:((fun x=>xs[x]?) ∘ fun x=>i+x)=fun m=>xs[i+m]?:=rfl
 rw [e2] at this
 rw [this]
theorem Jb {t sl:Kd}{items:Array Kb}{vl vu:Kb}{lo hi:Option Int}{Q:Kb->Kf->Prop}(ht:IsTup s.heap t items)(hs:s.heap.IsSliceOf sl vl vu .none)(pl:IsPart vl lo)(pu:IsPart vu hi)
  (hw:¬ (sIx items.size 0 lo=0/\sIx items.size items.size hi=items.size))
  (h:Q (.ref s.heap.objs.size) { s with heap:=s.heap.push { cls:=.type "tuple", data:=.seq ((items.toList.drop (sIx items.size 0 lo)).take (sIx items.size items.size hi-sIx items.size 0 lo)).toArray } })
  (hsz:items.size<=sizeLine):wpAny (model prog w) A (getItem (.ref t) (.ref sl)) Q E s:=by
 have htake:sizeOk (.seq ((items.toList.drop (sIx items.size 0 lo)).take (sIx items.size items.size hi-sIx items.size 0 lo)).toArray):=by
  show ((items.toList.drop (sIx items.size 0 lo)).take (sIx items.size items.size hi-sIx items.size 0 lo)).toArray.size<=sizeLine
  rw [Kt,Ux,UT,K3]
  omega
 have hj:sIx items.size items.size hi<=items.size:=qik _ _ (Km _) hi
 obtain ⟨os,hos,hcs,hds⟩:=id hs
 have hTs:s.TypeIs (.ref sl) "slice" := ⟨os,hos,hcs⟩
 unfold getItem
 try with_reducible refine V8 ?_
 first|refine Kg (Ks ?_)|skip
 refine Kg (wpAny_sequenceKey ht.typeIs (by decide) ?_)
 refine Kg (wpAny_callSpecial?_slot (name:=Ke "__getitem__") ht.typeIs UB
  (XJ UB ht.typeIs entry_tuple_getitem ?_ (args_tuple_getitem _ _)))
 show wpAny _ _ (Nl (.ref t) >>= _) _ _ s
 refine Kg (tupleItemsOf_ ht ?_)
 refine Kg (wpAny_typeOf hTs ?_)
 rw [if_pos (by decide)]
 refine Kg (JX hs pl pu ?_)
 have hno:¬ ((((sIx items.size 0 lo:Nat):Int)==0&&(1:Int)==1&&(sIx items.size items.size hi-sIx items.size 0 lo)==items.size)=true):=by
  intro q
  rw [Ko,Ko] at q
  have q1:((sIx items.size 0 lo:Nat):Int)=0:=eq_of_beq q.1.1
  have q2:sIx items.size items.size hi-sIx items.size 0 lo=items.size:=eq_of_beq q.2
  exact hw ⟨by omega,by omega⟩
 show wpAny _ _ (if (((sIx items.size 0 lo:Nat):Int)==0&&(1:Int)==1&&(sIx items.size items.size hi-sIx items.size 0 lo)==items.size)=true then _ else _) _ _ s
 rw [if_neg hno,qes]
 first
  | exact Kg (m:=UU _) (Up (Ks ⟨_,rfl,Ks h⟩) htake)
  | exact Kg (m:=UU _) (Up (Kg (Ks (Ks ⟨_,rfl,Ks h⟩))) htake)
  | exact Kg (Kg (m:=UU _) (Up (Ks (Ks ⟨_,rfl,Ks h⟩)) htake))
  | exact Kg (Kg (m:=UU _) (Up (Ks ⟨_,rfl,Ks h⟩) htake))
end
end HT
namespace L2
open PySem PySem.Spec PyProof.Rows
abbrev TO:=St->Hp->(Option Int->Hp->Prop)->Prop
def PO (X:Cx)(e:Option Kw)(t:TO):Prop :=
 ∀ (pins:List (Kd×Obj)) (s:Kf) (σ:St) (H:Hp) (Q:Option Int->Hp->Prop),Inv X pins σ H s->t σ H Q->
  wpAny (model X.prog X.w) X.A (evalPart e X.env) (fun u s'=>∃ o H',Inv X pins σ H' s'/\IsPart u o/\Q o H') X.xe s
def qgG:TO:=fun _ H Q=>Q none H
def tPart (t:TE):TO:=fun σ H Q=>t σ H fun x H1=>∃ i,x=.int i/\Q (some i) H1
section
variable {X:Cx}{e:Kw}{te:TE}{lo hi:Option Kw}{tl th:TO}{pos p2:Pos}
theorem qgq:PO X none qgG:=by
 intro pins s σ H Q I h
 rw [evalPart_none]
 exact Ks ⟨none,H,I,.none,h⟩
theorem qgr (h:PE X e te):PO X (some e) (tPart te):=by
 intro pins s σ H Q I hw
 rw [evalPart_some]
 refine thn (h pins s σ H _ I hw) fun u s1 ⟨x,H1,I1,r1,q1⟩=>?_
 obtain ⟨i,rfl,q⟩:=q1
 obtain ⟨t,rfl⟩:=r1
 exact ⟨some i,H1,I1,.int i t,q⟩
def SlR (X:Cx)(r:V->Option Int->Option Int->Hp->VK->Prop):Prop :=
 ∀ (pins:List (Kd×Obj)) (s:Kf) (σ:St) (H:Hp) (x:V) (v vl vu:Kb) (lo hi:Option Int) (sl:Kd) (Q:VK),Inv X pins σ H s->RelV x v->s.heap.IsSliceOf sl vl vu .none->IsPart vl lo->IsPart vu hi->r x lo hi H Q->
  ∃ T id,typeLookup (.type T) "__getitem__" = pure (some (.builtin id))/\s.TypeIs v T/\wpAny (model X.prog X.w) X.A (getItem v (.ref sl)) (EP X pins σ Q) X.xe s
theorem SlR.or {r r':V->Option Int->Option Int->Hp->VK->Prop}(h:SlR X r)(h':SlR X r'):SlR X (fun x lo hi H Q=>r x lo hi H Q\/r' x lo hi H Q):=by
 intro pins s σ H x v vl vu lo hi sl Q I rx hs pl pu q
 rcases q with q|q
 ·exact h pins s σ H x v vl vu lo hi sl Q I rx hs pl pu q
 ·exact h' pins s σ H x v vl vu lo hi sl Q I rx hs pl pu q
def tSl (r:V->Option Int->Option Int->Hp->VK->Prop)(te:TE)(tl th:TO):TE:=fun σ H Q=>te σ H fun x H1=>tl σ H1 fun l H2=>th σ H2 fun u H3=>r x l u H3 Q
theorem qat {r:V->Option Int->Option Int->Hp->VK->Prop}(hr:SlR X r)(he:PE X e te)(hl:PO X lo tl)(hu:PO X hi th):PE X (.Subscript e (.Slice lo hi none p2) pos) (tSl r te tl th):=by
 intro pins s σ H Q I h
 refine Subscript_ (thn (he pins s σ H _ I h) fun v s1 ⟨x,H1,I1,r1,q1⟩=>?_)
 refine wpAny_Slice (thn (hl pins s1 σ H1 _ I1 q1) fun vl s2 ⟨l,H2,I2,pl,q2⟩=>thn (hu pins s2 σ H2 _ I2 q2) fun vu s3 ⟨u,H3,I3,pu,q3⟩=>?_)
 rw [evalPart_none]
 refine Ks ?_
 have I4:Inv X pins σ H3 { s3 with heap:=s3.heap.push { cls:=.type "slice", data:=.fields #[vl,vu,.none] } }:=I3.kept (t':=s3.toks) fun b ob q=>Kk _ q
 obtain ⟨T,id,hT,ht,hg⟩:=hr pins { s3 with heap:=s3.heap.push { cls:=.type "slice", data:=.fields #[vl,vu,.none] } } σ H3 x v vl vu l u s3.heap.objs.size Q I4 r1 (Heap.IsSliceOf.new ..) pl pu q3
 show wpAny (model X.prog X.w) X.A (subscriptTail e (.Slice lo hi none p2) v (.ref s3.heap.objs.size)) (EP X pins σ Q) X.xe { s3 with heap:=s3.heap.push { cls:=.type "slice", data:=.fields #[vl,vu,.none] } }
 exact tail_any (ops:=[.ref s3.heap.objs.size,v]) ht hT hg (by with_unfolding_all rfl)
def cutV (xs:List V)(lo hi:Option Int):List V:=(xs.drop (HT.sIx xs.length 0 lo)).take (HT.sIx xs.length xs.length hi-HT.sIx xs.length 0 lo)
theorem J6 (xs:List V)(lo hi:Option Int):(cutV xs lo hi).length<=xs.length:=by
 unfold cutV
 rw [Ux,UT]
 omega
def rSlT (K:Kc):V->Option Int->Option Int->Hp->VK->Prop:=fun x lo hi H Q=>∃ a xs,x=.ref a/\SqT K H a xs/\
 ¬ (HT.sIx xs.length 0 lo=0/\HT.sIx xs.length xs.length hi=xs.length)/\∀ p,H p=none->Q (.ref p) (upd H p (.tup (cutV xs lo hi)))
theorem qiu:SlR X (rSlT X.K):=by
 intro pins s σ H x v vl vu lo hi sl Q I rx hs pl pu h
 obtain ⟨a,xs,rfl,hx,hw,q⟩:=h
 cases rx
 obtain ⟨its,r,ht,hz⟩:=I.tuple hx
 have hlen:its.toArray.size=xs.length:=by rw [Kt];exact r.length.symm
 refine ⟨"tuple", _,UB.lookup,ht.typeIs,?_⟩
 refine HT.Jb ht hs pl pu (by rw [hlen];exact hw) ?_ (by rw [hlen];exact hz)
 rw [hlen]
 refine ⟨.ref s.heap.objs.size,_,I.laid (t':=s.toks) (o:=.tup (cutV xs lo hi)) (fun b ob q=>Kk _ q) (Km _) ?_,rfl,q _ (I.hok.fresh (Km _))⟩
 exact ⟨Vg (J6 xs lo hi) hz,_,(r.drop (HT.sIx xs.length 0 lo)).take (HT.sIx xs.length xs.length hi-HT.sIx xs.length 0 lo),IsTup.new _ _⟩
def qgZ (K:Kc):R2:=fun x y H Q=>∃ a b xs ys,x=.ref a/\y=.ref b/\SqT K H a xs/\SqT K H b ys/\xs≠[]/\xs.length+ys.length<=sizeLine/\
 (ys=[]->Q (.ref a) H)/\(ys≠[]->∀ p,H p=none->Q (.ref p) (upd H p (.tup (xs++ys))))
theorem Vals.nil_iff {xs:List V}{us:List Kb}(r:Vals xs us):us=[]↔xs=[]:=by
 cases r with
 | nil=>simp
 | cons _ _=>simp
theorem qf5:OpR X (binaryOp .Add) (qgZ X.K):=by
 intro pins s σ H x y v u Q I rx ry h
 obtain ⟨a,b,xs,ys,rfl,rfl,ha,hb,hx,hz,q1,q2⟩:=h
 cases rx
 cases ry
 obtain ⟨its,r1,p1,_⟩:=I.tuple ha
 obtain ⟨its2,r2,p2,_⟩:=I.tuple hb
 refine HT.qff p1 p2 (fun z=>hx (r1.nil_iff.mp z)) (fun z=>⟨.ref a,H,I,rfl,q1 (r2.nil_iff.mp z)⟩) (fun z=>?_) (by rw [← r1.length,← r2.length];exact hz)
 refine ⟨.ref s.heap.objs.size,_,I.laid (t':=s.toks) (o:=.tup (xs++ys)) (fun b ob q=>Kk _ q) (Km _) ?_,rfl,q2 (fun w=>z (r2.nil_iff.mpr w)) _ (I.hok.fresh (Km _))⟩
 exact ⟨by rw [Kp];exact hz,_,r1.append r2,IsTup.new _ _⟩
end
def ixN (n:Nat)(i:Int):Option Nat:=if 0<=i then (if i<n then some i.toNat else none) else if -(n:Int)<=i then some (i+n).toNat else none
def atI {α:Type}(xs:List α)(i:Int):Option α:=(ixN xs.length i).bind fun j=>xs[j]?
theorem qbO {n:Nat}{i:Int}{j:Nat}(h:ixN n i=some j):seqIndex? i n=some j/\j<n/\-(n:Int)<=i/\i<n:=by
 unfold ixN at h
 by_cases h0:0<=i
 ·rw [if_pos h0] at h
  by_cases h1:i<n
  ·rw [if_pos h1] at h
   have e:i.toNat=j:=V7 h
   exact ⟨by rw [seqIndex_of h0 h1,e],by omega,by omega,h1⟩
  ·rw [if_neg h1] at h;cases h
 ·rw [if_neg h0] at h
  by_cases h1:-(n:Int)<=i
  ·rw [if_pos h1] at h
   have e:(i+n).toNat=j:=V7 h
   exact ⟨by rw [seqIndex_neg (by omega) h1,e],by omega,h1,by omega⟩
  ·rw [if_neg h1] at h;cases h
theorem qbp {α:Type}{xs:List α}{i:Int}{v:α}(h:atI xs i=some v):∃ j,seqIndex? i xs.length=some j/\xs[j]?=some v/\j<xs.length/\-(xs.length:Int)<=i/\i<xs.length:=by
 unfold atI at h
 cases e:ixN xs.length i with
 | none=>rw [e] at h;cases h
 | some j =>
  rw [e] at h
  obtain ⟨h1,h2,h3,h4⟩:=qbO e
  exact ⟨j,h1,h,h2,h3,h4⟩
theorem qbq {α:Type}{xs:List α}{j:Nat}{v:α}(h:xs[j]?=some v):atI xs (j:Int)=some v:=by
 have hj:j<xs.length:=(KL.mp h).1
 have e:ixN xs.length (j:Int)=some j:=by
  unfold ixN
  rw [if_pos (by omega),if_pos (by omega)];simp
 unfold atI;rw [e];exact h
def wO (b:Kw):Prop:=∀ o i,subscripted b false o i=operate [o,i] (getItem o i)
def IxR (X:Cx)(r:R2):Prop :=
 ∀ (value slice:Kw) (pins:List (Kd×Obj)) (s:Kf) (σ:St) (H:Hp) (x y:V) (v u:Kb) (Q:VK),Inv X pins σ H s->RelV x v->RelV y u->r x y H Q->
  subscripted slice false v u=operate [v,u] (getItem v u)->wpAny (model X.prog X.w) X.A (subscriptTail value slice v u) (EP X pins σ Q) X.xe s
def MtR (X:Cx)(id:String)(r:V->List V->Hp->VK->Prop):Prop :=
 ∀ (pins:List (Kd×Obj)) (s:Kf) (σ:St) (H:Hp) (x:V) (xs:List V) (v:Kb) (us:List Kb) (Q:VK),Inv X pins σ H s->RelV x v->Vals xs us->r x xs H Q->
  wpAny (model X.prog X.w) X.A (call (.builtin id) (v::us)) (EP X pins σ Q) X.xe s
section
variable {X:Cx}{a b:Kw}{ta tb:TE}{pos:Pos}
theorem IxR.or {r r':R2}(h:IxR X r)(h':IxR X r'):IxR X (fun x y H Q=>r x y H Q\/r' x y H Q):=by
 intro value slice pins s σ H x y v u Q I rx ry q hs
 rcases q with q|q
 ·exact h value slice pins s σ H x y v u Q I rx ry q hs
 ·exact h' value slice pins s σ H x y v u Q I rx ry q hs
theorem qgX {r:R2}(hr:IxR X r)(ha:PE X a ta)(hb:PE X b tb)(hs:wO b):PE X (.Subscript a b pos) (tOp r ta tb):=by
 intro pins s σ H Q I h
 exact Subscript_ (binT ha hb I h fun v u s2 x y H2 I2 rx ry q=>hr a b pins s2 σ H2 x y v u Q I2 rx ry q (hs _ _))
def rIxL (K:Kc):R2:=fun x y H Q=>∃ p xs i v,x=.ref p/\y=.int i/\SqL K H p xs/\atI xs i=some v/\Q v H
def rIxT (K:Kc):R2:=fun x y H Q=>∃ p xs i v,x=.ref p/\y=.int i/\SqT K H p xs/\atI xs i=some v/\Q v H
theorem qbP:IxR X (rIxL X.K):=by
 intro value slice pins s σ H x y v u Q I rx ry h hs
 obtain ⟨p,xs,i,z,rfl,rfl,hq,he,q⟩:=h
 cases rx
 obtain ⟨t,rfl⟩:=ry
 obtain ⟨its,r,pl,hz⟩:=I.list hq
 obtain ⟨j,h1,h2,h3,h4,h5⟩:=qbp he
 obtain ⟨w,ew,rw'⟩:=r.get h2
 have hl:=r.length
 have hn:=Yd
 have fin:EP X pins σ Q w s:=⟨z,H,I,rw',q⟩
 by_cases h0:0<=i
 ·have hj:i.toNat=j:=by
   rw [seqIndex_of h0 h5] at h1
   exact V7 h1
  exact item_listR pl.isList h0 (by omega) (by rw [hj];simpa using ew) fin hs
 ·have hj:(i+(its.toArray.size:Int)).toNat=j:=by
   rw [seqIndex_neg (by omega) h4] at h1
   rw [Kt,← hl]
   exact V7 h1
  exact subscriptTail_builtinR (x:=w) pl.isList.typeIs slot_list_getitem.lookup
   (wpAny_getItem_list_neg (Q:=fun r s'=>r=w/\EP X pins σ Q r s') pl.isList (by omega) (by rw [Kt]<;>omega) (by omega) (by rw [hj];simpa using ew) ⟨rfl,fin⟩) hs
theorem qdL:IxR X (rIxT X.K):=by
 intro value slice pins s σ H x y v u Q I rx ry h hs
 obtain ⟨p,xs,i,z,rfl,rfl,hq,he,q⟩:=h
 cases rx
 obtain ⟨t,rfl⟩:=ry
 obtain ⟨its,r,pl,hz⟩:=I.tuple hq
 obtain ⟨j,h1,h2,h3,h4,h5⟩:=qbp he
 obtain ⟨w,ew,rw'⟩:=r.get h2
 have hl:=r.length
 have hn:=Yd
 have fin:EP X pins σ Q w s:=⟨z,H,I,rw',q⟩
 exact subscriptTail_builtinR (x:=w) pl.typeIs UB.lookup
  (getItem_tuple (j:=j) (Q:=fun r s'=>r=w/\EP X pins σ Q r s') pl (by omega) (by omega) (by rw [Kt,← hl];exact h1) (by simpa using ew) ⟨rfl,fin⟩) hs
theorem qa3 (its:List Kb)(n j:Nat)(u:Kb):VW (·.setIfInBounds j u) { cls:=.type "list", data:=.seq its.toArray n }={ cls:=.type "list", data:=.seq (its.set j u).toArray n }:=by
 simp [VW]
theorem Inv.lst {pins:List (Kd×Obj)}{σ:St}{H:Hp}{s:Kf}{p:Kd}{xs:List V}(I:Inv X pins σ H s)(h:H p=some (.lst xs)) :
  ∃ (its:List Kb) (n:Nat),Vals xs its/\s.heap.get? p=some { cls:=.type "list", data:=.seq its.toArray n }/\xs.length<=sizeLine:=by
 obtain ⟨z,its,n,r,e⟩:=I.hok p _ h
 exact ⟨its,n,r,e,z⟩
theorem Inv.lstUpd {pins:List (Kd×Obj)}{σ:St}{H:Hp}{s:Kf}{p:Kd}{xs ys:List V}{its its':List Kb}{n n':Nat}{f:Obj->Obj}(I:Inv X pins σ H s)(h:H p=some (.lst xs))
  (ho:s.heap.get? p=some { cls:=.type "list", data:=.seq its.toArray n }) (hf:f { cls:=.type "list", data:=.seq its.toArray n }={ cls:=.type "list", data:=.seq its'.toArray n' }) (r:Vals ys its') (hz:ys.length<=sizeLine) (t:Nat) :
  Inv X pins σ (upd H p (.lst ys)) { s with heap:=s.heap.update p f,toks:=t }:=by
 have e:(s.heap.update p f).get? p=some { cls:=.type "list", data:=.seq its'.toArray n' }:=by
  rw [Ui f ho (by rw [hf]<;>rfl),hf]
 refine I.write (x:=p) (e:=p) (by rw [h];trivial) (.inl rfl) (fun b u hb q=>(Vy _ _ (VY hb)).trans q) ⟨_,e⟩ ?_
 exact ⟨hz,its',n',r,e⟩
def rSetL:V->V->V->Hp->(Hp->Prop)->Prop:=fun o i v H Q=>∃ p xs k j,o=.ref p/\i=.int k/\H p=some (.lst xs)/\ixN xs.length k=some j/\Q (upd H p (.lst (xs.set j v)))
theorem set_list:PSet X rSetL:=by
 intro pins s σ H o i v ov iv u Q I ro ri rv h
 obtain ⟨p,xs,k,j,rfl,rfl,hp,hj,q⟩:=h
 cases ro
 obtain ⟨t,rfl⟩:=ri
 obtain ⟨its,n,r,ho,hz⟩:=I.lst hp
 obtain ⟨h1,h2,h3,h4⟩:=qbO hj
 have hl:=r.length
 have hn:=Yd
 have I':Inv X pins σ (upd H p (.lst (xs.set j v))) { s with heap:=s.heap.update p (VW (·.setIfInBounds j u)) } :=
  I.lstUpd hp ho (qa3 its n j u) (r.set rv j) (by rw [Vs];exact hz) s.toks
 by_cases h0:0<=k
 ·have hk:k.toNat=j:=by
   rw [seqIndex_of h0 h4] at h1
   exact V7 h1
  exact PySem.W.ki_setAt ho h0 (by omega) (by rw [Kt,← hl];exact h4) (by rw [hk];exact ⟨_,I',q⟩)
 ·have hk:(k+(its.toArray.size:Int)).toNat=j:=by
   rw [seqIndex_neg (by omega) h3] at h1
   rw [Kt,← hl]
   exact V7 h1
  exact PySem.W.ki_setBack ho (by omega) (by rw [Kt,← hl];exact h3) (by omega) (by rw [hk];exact ⟨_,I',q⟩)
theorem WD (lo hi:Option Int)(n:Nat):(sliceBounds lo hi none n).1=((HT.sIx n 0 lo:Nat):Int)/\(sliceBounds lo hi none n).2.1=((HT.sIx n n hi:Nat):Int)/\(sliceBounds lo hi none n).2.2=1:=by
 refine ⟨?_,?_,rfl⟩
 ·cases lo with
  | none=>simp [sliceBounds,HT.sIx]
  | some i =>
   simp only [sliceBounds,HT.sIx,Option.getD_none,show (1:Int) > 0 by decide,if_true]
   by_cases h:i<0
   ·simp only [h,if_true]<;>omega
   ·simp only [h,if_false]<;>omega
 ·cases hi with
  | none=>simp [sliceBounds,HT.sIx]
  | some i =>
   simp only [sliceBounds,HT.sIx,Option.getD_none,show (1:Int) > 0 by decide,if_true]
   by_cases h:i<0
   ·simp only [h,if_true]<;>omega
   ·simp only [h,if_false]<;>omega
theorem YF (its:List Kb)(lo hi:Option Int):slicePick its.toArray lo hi none=((its.drop (HT.sIx its.length 0 lo)).take (HT.sIx its.length its.length hi-HT.sIx its.length 0 lo)).toArray:=by
 obtain ⟨h1,h2,h3⟩:=WD lo hi its.toArray.size
 unfold slicePick
 rw [h1,h2,h3]
 simp only [sliceRange_one,pick_run,Kt]<;>rfl
def rSlL (K:Kc):V->Option Int->Option Int->Hp->VK->Prop:=fun x lo hi H Q=>∃ a xs,x=.ref a/\SqL K H a xs/\∀ p,H p=none->Q (.ref p) (upd H p (.lst (cutV xs lo hi)))
theorem qcc:SlR X (rSlL X.K):=by
 intro pins s σ H x v vl vu lo hi sl Q I rx hs pl pu h
 obtain ⟨a,xs,rfl,hx,q⟩:=h
 cases rx
 obtain ⟨its,r,ht,hz⟩:=I.list hx
 have hlen:=r.length
 refine ⟨"list", _,slot_list_getitem.lookup,ht.isList.typeIs,?_⟩
 refine wpAny_getItem_list_slice ht.isList hs pl pu .none (by simp) ?_ (by rw [Kt]<;>omega)
 rw [YF,← hlen]
 refine ⟨.ref s.heap.objs.size,_,I.laid (t':=s.toks) (o:=.lst (cutV xs lo hi)) (fun b ob q=>Kk _ q) (Km _) ?_,rfl,q _ (I.hok.fresh (Km _))⟩
 exact ⟨Vg (J6 xs lo hi) hz,_,0,(r.drop (HT.sIx xs.length 0 lo)).take (HT.sIx xs.length xs.length hi-HT.sIx xs.length 0 lo),K4 _ rfl⟩
theorem wQ:QT X (.builtin "len") (fun xs H Q=>∃ p ys,xs=[.ref p]/\(SqL X.K H p ys\/SqT X.K H p ys)/\Q (.int ys.length) H):=by
 intro pins s σ H xs us Q I r h
 obtain ⟨p,ys,rfl,hq,q⟩:=h
 obtain ⟨u,rfl,rx⟩:=vals1 r
 cases rx
 have hn:=Yd
 rcases hq with hq|hq
 ·obtain ⟨its,r',pl,hz⟩:=I.list hq
  have hlen:=r'.length
  exact Calls.call_len_list pl.isList (by simp only [Kt]<;>omega) ⟨.int ys.length,H,I.tok _,⟨s.toks+1,by rw [Kt,hlen]⟩,q⟩
 ·obtain ⟨its,r',pl,hz⟩:=I.tuple hq
  have hlen:=r'.length
  exact len_tuple pl (by simp only [Kt]<;>omega) ⟨.int ys.length,H,I.tok _,⟨s.toks+1,by rw [Kt,hlen]⟩,q⟩
theorem QT.or {f:Kb}{r r':List V->Hp->VK->Prop}(h:QT X f r)(h':QT X f r'):QT X f (fun xs H Q=>r xs H Q\/r' xs H Q):=by
 intro pins s σ H xs us Q I rs q
 rcases q with q|q
 ·exact h pins s σ H xs us Q I rs q
 ·exact h' pins s σ H xs us Q I rs q
theorem jY:QT X (.type "list") (fun xs H Q=>∃ p ys,xs=[.ref p]/\(SqL X.K H p ys\/SqT X.K H p ys)/\∀ l,H l=none->Q (.ref l) (upd H l (.lst ys))):=by
 intro pins s σ H xs us Q I r h
 obtain ⟨p,ys,rfl,hq,q⟩:=h
 obtain ⟨u,rfl,rx⟩:=vals1 r
 cases rx
 have fin:∀ (its:List Kb),Vals ys its->ys.length<=sizeLine->∀ (h':KA) (c':Nat),(∀ b o',s.heap.get? b=some o'->h'.get? b=some o')->
   h'.get? s.heap.objs.size=some { cls:=.type "list", dict:=none,data:=.seq its.toArray c',slots:=#[] }->EP X pins σ Q (.ref s.heap.objs.size) { s with heap:=h' }:=fun its r' hz h' c' kp e =>
  ⟨.ref s.heap.objs.size,_,I.laid (t':=s.toks) kp (Km _) (show zK X.prog X.w _ h' _ (.lst ys) from ⟨hz,its,c',r',e⟩),rfl,q _ (I.hok.fresh (Km _))⟩
 rcases hq with hq|hq
 ·obtain ⟨its,r',pl,hz⟩:=I.list hq
  have hlen:=r'.length
  obtain ⟨o,ho,hc,n,hd⟩:=pl.isList
  exact call_list_seq p (.inl rfl) ho hc hd (fun h' c' kp e=>fin its r' hz h' c' kp e) (by simp only [Kt]<;>omega)
 ·obtain ⟨its,r',pl,hz⟩:=I.tuple hq
  have hlen:=r'.length
  obtain ⟨o,ho,hc,n,hd⟩:=pl
  exact call_list_seq p (.inr rfl) ho hc hd (fun h' c' kp e=>fin its r' hz h' c' kp e) (by simp only [Kt]<;>omega)
theorem Yw:QT X (.type "tuple") (fun xs H Q=>∃ p ys,xs=[.ref p]/\((SqL X.K H p ys/\∀ l,H l=none->Q (.ref l) (upd H l (.tup ys)))\/(SqT X.K H p ys/\Q (.ref p) H))):=by
 intro pins s σ H xs us Q I r h
 obtain ⟨p,ys,rfl,h⟩:=h
 obtain ⟨u,rfl,rx⟩:=vals1 r
 cases rx
 rcases h with ⟨hq,q⟩|⟨hq,q⟩
 ·obtain ⟨its,r',pl,hz⟩:=I.list hq
  have hlen:=r'.length
  refine call_tuple_list pl.isList (fun h' kp=>?_) (by simp only [Kt]<;>omega)
  have I1:Inv X pins σ H { s with heap:=h' }:=I.kept (t':=s.toks) kp
  have I2:Inv X pins σ (upd H h'.objs.size (.tup ys)) { s with heap:=h'.push { cls:=.type "tuple", data:=.seq its.toArray } } :=
   I1.laid (t':=s.toks) (fun b o e=>Kk _ e) (Km _) (show zK X.prog X.w _ _ _ (.tup ys) from ⟨hz,its,r',IsTup.new _ _⟩)
  exact ⟨.ref h'.objs.size,_,I2,rfl,q _ (I1.hok.fresh (Km _))⟩
 ·obtain ⟨its,r',pl,hz⟩:=I.tuple hq
  exact call_tuple_same pl ⟨.ref p,H,I,rfl,q⟩
def tyV (K:Kc)(T:String)(x:V)(H:Hp):Prop:=match x with
 | .str _=>T = "str"
 | .int _=>T = "int"
 | .ref p=>(T = "list"/\∃ xs,SqL K H p xs)\/(T = "tuple"/\∃ o,K.lookup p=some o/\o.cls=.type "tuple"/\o.dict=none)\/
   (T = "dict"/\((∃ kvs,H p=some (.dK kvs))\/∃ kvs,H p=some (.dT kvs)))\/(T = "set"/\∃ S n,H p=some (.set S n))
 | _=>False
theorem qiD {pins:List (Kd×Obj)}{σ:St}{H:Hp}{s:Kf}{T:String}{x:V}{v:Kb}(I:Inv X pins σ H s)(r:RelV x v)(ty:tyV X.K T x H) :
  s.TypeIs v T/\∀ a,v=.ref a->∃ ob,s.heap.get? a=some ob/\ob.dict=none:=by
 cases x with
 | str z =>
  obtain ⟨t,rfl⟩:=r
  cases (show T = "str" from ty)
  exact ⟨typeIs_str s z t,fun _ e=>nomatch e⟩
 | int i =>
  obtain ⟨t,rfl⟩:=r
  cases (show T = "int" from ty)
  exact ⟨typeIs_int s i t,fun _ e=>nomatch e⟩
 | ref p =>
  cases r
  rcases ty with ⟨rfl,xs,hq⟩|⟨rfl,o,hk,hc,hd⟩|⟨rfl,hk⟩|⟨rfl,S,n,hk⟩
  ·obtain ⟨its,_,pl,_⟩:=I.list hq
   refine ⟨pl.isList.typeIs,fun a e=>?_⟩
   cases e
   obtain ⟨o,n,e,c,hd,_⟩:=pl
   exact ⟨o,e,hd⟩
  ·refine ⟨⟨o,I.kIn p o hk,hc⟩,fun a e=>?_⟩
   cases e
   exact ⟨o,I.kIn _ o hk,hd⟩
  ·have z:∃ o,s.heap.get? p=some o/\o.ExactDict:=by
    rcases hk with ⟨kvs,hk⟩|⟨kvs,hk⟩
    ·obtain ⟨_,_,_,_,o,_,_,e,ex,_⟩:=I.hok p _ hk
     exact ⟨o,e,ex⟩
    ·obtain ⟨_,_,_,_,o,_,_,e,ex,_⟩:=I.hok p _ hk
     exact ⟨o,e,ex⟩
   obtain ⟨o,e,ex⟩:=z
   refine ⟨⟨o,e,ex.1⟩,fun a e2=>?_⟩
   cases e2
   exact ⟨o,e,ex.2.1⟩
  ·obtain ⟨o,_,_,_,e,ex,_⟩:=I.hok p _ hk
   refine ⟨⟨o,e,ex.1⟩,fun a e2=>?_⟩
   cases e2
   exact ⟨o,e,ex.2.1⟩
 | _=>exact Vx ty
def tBM (K:Kc)(T:String)(r:V->List V->Hp->VK->Prop)(to:TE)(t:TA):TE:=fun σ H Q=>to σ H fun x H1=>tyV K T x H1/\t σ H1 fun xs H2=>r x xs H2 Q
variable {o e:Kw}{es:List Kw}{to:TE}{t:TA}{name:Str}{apos cpos:Pos}{T id:String}{r:V->List V->Hp->VK->Prop}
theorem qas (pa:PlainAttrs T)(slot:Slot T name id)(hty:typeOf (.builtin id)=pure (.type "method_descriptor"))(hm:MtR X id r)(ho:PE X o to)(ha:PA X (e::es) t)
  (hbase:attributeBase o name X.env (eval o X.env)=eval o X.env:=by rfl)
  (hfew:((backTo cpos (starEach (e::es) X.env)).all (fun x=>!x.1)&&(backToKw cpos (keywordEach [] X.env)).all (fun x=>x.1.isSome)
   && decide ((e::es).length+([]:List Xc).length+(if ([]:List Xc).isEmpty then 0 else 1)<30))=true:=by rfl)
  (hline:(apos.endLine==cpos.line)=true:=by rfl) (hs:starEach (e::es) X.env=(false,eval e X.env)::starEach es X.env:=by rfl) (hplain:(backTo cpos (starEach es X.env)).any (·.1)=false:=by rfl) :
  PE X (.Call (.Attribute o name apos) (e::es) [] cpos) (tBM X.K T r to t):=by
 intro pins s σ H Q I h
 refine wpAny_Call_method_late hbase hfew hline rfl (thn (ho pins s σ H _ I h) fun v s1 ⟨x,H1,I1,r1,ty,q1⟩=>?_)
 obtain ⟨h1,h2⟩:=qiD I1 r1 ty
 refine ⟨T,id,pa,slot,hty,h1,h2,?_⟩
 have hA:=ha cpos pins s1 σ H1 _ I1 q1
 rw [hs] at hA ⊢
 refine Calls.callWith_builtin (by show (false||(backTo cpos (starEach es X.env)).any (·.1))=false;rw [hplain]<;>rfl) (Calls.evalArgs_plain ?_)
 exact thn hA fun us s2 ⟨vs,H2,I2,r2,q2⟩=>hm pins s2 σ H2 x vs v us Q I2 r1 r2 q2
end
def MtM (X:Cx)(id:String)(r:V->List V->Hp->VK->Prop):Prop :=
 ∀ (pins:List (Kd×Obj)) (s:Kf) (σ:St) (H:Hp) (x:V) (xs:List V) (v:Kb) (us:List Kb) (Q:VK),Inv X pins σ H s->RelV x v->Vals xs us->r x xs H Q->
  wpAny (model X.prog X.w) X.A (call (.builtin id) (v::us)) (EP X pins σ Q) X.xe s
theorem Vals.one:∀ {x:V} {us:List Kb},Vals [x] us->∃ u,us=[u]/\RelV x u
 | _,_,.cons r .nil=>⟨_,rfl,r⟩
theorem Vals.two:∀ {x y:V} {us:List Kb},Vals [x,y] us->∃ u v,us=[u,v]/\RelV x u/\RelV y v
 | _,_,_,.cons r (.cons q .nil)=>⟨_,_,rfl,r,q⟩
theorem Vals.eraseIdx:∀ {xs:List V} {us:List Kb} (i:Nat),Vals xs us->Vals (xs.eraseIdx i) (us.eraseIdx i)
 | _,_,_,.nil=>.nil
 | _,_,0,.cons _ t=>t
 | _,_,i+1,.cons r t=>.cons r (Vals.eraseIdx i t)
theorem Y8 {α:Type}:∀ (l:List α) (i:Nat),(l.eraseIdx i).length<=l.length
 | [],_=>Km _
 | _::_,0=>Uk _
 | _::r,i+1=>NN (Y8 r i)
section
variable {X:Cx}{pins:List (Kd×Obj)}{σ:St}{H:Hp}{s:Kf}{l b:Kd}{xs ys zs:List V}
theorem Inv.lset {its its':List Kb}{n:Nat}{f:Array Kb->Array Kb}{t':Nat}(I:Inv X pins σ H s)(hH:H l=some (.lst xs))
  (e:s.heap.get? l=some { cls:=.type "list", data:=.seq its.toArray n }) (hf:f its.toArray=its'.toArray) (hv:Vals ys its') (hz:ys.length<=sizeLine) :
  Inv X pins σ (upd H l (.lst ys)) { s with heap:=s.heap.update l (VW f),toks:=t' }:=by
 have q:=PySem.IsL.update e f
 rw [hf] at q
 refine I.write (x:=l) (e:=l) (by rw [hH];exact trivial) (.inl rfl) (fun b' u hb hu=>(Vy s.heap (VW f) (VY hb)).trans hu) ⟨_,q⟩ ?_
 exact ⟨hz,its',_,hv,q⟩
theorem Inv.lnew {its:List Kb}{t':Nat}(I:Inv X pins σ H s)(hv:Vals ys its)(hz:ys.length<=sizeLine) :
  Inv X pins σ (upd H s.heap.objs.size (.lst ys)) { s with heap:=s.heap.push { cls:=.type "list", data:=.seq its.toArray },toks:=t' } :=
 I.laid (fun _ _ q=>Kk _ q) (Km _) ⟨hz,its,0,hv,K4 _ rfl⟩
theorem Inv.fresh (I:Inv X pins σ H s):H s.heap.objs.size=none:=I.hok.fresh (Km _)
theorem Inv.lstM (I:Inv X pins σ H s)(hH:H l=some (.lst xs)):xs.length<=sizeLine/\∃ (its:List Kb) (n:Nat),Vals xs its/\xs.length=its.length/\s.heap.get? l=some { cls:=.type "list", data:=.seq its.toArray n }:=by
 obtain ⟨z,its,n,r,e⟩:=I.hok l _ hH
 exact ⟨z,its,n,r,r.length,e⟩
end
section
variable {X:Cx}
def qgy:V->List V->Hp->VK->Prop:=fun x vs H Q=>∃ l xs y,x=.ref l/\vs=[y]/\H l=some (.lst xs)/\xs.length<sizeLine/\Q .non (upd H l (.lst (xs++[y])))
theorem JK:MtM X "list.append" qgy:=by
 intro pins s σ H x vs v us Q I rx rv h
 obtain ⟨l,xs,y,rfl,rfl,hH,hz,q⟩:=h
 cases rx
 obtain ⟨u,rfl,ru⟩:=rv.one
 obtain ⟨z,its,n,r,hl,e⟩:=I.lstM hH
 refine call_meets U3 ⟨_,e,rfl⟩ F.entry_list_append (F.args_list_append_2 _ _) (PySem.list_append l its.toArray n u (by rw [Kt];omega)) ⟨e,?_⟩
 refine ⟨.non,_,I.lset (its':=its++[u]) hH e (by simp) (r.append (.cons ru .nil)) ?_,rfl,q⟩
 rw [Kp,Kv]
 omega
def qid:V->List V->Hp->VK->Prop:=fun x vs H Q=>∃ l xs i k y,x=.ref l/\vs=[.int i]/\H l=some (.lst xs)/\-(2 ^ 63)<=i/\i<2 ^ 63/\seqIndex? i xs.length=some k/\xs[k]?=some y/\Q y (upd H l (.lst (xs.eraseIdx k)))
theorem qd5:MtM X "list.pop" qid:=by
 intro pins s σ H x vs v us Q I rx rv h
 obtain ⟨l,xs,i,k,y,rfl,rfl,hH,h1,h2,hk,hy,q⟩:=h
 cases rx
 obtain ⟨u,rfl,ru⟩:=rv.one
 obtain ⟨t,rfl⟩:=ru
 obtain ⟨z,its,n,r,hl,e⟩:=I.lstM hH
 obtain ⟨w,hw,rw'⟩:=r.get hy
 refine call_meets F.slot_list_pop ⟨_,e,rfl⟩ F.entry_list_pop (F.args_list_pop_2 _ _)
  (MeetsSeq.list_pop_at l its.toArray n i t k w (fitsIndex_both h1 h2) (by rw [Kt,← hl];exact hk) (by rw [← Eg];exact hw) (by rw [Kt];omega)) ⟨e,?_⟩
 refine ⟨y,_,I.lset (its':=its.eraseIdx k) hH e ?_ (r.eraseIdx k) ?_,rw',q⟩
 ·show its.toArray.eraseIdxIfInBounds k=(its.eraseIdx k).toArray
  rw [List.eraseIdxIfInBounds_toArray]
 ·have:=Y8 xs k
  omega
end
section
variable {prog:Kx}{w:KG}{A:KI}{E:Kb->Kf->Prop}{s:Kf}
set_option maxRecDepth 100000 in
end
end L2
namespace Att
open PySem PySem.W PySem.Calls PyProof.Rows
theorem yg {P:Params}{h:KA}:∀ (ns:List Int) (vs:List Kb),WellAll P h vs (ns.map WData.int)->IntsAre vs ns:=by
 intro ns
 induction ns with
 | nil =>
  intro vs w
  rw [VF] at w
  cases w
  exact .nil
 | cons n ns ih =>
  intro vs w
  rw [Kr] at w
  cases w with
  | cons a b =>
   cases a
   exact .cons _ _ (ih _ b)
theorem qcZ {l:Nx}{n:Nat}(hn:l.most=some n){P:Params}{h:KA}{args:List WData}{vals:List Kb}
  (hpre:l.row.toRowW.claim.pre args=true) (hwl:WellAll P h vals args) :
  ∃ a vs ns,vals=[KW a]/\args=[WData.list (ns.map WData.int)]/\h.get? a=some { cls:=.type "list", data:=.seq vs.toArray }/\IntsAre vs ns/\ns.length<=n:=by
 have hsh:WShape.hasAll [] args [.list .int]=true:=(pre_splitW hpre).1
 have hc:l.pre.holds [] { args:=args }=true:=(pre_splitW hpre).2
 obtain ⟨d,r,rfl,h1,h2⟩:=hasAllW_cons hsh
 obtain rfl:=hasAllW_nil h2
 obtain ⟨xs,rfl,h3⟩:=hasW_list h1
 obtain ⟨ns,rfl⟩:=items_int h3
 have hlen:ns.length<=n:=by
  unfold OpenLaw.pre at hc
  have h4:(WTm.not (.lt (.lit (.int (n:Int))) (.len (.arg 0)))).holds [] { args:=[.list (ns.map .int)] }=true:=by
   have h4:=(holds_andW hc).1
   rw [hn] at h4
   exact h4
  have h5:=condW_of h4 (w_not (w_lt w_lit (w_len_list (w_arg rfl))))
  rw [Kh] at h5
  refine Nat.le_of_not_lt fun q=>?_
  have q':(n:Int)<((ns.length:Nat):Int):=by omega
  first
   | (rw [decide_eq_true q'] at h5;exact absurd h5 (by decide))
   | (simp at h5;omega)
 cases hwl with
 | cons w1 w2 =>
  cases w2
  cases w1 with
  | list ho hall=>exact ⟨_,_,ns,rfl,rfl,ho,yg ns _ hall,hlen⟩
theorem qcW (l:Nx)(args:List WData):l.row.toRowW.claim.post args (.bool true) args=true :=
 postW_of (r:=l.row.toRowW) (X:=(true==true))
  (show WShape.has [] (.bool true) .bool=true by first|rfl|decide|simp [WShape.has,WShape.arms,WShape.armsAll])
  (show (WTm.eq .res (.lit (.bool true))).value [] { args:=args,res:=some (.bool true),after:=args }=some (.bool (true==true)) from w_eq_bool (w_res rfl) w_lit) rfl
end Att
namespace L2
open PySem PySem.Spec PyProof.Rows
theorem wM:∀ {vs:List Kb} {ns:List Int},IntsAre vs ns->Vals (ns.map V.int) vs
 | _,_,.nil=>.nil
 | _,_,.cons n t h=>.cons ⟨t,rfl⟩ (wM h)
def Only (H:Hp):Prop:=∀ b,H b=none\/∃ o xs,H b=some (.frz o (.lst xs))
theorem qdT {P:Kx}{w:KG}{K:Kc}{mg mb:Str->Option Kb}{CX:CXT}{k:Nat}{fa a:Kd}{fd:Vi}{x:Str}{sp:Sp}{s₁:Kf}{vs:List Kb}{ns:List Int}
  (KX:K.In s₁.heap) (hns:s₁.heap.Ns mainGlobals mg) (hb:s₁.heap.Ns builtinsNs mb) (hbb:∀ x:Str,x ≠ "__name__"->mb x=bootBuiltins x) (hlim:s₁.heap.NoLimit) (hg:s₁.gens=#[])
  (ha:s₁.heap.get? a=some { cls:=.type "list", data:=.seq vs.toArray }) (hi:IntsAre vs ns) (hl:ns.length<=sizeLine) (hr:Room k callerA)
  (F:∀ base:KA,K.In base->base.Ns mainGlobals mg->FnOk P w K mg base CX k fa fd [x] sp) (hbind:∀ (s:Kf) (u:Kb),BindsTo s fd ⟨[u],[]⟩ [(x,u)])
  (hsp:∀ H:Hp,Only H->SqL K H a (ns.map V.int)->sp [.ref a] H (fun v _=>v=.bl true) fun _ _ _=>False)
  (hCX:∀ H e s',CX [] H s₁ (fun _ _ _=>False) e s'->False) :
  codeAny (model P w) callerA (.call (.ref fa) ⟨[.ref a],[]⟩) (fun r s'=>r=.ok (.ret (.bool true))/\OldK s₁.heap s'.heap/\s'.os=s₁.os/\Xo s'.gens) s₁:=by
 have rv:=wM hi
 have lenV:=hi.length
 have core:∀ H:Hp,Only H->SqL K H a (ns.map V.int)->HOk P w H s₁.heap->(∀ b,H b≠none->b=a)->(H a≠none->K.lookup a=none)->
   codeAny (model P w) callerA (.call (.ref fa) ⟨[.ref a],[]⟩) (fun r s'=>r=.ok (.ret (.bool true))/\OldK s₁.heap s'.heap/\s'.os=s₁.os/\Xo s'.gens) s₁:=by
  intro H hO hS hok hA hK
  have base_of:∀ {b:Kd} {o:Obj},s₁.heap.get? b=some o->H b=none->(hidT s₁.heap H).get? b=some o:=fun e n=>qdH e n
  have noA:∀ {b:Kd} {o:Obj} {es:Array Xd} {ep:Nat},s₁.heap.get? b=some o->o.data=.dict es ep->H b=none:=fun {b o es ep} e d=>by
   cases q:H b with
   | none=>rfl
   | some u =>
    have e':b=a:=hA b (by rw [q];simp)
    subst e'
    rw [ha] at e;cases e
    have d':Data.seq vs.toArray _=V3 es ep:=d
    cases d'
  have nsK:∀ {b:Kd} {m:Str->Option Kb},s₁.heap.Ns b m->(hidT s₁.heap H).Ns b m:=fun {b m} ⟨o,es,ep,e,d,r⟩=>⟨o,es,ep,base_of e (noA e d),d,r⟩
  have hKb:K.In (hidT s₁.heap H):=fun b o e=>base_of (KX b o e) (by
   cases q:H b with
   | none=>rfl
   | some u =>
    have e':b=a:=hA b (by rw [q];simp)
    subst e'
    rw [hK (by rw [q];simp)] at e;cases e)
  have hM:Mod K mg (hidT s₁.heap H):=⟨hKb,nsK hns,⟨mb,nsK hb,hbb⟩,let ⟨mc,h1,h2⟩:=hlim;⟨mc,nsK h1,h2⟩⟩
  have e0:Env0 P w K mg (hidT s₁.heap H) callerA [] s₁ H:=⟨rfl,hM,fun b o e=>qf2 e,Nat.le_of_eq (qcy _ _),trivial,fun b hb=>absurd (show b∈([]:List Kd) from hb) (by simp),hok,.of_eq hg⟩
  refine Xv ((F _ hKb (nsK hns)).run callerA [] s₁ H ⟨[.ref a],[]⟩ [.ref a] [.ref a] _ _ hr e0 (hbind s₁ (.ref a)) (.cons rfl .nil) (hsp H hO hS)) fun r s' h=>?_
  cases r with
  | error e=>exact (hCX H e s' h).elim
  | ok fl =>
   cases fl with
   | next=>exact Vx h
   | brk=>exact Vx h
   | cont=>exact Vx h
   | ret u =>
    obtain ⟨v,H',os,bare,un,hok',r',q⟩:=h
    have q':v=.bl true:=q
    subst q'
    obtain rfl:u=K5 true:=r'
    refine ⟨rfl,OldK.of_keep fun b o e=>?_,os,bare⟩
    cases q:H b with
    | none=>exact un.keep b o e q (by intro z;exact absurd (show b∈([]:List Kd) from z) (by simp)) (by simp)
    | some u =>
     rcases hO b with z|⟨ob,xs,z⟩
     ·rw [q] at z;cases z
     ·have z2:=un.frzs b ob _ z
      obtain ⟨e1,_⟩:=hok b _ z
      obtain ⟨e2,_⟩:=hok' b _ z2
      rw [e] at e1;cases e1
      exact e2
 cases hk:K.lookup a with
 | some o =>
  have e:=KX a o hk
  rw [ha] at e
  cases e
  refine core (fun _=>none) (fun _=>.inl rfl) (.inr ⟨_,vs.toArray,_,hk,rfl,rfl,rfl,by rw [Kt,lenV];exact hl,by simpa using rv⟩) (fun b u z=>by have z':(none:Option HO)=some u:=z;cases z') (fun b z=>absurd rfl z) fun z=>absurd rfl z
 | none =>
  refine core (fun b=>if b=a then some (.frz { cls:=.type "list", data:=.seq vs.toArray } (.lst (ns.map V.int))) else none) (fun b=>?_) (.inl (.inr ⟨{ cls:=.type "list", data:=.seq vs.toArray },if_pos rfl⟩)) (fun b u z=>?_) (fun b z=>?_) fun _=>hk
  ·by_cases hb:b=a
   ·exact .inr ⟨_,_,if_pos hb⟩
   ·exact .inl (if_neg hb)
  ·by_cases hb:b=a
   ·have z':=(if_pos hb).symm.trans z
    cases z'
    subst hb
    exact ⟨ha,by rw [Kh];exact hl,vs,_,rv,ha⟩
   ·have z':=(if_neg hb).symm.trans z
    cases z'
  ·by_cases hb:b=a
   ·exact hb
   ·exact absurd (if_neg hb) z
def QW (s:KY):Arguments:=match s with
 | .FunctionDef _ a _ _ _ _ _ _ _ _=>a
 | _=>{ posonlyargs:=[],args:=[],vararg:=none,kwonlyargs:=[],kw_defaults:=[],kwarg:=none,defaults:=[] }
def zH (s:KY):List KY:=match s with
 | .FunctionDef _ _ b _ _ _ _ _ _ _=>b
 | _=>[]
def qt (s:KY):Vq:=match s with
 | .FunctionDef _ _ _ _ _ _ sc _ _ _=>sc
 | _=>{ kind:=.function,names:=[],isGenerator:=false,isCoroutine:=false }
abbrev CX0:CXT:=fun _ _ _ _ _ _=>False
abbrev E0:XK:=fun _ _ _=>False
theorem pass0 {X:Cx}:wN CX0 X E0:=fun _ _ _ _ _ _ _ h=>h.elim
structure Fun (K:Kc)(x qual:Str)(st:KY)(f:Kd)(fd:Vi):Prop where
 ex:∃ (oc:Kb) (od:Option Kd) (kV doc pm:Kb) (an:Option Kd) (cdv ct:Kb) (osl:Array (Option Kb)),
  fd=Uc x qual (QW st) (zH st) (qt st) .none kV doc pm an cdv ct/\K.lookup f=some ⟨oc,od,.func fd,osl⟩/\UQ K cdv qual=true
 kp:VT K (.ref f)=true
section
variable {P:Kx}{w:KG}{K:Kc}{mg:Str->Option Kb}{base:KA}
theorem Fun.ok {x qual:Str}{st:KY}{f:Kd}{fd:Vi}{N ps:List Str}{k:Nat}{sp:Sp}(F:Fun K x qual st f fd)(S:FnScope N ps (qt st))(len:∀ vs H Q E,sp vs H Q E->vs.length=ps.length)
  (hbody:∀ (cdv:Kb) (A:KI) (outer:List Env) (s:Kf) (H:Hp) (vs:List V) (Q:VK) (E:XK),Room k (A.deeper (envOfC qual (qt st) s.heap.objs.size f cdv))->sp vs H Q E->
   ∃ t,PSs (cxOf CX0 P w K mg base N qual (qt st) f cdv A outer s H E).nox (zH st) t/\t { nx:=fun _ H'=>Q .non H',rt:=Q } (start N vs) H):FnOk P w K mg base CX0 (k+1) f fd ps sp:=by
 obtain ⟨oc,od,kV,doc,pm,an,cdv,ct,osl,rfl,lk,hcd⟩:=F.ex
 refine qdF lk hcd S len fun A outer s H vs Q E hr hsp=>?_
 obtain ⟨t,h,q⟩:=hbody cdv A outer s H vs Q E hr hsp
 exact ⟨t,h.nox,q⟩
theorem Fun.binds {x qual:Str}{st:KY}{f:Kd}{fd:Vi}{ps:List Str}(F:Fun K x qual st f fd)
  (h:∀ (kV doc pm:Kb) (an:Option Kd) (cdv ct:Kb) (us:List Kb),us.length=ps.length->bindArgs (Uc x qual (QW st) (zH st) (qt st) .none kV doc pm an cdv ct) ⟨us,[]⟩=pure (ps.zip us)):Binds K fd ps []:=by
 obtain ⟨oc,od,kV,doc,pm,an,cdv,ct,osl,rfl,lk,hcd⟩:=F.ex
 exact .all (h kV doc pm an cdv ct)
theorem qaP {x qual:Str}{st:KY}{f:Kd}{oc:Kb}{od an:Option Kd}{osl:Array (Option Kb)}{kV doc pm cdv ct:Kb}(l:K.lookup f=some ⟨oc,od,.func (Uc x qual (QW st) (zH st) (qt st) .none kV doc pm an cdv ct),osl⟩)
  (c:UQ K cdv qual=true) (k:VT K (.ref f)=true):Fun K x qual st f (Uc x qual (QW st) (zH st) (qt st) .none kV doc pm an cdv ct):=⟨⟨oc,od,kV,doc,pm,an,cdv,ct,osl,rfl,l,c⟩,k⟩
end
theorem zj {n:Nat}(h:n<=1000):n<sizeLine:=Nat.lt_of_le_of_lt h (by decide)
theorem iteF {A B:Prop}(h:B):if false=true then A else B:=by
 rw [if_neg Ug]
 exact h
theorem iteT {A B:Prop}(h:A):if true=true then A else B:=by
 rw [if_pos rfl]
 exact h
def Same (H H':Hp):Prop:=∀ b o,H b=some o->H' b=some o
theorem Same.refl (H:Hp):Same H H:=fun _ _ h=>h
theorem Same.trans {H H1 H2:Hp}(a:Same H H1)(b:Same H1 H2):Same H H2:=fun c o h=>b c o (a c o h)
theorem Same.free {H H':Hp}(e:Same H H'){l:Kd}(h:H' l=Ki):H l=Ki:=by
 cases q:H l with
 | none=>rfl
 | some o =>
  rw [e l o q] at h
  cases h
theorem Same.seq {K:Kc}{H H':Hp}{a:Kd}{xs:List V}(e:Same H H')(h:SqL K H a xs):SqL K H' a xs:=by
 rcases h with (h|⟨o,h⟩)|h
 ·exact .inl (.inl (e _ _ h))
 ·exact .inl (.inr ⟨o,e _ _ h⟩)
 ·exact .inr h
end L2
set_option maxHeartbeats 4000000
namespace L2
open PySem PySem.Spec PyProof.Rows
theorem Z7 {env:Env}(body:(Str×NameKind)->List (Str×Addr)->Sem (ForInStep (List (Str×Addr))))
  (hf:∀ n k acc c,k=Vd->env.cells.lookup n=some c->body (n,k) acc=pure (.yield ((n,c)::acc)))
  (hn:∀ n k acc,k≠Vd->body (n,k) acc=pure (.yield acc)) :
  ∀ (names:List (Str×NameKind)) (acc:List (Str×Addr)),(∀ y∈names,y.2=.free->∃ c,env.cells.lookup y.1=some c)->
   (∀ y c,acc.lookup y=some c->env.cells.lookup y=some c)->
   ∃ cl,forIn names acc body=pure cl/\(∀ y c,cl.lookup y=some c->env.cells.lookup y=some c)/\(∀ y,(∃ c,acc.lookup y=some c)->∃ c,cl.lookup y=some c)/\∀ y,(y,Vd)∈names->∃ c,cl.lookup y=some c
 | [],acc,_,ha=>⟨acc,rfl,ha,fun _ h=>h,fun _ h=>by cases h⟩
 | (n,k)::r,acc,h,ha=>by
  by_cases hk:k=Vd
  ·obtain ⟨c,hc⟩:=h (n,k) VJ hk
   obtain ⟨cl,e,h1,h2,h3⟩:=Z7 body hf hn r ((n,c)::acc) (fun y hy=>h y (Vl _ hy)) (fun y c' e=>by
    rw [Ve] at e
    split at e
    ·rename_i q
     have q':y=n:=by simpa using q
     subst q';cases e;exact hc
    ·exact ha y c' e)
   refine ⟨cl,?_,h1,fun y hy=>h2 y ?_,fun y hy=>?_⟩
   ·rw [List.forIn_cons,hf n k acc c hk hc]
    exact e
   ·obtain ⟨c',e'⟩:=hy
    rw [Ve]
    split
    ·exact ⟨_,rfl⟩
    ·exact ⟨_,e'⟩
   ·rcases Kq.mp hy with q|q
    ·cases q
     exact h2 _ ⟨c,by rw [Ve];simp⟩
    ·exact h3 y q
  ·obtain ⟨cl,e,h1,h2,h3⟩:=Z7 body hf hn r acc (fun y hy=>h y (Vl _ hy)) ha
   refine ⟨cl,?_,h1,h2,fun y hy=>?_⟩
   ·rw [List.forIn_cons,hn n k acc hk]
    exact e
   ·rcases Kq.mp hy with q|q
    ·cases q;exact absurd rfl hk
    ·exact h3 y q
theorem yF {sc:Vq}{env:Env}(h:∀ y∈sc.names,y.2=.free->∃ c,env.cells.lookup y.1=some c) :
  ∃ cl,closureFor sc env=pure cl/\(∀ y c,cl.lookup y=some c->env.cells.lookup y=some c)/\∀ y,(y,Vd)∈sc.names->∃ c,cl.lookup y=some c:=by
 simp only [closureFor]
 obtain ⟨cl,e,h1,_,h3⟩:=Z7 (env:=env) (fun x cs=>if (x.2==Vd)=true then (do let a ← cellOf env x.1;pure (U4 ((x.1,a)::cs))) else pure (U4 cs)) (fun n k acc c hk hc=>by
   subst hk
   simp only [cellOf,hc,beq_self_eq_true,if_true];rfl) (fun n k acc hk=>by
   have:(k==Vd)=false:=by simpa using hk
   simp only [this,VZ,if_false]) sc.names [] h (fun y c e=>by cases e)
 refine ⟨cl,?_,h1,h3⟩
 exact (congrArg (· >>= fun r=>pure r) e).trans rfl
def qJ (X:Cx)(N':List Str)(sc:Vq)(cl:List (Str×Addr))(C:Kd)(fp:List Kd)(pins:List (Kd×Obj))(s:Kf)(H:Hp):Cx where
 prog:=X.prog
 w:=X.w
 K:=X.K
 mg:=X.mg
 base:=X.base
 A:=X.A
 N:=N'
 s₀:=s
 H₀:=H
 env:=compEnvC sc cl C X.env
 outer:=X.stack
 stack:=X.stack
 ex:=fp
 fn:=fun x=>decide (sc.names.lookup x=some .cell)
 calm:=X.calm
 pn:=X.pn++pins
 xe:=fun _ _=>False
def PTs (X:Cx)(ifs:List Kw)(t:TT):Prop :=
 ∀ (pins:List (Kd×Obj)) (s:Kf) (σ:St) (H:Hp) (Q:Bool->Hp->Prop),Inv X pins σ H s->t σ H Q->
  wpAny (model X.prog X.w) X.A (forIn ifs true fun c r=>if r=true then do let ok ← isTrue c X.env (eval c X.env);pure (U4 ok) else pure (U4 r)) (TP X pins σ Q) X.xe s
def tTru:TT:=fun _ H Q=>Q true H
theorem qgv {X:Cx}:PTs X [] tTru:=fun _ _ _ H _ I h=>wpAny_tests_nil ⟨H,I,h⟩
theorem thF {α:Type}{t:Sem α}{Q Q':α->Kf->Prop}{M:Model}{A:KI}{E:Kb->Kf->Prop}{s:Kf}(h:wpAny M A t Q (fun _ _=>False) s)(hQ:∀ a s,Q a s->Q' a s):wpAny M A t Q' E s:=Vk h hQ fun _ _ x=>x.elim
theorem qaZ {prog:Kx}{w:KG}{A:KI}{R:Result->Kf->Prop}{s:Kf}{elt target iter:Kw}{ifs:List Kw}{scope:Vq}{pos:Pos}{it acc:Kb}{env:Env}(I:Nat->Kf->Prop)
  (turn:∀ n s,I n s->wpAny (model prog w) A (pyNext it) (fun r s₁=>match r with
   | none=>R (.ok .next) s₁
   | some v=>wpAny (model prog w) A (letOwnedTupleGo target it v) (fun _ s₁=>wpAny (model prog w) A (assign target env v) (fun _ s₂ =>
     wpAny (model prog w) A (forIn ifs true fun c r=>if r=true then do let ok ← isTrue c env (eval c env);pure (U4 ok) else pure (U4 r)) (fun ok s₃ =>
      if ok=true then wpAny (model prog w) A (eval elt env) (fun x s₄ =>
       wpAny (model prog w) A (call (.builtin "list.append") [acc,x]) (fun _ s₅=>∃ m,m<n/\I m s₅) (notedBy (model prog w) A env fun e s'=>R (.error e) s') s₄) (notedBy (model prog w) A env fun e s'=>R (.error e) s') s₃
      else ∃ m,m<n/\I m s₃) (notedBy (model prog w) A env fun e s'=>R (.error e) s') s₂) (notedBy (model prog w) A env fun e s'=>R (.error e) s') s₁) (notedBy (model prog w) A env fun e s'=>R (.error e) s') s₁) (notedBy (model prog w) A env fun e s'=>R (.error e) s') s)
  (n:Nat) (h:I n s) :
  codeAny (model prog w) A (.compLoop (.ListComp elt [⟨target,iter,ifs,0⟩] scope pos) 0 it acc env) R s:=by
 refine codeAny_loop rfl I (fun n s hI=>?_) n h
 show wpAny _ A ((compTurn (.ListComp elt [⟨target,iter,ifs,0⟩] scope pos) 0 it acc env).onRaise (fun x=>do noteFrame x env;theTreesLotGoes x)) _ _ s
 refine wpAny_noted ?_
 rw [compTurn_list]
 refine Kg (Xk (Kg (Vk (turn n s hI) (fun r s₁ h₁=>?_) fun _ _ h'=>h')))
 cases r with
 | none=>exact Ks h₁
 | some v =>
  refine Kg (Vk h₁ (fun _ s₁' h₁'=>?_) fun _ _ h'=>h')
  refine Kg (Vk h₁' (fun _ s₂ h₂=>Kg (Vk h₂ (fun ok s₃ h₃=>?_) fun _ _ h'=>h')) fun _ _ h'=>h')
  cases ok with
  | false=>exact Ks ⟨rfl,h₃⟩
  | true =>
   exact Kg (Kg (Vk h₃ (fun x s₄ h₄=>Kg (Vk h₄ (fun _ s₅ h₅=>Ks (Ks ⟨rfl,h₅⟩)) fun _ _ h'=>h')) fun _ _ h'=>h'))
structure CompOk (X:Cx)(N':List Str)(k:Nat)(sc:Vq):Prop where
 calm:X.calm=true
 kind:sc.kind=.function
 nd:X.N.Nodup
 nd':N'.Nodup
 len:N'.length=X.N.length+k
 cells:∀ y∈sc.names,y.2=.cell->sc.names.lookup y.1=some .cell
 names:∀ y∈sc.names,y.2=.local->sc.names.lookup y.1=some .local
 old:∀ i y,i<X.N.length->N'[i]?=some y->(X.N[i]?=some y/\sc.names.lookup y≠some .local/\sc.names.lookup y≠some .cell)\/sc.names.lookup y=none
 free:∀ y∈sc.names,y.2=.free->X.env.kindOf y.1=some .cell\/X.env.kindOf y.1=some .free
theorem qdo (lo:Nat):∀ (names:List (Str×NameKind)) (h:KA) (acc:List (Str×Addr)),lo<=h.objs.size->(∀ y c,acc.lookup y=some c->lo<=c->c<h.objs.size)->(∀ y z c,lo<=c->acc.lookup y=some c->acc.lookup z=some c->y=z)->
  (∀ y c,(cellsFrom h.objs.size names acc).lookup y=some c->acc.lookup y=some c\/(h.objs.size<=c/\(pushCells h names).IsCell c none))/\(∀ y,(∃ c,acc.lookup y=some c)->∃ c,(cellsFrom h.objs.size names acc).lookup y=some c)/\
  (∀ y,(y,VO)∈names->∃ c,(cellsFrom h.objs.size names acc).lookup y=some c/\h.objs.size<=c)/\(∀ y,(y,VO)∉names->(cellsFrom h.objs.size names acc).lookup y=acc.lookup y)/\
  ∀ y z c,lo<=c->(cellsFrom h.objs.size names acc).lookup y=some c->(cellsFrom h.objs.size names acc).lookup z=some c->y=z
 | [],h,acc,_,_,inj=>⟨fun _ _ e=>.inl e,fun _ e=>e,(fun _ e=>by cases e),fun _ _=>rfl,inj⟩
 | (name,kind)::r,h,acc,hl,hb,inj=>by
  by_cases hk:kind=.cell
  ·subst hk
   have sz:(h.push { cls:=.type "cell", data:=.cell none }).objs.size=h.objs.size+1:=Uy ..
   have lk:∀ y,Ul y ((name,h.objs.size)::acc)=if y=name then some h.objs.size else acc.lookup y:=fun y=>by
    rw [Ve]
    by_cases q:y=name
    ·rw [if_pos q,beq_iff_eq.mpr q]
    ·rw [if_neg q,beq_eq_false_iff_ne.mpr q]
   obtain ⟨a1,a2,a3,a4,a5⟩:=qdo lo r (h.push { cls:=.type "cell", data:=.cell none }) ((name,h.objs.size)::acc) (by omega) (fun y c e q=>by
     rw [lk] at e
     rw [sz]
     split at e
     ·cases e;exact NO _
     ·exact UJ (hb y c e q)) (fun y z c q e1 e2=>by
     rw [lk] at e1 e2
     split at e1<;>split at e2
     ·rename_i u v;rw [u,v]
     ·cases e1;exact absurd (hb z _ e2 q) (VS _)
     ·cases e2;exact absurd (hb y _ e1 q) (VS _)
     ·exact inj y z c q e1 e2)
   rw [sz] at a1 a2 a3 a4 a5
   have e0:cellsFrom h.objs.size ((name,VO)::r) acc=cellsFrom (h.objs.size+1) r ((name,h.objs.size)::acc):=rfl
   have e1:pushCells h ((name,VO)::r)=pushCells (h.push { cls:=.type "cell", data:=.cell none }) r:=rfl
   rw [e0,e1]
   have b1:∀ y c,(cellsFrom (h.objs.size+1) r ((name,h.objs.size)::acc)).lookup y=some c->acc.lookup y=some c\/(h.objs.size<=c/\(pushCells (h.push { cls:=.type "cell", data:=.cell none }) r).IsCell c none):=fun y c e=>by
    rcases a1 y c e with q|⟨q1,q2⟩
    ·rw [lk] at q
     split at q
     ·cases q
      exact .inr ⟨Km _,_,N2 r _ _ _ (K4 _ rfl),rfl⟩
     ·exact .inl q
    ·exact .inr ⟨by omega,q2⟩
   refine ⟨b1,fun y e=>a2 y ?_,fun y e=>?_,fun y e=>?_,a5⟩
   ·obtain ⟨c,e⟩:=e
    rw [lk]
    split
    ·exact ⟨_,rfl⟩
    ·exact ⟨_,e⟩
   ·rcases Kq.mp e with q|q
    ·cases q
     obtain ⟨c,q⟩:=a2 name ⟨h.objs.size,by rw [lk,if_pos rfl]⟩
     refine ⟨c,q,?_⟩
     rcases a1 name c q with z|z
     ·rw [lk,if_pos rfl] at z;cases z;exact Km _
     ·omega
    ·obtain ⟨c,q1,q2⟩:=a3 y q
     exact ⟨c,q1,by omega⟩
   ·rw [a4 y fun z=>e (Vl _ z),lk,if_neg fun z=>e (by rw [z];exact VJ)]
  ·have hb':(kind==VO)=false:=beq_eq_false_iff_ne.mpr hk
   have e0:cellsFrom h.objs.size ((name,kind)::r) acc=cellsFrom h.objs.size r acc:=by rw [cellsFrom,hb'];rfl
   have e1:pushCells h ((name,kind)::r)=pushCells h r:=by rw [pushCells,hb'];rfl
   rw [e0,e1]
   obtain ⟨a1,a2,a3,a4,a5⟩:=qdo lo r h acc hl hb inj
   refine ⟨a1,a2,fun y e=>?_,fun y e=>a4 y fun z=>e (Vl _ z),a5⟩
   rcases Kq.mp e with q|q
   ·cases q;exact absurd rfl hk
   ·exact a3 y q
theorem qf0 {M:Model}{A:KI}{E:Kb->Kf->Prop}{s:Kf}{sc:Vq}{gl:Kd}{cl:List (Str×Addr)}{qual:Str}{func:Option Kd}{code:Kb}{env:Env}{bl:Kd}{Q:Env->Kf->Prop}
  (hQ:Q (newEnv sc s.heap.objs.size gl (cellsFrom (s.heap.objs.size+1) sc.names cl) qual func code (some env) bl) { s with heap:=pushCells (s.heap.push { cls:=.type "dict", data:=.dict #[] }) sc.names }) :
  wpAny M A (newFunctionEnv sc gl cl [] qual func code (some env) bl) Q E s:=by
 simp only [newFunctionEnv,Option.isSome_some,if_true]
 refine Kg (wpAny_alloc (Kg (wpAny_layCells _ (fun name kind cells=>by cases hkc:kind==VO<;>simp [hkc]) _ _ _ _ ?_)))
 rw [show ({ s with heap:=s.heap.push { cls:=.type "dict", data:=.dict #[] } }:Kf).heap.objs.size=s.heap.objs.size+1 from Uy ..]
 rw [List.forIn_nil]
 exact Kg (Ks (Ks hQ))
structure ClOk (X:Cx)(sc:Vq)(cl:List (Str×Addr))(n:Nat)(h:KA):Prop where
 old:∀ y c,cl.lookup y=some c->X.env.cells.lookup y=some c\/(n<c/\∃ v,h.IsCell c v)
 free:∀ y,sc.names.lookup y=some .free->∃ c,cl.lookup y=some c/\X.env.cells.lookup y=some c
 cell:∀ y,sc.names.lookup y=some .cell->∃ c,cl.lookup y=some c/\n<c
 inj:∀ y z c,cl.lookup y=some c->cl.lookup z=some c->y=z
def qeU (J:It)(wg:TG)(tt:TT)(te:TE)(W:Nat->Nat->List V->St->Hp->Prop)(i m:Nat)(ys:List V)(σ:St)(H:Hp):Prop :=
 ∀ x H2,J.yld i H x H2->wg x σ H2 fun σ3 H3=>tt σ3 H3 fun b H4=>if b=true then te σ3 H4 fun v H5=>ys.length<sizeLine/\∃ m',m'<m/\W (i+1) m' (ys++[v]) σ3 H5
  else ∃ m',m'<m/\W (i+1) m' ys σ3 H4
def qeV (k:Nat)(J:It)(wg:TG)(tt:TT)(te:TE)(σ:St)(H:Hp)(Q:VK):Prop :=
 ∃ W:Nat->Nat->List V->St->Hp->Prop,(∃ m,W 0 m [] (σ++Vc k none) H)/\∀ i m ys σ' H',W i m ys σ' H'->
  (J.stop i H'/\∀ D,H' D=none->Q (.ref D) (upd H' D (.lst ys)))\/(J.go i H'/\qeU J wg tt te W i m ys σ' H')
def wJ (k:Nat)(wi:TI)(wg:TG)(tt:TT)(te:TE):TE:=fun σ H Q=>wi σ H fun J H1=>qeV k J wg tt te σ H1 Q
theorem Qe {env:Env}:∀ {names:List (Str×NameKind)} {x:Str} {k:NJ},
  (names.map fun (n,k)=>if (k==Vd&&env.scope.kind==.function&&env.kindOf n==some .cell) then (n,VO) else (n,k)).lookup x=some k->
   (names.lookup x=some k)\/(k=.cell/\names.lookup x=some .free)
 | [],_,_,h=>by simp at h
 | (n,k')::r,x,k,h=>by
  have h':Ul x ((if (k'==Vd&&env.scope.kind==.function&&env.kindOf n==some .cell)=true then (n,VO) else (n,k'))::(r.map fun (n,k)=>if (k==Vd&&env.scope.kind==.function&&env.kindOf n==some .cell) then (n,VO) else (n,k)))=some k:=h
  have ih:=@Qe env r x k
  cases hx:x==n with
  | true =>
   by_cases hc:(k'==Vd&&env.scope.kind==.function&&env.kindOf n==some .cell)=true
   ·rw [if_pos hc] at h'
    simp only [Ve,hx] at h' ⊢
    cases h'
    have:k'=.free:=by
     rw [Ko,Ko] at hc
     simpa using hc.1.1
    subst this
    exact .inr ⟨rfl,rfl⟩
   ·rw [if_neg hc] at h'
    simp only [Ve,hx] at h' ⊢
    exact .inl h'
  | false =>
   by_cases hc:(k'==Vd&&env.scope.kind==.function&&env.kindOf n==some .cell)=true
   ·rw [if_pos hc] at h'
    simp only [Ve,hx] at h' ⊢
    exact ih h'
   ·rw [if_neg hc] at h'
    simp only [Ve,hx] at h' ⊢
    exact ih h'
section
variable {X:Cx}{elt iter:Kw}{ifs:List Kw}{tg:Kw}{N':List Str}{sc:Vq}{pos:Pos}{wi:TI}{wg:TG}{tt:TT}{te:TE}{k:Nat}
theorem qds {pins:List (Kd×Obj)}{σ:St}{H:Hp}{s s':Kf}{cl:List (Str×Addr)}{fp:List Kd}{m:Str->Option Kb}(O:CompOk X N' k sc)(I:Inv X pins σ H s)(cK:ClOk X sc cl s.heap.objs.size s'.heap)
  (hf:∀ b∈fp,FpOk X pins H b) (hlt:∀ b∈fp,b<s.heap.objs.size) (hos:s'.os=s.os) (hg:s'.gens=s.gens) (hk:∀ b o,s.heap.get? b=some o->s'.heap.get? b=some o) (hns:s'.heap.Ns s.heap.objs.size m) :
  Inv (qJ X N' sc cl s.heap.objs.size fp pins s H) [] (σ++Vc k none) H s':=by
 have stk:∀ b,b≠X.env.locals->b∉X.fs->b∉frs X.stack:=fun b h1 h2 hb=>by
  rcases Kq.mp (I.stkSub b hb) with z|z
  ·exact h1 z
  ·exact h2 z
 have hr:∀ {y:Str},(relabel sc X.env).names.lookup y=some .cell\/(relabel sc X.env).names.lookup y=some .free->sc.names.lookup y=some .free\/sc.names.lookup y=some .cell:=fun {y} h=>by
  rcases h with h|h
  ·rcases Qe h with q|q
   ·exact .inr q
   ·exact .inl q.2
  ·rcases Qe h with q|q
   ·exact .inl q
   ·exact .inl q.2
 refine ⟨⟨I.ok.mod,O.kind,I.ok.glob,I.ok.blt,Km _,cK.inj,fun y hy=>?_,fun y c z e=>?_,I.ok.hd,I.ok.frames,.inl rfl,fun b hb=>?_,I.bs,Vg I.ok.bsz I.sz,fun b o e hb=>?_,fun b hb=>?_,I.stack,I.stkFree⟩,
  hos,?_,Un.kept hk,⟨m,hns,fun i y v h1 h2 h3=>?_⟩,fun y c h=>?_,I.hok.fresh (Km _),fun y c h=>(cK.old y c h).elim (I.freeC y c) fun z=>I.hok.fresh (VA z.1),fun p hp=>?_,I.hok.kept hk,?_⟩
 ·rcases hr hy with q|q
  ·obtain ⟨c,e,_⟩:=cK.free y q;exact ⟨c,e⟩
  ·obtain ⟨c,e,_⟩:=cK.cell y q;exact ⟨c,e⟩
 ·obtain ⟨c',e',q⟩:=cK.cell y (of_decide_eq_true z)
  have e:cl.lookup y=some c:=e
  rw [e'] at e;cases e
  exact VA q
 ·have q:=hf b hb
  exact ⟨K6 (hlt b hb),fun z c e=>(cK.old z c e).elim (q.2.2.2.2.1 z c) fun w=>Uo (EB (hlt b hb) w.1)⟩
 ·have hb':b∈fp:=hb
  rcases (hf b hb').2.2.2.1 with z|z
  ·exact I.ok.noex b o e z
  ·exact absurd (KS (Ku (I.ok.bs b o e).1) z) (VS _)
 ·exact stk b (hf b hb).2.1 (hf b hb).2.2.1
 ·rw [hg];exact I.bare
 ·have hl:=I.len
  have hi:i<X.N.length:=by
   by_cases hi:i<X.N.length
   ·exact hi
   ·rw [Ud (by omega)] at h2
    have:=Us (a:=(none:Option V)) (n:=k) (i:=i-σ.length)
    rw [this] at h2
    split at h2<;>cases h2
  have h1':X.N[i]?=some y/\sc.names.lookup y≠some .local/\sc.names.lookup y≠some .cell:=by
   rcases O.old i y hi h1 with q|q
   ·exact q
   ·have no:∀ kk,(relabel sc X.env).names.lookup y≠some kk:=fun kk z=>by
     rcases Qe z with w|w
     ·rw [q] at w;cases w
     ·rw [q] at w;cases w.2
    rcases h3 with h3|h3|h3
    ·exact absurd h3 (no _)
    ·exact absurd h3 (no _)
    ·exact absurd h3 (no _)
  obtain ⟨h1',h1n,h1c⟩:=h1'
  have h2':σ[i]?=some (some v):=by
   rw [VI (by omega)] at h2
   exact h2
  have key:sc.names.lookup y=some .free/\((relabel sc X.env).names.lookup y=some .cell\/(relabel sc X.env).names.lookup y=some .free):=by
   rcases h3 with h3|h3|h3
   ·rcases Qe h3 with q|q
    ·exact absurd q h1n
    ·cases q.1
   ·exact ⟨(hr (.inl h3)).resolve_right h1c,.inl h3⟩
   ·exact ⟨(hr (.inr h3)).resolve_right h1c,.inr h3⟩
  obtain ⟨q,kd⟩:=key
  have mem:=V5 q
  have kx:=O.free _ mem rfl
  obtain ⟨m0,hn,hl'⟩:=I.loc
  obtain ⟨u,r,l⟩:=hl' i y v h1' h2' (by rcases kx with z|z;exact .inr (.inl z);exact .inr (.inr z))
  rcases l with ⟨l,_⟩|⟨_,c,e,z⟩
  ·rcases kx with z|z
   ·rw [l] at z;cases z
   ·rw [l] at z;cases z
  ·obtain ⟨c',e',e2⟩:=cK.free y q
   rw [e] at e2;cases e2
   obtain ⟨o,ho,hd⟩:=z
   exact ⟨u,r,.inr ⟨kd,c,e',o,hk _ _ ho,hd⟩⟩
 ·rcases cK.old y c h with z|z
  ·obtain ⟨v,o,ho,hd⟩:=I.cell y c z
   exact ⟨v,o,hk _ _ ho,hd⟩
  ·exact z.2
 ·have hp':p∈X.pn++pins:=by
   rcases KQ.mp hp with z|z
   ·exact z
   ·cases z
  obtain ⟨e,n,ne,nf,d⟩:=I.pin p hp'
  exact ⟨hk _ _ e,n,K6 (Ku e),stk p.1 ne nf,d⟩
 ·show (σ++Vc k none).length=N'.length
  rw [Kp,VR,I.len,O.len]
theorem comp_back {pins:List (Kd×Obj)}{σ σ':St}{H H':Hp}{s s1:Kf}{cl:List (Str×Addr)}{fp:List Kd}{C:Kd}(I:Inv X pins σ H s)(hf:∀ b∈fp,FpOk X pins H b)
  (J:Inv (qJ X N' sc cl C fp pins s H) [] σ' H' s1):Inv X pins σ H' s1 :=
 I.call' (ch:=fp) J.os J.base J.hok J.bare fun b hb=>⟨(hf b hb).2.2.2.1,(hf b hb).2.1,(hf b hb).2.2.2.2.1,(hf b hb).2.2.2.2.2⟩
theorem Inv.track {pins:List (Kd×Obj)}{σ:St}{H:Hp}{s:Kf}{D:Kd}{o:HO}(I:Inv X pins σ H s)(hn:H D=none)(hL:D≠X.env.locals)(h1:D∈X.ex\/X.s₀.heap.objs.size<=D)(h2:∀ x c,X.env.cells.lookup x=some c->c≠D)(h3:∀ p∈X.pn++pins,p.1≠D)
  (ok:zK X.prog X.w (upd H D o) s.heap D o):Inv X pins σ (upd H D o) s:=by
 have ne:∀ b u,H b=some u->b≠D:=fun b u e=>qT e hn
 exact I.step (g':=s.gens) (d':=s.drawn) (t':=s.toks) (ch:=[D]) (h':=s.heap) (fun b hb=>by
   have e:b=D:=by simpa using hb
   subst e
   exact ⟨h1,hL,h2,h3⟩) (fun b o _ _ _ e _=>e) (fun b o _ _ _ e _=>⟨o.slots,e⟩) (fun b o hc e n=>by rw [qD (fun z=>hc (by simp [z]))];exact n) (fun b o _ e=>⟨o,e⟩)
  (fun b xs e=>by rw [qD (ne b _ e)];exact e) (fun b o u e=>by rw [qD (ne b _ e)];exact e) (fun b ps e=>⟨#[],by rw [qD (ne b _ e),e];simp⟩) (fun m hm=>hm) (fun b u e=>by
   by_cases hb:b=D
   ·subst hb;rw [qI] at e;cases e;exact ok
   ·rw [qD hb] at e
    exact (I.hok b u e).stay (fun c v _ q=>q) (fun c q=>by rw [qD (ne c _ q)];exact q) fun c xs q=>by rw [qD (ne c _ q)];exact q) I.bare
theorem qcq {pins:List (Kd×Obj)}{σ:St}{H:Hp}{s s':Kf}{cl:List (Str×Addr)}{fp:List Kd}{m:Str->Option Kb}{it D:Kd}{tn:Nat->KA->Prop}{J:It}{R:Result->Kf->Prop}{Qd:List V->Hp->Prop}(O:CompOk X N' k sc)
  (I:Inv X pins σ H s) (cK:ClOk X sc cl s.heap.objs.size s'.heap) (hf:∀ b∈D::fp,FpOk X pins H b) (hlt:∀ b∈D::fp,b<s.heap.objs.size)
  (hos:s'.os=s.os) (hg:s'.gens=s.gens) (hk:∀ b o,s.heap.get? b=some o->s'.heap.get? b=some o) (hns:s'.heap.Ns s.heap.objs.size m)
  (T:Turn X.prog X.w X.K tg J fp it tn) (hDf:D∉fp) (st:tn 0 s'.heap) (hD:s'.heap.PlainList D #[])
  (pg:PG (qJ X N' sc cl s.heap.objs.size (D::fp) pins s H) tg wg) (hq:PTs (qJ X N' sc cl s.heap.objs.size (D::fp) pins s H) ifs tt) (he:PE (qJ X N' sc cl s.heap.objs.size (D::fp) pins s H) elt te)
  (W:Nat->Nat->List V->St->Hp->Prop) (m0:Nat) (w0:W 0 m0 [] (σ++Vc k none) H) (turn:∀ i m ys σ' H',W i m ys σ' H'->(J.stop i H'/\Qd ys H')\/(J.go i H'/\qeU J wg tt te W i m ys σ' H'))
  (fin:∀ s1 H1 σ1 (ys:List V) (its:List Kb),Inv (qJ X N' sc cl s.heap.objs.size (D::fp) pins s H) [] σ1 H1 s1->H1 D=none->s1.heap.PlainList D its.toArray->Vals ys its->ys.length<=sizeLine->Qd ys H1->R (.ok .next) s1) :
  codeAny (model X.prog X.w) X.A (.compLoop (.ListComp elt [⟨tg,iter,ifs,0⟩] sc pos) 0 (.ref it) (.ref D) (compEnvC sc cl s.heap.objs.size X.env)) R s':=by
 have I0:Inv (qJ X N' sc cl s.heap.objs.size (D::fp) pins s H) [] (σ++Vc k none) H s':=qds O I cK hf hlt hos hg hk hns
 have stk:∀ b,b≠X.env.locals->b∉X.fs->b∉frs X.stack:=fun b h1 h2 hb=>by
  rcases Kq.mp (I.stkSub b hb) with z|z
  ·exact h1 z
  ·exact h2 z
 have stat:∀ {H':Hp},(∀ b∈D::fp,H' b=none)->∀ b∈D::fp,FpOk (qJ X N' sc cl s.heap.objs.size (D::fp) pins s H) [] H' b:=fun hn b hb =>
  ⟨hn b hb,K6 (hlt b hb),stk b (hf b hb).2.1 (hf b hb).2.2.1,.inl hb,fun z c e=>(cK.old z c e).elim ((hf b hb).2.2.2.2.1 z c) fun w=>Uo (EB (hlt b hb) w.1),fun p hp=>by
   have hp':p∈X.pn++pins:=by
    rcases KQ.mp hp with z|z
    ·exact z
    ·cases z
   exact (hf b hb).2.2.2.2.2 p hp'⟩
 have statF:∀ {H':Hp},(∀ b∈D::fp,H' b=none)->∀ b∈fp,FpOk (qJ X N' sc cl s.heap.objs.size (D::fp) pins s H) [] H' b:=fun hn b hb=>stat hn b (Vl _ hb)
 refine qaZ (fun kk s1=>∃ i ys its σ' H',Inv (qJ X N' sc cl s.heap.objs.size (D::fp) pins s H) [] σ' H' s1/\tn i s1.heap/\(∀ b∈D::fp,H' b=none)/\s1.heap.PlainList D its.toArray/\Vals ys its/\ys.length<=sizeLine/\W i kk ys σ' H') ?_ m0 ⟨0,[],[],σ++Vc k none,H,I0,st,fun b hb=>(hf b hb).1,hD,.nil,Vz _,w0⟩
 rintro kk s3 ⟨i,ys,its,σ3,H3,I3,st3,fr3,pl3,rv3,hz3,w3⟩
 rcases turn i kk ys σ3 H3 w3 with ⟨stop,qn⟩|⟨go,step⟩
 ·have J3:=I3.pinned (fp:=[D]) (fun b hb=>by
   have e:b=D:=by simpa using hb
   subst e
   exact stat fr3 b VJ) (fun b hb=>by
   have e:b=D:=by simpa using hb
   subst e
   obtain ⟨n,e⟩:=pl3
   exact ⟨_,e,fun v z=>by cases z⟩)
  have fpo:∀ b∈fp,FpOk (qJ X N' sc cl s.heap.objs.size (D::fp) pins s H) ([]++QS [D] s3.heap) H3 b:=fun b hb=>by
   obtain ⟨a1,a2,a3,a4,a5,a6⟩:=statF fr3 b hb
   refine ⟨a1,a2,a3,a4,a5,fun p hp=>?_⟩
   rcases KQ.mp hp with z|z
   ·exact a6 p (Vm _ z)
   ·have z':p∈QS [D] s3.heap:=by simpa using z
    have:=(JL z').1
    have e:p.1=D:=by simpa using this
    rw [e]
    intro z2
    subst z2
    exact hDf hb
  refine thn (T.done (qJ X N' sc cl s.heap.objs.size (D::fp) pins s H) rfl rfl rfl O.calm i _ s3 σ3 H3 _ J3 fpo st3 stop) fun r s4 ⟨hr,I4⟩=>?_
  subst hr
  obtain ⟨n,e⟩:=pl3
  have e4:=(I4.pin (D,_) (KP _ (KP _ (QJ (by simp) e)))).1
  exact fin s4 H3 σ3 ys its I4.unpinned (fr3 D VJ) ⟨n,e4⟩ rv3 hz3 qn
 ·have J3:=I3.pinned (fp:=[D]) (fun b hb=>by
   have e:b=D:=by simpa using hb
   subst e
   exact stat fr3 b VJ) (fun b hb=>by
   have e:b=D:=by simpa using hb
   subst e
   obtain ⟨n,e⟩:=pl3
   exact ⟨_,e,fun v z=>by cases z⟩)
  have fpo:∀ {H':Hp},(∀ b∈fp,H' b=none)->∀ b∈fp,FpOk (qJ X N' sc cl s.heap.objs.size (D::fp) pins s H) ([]++QS [D] s3.heap) H' b:=fun {H'} hn b hb=>by
   obtain ⟨_,a2,a3,a4,a5,a6⟩:=statF fr3 b hb
   refine ⟨hn b hb,a2,a3,a4,a5,fun p hp=>?_⟩
   rcases KQ.mp hp with z|z
   ·exact a6 p (Vm _ z)
   ·have z':p∈QS [D] s3.heap:=by simpa using z
    have:=(JL z').1
    have e:p.1=D:=by simpa using this
    rw [e]
    intro z2
    subst z2
    exact hDf hb
  refine thn (T.item (qJ X N' sc cl s.heap.objs.size (D::fp) pins s H) rfl rfl rfl O.calm i _ s3 σ3 H3 _ J3 (fpo fun b hb=>fr3 b (Vl _ hb)) st3 go) fun r s4 ⟨u,hr,h4⟩=>?_
  subst hr
  refine thn h4 fun _ s5 ⟨y,H5,I5,r5,y5,st5,fr5⟩=>?_
  have I5':=I5.pinned (fpo fr5) (T.obj _ _ st5)
  have step':=step y H5 y5
  obtain ⟨n3,e3⟩:=pl3
  have dpin:∀ {σ7:St} {H7:Hp} {s7:Kf},Inv (qJ X N' sc cl s.heap.objs.size (D::fp) pins s H) ([]++QS [D] s3.heap++QS fp s5.heap) σ7 H7 s7->s7.heap.get? D=some { cls:=.type "list", data:=.seq its.toArray n3 }/\H7 D=none:=fun {σ7 H7 s7} I7=>by
   have q:=I7.pin (D,_) (KP _ (Vm _ (KP _ (QJ (by simp) e3))))
   exact ⟨q.1,q.2.1⟩
  have tkeep:∀ {σ7:St} {H7:Hp} {s7:Kf},Inv (qJ X N' sc cl s.heap.objs.size (D::fp) pins s H) ([]++QS [D] s3.heap++QS fp s5.heap) σ7 H7 s7->tn (i+1) s7.heap/\∀ b∈D::fp,H7 b=none:=fun {σ7 H7 s7} I7=>by
   refine ⟨T.keep _ _ _ st5 fun b hb o e=>(I7.pin (b,o) (KP _ (KP _ (QJ hb e)))).1,fun b hb=>?_⟩
   rcases Kq.mp hb with rfl|hb
   ·exact (dpin I7).2
   ·obtain ⟨o,e,d⟩:=T.obj _ _ st5 b hb
    exact (I7.pin (b,o) (KP _ (KP _ (QJ hb e)))).2.1
  refine thF (pg _ s5 σ3 H5 y u _ I5' r5 step') fun _ s6 ⟨σ6,H6,I6,step6⟩=>?_
  refine thF (hq _ s6 _ H6 _ I6 step6) fun b s7 ⟨H7,I7,q7⟩=>?_
  cases b with
  | false =>
   simp only [VZ,if_false] at q7 ⊢
   obtain ⟨m',hm,w8⟩:=q7
   obtain ⟨t8,f8⟩:=tkeep I7
   exact ⟨m',hm,i+1,ys,its,_,H7,I7.unpinned.unpinned,t8,f8,⟨n3,(dpin I7).1⟩,rv3,hz3,w8⟩
  | true =>
   simp only [if_true] at q7 ⊢
   refine thF (he _ s7 _ H7 _ I7 q7) fun v s8 ⟨vv,H8,I8,r8,hz,m',hm,w8⟩=>?_
   have hlen:=rv3.length
   refine wpAny_list_append_plain ⟨n3,(dpin I8).1⟩ (fun h9 pl9 sb9=>?_) (by rw [Kt];omega)
   obtain ⟨t8,f8⟩:=tkeep I8
   have st8:=stat f8 D VJ
   have I9:Inv (qJ X N' sc cl s.heap.objs.size (D::fp) pins s H) [] σ6 H8 { s8 with heap:=h9 } :=
    I8.unpinned.unpinned.turned (t':=s8.toks) (fun b o hb e=>(sb9.2 b hb).trans e) st8.1 st8.2.1 st8.2.2.2.1 st8.2.2.2.2.1 st8.2.2.2.2.2
   refine ⟨m',hm,i+1,ys++[vv],its++[v],_,H8,I9,T.keep _ _ _ t8 fun b hb o e=>(sb9.2 b (fun z=>hDf (z ▸ hb))).trans e,f8,by simpa using pl9,rv3.append (.cons r8 .nil),?_,w8⟩
   rw [Kp,Kv]
   omega
theorem yH {E:Kb->Kf->Prop}{pins:List (Kd×Obj)}{σ:St}{H:Hp}{s:Kf}{cl:List (Str×Addr)}{fp:List Kd}{it:Kd}{tn:Nat->KA->Prop}{J:It}{RR:Kb->Kd->Result->Kf->Prop}{Qd:V->Hp->Prop}(O:CompOk X N' k sc)
  (I:Inv X pins σ H s) (hcl1:∀ y c,cl.lookup y=some c->X.env.cells.lookup y=some c) (hcl2:∀ y,(y,Vd)∈sc.names->∃ c,cl.lookup y=some c) (hf:∀ b∈fp,FpOk X pins H b)
  (T:Turn X.prog X.w X.K tg J fp it tn) (st:tn 0 s.heap)
  (hg:∀ cl C fp pins s H,PG (qJ X N' sc cl C fp pins s H) tg wg) (hq:∀ cl C fp pins s H,PTs (qJ X N' sc cl C fp pins s H) ifs tt) (he:∀ cl C fp pins s H,PE (qJ X N' sc cl C fp pins s H) elt te)
  (turn:qeV k J wg tt te σ H Qd)
  (fin:∀ D C s1 H1 m,Inv X pins σ H1 s1->s1.heap.Ns C m->H1 C=none->C≠X.env.locals->(X.s₀.heap.objs.size<=C)->(∀ z c,X.env.cells.lookup z=some c->c≠C)->(∀ p∈X.pn++pins,p.1≠C)->Qd (.ref D) H1->RR (.ref D) C (.ok .next) s1) :
  wpAny (model X.prog X.w) X.A (newList []) (fun acc s₃=>wpAny (model X.prog X.w) X.A (newFunctionEnv sc X.env.globals cl [] X.env.qual none .none (some X.env)) (fun cenv s₄ =>
   codeAny (model X.prog X.w) X.A (.compStart (.ListComp elt [⟨tg,iter,ifs,0⟩] sc pos) 0 (.ref it) acc { cenv with scope:=relabel sc X.env }) (RR acc cenv.locals) s₄) E s₃) E s:=by
 refine Up (qf0 ?_)
 dsimp only
 have hD:=I.hok.fresh (Km s.heap.objs.size)
 have I3:Inv X pins σ H { s with heap:=s.heap.push { cls:=.type "list", dict:=none,data:=.seq ([]:List Kb).toArray } } :=
  I.kept (t':=s.toks) (fun b u e=>Kk _ e)
 have fpl:∀ b∈fp,b<s.heap.objs.size:=fun b hb=>by
  obtain ⟨o,e,_⟩:=T.obj _ _ st b hb
  exact Ku e
 have fD:FpOk X pins H s.heap.objs.size:=I.fpOk (Km _) hD
 have hf3:∀ b∈s.heap.objs.size::fp,FpOk X pins H b:=fun b hb=>by
  rcases Kq.mp hb with rfl|hb
  ·exact fD
  ·exact hf b hb
 have eD:(s.heap.push { cls:=.type "list", dict:=none,data:=.seq ([]:List Kb).toArray }).get? s.heap.objs.size=some { cls:=.type "list", dict:=none,data:=.seq ([]:List Kb).toArray }:=K4 _ rfl
 generalize hH2:s.heap.push { cls:=.type "list", dict:=none,data:=.seq ([]:List Kb).toArray }=H2 at I3 eD ⊢
 have hC:H2.objs.size=s.heap.objs.size+1:=by rw [← hH2,Uy]
 have sz2:(H2.push { cls:=.type "dict", data:=.dict #[] }).objs.size=H2.objs.size+1:=Uy ..
 obtain ⟨a1,a2,a3,a4,a5⟩:=qdo H2.objs.size sc.names (H2.push { cls:=.type "dict", data:=.dict #[] }) cl (by omega) (fun y c e q=>by
  obtain ⟨v,z⟩:=I3.cell y c (hcl1 y c e)
  exact KS z.lt (by rw [sz2];exact Uk _)) (fun y z c q e1 e2=>I3.ok.inj y z c (hcl1 _ _ e1) (hcl1 _ _ e2))
 rw [sz2] at a1 a2 a3 a4 a5
 generalize hcl':cellsFrom (H2.objs.size+1) sc.names cl=cl' at a1 a2 a3 a4 a5 ⊢
 have old3:∀ b o,H2.get? b=some o->(pushCells (H2.push { cls:=.type "dict", data:=.dict #[] }) sc.names).get? b=some o:=fun b o e=>N2 _ _ _ _ (Kk _ e)
 have hns₁:(pushCells (H2.push { cls:=.type "dict", data:=.dict #[] }) sc.names).Ns H2.objs.size (fun _=>none):=(Heap.Ns.new H2 (.type "dict")).keeps (N2 _ _)
 have cK:ClOk X sc cl' H2.objs.size (pushCells (H2.push { cls:=.type "dict", data:=.dict #[] }) sc.names):=by
  have fr:∀ y,sc.names.lookup y=some .free->∃ c,cl'.lookup y=some c/\X.env.cells.lookup y=some c:=fun y e=>by
   obtain ⟨c,q⟩:=hcl2 y (V5 e)
   refine ⟨c,?_,hcl1 y c q⟩
   rw [a4 y fun z=>by have:=O.cells _ z rfl;rw [e] at this;cases this]
   exact q
  have ol:∀ y c,cl'.lookup y=some c->X.env.cells.lookup y=some c\/(H2.objs.size<c/\∃ v,(pushCells (H2.push { cls:=.type "dict", data:=.dict #[] }) sc.names).IsCell c v):=fun y c e=>by
   rcases a1 y c e with z|⟨z1,z2⟩
   ·exact .inl (hcl1 y c z)
   ·exact .inr ⟨by omega,none,z2⟩
  refine ⟨ol,fr,fun y e=>?_,fun y z c e1 e2=>?_⟩
  ·obtain ⟨c,q1,q2⟩:=a3 y (V5 e)
   exact ⟨c,q1,by omega⟩
  ·by_cases hc:H2.objs.size<=c
   ·exact a5 y z c hc e1 e2
   ·rcases ol y c e1 with q|q
    ·rcases ol z c e2 with r|r
     ·exact I3.ok.inj y z c q r
     ·omega
    ·omega
 generalize pushCells (H2.push { cls:=.type "dict", data:=.dict #[] }) sc.names=h₁ at *
 have old2:∀ b o,s.heap.get? b=some o->H2.get? b=some o:=fun b o e=>hH2 ▸ Kk _ e
 obtain ⟨W,⟨m0,w0⟩,tr⟩:=turn
 have st1:tn 0 h₁:=T.keep _ _ _ st fun b _ o e=>old3 b o (old2 b o e)
 have loop:codeAny (model X.prog X.w) X.A (.compLoop (.ListComp elt [⟨tg,iter,ifs,0⟩] sc pos) 0 (.ref it) (.ref s.heap.objs.size) (compEnvC sc cl' H2.objs.size X.env)) (RR (.ref s.heap.objs.size) H2.objs.size)
   { s with heap:=h₁ }:=by
  refine qcq (s:={ s with heap:=H2 }) (s':={ s with heap:=h₁ }) (Qd:=fun ys H'=>∀ D,H' D=none->Qd (.ref D) (upd H' D (.lst ys))) O I3 cK hf3 (fun b hb=>?_) rfl rfl old3 hns₁ T (fun z=>VS _ (fpl _ z)) st1 ⟨0,old3 _ _ eD⟩ (hg _ _ _ _ _ _) (hq _ _ _ _ _ _) (he _ _ _ _ _ _) W m0 w0 tr ?_
  ·show b<H2.objs.size
   rw [hC]
   rcases Kq.mp hb with hb|hb
   ·rw [hb];exact NO _
   ·exact UJ (fpl b hb)
  intro s1 H1 σ1 ys its J1 hD1 pl1 rv1 hz1 q1
  obtain ⟨m,hn1,_⟩:=J1.loc
  obtain ⟨n1,e1⟩:=pl1
  have I4:=(comp_back I3 hf3 J1).track (D:=s.heap.objs.size) (o:=.lst ys) hD1 fD.2.1 fD.2.2.2.1 fD.2.2.2.2.1 fD.2.2.2.2.2 ⟨hz1,its,n1,rv1,e1⟩
  refine fin _ _ s1 _ m I4 hn1 (by rw [qD (by show H2.objs.size≠s.heap.objs.size;omega)];exact J1.free) (Uo I3.lt) I3.sz (fun z c e h=>?_) (fun p hp h=>?_) (q1 _ hD1)
  ·obtain ⟨v,q⟩:=I3.cell z c e
   have:=q.lt
   rw [h] at this
   exact VS _ this
  ·have:=Ku (I3.pin p hp).1
   rw [h] at this
   exact VS _ this
 exact codeAny_compStart_list loop (T.self _ 0 _ _ _ st1 loop)
theorem qb3 (O:CompOk X N' k sc)(hi:PI X tg iter wi)(hg:∀ cl C fp pins s H,PG (qJ X N' sc cl C fp pins s H) tg wg)(hq:∀ cl C fp pins s H,PTs (qJ X N' sc cl C fp pins s H) ifs tt)(he:∀ cl C fp pins s H,PE (qJ X N' sc cl C fp pins s H) elt te)
  (hs:∀ v,foldedSetIterable iter X.env v=pure v:=by intro _;rfl):PE X (.ListComp elt [⟨tg,iter,ifs,0⟩] sc pos) (wJ k wi wg tt te):=by
 intro pins s σ H Q I h
 rw [eval_ListComp]
 obtain ⟨cl,hcl,hcl1,hcl2⟩:=yF (sc:=sc) (env:=X.env) (fun y hy hf=>I.ok.has y.1 (O.free y hy hf))
 refine wpAny_comprehension_free (use:=none) rfl hs hcl O.kind O.names ?_
 refine thn (hi pins s σ H _ I h) fun v s1 h1=>thn h1 fun itv s2 h2=>?_
 obtain ⟨it,fp,tn,J,H2,e,I2,T,st2,f2,q⟩:=h2
 subst e
 refine yH (RR:=fun acc C=>compPost (model X.prog X.w) X.A X.xe none (EP X pins σ Q) acc C) (Qd:=Q) O I2 hcl1 hcl2 f2 T st2 hg hq he q ?_
 intro D C s3 H3 m I3 hn3 hC3 hL hsz hcl3 hp3 q3
 exact ⟨m,hn3,fun h' sb=>⟨.ref D,H3,I3.turned (t':=s3.toks) (fun b o hb e=>(sb.2 b hb).trans e) hC3 hL (.inr hsz) hcl3 hp3,rfl,q3⟩⟩
theorem Wx {j:Nat}{y:Str}{py spos:Pos}(O:CompOk X N' k sc)(hj:X.N[j]?=some y)(hy:X.env.scope.names.lookup y=some .local)(hi:PI X tg iter wi)(hg:∀ cl C fp pins s H,PG (qJ X N' sc cl C fp pins s H) tg wg)(hq:∀ cl C fp pins s H,PTs (qJ X N' sc cl C fp pins s H) ifs tt)(he:∀ cl C fp pins s H,PE (qJ X N' sc cl C fp pins s H) elt te)
  (hsw:swapsWith (.ListComp elt [⟨tg,iter,ifs,0⟩] sc pos) (some (.Name y py)) spos.line X.env=pure true:=by rfl)
  (hs:∀ v,foldedSetIterable iter X.env v=pure v:=by intro _;rfl):PS X (.Assign [.Name y py] (.ListComp elt [⟨tg,iter,ifs,0⟩] sc pos) spos) (tAsg (wJ k wi wg tt te) (qbM j)):=by
 intro pins s σ H D I h
 rw [exec_Assign_Name_used _ _ _ _ hsw]
 refine Kg (Xk (Kg ?_))
 show wpAny _ X.A (do let _ ← comprehension (.ListComp elt [⟨tg,iter,ifs,0⟩] sc pos) sc X.env _ (newList []) false (eval iter X.env) (some (assign (.Name y py) X.env))) _ _ s
 obtain ⟨cl,hcl,hcl1,hcl2⟩:=yF (sc:=sc) (env:=X.env) (fun y hy hf=>I.ok.has y.1 (O.free y hy hf))
 refine Kg (Vk (wpAny_comprehension_free (use:=some (assign (.Name y py) X.env)) (Q:=fun _ s'=>SP X pins D .next s') rfl hs hcl O.kind O.names ?_) (fun _ s' hq=>Ks (Ks hq)) fun _ _ e=>e)
 refine thn (hi pins s σ H _ I h) fun v s1 h1=>thn h1 fun itv s2 h2=>?_
 obtain ⟨it,fp,tn,J,H2,e,I2,T,st2,f2,q⟩:=h2
 subst e
 refine yH (RR:=fun acc C=>compPost (model X.prog X.w) X.A X.xe (some (assign (.Name y py) X.env)) (fun _ s'=>SP X pins D .next s') acc C) (Qd:=fun x H1=>qbM j x σ H1 D.nx) O I2 hcl1 hcl2 f2 T st2 hg hq he q ?_
 intro B C s3 H3 m I3 hn3 hC3 hL hsz hcl3 hp3 q3
 refine wpAny_assign_Name (wI I3 O.nd hj (.inl hy) (v:=.ref B) rfl (fun s4 I4 ⟨a,sb,ha⟩=>?_) (.inr hy))
 have hCa:C≠a:=by
  rcases ha with ha|ha
  ·rw [ha];exact hL
  ·exact VY (hcl3 _ _ ha)
 refine ⟨m,hn3.sameBut sb hCa,fun h' sb'=>⟨_,H3,I4.turned (t':=s4.toks) (fun b o hb e=>(sb'.2 b hb).trans e) hC3 hL (.inr hsz) hcl3 hp3,q3⟩⟩
end
abbrev K2:=List (Int ⊕ List Int)
def k2D (k:Int ⊕ List Int):Ka:=match k with
 | .inl i=>.int i
 | .inr js=>.tuple (js.map .int)
def k2T (ks:K2):Ka:=.tuple (ks.map k2D)
def k2H (k:Int ⊕ List Int):Int:=match k with
 | .inl i=>hashInt i
 | .inr js=>reduceHash (Vt (js.map hashInt))
def k2N (k:Int ⊕ List Int):Nat:=match k with
 | .inl _=>1
 | .inr js=>js.length+1
theorem yc:∀ {a b:List Int},a.map Ky=b.map Ky->a=b
 | [],[],_=>rfl
 | [],_::_,e=>by simp at e
 | _::_,[],e=>by simp at e
 | x::xs,y::ys,e=>by
  rw [Kr,Kr] at e
  injection e with e1 e2
  injection e1 with e1
  rw [e1,yc e2]
theorem qfH {a b:Int ⊕ List Int}(e:k2D a=k2D b):a=b:=by
 cases a with
 | inl i=>cases b with
  | inl j=>injection (show Ky i=Ky j from e) with e;rw [e]
  | inr js=>cases (show Ky i=Vh _ from e)
 | inr is=>cases b with
  | inl j=>cases (show Vh _=Ky j from e)
  | inr js=>injection (show Vh (is.map .int)=Vh (js.map .int) from e) with e;rw [yc e]
theorem qaf:∀ {a b:K2},a.map k2D=b.map k2D->a=b
 | [],[],_=>rfl
 | [],_::_,e=>by simp at e
 | _::_,[],e=>by simp at e
 | x::xs,y::ys,e=>by
  rw [Kr,Kr] at e
  injection e with e1 e2
  rw [qfH e1,qaf e2]
theorem qfI {a b:K2}(e:k2T a=k2T b):a=b:=by
 injection (show Vh (a.map k2D)=Vh (b.map k2D) from e) with e
 exact qaf e
theorem qdl (ns:List Int):Kn (ns.map .int)=true/\KB (ns.map .int)=0:=by
 induction ns with
 | nil=>exact ⟨rfl,rfl⟩
 | cons n ns ih=>exact ⟨ih.1,by show max 0 (KB (ns.map .int))=0;rw [ih.2];rfl⟩
theorem qdm (ks:K2):Kn (ks.map k2D)=true/\KB (ks.map k2D)<=1:=by
 induction ks with
 | nil=>exact ⟨rfl,Vz _⟩
 | cons k ks ih =>
  have hk:(k2D k).canLay0=true/\(k2D k).depth<=1:=by
   cases k with
   | inl i=>exact ⟨rfl,Vz _⟩
   | inr js=>exact ⟨(qdl js).1,by show KB (js.map .int)+1<=1;rw [(qdl js).2];exact Km _⟩
  refine ⟨?_,?_⟩
  ·show ((k2D k).canLay0&&Kn (ks.map k2D))=true
   rw [hk.1,ih.1];rfl
  ·show max (k2D k).depth (KB (ks.map k2D))<=1
   exact Nat.max_le.mpr ⟨hk.2,ih.2⟩
theorem yh (ks:K2):(k2T ks).canLay0=true/\(k2T ks).depth<=2:=⟨(qdm ks).1,NN (qdm ks).2⟩
def Is2 (h:KA)(ks:K2)(a:Kd):Prop:=∃ as,U5 h (.ref a) (k2T ks) as
section
variable {prog:Kx}{w:KG}{A:KI}{E:Kb->Kf->Prop}{s:Kf}
def Jz (prog:Kx)(w:KG)(A:KI)(h:KA)(v:Kb)(p:Int×Nat):Prop :=
 ∀ (E:Kb->Kf->Prop) (s:Kf) (Q:Int->Kf->Prop),s.heap=h->Q p.1 { s with toks:=s.toks+p.2 }->wpAny (model prog w) A (pyHash v) Q E s
theorem qad {a:Kd}{o:Obj}{items:Array Kb}{n:Nat}{hs:List (Int×Nat)}{Q:Int->Kf->Prop}(hu:A.units<cLine)(ho:s.heap.get? a=some o)(hc:o.cls=.type "tuple")(hd:o.data=.seq items n)
  (hi:Vo (Jz prog w A.in1 s.heap) items.toList hs) (h:Q (reduceHash (Vt (hs.map (·.1)))) { s with toks:=s.toks+((hs.map (·.2)).sum+1) }):wpAny (model prog w) A (pyHash (.ref a)) Q E s:=by
 have hT:s.TypeIs (.ref a) "tuple" := ⟨o,ho,hc⟩
 unfold pyHash
 first|unfold pyHashByItsType|skip
 first|exact Kg (wpAny_cRoomFor_or (.inr hu) ?_)|skip
 first|refine Kg (wpAny_cRoomFor_or (.inr hu) (Kg (XW hT Xa.lookup ?_)))|refine Kg (XW hT Xa.lookup (id ?_))
 refine (id ?_:wpAny _ _ (if (some (KU "tuple.__hash__")==some VH)=true then _ else _) Q E s)
 rw [if_neg (fun z=>by rw [beq_builtin_none] at z;cases z)]
 refine Kg (XW hT Xa.lookup (id ?_:wpAny _ _ (callSpecialIfBoundUnlessNone? (.ref a) "__hash__" _ >>= _) Q E s))
 refine Kg (wpAny_callSpecialIfBoundUnlessNone?_slot hT Xa (XJ Xa hT F.entry_tuple_hash (?_:wpAny _ _ (Nl (.ref a) >>= _) _ _ s) (F.args_tuple_hash_1 _)))
 refine Kg (wpAny_tupleItemsOf ho hd (Kg ?_))
 rw [← Array.forIn_toList]
 refine NP _ (fun rest (b:Array Int) s'=>∃ done left,hs=done++left/\Vo (Jz prog w A.in1 s.heap) rest left/\b.toList=done.map (·.1)/\s'={ s with toks:=s.toks+(done.map (·.2)).sum }) _ ?_ ?_ _ _ ⟨[],hs,rfl,hi,rfl,rfl⟩
 ·rintro x rest b s' ⟨done,left,rfl,hl,hb,rfl⟩
  cases hl with
  | @cons _ p _ ps h1 hl' =>
   refine Kg (h1 _ _ _ rfl ?_)
   first
    | exact Ks ⟨done++[p],ps,by simp,hl',by simp [hb],by simp [Nm]⟩
    | exact Kg (Ks (Ks ⟨done++[p],ps,by simp,hl',by simp [hb],by simp [Nm]⟩))
 ·rintro b s' ⟨done,left,rfl,hl,hb,rfl⟩
  cases hl
  rw [VN] at h
  refine (id ?_:wpAny _ _ (retInt (Vt b.toList)) _ _ _)
  rw [hb]
  refine wpAny_ret_mkInt (id ?_:wpAny _ _ (if (decide (-(2:Int) ^ 63<=Vt (done.map (·.1)))&&decide (Vt (done.map (·.1))<2 ^ 63))=true then _ else _) Q E _)
  unfold reduceHash at h
  by_cases hr:(decide (-(2:Int) ^ 63<=Vt (done.map (·.1)))&&decide (Vt (done.map (·.1))<2 ^ 63))=true
  ·rw [if_pos hr] at h ⊢
   exact Ks (by simpa [Nm] using h)
  ·rw [if_neg hr] at h ⊢
   exact Kg (wpAny_rule (Ks (by simpa [Nm] using h)))
theorem qac {h:KA}(i:Int)(t:Tok):Jz prog w A h (.int i t) (hashInt i,1):=fun _ _ _ _ q=>wpAny_pyHash_int q
theorem YZ {h:KA}:∀ {vs:List Kb} {ns:List Int} {as:List Kd},Ua h vs (ns.map .int) as->Vo (Jz prog w A h) vs (ns.map fun i=>(hashInt i,1))
 | _,[],_,r=>by cases r;exact .nil
 | _,n::ns,_,r=>by
  cases r with
  | cons a t=>cases a;exact .cons (qac _ _) (YZ t)
theorem qeR (ns:List Int):((ns.map fun i=>(hashInt i,1)).map (·.2)).sum=ns.length:=by
 induction ns with
 | nil=>rfl
 | cons n ns ih=>rw [Kr,Kr,List.sum_cons,ih,KM];omega
theorem qcx {h:KA}{v:Kb}{k:Int ⊕ List Int}{as:List Kd}(hu:A.units<cLine)(r:U5 h v (k2D k) as):Jz prog w A h v (k2H k,k2N k):=by
 cases k with
 | inl i =>
  cases (show U5 h v (.int i) as from r)
  exact qac _ _
 | inr js =>
  cases (show U5 h v (.tuple (js.map .int)) as from r) with
  | tuple h1 h2 h3 h4 =>
   intro E s Q e q
   subst e
   refine qad hu h1 h2 h3 (YZ h4) ?_
   have e:(js.map fun i=>(hashInt i,1)).map (·.1)=js.map hashInt:=by rw [VG];rfl
   rw [e,qeR]
   exact q
theorem J7 {h:KA}(hu:A.units<cLine):∀ {vs:List Kb} {ks:K2} {as:List Kd},Ua h vs (ks.map k2D) as->Vo (Jz prog w A h) vs (ks.map fun k=>(k2H k,k2N k))
 | _,[],_,r=>by cases r;exact .nil
 | _,k::ks,_,r=>by
  cases r with
  | cons a t=>exact .cons (qcx hu a) (J7 hu t)
theorem qb8 {n:Nat}{h:KA}{v:Kb}{as:List Kd}{i:Int}(r:U5 h v (.int i) as):eqIsQuiet n v=pure true:=by
 cases r
 cases n<;>rfl
theorem wG {m:Nat}{a:Kd}{o:Obj}{items:Array Kb}{n:Nat}{Q:Bool->Kf->Prop}(ho:s.heap.get? a=some o)(hc:o.cls=.type "tuple")(hd:o.data=.seq items n)
  (hi:∀ v∈items.toList,∀ Q':Bool->Kf->Prop,Q' true s->wpAny (model prog w) A (eqIsQuiet m v) Q' E s) (h:Q true s):wpAny (model prog w) A (eqIsQuiet (m+1) (.ref a)) Q E s:=by
 have hT:s.TypeIs (.ref a) "tuple" := ⟨o,ho,hc⟩
 unfold eqIsQuiet
 refine Kg (XW hT F.slot_tuple_eq.lookup (?_:wpAny _ _ (isInstance (.ref a) (.type "tuple") >>= _) _ _ s))
 refine Kg (wpAny_isInstance hT isSubtype_tuple_tuple (id ?_))
 simp only [Et,if_false,VZ]
 refine Kg (X5 ho hd (Kg (?_:wpAny _ _ (forIn items _ _) _ _ s)))
 rw [← Array.forIn_toList]
 refine NP _ (fun rest r s'=>r.1=none/\s'=s/\∀ v∈rest,∀ Q':Bool->Kf->Prop,Q' true s->wpAny (model prog w) A (eqIsQuiet m v) Q' E s) _ ?_ ?_ _ _ ⟨rfl,rfl,hi⟩
 ·rintro v rest r s' ⟨hr,rfl,hall⟩
  refine Kg (hall v VJ _ ?_)
  simp only [Et,if_false,VZ]
  exact Ks ⟨rfl,rfl,fun u hu'=>hall u (Vl _ hu')⟩
 ·rintro ⟨r1,r2⟩ s' ⟨hr,rfl,_⟩
  simp only at hr
  subst hr
  exact Ks h
theorem Zv {h:KA}:∀ {vs:List Kb} {ds:List Ka} {as:List Kd},Ua h vs ds as->∀ v∈vs,∃ d∈ds,∃ bs,U5 h v d bs
 | _,_,_,.nil,v,hv=>by cases hv
 | _,_,_,.cons r t,v,hv=>by
  rcases Kq.mp hv with rfl|hv
  ·exact ⟨_,.head _,_,r⟩
  ·obtain ⟨d,hd,bs,q⟩:=Zv t v hv
   exact ⟨d,.tail _ hd,bs,q⟩
theorem Is2.quiet {ks:K2}{a:Kd}{Q:Bool->Kf->Prop}(x:Is2 s.heap ks a)(h:Q true s):wpAny (model prog w) A (eqIsQuiet 8 (.ref a)) Q E s:=by
 obtain ⟨as,r⟩:=x
 cases r with
 | tuple h1 h2 h3 h4 =>
  refine wG h1 h2 h3 (fun v hv Q' q=>?_) h
  obtain ⟨d,hd,bs,rv⟩:=Zv h4 v hv
  obtain ⟨k,_,rfl⟩:=VB.mp hd
  cases k with
  | inl i=>rw [qb8 (show U5 s.heap v (.int i) bs from rv)];exact Ks q
  | inr js =>
   cases (show U5 s.heap v (.tuple (js.map .int)) bs from rv) with
   | tuple g1 g2 g3 g4 =>
    refine wG g1 g2 g3 (fun u hu Q2 q2=>?_) q
    obtain ⟨d,hd,cs,ru⟩:=Zv g4 u hu
    obtain ⟨i,_,rfl⟩:=VB.mp hd
    rw [qb8 ru]
    exact Ks q2
theorem Is2.inj {h:KA}{a:Kd}{x y:K2}(hx:Is2 h x a)(hy:Is2 h y a):x=y:=by
 obtain ⟨as,r⟩:=hx
 obtain ⟨bs,q⟩:=hy
 exact qfI (SeqAt.Reads.unique _ _ _ _ _ (yh x).1 r q)
theorem Jq {h h':KA}{d:Kd}(k:∀ b o,b≠d->h.get? b=some o->h'.get? b=some o):∀ {vs:List Kb} {ns:List Int} {as:List Kd},Ua h vs (ns.map .int) as->Ua h' vs (ns.map .int) as
 | _,[],_,r=>by cases r;exact .nil
 | _,n::ns,_,r=>by
  cases r with
  | cons a t=>cases a;exact .cons (.int _ _) (Jq k t)
theorem Is2.keeps {h h':KA}{ks:K2}{a d:Kd}{o:Obj}{es:Array Xd}{ep:Nat}(x:Is2 h ks a)(ho:h.get? d=some o)(hd:o.data=.dict es ep)(hs:NG d h h'):Is2 h' ks a:=by
 have k:∀ b o,b≠d->h.get? b=some o->h'.get? b=some o:=fun b o hb e=>(hs.2 b hb).trans e
 have ne:∀ {b:Kd} {ob:Obj} {items:Array Kb} {n:Nat},h.get? b=some ob->ob.data=.seq items n->b≠d:=fun e q z=>by
  subst z
  rw [ho] at e
  cases e
  rw [hd] at q
  cases q
 have item:∀ {vs:List Kb} {ks:K2} {as:List Kd},Ua h vs (ks.map k2D) as->Ua h' vs (ks.map k2D) as:=by
  intro vs ks
  induction ks generalizing vs with
  | nil=>intro as r;cases r;exact .nil
  | cons k1 ks ih =>
   intro as r
   cases r with
   | cons a t =>
    refine .cons ?_ (ih t)
    cases k1 with
    | inl i=>cases (show U5 h _ (.int i) _ from a);exact .int _ _
    | inr js =>
     cases (show U5 h _ (.tuple (js.map .int)) _ from a) with
     | tuple g1 g2 g3 g4=>exact .tuple (k _ _ (ne g1 g3) g1) g2 g3 (Jq k g4)
 obtain ⟨as,r⟩:=x
 cases r with
 | tuple h1 h2 h3 h4=>exact ⟨_,.tuple (k _ _ (ne h1 h3) h1) h2 h3 (item h4)⟩
theorem W5:∀ a b:List Int,Kz (.tuple (a.map .int)) (.tuple (b.map .int))=decide (a=b)
 | [],[]=>rfl
 | [],_::_=>rfl
 | _::_,[]=>rfl
 | x::xs,y::ys=>by
  have:Kz (.tuple ((x::xs).map .int)) (.tuple ((y::ys).map .int))=((x==y)&&Kz (.tuple (xs.map .int)) (.tuple (ys.map .int))):=rfl
  rw [this,W5 xs ys,UG]
  simp
theorem qfr (a b:Int ⊕ List Int):Kz (k2D a) (k2D b)=decide (a=b):=by
 cases a with
 | inl i=>cases b with
  | inl j =>
   have:Kz (k2D (.inl i)) (k2D (.inl j))=(i==j):=rfl
   rw [this,UG]
   simp
  | inr js=>exact (decide_eq_false (fun z=>by cases z)).symm
 | inr is=>cases b with
  | inl j=>exact (decide_eq_false (fun z=>by cases z)).symm
  | inr js =>
   have:Kz (k2D (.inr is)) (k2D (.inr js))=Kz (.tuple (is.map .int)) (.tuple (js.map .int)):=rfl
   rw [this,W5,UG]
   simp
theorem wX:∀ a b:K2,Kz (k2T a) (k2T b)=decide (a=b)
 | [],[]=>rfl
 | [],_::_=>rfl
 | _::_,[]=>rfl
 | x::xs,y::ys=>by
  have:Kz (k2T (x::xs)) (k2T (y::ys))=(Kz (k2D x) (k2D y)&&Kz (k2T xs) (k2T ys)):=rfl
  rw [this,qfr,wX xs ys,UG]
  simp
end
def qdP (prog:Kx)(w:KG):HeapKind prog w K2 where
 is:=Is2
 hash:=fun ks=>reduceHash (Vt (ks.map k2H))
 draws:=fun ks=>((ks.map fun k=>(k2H k,k2N k)).map (·.2)).sum+1
 room:=fun A=>A.units+3<cLine
 inj:=fun hx hy=>hx.inj hy
 keeps:=fun x ho hd hs=>x.keeps ho hd hs
 pyHash:=fun {A E s k a Q} hu hk h=>by
  obtain ⟨as,r⟩:=hk
  cases r with
  | tuple h1 h2 h3 h4 =>
   have hu1:A.in1.units<cLine:=by show A.units+1<cLine;omega
   refine qad (by omega) h1 h2 h3 (J7 hu1 h4) ?_
   have e:(k.map fun x=>(k2H x,k2N x)).map (·.1)=k.map k2H:=by rw [VG];rfl
   rw [e]
   exact h
 eqBool:=fun {A E s x y a b Q} hu hx hy h=>by
  obtain ⟨as,r⟩:=hx
  obtain ⟨bs,q⟩:=hy
  refine NQ _ _ A s _ _ _ _ r q (yh x).1 (yh y).1 ?_ prog w E Q (by rw [wX];exact h)
  have:=(yh x).2
  have:=N3 (k2T x).depth (k2T y).depth
  omega
 quiet:=fun hk h=>hk.quiet h
def qhx (ks:K2):Int:=reduceHash (Vt (ks.map k2H))
abbrev KX:=Int ⊕ K2
def kxD (k:KX):Ka:=match k with
 | .inl i=>.int i
 | .inr ks=>k2T ks
def kxV (k:KX)(b:Kd):V:=match k with
 | .inl i=>.int i
 | .inr _=>.ref b
def kxI (k:KX):Bool:=match k with
 | .inl _=>true
 | .inr _=>false
def qdK:Ka->Bool
 | .int _=>true
 | _=>false
theorem qaR (k:KX):qdK (kxD k)=kxI k:=by cases k<;>rfl
theorem wY (a b:KX):Kz (kxD a) (kxD b)=decide (a=b):=by
 cases a with
 | inl i=>cases b with
  | inl j =>
   have:Kz (kxD (.inl i)) (kxD (.inl j))=(i==j):=rfl
   rw [this,UG]
   simp
  | inr js=>exact (decide_eq_false (fun z=>by cases z)).symm
 | inr is=>cases b with
  | inl j=>exact (decide_eq_false (fun z=>by cases z)).symm
  | inr js =>
   have:Kz (kxD (.inr is)) (kxD (.inr js))=Kz (k2T is) (k2T js):=rfl
   rw [this,wX,UG]
   simp
abbrev PkT (p:KX×Addr×V)(q:K2×Addr×Value):Prop:=p.1=.inr q.1/\p.2.1=q.2.1/\RelV p.2.2 q.2.2
abbrev PkI (p:KX×Addr×V)(q:Int×Value):Prop:=p.1=.inl q.1/\RelV p.2.2 q.2
abbrev EnI (e:Xd)(q:Int×Value):Prop:=e.hash=hashInt q.1/\(∃ t,e.key=.int q.1 t)/\e.val=q.2
def DctT (a:Kd)(kvs:List (KX×Addr×V))(ep:Nat)(h:KA):Prop :=
 ∃ xs:List (K2×Addr×Value),Vo PkT kvs xs/\∃ o es,h.get? a=some o/\o.ExactDict/\o.data=.dict es ep/\es.toList=xs.map (fun x=>(⟨qhx x.1,.ref x.2.1,x.2.2⟩:Xd))/\(xs.map (·.1)).Nodup
def DctI (a:Kd)(kvs:List (KX×Addr×V))(ep:Nat)(h:KA):Prop :=
 ∃ vs:List (Int×Value),Vo PkI kvs vs/\∃ o es,h.get? a=some o/\o.ExactDict/\o.data=.dict es ep/\Vo EnI es.toList vs/\(vs.map (·.1)).Nodup
def QD (a:Kd)(kvs:List (KX×Addr×V))(ep:Nat)(h:KA):Prop :=
 kvs.length<=sizeLine/\(a==sysModules)=false/\(DctT a kvs ep h\/DctI a kvs ep h)
def DctO (a:Kd)(kvs:List (KX×Addr×V))(ep:Nat):HO:=.ext (QD a kvs ep)
theorem QD.ok {P:Kx}{w:KG}{H:Hp}{h:KA}{a:Kd}{kvs:List (KX×Addr×V)}{ep:Nat}(d:QD a kvs ep h):zK P w H h a (DctO a kvs ep):=by
 refine ⟨d,?_,fun h1 h2 ⟨z,y,e⟩ k=>⟨z,y,e.imp (fun ⟨xs,r,o,es,g1,g2⟩=>⟨xs,r,o,es,k o g1,g2⟩) fun ⟨xs,r,o,es,g1,g2⟩=>⟨xs,r,o,es,k o g1,g2⟩⟩⟩
 obtain ⟨_,_,⟨_,_,o,_,g1,_⟩|⟨_,_,o,_,g1,_⟩⟩:=d
 ·exact ⟨o,g1⟩
 ·exact ⟨o,g1⟩
theorem QD.of {P:Kx}{w:KG}{H:Hp}{h:KA}{a:Kd}{kvs:List (KX×Addr×V)}{ep:Nat}(x:zK P w H h a (DctO a kvs ep)):QD a kvs ep h:=x.1
def dkv (kvs:List (KX×Addr×V))(ds:List Ka):List (Ka×PyData):=(kvs.map fun p=>kxD p.1).zip ds
theorem qdz {kvs:List (KX×Addr×V)}{ds:List Ka}(h:kvs.length=ds.length):(dkv kvs ds).map (·.1)=kvs.map fun p=>kxD p.1:=by
 unfold dkv
 rw [List.map_fst_zip (by rw [Kh,h];exact Km _)]
theorem qet {kvs:List (KX×Addr×V)}{xs:List (K2×Addr×Value)}(r:Vo PkT kvs xs):Vals (kvs.map fun p=>kxV p.1 p.2.1) (xs.map fun x=>KW x.2.1)/\Vals (kvs.map (·.2.2)) (xs.map (·.2.2)):=by
 induction r with
 | nil=>exact ⟨.nil,.nil⟩
 | cons h t ih=>exact ⟨.cons (by dsimp only;rw [h.1,h.2.1];rfl) ih.1,.cons h.2.2 ih.2⟩
theorem qaw:∀ {kvs:List (KX×Addr×V)} {vs:List (Int×Value)} {es:List Xd},Vo PkI kvs vs->Vo EnI es vs->Vals (kvs.map fun p=>kxV p.1 p.2.1) (es.map (·.key))/\Vals (kvs.map (·.2.2)) (es.map (·.val))
 | _,_,_,.nil,.nil=>⟨.nil,.nil⟩
 | _,_,_,.cons h t,.cons g u=>by
  obtain ⟨i1,i2⟩:=qaw t u
  obtain ⟨_,⟨tk,g1⟩,g2⟩:=g
  exact ⟨.cons (by dsimp only;rw [h.1,g1];exact ⟨tk,rfl⟩) i1,.cons (by dsimp only;rw [g2];exact h.2) i2⟩
theorem QD.vals {h:KA}{a:Kd}{kvs:List (KX×Addr×V)}{ep:Nat}(d:QD a kvs ep h):∃ o es,h.get? a=some o/\o.ExactDict/\o.data=.dict es ep/\Vals (kvs.map fun p=>kxV p.1 p.2.1) (es.toList.map (·.key))/\Vals (kvs.map (·.2.2)) (es.toList.map (·.val)):=by
 obtain ⟨_,_,⟨xs,r,o,es,g1,g2,g3,g4,_⟩|⟨vs,r,o,es,g1,g2,g3,g4,_⟩⟩:=d
 ·refine ⟨o,es,g1,g2,g3,?_⟩
  rw [g4,VG,VG]
  exact qet r
 ·exact ⟨o,es,g1,g2,g3,qaw r g4⟩
theorem QD.tup {h:KA}{a:Kd}{kvs:List (KX×Addr×V)}{ep:Nat}(d:QD a kvs ep h)(hk:∀ p∈kvs,kxI p.1=false):DctT a kvs ep h:=by
 obtain ⟨_,_,d|⟨vs,r,o,es,g1,g2,g3,g4,g5⟩⟩:=d
 ·exact d
 ·cases r with
  | nil =>
   have he:es.toList=[]:=by cases h:es.toList with
    | nil=>rfl
    | cons=>rw [h] at g4;cases g4
   exact ⟨[],.nil,o,es,g1,g2,g3,he,Eh⟩
  | @cons p q _ _ h t =>
   have:=hk p (.head _)
   rw [h.1] at this
   cases this
theorem QD.int {h:KA}{a:Kd}{kvs:List (KX×Addr×V)}{ep:Nat}(d:QD a kvs ep h)(hk:∀ p∈kvs,kxI p.1=true):DctI a kvs ep h:=by
 obtain ⟨_,_,⟨xs,r,o,es,g1,g2,g3,g4,g5⟩|d⟩:=d
 ·cases r with
  | nil=>exact ⟨[],.nil,o,es,g1,g2,g3,by rw [g4];exact .nil,Eh⟩
  | @cons p q _ _ h t =>
   have:=hk p (.head _)
   rw [h.1] at this
   cases this
 ·exact d
def j7:List String:=["int", "bool", "tuple", "list", "str"]
def xcB (K:Kc)(C:Kd):Bool :=
 (V2 K C).isSome&&(KZ K (.ref C) "__getattribute__" == some (some (.builtin "BaseException.__getattribute__")))&&(KZ K (.ref C) "__getattr__" == some none)
 && (KZ K (.ref C) "__class__" == some (some (.builtin "object.__class__")))&&(VM K C (.type "object")==some true)&&(VM K C (.type "BaseException")==some true)
 && j7.all fun T=>Vb K (.ref C) (.type T)==some false
structure XcK (K:Kc)(C:Kd):Prop where
 cls:(V2 K C).isSome=true
 ga:KZ K (.ref C) "__getattribute__" = some (some (.builtin "BaseException.__getattribute__"))
 gt:KZ K (.ref C) "__getattr__" = some none
 cl:KZ K (.ref C) "__class__" = some (some (.builtin "object.__class__"))
 mo:VM K C (.type "object")=some true
 mb:VM K C (.type "BaseException")=some true
 ts:∀ T∈j7,Vb K (.ref C) (.type T)=some false
theorem jO {K:Kc}{C:Kd}(h:xcB K C=true):XcK K C:=by
 unfold xcB at h
 simp only [Ko,beq_iff_eq,KR] at h
 obtain ⟨⟨⟨⟨⟨⟨h1,h2⟩,h3⟩,h4⟩,h5⟩,h6⟩,h7⟩:=h
 exact ⟨h1,h2,h3,h4,h5,h6,h7⟩
section
variable {prog:Kx}{w:KG}{A:KI}{E:Kb->Kf->Prop}{s:Kf}{K:Kc}{x C:Kd}
def OfC (h:KA)(x C:Kd):Prop:=∃ o,h.get? x=some o/\o.cls=.ref C
theorem OfC.ty {h:KA}{M:Model}(I:OfC h x C):UD M h (typeOf (.ref x)) (.ref C):=by
 obtain ⟨o,h1,h2⟩:=I
 exact h2 ▸ (Xx h1).andThen .now
open PySem.W in
theorem j8 {M:Model}{nameV:Kb}{Q:Unit->Kf->Prop}(Z:XcK K C)(X:K.In s.heap)(I:OfC s.heap x C)(hq:Q () s) :
  wpAny M A (checkBuiltinCall "BaseException.__getattribute__" ⟨[.ref x,nameV],[]⟩) Q E s:=by
 obtain ⟨hh,g,d,t,os⟩:=s
 have hk:builtinKind "BaseException.__getattribute__" = some .slot:=by decide +kernel
 have hs:splitId "BaseException.__getattribute__" = some ("BaseException", "__getattribute__"):=by decide +kernel
 have L0:=I.ty (M:=M)
 have L1:=UR (M:=M) X Z.mb
 have ha:=F.args_bexc_ga (.ref x) nameV
 simp only [checkBuiltinCall,hk,hs]
 refine Kg ?_
 unfold isInstance
 repeat (first|with_reducible refine Looks.at (by assumption) ?_|wp_step)
 exact hq
open PySem.W in
theorem Yx {R:Result->Kf->Prop}(Z:XcK K C)(X:K.In s.heap)(I:OfC s.heap x C)(hq:R (.ok (.ret (.ref C))) s) :
  codeAny (model prog w) A (.call (.builtin "getset_descriptor.__get__") ⟨[.builtin "object.__class__", .ref x,.ref C],[]⟩) R s:=by
 obtain ⟨hh,g,d,t,os⟩:=s
 have hT5:(⟨hh,g,d,t,os⟩:Kf).TypeIs (.builtin "object.__class__") "getset_descriptor" := XO
 have L0:=I.ty (M:=model prog w)
 have L1:UD (model prog w) hh (isSubtype (.ref C) (.type (".".intercalate ("object.__class__".cutAt '.').dropLast))) true:=by
  rw [F.owner_object_class]
  exact UR (M:=model prog w) X Z.mo
 refine UM Eu.plain F.entry_gs_get (Eu.check _ _ _ _ _ _ _ _ hT5 (F.args_gs_get _ _ _) ?_)
 repeat (any_goals (first|assumption|with_reducible refine Looks.at (by assumption) ?_|wp_step))
 refine ⟨Code.quiet_builtin _ (by decide +kernel),U6 F.entry_object_class ?_⟩
 repeat (any_goals (first|assumption|with_reducible refine Looks.at (by assumption) ?_|wp_step))
open PySem.W in
theorem yf {tk:Tok}{Q:Fin->Kf->Prop}(Z:XcK K C)(X:K.In s.heap)(I:OfC s.heap x C)(hq:Q (.done (.ret (.ref C))) s) :
  wpAny (model prog w) A (UZ.«object.__getattribute__» ⟨[.ref x,.str "__class__" tk],[]⟩) Q E s:=by
 obtain ⟨hh,g,d,t,os⟩:=s
 have hT5:(⟨hh,g,d,t,os⟩:Kf).TypeIs (.builtin "object.__class__") "getset_descriptor" := XO
 have L0:=I.ty (M:=model prog w)
 have L1:=Uz (M:=model prog w) X Z.cl
 have f5:=XO;have f6:=Eu.lookup;have f7:=F.slot_gs_set.lookup
 repeat (any_goals (first|assumption|with_reducible refine Looks.at (by assumption) ?_|wp_step))
 refine Yx Z X I ?_
 repeat (any_goals (first|assumption|wp_step))
open PySem.W in
theorem wZ {tk:Tok}{Q:Kb->Kf->Prop}(Z:XcK K C)(X:K.In s.heap)(I:OfC s.heap x C)(hq:Q (.ref C) s) :
  wpAny (model prog w) A (getAttrBy (.ref x) (.str "__class__" tk) false) Q E s:=by
 obtain ⟨hh,g,d,t,os⟩:=s
 have L0:=I.ty (M:=model prog w)
 have L1:=Uz (M:=model prog w) X Z.ga
 have L2:=Uz (M:=model prog w) X Z.gt
 have f3:=Xh.ga.bind (.ref x)
 have hx2:(KU "BaseException.__getattribute__" == KU "object.__getattribute__")=false:=by decide +kernel
 have hx1:(onTheHeap (KW C)&&KU "BaseException.__getattribute__" == KU "object.__getattribute__")=false:=by rw [hx2];exact Ei _
 repeat (any_goals (first|assumption|with_reducible refine Looks.at (by assumption) ?_|wp_step))
 refine UM Xh.ga.plain F.entry_bexc_ga (j8 Z X I (yf Z X I ?_))
 repeat (any_goals (first|assumption|wp_step))
open PySem.W in
theorem qcu {Q:Option Kb->Kf->Prop}(Z:XcK K C)(X:K.In s.heap)(I:OfC s.heap x C)(hq:Q (some (.ref C)) { s with toks:=s.toks+1 }) :
  wpAny (model prog w) A (getAttr? (.ref x) "__class__") Q E s:=by
 obtain ⟨hh,g,d,t,os⟩:=s
 unfold getAttr? getAttrBy?
 refine Kg (wpAny_mkText (Kg (wpAny_attempt (wZ (s:=⟨hh,g,d,t+1,os⟩) Z X I ?_))))
 exact Ks hq
end
open PySem.W in
theorem Yb {K:Kc}{a C:Kd}(Z:XcK K C):KitX K (.ref a) (.ref C) (fun h=>OfC h a C) where
 ty:=fun _ _ _ I=>I.ty
 it:=fun _ _ X _=>by
  have z:=Z.cls
  unfold clsIn at z
  split at z
  ·rename_i c' d' cd' sl' ho
   intro A' Q' E' s' k q;unfold isType loadHead
   exact Kg (wpAny_loadPart (k _ _ (X _ _ ho)) (Ks q))
  ·cases z
 ne:=fun h tp dd its n sl X htp=>by
  have z:=Z.cls
  refine XB.mpr fun q=>?_
  have e:C=tp:=Value.ref.inj (beq_iff_eq.mp q)
  subst e;unfold clsIn at z
  split at z
  ·rename_i c' d' cd' sl' ho
   have y:=(X _ _ ho).symm.trans htp
   cases y
  ·cases z
 ca:=fun X I k=>qcu Z X I k
def icB (K:Kc)(C:Kd):Bool :=
 NH K C Ey&&EG K C&&EH K C&&(KZ K (.ref C) "__setattr__" == some (some (.builtin "object.__setattr__")))
 && (KZ K (.ref C) "__class__" == some (some (.builtin "object.__class__")))&&(U9 K (.builtin "object.__class__") "__get__" == some (some (.builtin "getset_descriptor.__get__")))
 && (N1 K (.builtin "object.__class__")==some true)&&(VM K C (.type "object")==some true)&&j7.all fun T=>Vb K (.ref C) (.type T)==some false
structure IcK (K:Kc)(C:Kd):Prop where
 cl:Cls K C
 ha:KZ K (.ref C) "__class__" = some (some (.builtin "object.__class__"))
 hn:U9 K (.builtin "object.__class__") "__get__" = some (some (.builtin "getset_descriptor.__get__"))
 tk:N1 K (.builtin "object.__class__")=some true
 mo:VM K C (.type "object")=some true
 ts:∀ T∈j7,Vb K (.ref C) (.type T)=some false
theorem qdI {K:Kc}{C:Kd}(h:icB K C=true):IcK K C:=by
 unfold icB at h
 simp only [Ko,beq_iff_eq,KR] at h
 obtain ⟨⟨⟨⟨⟨⟨⟨⟨h1,h2⟩,h3⟩,h4⟩,h5⟩,h6⟩,h7⟩,h8⟩,h9⟩:=h
 exact ⟨⟨h1,h2,h3,h4⟩,h5,h6,h7,h8,h9⟩
theorem IcK.ty {K:Kc}{H:Hp}{a C dx:Kd}{fs:List (Str×V)}(Z:IcK K C)(e:H a=some (.ins C dx fs)):TyOf K H (.ref a) (.ref C):=.ins e Z.cl Z.ha Z.hn Z.tk Z.mo
abbrev Av:=Kd->Prop
def Z9:HO->Bool
 | .lst _=>true
 | .dK _=>true
 | .dT _=>true
 | .ext _=>true
 | _=>false
def Dm (S:Av)(H:Hp):Prop:=∀ a,S a->∃ o,H a=some o/\Z9 o=true
def Off (S:Av)(H H':Hp):Prop:=∀ b o,¬ S b->H b=some o->H' b=some o
def KqL (K:Kc)(a:Kd)(xs:List V):Prop:=∃ (o:Obj) (its:Array Kb) (n:Nat),K.lookup a=some o/\o.cls=.type "list"/\o.dict=none/\o.data=.seq its n/\its.size<=sizeLine/\Vals xs its.toList
def SqLS (K:Kc)(H:Hp)(S:Av)(a:Kd)(xs:List V):Prop:=(Rd H a (.lst xs)/\¬ S a)\/KqL K a xs
def ExcO (K:Kc)(o:Obj)(c:Str):Prop:=∃ C vs,o.cls=.ref C/\o.data=.fields vs/\KF K mainGlobals c=some (some (.ref C))/\xcB K C=true
def excD (c:Str)(d:Ka):Ka:=.dict [(.str c,d),(.int 0,.none)]
def excK:List (Ka×PyData)->Bool
 | (.str _,_)::_=>true
 | _=>false
theorem W6 {kvs:List (KX×Addr×V)}{ds:List Ka}:excK (dkv kvs ds)=false:=by
 cases kvs with
 | nil=>rfl
 | cons p ps =>
  cases ds with
  | nil=>rfl
  | cons d ds=>obtain ⟨k|k,_⟩:=p<;>rfl
def objD (c:Str):Ka:=.dict [(.str c,.none),(.int 1,.none)]
mutual
inductive Den (K:Kc)(H:Hp)(S:Av):V->Ka->Prop
 | none:Den K H S .non .none
 | bool (b:Bool):Den K H S (.bl b) (.bool b)
 | int (i:Int):Den K H S (.int i) (.int i)
 | str (x:Str):Den K H S (.str x) (.str x)
 | list {a:Kd} {xs:List V} {ds:List Ka}:SqLS K H S a xs->DenL K H S xs ds->Den K H S (.ref a) (.list ds)
 | tuple {a:Kd} {xs:List V} {ds:List Ka}:SqT K H a xs->DenL K H S xs ds->Den K H S (.ref a) (.tuple ds)
 | dict {a:Kd} {kvs:List (KX×Addr×V)} {ep:Nat} {ds:List Ka}:(H a=some (DctO a kvs ep)/\¬ S a)->DenL K H S (kvs.map fun p=>kxV p.1 p.2.1) (kvs.map fun p=>kxD p.1)->DenL K H S (kvs.map (·.2.2)) ds->Den K H S (.ref a) (.dict (dkv kvs ds))
 | exc0 {a:Kd} {o:Obj} {c:Str}:H a=some (.frz o (.own a))->ExcO K o c->Den K H S (.ref a) (excD c .none)
 | exc1 {a dx:Kd} {o:Obj} {c n:Str} {v:V} {d:Ka}:H a=some (.frz o (.own a))->ExcO K o c->o.dict=some dx->H dx=some (.xd [(n,v)])->Den K H S v d->Den K H S (.ref a) (excD c (.tuple [.str n,d]))
 | ins {a dx C:Kd} {c:Str}:H a=some (.ins C dx [])->(KF K mainGlobals c=some (some (.ref C))/\icB K C=true)->Den K H S (.ref a) (objD c)
inductive DenL (K:Kc)(H:Hp)(S:Av):List V->List Ka->Prop
 | nil:DenL K H S [] []
 | cons {x:V} {d:Ka} {xs:List V} {ds:List Ka}:Den K H S x d->DenL K H S xs ds->DenL K H S (x::xs) (d::ds)
end
mutual
def flat:Ka->Bool
 | .none=>true
 | .bool _=>true
 | .int _=>true
 | .str _=>true
 | .list _=>false
 | .tuple ds=>j9 ds
 | .dict _=>false
def j9:List Ka->Bool
 | []=>true
 | d::ds=>flat d&&j9 ds
end
section
variable {K:Kc}{H H':Hp}{S S':Av}
theorem SqLS.sq {a:Kd}{xs:List V}(h:SqLS K H S a xs):SqL K H a xs:=h.imp (·.1) id
theorem SqLS.new {a:Kd}{xs:List V}(h:H a=some (.lst xs))(n:¬ S a):SqLS K H S a xs:=.inl ⟨.inl h,n⟩
theorem Dm.free {p:Kd}(m:Dm S H)(h:H p=none):¬ S p:=fun q=>by
 obtain ⟨o,e,_⟩:=m p q
 rw [h] at e;cases e
theorem Dm.same (e:Same H H')(m:Dm S H):Dm S H':=fun a q=>by
 obtain ⟨o,h,w⟩:=m a q
 exact ⟨o,e a o h,w⟩
theorem Dm.sub (m:Dm S H)(h:∀ a,S' a->S a):Dm S' H:=fun a q=>m a (h a q)
theorem Dm.tup {a:Kd}{xs:List V}(m:Dm S H)(h:Rd H a (.tup xs)):¬ S a:=fun q=>by
 obtain ⟨o,e,w⟩:=m a q
 rcases h with h|⟨u,h⟩
 ·rw [h] at e;cases e;cases w
 ·rw [h] at e;cases e;cases w
theorem Dm.not {a:Kd}{u:HO}(m:Dm S H)(h:H a=some u)(n:Z9 u=false):¬ S a:=fun q=>by
 obtain ⟨o,e,w⟩:=m a q
 rw [h] at e;cases e;rw [n] at w;cases w
theorem Rd.off {a:Kd}{o:HO}(e:Off S H H')(n:¬ S a)(h:Rd H a o):Rd H' a o:=by
 rcases h with h|⟨u,h⟩
 ·exact .inl (e _ _ n h)
 ·exact .inr ⟨u,e _ _ n h⟩
theorem Rd.dom {a:Kd}{o:HO}(h:Rd H a o):H a≠none:=by
 rcases h with h|⟨u,h⟩<;>(rw [h];exact fun z=>nomatch z)
theorem Same.off (e:Same H H'):Off S H H':=fun b o _ h=>e b o h
theorem SqT.upd {a p:Kd}{o:HO}{xs:List V}(h:SqT K H a xs)(hn:H p=none):SqT K (upd H p o) a xs:=by
 rcases h with (h|⟨o',h⟩)|h
 ·exact .inl (.inl (by rw [qD (qT h hn)];exact h))
 ·exact .inl (.inr ⟨o',by rw [qD (qT h hn)];exact h⟩)
 ·exact .inr h
theorem Same.sqT {a:Kd}{xs:List V}(e:Same H H')(h:SqT K H a xs):SqT K H' a xs:=by
 rcases h with (h|⟨o,h⟩)|h
 ·exact .inl (.inl (e _ _ h))
 ·exact .inl (.inr ⟨o,e _ _ h⟩)
 ·exact .inr h
theorem Same.lay {p:Kd}{o:HO}(hn:H p=none):Same H (L2.upd H p o):=fun b u q=>by rw [qD (qT q hn)];exact q
theorem Same.lay' {H0:Hp}{p:Kd}{o:HO}(e:Same H0 H)(hn:H p=none):Same H0 (L2.upd H p o):=e.trans (Same.lay hn)
mutual
theorem Den.off (m:Dm S H)(e:Off S H H'):∀ {v:V} {d:Ka},Den K H S v d->Den K H' S v d
 | _,_,.none=>.none
 | _,_,.bool b=>.bool b
 | _,_,.int i=>.int i
 | _,_,.str x=>.str x
 | _,_,.list h t=>.list (h.imp (fun q=>⟨q.1.off e q.2,q.2⟩) id) (DenL.off m e t)
 | _,_,.tuple h t=>.tuple (h.imp (fun q=>q.off e (m.tup q)) id) (DenL.off m e t)
 | _,_,.dict h k t=>.dict ⟨e _ _ h.2 h.1,h.2⟩ (DenL.off m e k) (DenL.off m e t)
 | _,_,.exc0 h o=>.exc0 (e _ _ (m.not h rfl) h) o
 | _,_,.exc1 h o x y t=>.exc1 (e _ _ (m.not h rfl) h) o x (e _ _ (m.not y rfl) y) (Den.off m e t)
 | _,_,.ins h o=>.ins (e _ _ (m.not h rfl) h) o
theorem DenL.off (m:Dm S H)(e:Off S H H'):∀ {vs:List V} {ds:List Ka},DenL K H S vs ds->DenL K H' S vs ds
 | _,_,.nil=>.nil
 | _,_,.cons h t=>.cons (Den.off m e h) (DenL.off m e t)
end
mutual
theorem Den.same (e:Same H H'):∀ {v:V} {d:Ka},Den K H S v d->Den K H' S v d
 | _,_,.none=>.none
 | _,_,.bool b=>.bool b
 | _,_,.int i=>.int i
 | _,_,.str x=>.str x
 | _,_,.list h t=>.list (h.imp (fun q=>⟨q.1.off (S:=S) e.off q.2,q.2⟩) id) (DenL.same e t)
 | _,_,.tuple h t=>.tuple (e.sqT h) (DenL.same e t)
 | _,_,.dict h k t=>.dict ⟨e _ _ h.1,h.2⟩ (DenL.same e k) (DenL.same e t)
 | _,_,.exc0 h o=>.exc0 (e _ _ h) o
 | _,_,.exc1 h o x y t=>.exc1 (e _ _ h) o x (e _ _ y) (Den.same e t)
 | _,_,.ins h o=>.ins (e _ _ h) o
theorem DenL.same (e:Same H H'):∀ {vs:List V} {ds:List Ka},DenL K H S vs ds->DenL K H' S vs ds
 | _,_,.nil=>.nil
 | _,_,.cons h t=>.cons (Den.same e h) (DenL.same e t)
end
mutual
theorem Den.sub (e:∀ a,H a≠none->S' a->S a):∀ {v:V} {d:Ka},Den K H S v d->Den K H S' v d
 | _,_,.none=>.none
 | _,_,.bool b=>.bool b
 | _,_,.int i=>.int i
 | _,_,.str x=>.str x
 | _,_,.list h t=>.list (h.imp (fun q=>⟨q.1,fun z=>q.2 (e _ q.1.dom z)⟩) id) (DenL.sub e t)
 | _,_,.tuple h t=>.tuple h (DenL.sub e t)
 | _,_,.dict h k t=>.dict ⟨h.1,fun z=>h.2 (e _ (by rw [h.1];exact fun y=>nomatch y) z)⟩ (DenL.sub e k) (DenL.sub e t)
 | _,_,.exc0 h o=>.exc0 h o
 | _,_,.exc1 h o x y t=>.exc1 h o x y (Den.sub e t)
 | _,_,.ins h o=>.ins h o
theorem DenL.sub (e:∀ a,H a≠none->S' a->S a):∀ {vs:List V} {ds:List Ka},DenL K H S vs ds->DenL K H S' vs ds
 | _,_,.nil=>.nil
 | _,_,.cons h t=>.cons (Den.sub e h) (DenL.sub e t)
end
mutual
theorem Den.flat:∀ {v:V} {d:Ka},L2.flat d=true->Den K H S v d->Den K H S' v d
 | _,_,_,.none=>.none
 | _,_,_,.bool b=>.bool b
 | _,_,_,.int i=>.int i
 | _,_,_,.str x=>.str x
 | _,_,f,.list h t=>by cases f
 | _,_,f,.tuple h t=>.tuple h (DenL.flat (by rw [L2.flat] at f;exact f) t)
 | _,_,f,.dict h k t=>by cases f
 | _,_,f,.exc0 h o=>by cases f
 | _,_,f,.exc1 h o x y t=>by cases f
 | _,_,f,.ins h o=>by cases f
theorem DenL.flat:∀ {vs:List V} {ds:List Ka},j9 ds=true->DenL K H S vs ds->DenL K H S' vs ds
 | _,_,_,.nil=>.nil
 | _,_,f,.cons h t=>by
  rw [j9,Ko] at f
  exact .cons (Den.flat f.1 h) (DenL.flat f.2 t)
end
theorem DenL.length:∀ {vs:List V} {ds:List Ka},DenL K H S vs ds->vs.length=ds.length
 | _,_,.nil=>rfl
 | _,_,.cons _ t=>by rw [KM,KM,t.length]
theorem DenL.snoc:∀ {vs:List V} {ds:List Ka} {v:V} {d:Ka},DenL K H S vs ds->Den K H S v d->DenL K H S (vs++[v]) (ds++[d])
 | _,_,_,_,.nil,h=>.cons h .nil
 | _,_,_,_,.cons h t,q=>.cons h (t.snoc q)
theorem DenL.append:∀ {vs ws:List V} {ds es:List Ka},DenL K H S vs ds->DenL K H S ws es->DenL K H S (vs++ws) (ds++es)
 | _,_,_,_,.nil,h=>h
 | _,_,_,_,.cons h t,q=>.cons h (t.append q)
theorem DenL.get:∀ {vs:List V} {ds:List Ka} {i:Nat} {d:Ka},DenL K H S vs ds->ds[i]?=some d->∃ v,vs[i]?=some v/\Den K H S v d
 | _,_,_,_,.nil,e=>by simp at e
 | _,_,0,_,.cons h _,e=>by simp at e;subst e;exact ⟨_,rfl,h⟩
 | _,_,i+1,d,.cons _ t,e=>by
  obtain ⟨v,h1,h2⟩:=DenL.get (i:=i) (d:=d) t (by simpa using e)
  exact ⟨v,by simpa using h1,h2⟩
theorem DenL.drop:∀ {vs:List V} {ds:List Ka} (n:Nat),DenL K H S vs ds->DenL K H S (vs.drop n) (ds.drop n)
 | _,_,0,h=>h
 | _,_,_+1,.nil=>.nil
 | _,_,n+1,.cons _ t=>t.drop n
theorem DenL.take:∀ {vs:List V} {ds:List Ka} (n:Nat),DenL K H S vs ds->DenL K H S (vs.take n) (ds.take n)
 | _,_,0,_=>.nil
 | _,_,_+1,.nil=>.nil
 | _,_,n+1,.cons h t=>.cons h (t.take n)
theorem DenL.ints:∀ ns:List Int,DenL K H S (ns.map V.int) (ns.map Ky)
 | []=>.nil
 | n::ns=>.cons (.int n) (DenL.ints ns)
theorem Den.int_inv {v:V}{i:Int}(h:Den K H S v (.int i)):v=.int i:=by cases h;rfl
theorem Den.bool_inv {v:V}{b:Bool}(h:Den K H S v (.bool b)):v=.bl b:=by cases h;rfl
theorem Den.list_inv {v:V}{ds:List Ka}(h:Den K H S v (.list ds)):∃ a xs,v=.ref a/\SqLS K H S a xs/\DenL K H S xs ds:=by
 cases h with
 | list h t=>exact ⟨_,_,rfl,h,t⟩
theorem Den.tuple_inv {v:V}{ds:List Ka}(h:Den K H S v (.tuple ds)):∃ a xs,v=.ref a/\SqT K H a xs/\DenL K H S xs ds:=by
 cases h with
 | tuple h t=>exact ⟨_,_,rfl,h,t⟩
theorem DenL.inv1 {vs:List V}{d:Ka}(h:DenL K H S vs [d]):∃ v,vs=[v]/\Den K H S v d:=by
 cases h with
 | cons a t=>cases t;exact ⟨_,rfl,a⟩
end
section
variable {X:Cx}{pins:List (Kd×Obj)}{σ:St}{H:Hp}{s:Kf}{S:Av}
mutual
theorem Den.reads (I:Inv X pins σ H s):∀ {v:V} {d:Ka} {u:Kb},Den X.K H S v d->d.canLay0=true->RelV v u->∃ as,U5 s.heap u d as
 | _,_,u,.none,_,r=>by cases (show u=VH from r);exact ⟨_,.none⟩
 | _,_,u,.bool b,_,r=>by cases (show u=K5 b from r);exact ⟨_,.bool b⟩
 | _,_,u,.int i,_,r=>by obtain ⟨t,e⟩:=(show ∃ t,u=Xu i t from r);cases e;exact ⟨_,.int i t⟩
 | _,_,u,.str x,_,r=>by obtain ⟨t,e⟩:=(show ∃ t,u=Xt x t from r);cases e;exact ⟨_,.str x t⟩
 | _,_,u,@Den.list _ _ _ a xs ds h t,c0,r=>by
  cases (show u=KW a from r)
  obtain ⟨its,rv,⟨o,n,e,c,_,d⟩,_⟩:=I.list h.sq
  obtain ⟨as,q⟩:=DenL.reads I t (by rw [KJ] at c0;exact c0) rv
  exact ⟨_,.list e c d (by simpa using q)⟩
 | _,_,u,@Den.tuple _ _ _ a xs ds h t,c0,r=>by
  cases (show u=KW a from r)
  obtain ⟨its,rv,⟨o,e,c,n,d⟩,_⟩:=I.tuple h
  obtain ⟨as,q⟩:=DenL.reads I t (by rw [KJ] at c0;exact c0) rv
  exact ⟨_,.tuple e c d (by simpa using q)⟩
 | _,_,u,.dict h k t,c0,r=>by rw [KJ] at c0;cases c0
 | _,_,u,.exc0 h o,c0,r=>by unfold excD at c0;rw [KJ] at c0;cases c0
 | _,_,u,.exc1 h o x y t,c0,r=>by unfold excD at c0;rw [KJ] at c0;cases c0
 | _,_,u,.ins h o,c0,r=>by unfold objD at c0;rw [KJ] at c0;cases c0
theorem DenL.reads (I:Inv X pins σ H s):∀ {vs:List V} {ds:List Ka} {us:List Kb},DenL X.K H S vs ds->Kn ds=true->Vals vs us->∃ as,Ua s.heap us ds as
 | _,_,_,.nil,_,.nil=>⟨_,.nil⟩
 | _,_,_,.cons h t,c0,.cons r rr=>by
  rw [Kn,Ko] at c0
  obtain ⟨as,q⟩:=Den.reads I h c0.1 r
  obtain ⟨bs,q'⟩:=DenL.reads I t c0.2 rr
  exact ⟨_,.cons q q'⟩
end
end
section
variable {X:Cx}{pins:List (Kd×Obj)}{σ:St}{H:Hp}{s:Kf}
def rEqD (K:Kc):R2:=fun x y H Q=>∃ S d e,Den K H S x d/\Den K H S y e/\Vp d=true/\Vp e=true/\Q (.bl (Kz d e)) H
def rNeD (K:Kc):R2:=fun x y H Q=>∃ S d e,Den K H S x d/\Den K H S y e/\Vp d=true/\Vp e=true/\Q (.bl (!PyData.eqv d e)) H
theorem qhM {k:Nat}(hr:Room k X.A):OpR X (compareOp .Eq) (rEqD X.K):=by
 intro pins s σ H x y v u Q I rx ry h
 obtain ⟨S,d,e,h1,h2,s1,s2,q⟩:=h
 obtain ⟨as,q1⟩:=h1.reads I (K0 s1) rx
 obtain ⟨bs,q2⟩:=h2.reads I (K0 s2) ry
 exact eq_dataH q1 q2 s1 s2 hr.units (Zt I q rfl)
theorem qhO {k:Nat}(hr:Room k X.A):OpR X (compareOp .NotEq) (rNeD X.K):=by
 intro pins s σ H x y v u Q I rx ry h
 obtain ⟨S,d,e,h1,h2,s1,s2,q⟩:=h
 obtain ⟨as,q1⟩:=h1.reads I (K0 s1) rx
 obtain ⟨bs,q2⟩:=h2.reads I (K0 s2) ry
 exact ne_dataH q1 q2 s1 s2 hr.units (Zt I q rfl)
theorem qf7:OpR X (binaryOp .Mult) (rI X6 fun i j=>.int (i*j)):=opI fun _ _ _ _ _ _ _ hc q=>mul_int q hc
inductive TyD (K:Kc)(H:Hp):V->String->Prop
 | non:TyD K H .non "NoneType"
 | bl (b:Bool):TyD K H (.bl b) "bool"
 | int (i:Int):TyD K H (.int i) "int"
 | str (x:Str):TyD K H (.str x) "str"
 | lst {a:Kd} {xs:List V} (h:SqL K H a xs):TyD K H (.ref a) "list"
 | tup {a:Kd} {xs:List V} (h:SqT K H a xs):TyD K H (.ref a) "tuple"
 | dct {a:Kd} {kvs:List (KX×Addr×V)} {ep:Nat} (h:H a=some (DctO a kvs ep)):TyD K H (.ref a) "dict"
def rIsi (K:Kc):List V->Hp->VK->Prop:=fun vs H Q=>∃ x T t b,vs=[x,.ty T]/\TyD K H x t/\Vb K (.type t) (.type T)=some b/\Q (.bl b) H
theorem qdj:QT X (.builtin "isinstance") (rIsi X.K):=by
 intro pins s σ H xs us Q I r h
 obtain ⟨x,T,t,b,rfl,ty,e,q⟩:=h
 obtain ⟨u,c,rfl,ru,rc⟩:=r.two
 cases (show c=VV T from rc)
 have fin:∀ tk,EP X pins σ Q (.bool b) { s with toks:=tk }:=fun tk=>⟨.bl b,H,I.tok tk,rfl,q⟩
 cases ty with
 | non=>cases (show u=VH from ru);exact K7 EI I.kIn V0 e (fun z=>nomatch z) fin
 | bl y=>cases (show u=K5 y from ru);exact K7 EJ I.kIn V0 e (fun z=>nomatch z) fin
 | int i=>obtain ⟨t,q⟩:=(show ∃ t,u=Xu i t from ru);cases q;exact K7 PySem.W.kitx_int I.kIn V0 e (fun z=>nomatch z) fin
 | str y=>obtain ⟨t,q⟩:=(show ∃ t,u=Xt y t from ru);cases q;exact K7 PySem.W.kitx_str I.kIn V0 e (fun z=>nomatch z) fin
 | @lst a xs ea =>
  cases (show u=KW a from ru)
  obtain ⟨_,_,⟨o,n,h1,h2,_⟩,_⟩:=I.list ea
  exact K7 Nv I.kIn ⟨o,h1,h2⟩ e (fun z=>nomatch z) fin
 | @tup a xs ea =>
  cases (show u=KW a from ru)
  obtain ⟨_,_,⟨o,h1,h2,_⟩,_⟩:=I.tuple ea
  exact K7 Ez I.kIn ⟨o,h1,h2⟩ e (fun z=>nomatch z) fin
 | @dct a kvs ep ea =>
  cases (show u=KW a from ru)
  obtain ⟨o,_,h1,h2,_⟩:=(QD.of (I.hok a _ ea)).vals
  exact K7 Nw I.kIn ⟨o,h1,h2.1⟩ e (fun z=>nomatch z) fin
def ExcH (K:Kc)(H:Hp)(a:Kd)(c:Str):Prop:=∃ o,H a=some (.frz o (.own a))/\ExcO K o c
theorem Den.exc {K:Kc}{S:Av}{v:V}{c:Str}{d:Ka}(h:Den K H S v (excD c d)):∃ a,v=.ref a/\ExcH K H a c:=by
 generalize hd:excD c d=x at h
 cases h with
 | @dict a kvs ep ds h k t =>
  have:excK (dkv kvs ds)=true:=by
   have:=PyData.dict.inj hd
   rw [← this];rfl
  rw [W6] at this
  cases this
 | exc0 h o=>cases hd;exact ⟨_,rfl,_,h,o⟩
 | exc1 h o x y t=>cases hd;exact ⟨_,rfl,_,h,o⟩
 | _=>cases hd
theorem Inv.excAt {a:Kd}{c:Str}(I:Inv X pins σ H s)(h:ExcH X.K H a c):∃ C,KF X.K mainGlobals c=some (some (.ref C))/\xcB X.K C=true/\OfC s.heap a C:=by
 obtain ⟨o,ha,C,vs,h1,h2,h3,h4⟩:=h
 exact ⟨C,h3,h4,o,(I.hok a _ ha).1,h1⟩
def qg1 (K:Kc):List V->Hp->VK->Prop:=fun vs H Q=>∃ a c T b,vs=[.ref a,.ty T]/\ExcH K H a c/\(∀ C,xcB K C=true->Vb K (.ref C) (.type T)=some b)/\Q (.bl b) H
theorem qcp:QT X (.builtin "isinstance") (qg1 X.K):=by
 intro pins s σ H xs us Q I r h
 obtain ⟨a,c,T,b,rfl,hx,e,q⟩:=h
 obtain ⟨u,c',rfl,ru,rc⟩:=r.two
 cases (show c'=VV T from rc)
 cases (show u=KW a from ru)
 obtain ⟨C,_,h4,IA⟩:=I.excAt hx
 exact K7 (Yb (jO h4)) I.kIn IA (e C h4) (fun z=>nomatch z) fun tk=>⟨.bl b,H,I.tok tk,rfl,q⟩
def qg0 (K:Kc):List V->Hp->VK->Prop:=fun vs H Q=>∃ a C dx T b,vs=[.ref a,.ty T]/\H a=some (.ins C dx [])/\icB K C=true/\Vb K (.ref C) (.type T)=some b/\Q (.bl b) H
theorem qcn:QT X (.builtin "isinstance") (qg0 X.K):=by
 intro pins s σ H xs us Q I r h
 obtain ⟨a,C,dx,T,b,rfl,hx,hc,e,q⟩:=h
 obtain ⟨u,c',rfl,ru,rc⟩:=r.two
 cases (show c'=VV T from rc)
 exact qcC I ru ((qdI hc).ty hx) e fun tk=>⟨.bl b,H,I.tok tk,rfl,q⟩
end
abbrev Rho:=List (Option Ka)
def DenS (K:Kc)(H:Hp)(S:Av)(M:List Nat)(σ:St)(ρ:Rho):Prop:=Dm S H/\σ.length=ρ.length/\∀ (i:Nat) (d:Ka),i∉M->ρ[i]?=some (some d)->∃ v,σ[i]?=some (some v)/\Den K H S v d
section
variable {K:Kc}{H H':Hp}{S:Av}{M:List Nat}{σ:St}{ρ:Rho}{v:V}{d:Ka}
theorem DenS.same (e:Same H H')(h:DenS K H S M σ ρ):DenS K H' S M σ ρ:=⟨h.1.same e,h.2.1,fun i d n q=>let ⟨v,a,b⟩:=h.2.2 i d n q;⟨v,a,b.same e⟩⟩
theorem DenS.set (h:DenS K H S M σ ρ)(q:Den K H S v d)(i:Nat):DenS K H S M (σ.set i (some v)) (ρ.set i (some d)):=by
 refine ⟨h.1,by rw [Vs,Vs];exact h.2.1,fun j e n he=>?_⟩
 by_cases hj:i=j
 ·subst hj
  by_cases hi:i<ρ.length
  ·rw [Va hi] at he
   cases he
   exact ⟨v,Va (by rw [h.2.1];exact hi),q⟩
  ·rw [List.set_eq_of_length_le (by omega)] at he
   exact absurd (KL.mp he).1 hi
 ·rw [Vw hj] at he
  obtain ⟨w,a,b⟩:=h.2.2 j e n he
  exact ⟨w,by rw [Vw hj];exact a,b⟩
theorem DenS.start {vs:List V}{ds:List Ka}(m:Dm S H)(h:DenL K H S vs ds)(N:List Str):DenS K H S [] (start N vs) (ds.map some++Vc (N.length-ds.length) none):=by
 have hl:=h.length
 refine ⟨m,?_,fun j e _ he=>?_⟩
 ·unfold L2.start
  rw [Kp,Kp,Kh,Kh,VR,VR,hl]
 ·by_cases hj:j<ds.length
  ·rw [VI (by simpa using hj),Vv] at he
   cases e1:ds[j]? with
   | none=>rw [e1] at he;cases he
   | some d =>
    rw [e1] at he
    cases he
    obtain ⟨v,a,b⟩:=h.get e1
    refine ⟨v,?_,b⟩
    unfold L2.start
    rw [VI (by rw [Kh];omega),Vv,a]
    rfl
  ·rw [Ud (by simpa using hj),Us] at he
   split at he<;>cases he
end
def tD (K:Kc)(M:List Nat)(f:Rho->Option Ka):TE:=fun σ H Q=>∃ S ρ d,DenS K H S M σ ρ/\f ρ=some d/\∀ v H',Same H H'->Den K H' S v d->Q v H'
def tDA (K:Kc)(M:List Nat)(f:Rho->Option (List Ka)):TA:=fun σ H Q=>∃ S ρ ds,DenS K H S M σ ρ/\f ρ=some ds/\∀ vs H',Same H H'->DenL K H' S vs ds->Q vs H'
def tDT (K:Kc)(M:List Nat)(f:Rho->Option Bool):TT:=fun σ H Q=>∃ S ρ b,DenS K H S M σ ρ/\f ρ=some b/\∀ H',Same H H'->Q b H'
inductive Out where
 | nx (ρ:Rho)|rt (d:Ka)|bk (ρ:Rho)|ct (ρ:Rho)
def PD (X:Cx)(M:List Nat)(e:Kw)(f:Rho->Option Ka):Prop:=PE X e (tD X.K M f)
def PDA (X:Cx)(M:List Nat)(es:List Kw)(f:Rho->Option (List Ka)):Prop:=PA X es (tDA X.K M f)
def PDT (X:Cx)(M:List Nat)(e:Kw)(f:Rho->Option Bool):Prop:=PT X e (tDT X.K M f)
theorem PE.weak {X:Cx}{e:Kw}{t t':TE}(h:PE X e t)(w:∀ σ H Q,t' σ H Q->t σ H Q):PE X e t':=fun pins s σ H Q I q=>h pins s σ H Q I (w σ H Q q)
theorem PT.weak {X:Cx}{e:Kw}{t t':TT}(h:PT X e t)(w:∀ σ H Q,t' σ H Q->t σ H Q):PT X e t':=fun pins s σ H Q I q=>h pins s σ H Q I (w σ H Q q)
theorem PW.weak {X:Cx}{e:Kw}{t t':TT}(h:PW X e t)(w:∀ σ H Q,t' σ H Q->t σ H Q):PW X e t':=fun wh pins s σ H Q I q=>h wh pins s σ H Q I (w σ H Q q)
theorem PA.weak {X:Cx}{e:List Kw}{t t':TA}(h:PA X e t)(w:∀ σ H Q,t' σ H Q->t σ H Q):PA X e t':=fun pos pins s σ H Q I q=>h pos pins s σ H Q I (w σ H Q q)
theorem PS.weak {X:Cx}{e:KY}{t t':TS}(h:PS X e t)(w:∀ D σ H,t' D σ H->t D σ H):PS X e t':=fun pins s σ H D I q=>h pins s σ H D I (w D σ H q)
theorem PSs.weak {X:Cx}{e:List KY}{t t':TS}(h:PSs X e t)(w:∀ D σ H,t' D σ H->t D σ H):PSs X e t':=fun pins s σ H D I q=>h pins s σ H D I (w D σ H q)
def ob {α β:Type}(a:Option α)(f:α->Option β):Option β:=match a with | some x=>f x|none=>none
theorem qe {α β:Type}{a:Option α}{f:α->Option β}{y:β}(h:ob a f=some y):∃ x,a=some x/\f x=some y:=by
 cases a with
 | none=>cases h
 | some x=>exact ⟨x,rfl,h⟩
def visB (sc:Vq)(x:Str):Bool:=decide (sc.names.lookup x=some .local)||decide (sc.names.lookup x=some .cell)||decide (sc.names.lookup x=some .free)
def locB (sc:Vq)(x:Str):Bool:=decide (sc.names.lookup x=some .local)||decide (sc.names.lookup x=some .cell)
def glB (sc:Vq)(x:Str):Bool:=decide (sc.names.lookup x=some .globalImplicit)
theorem J2 {sc:Vq}{x:Str}(h:visB sc x=true):Vis sc x:=by
 unfold visB at h
 simp only [XX,decide_eq_true_eq] at h
 rcases h with (h|h)|h
 ·exact .inl h
 ·exact .inr (.inl h)
 ·exact .inr (.inr h)
theorem qdY {sc:Vq}{x:Str}(h:locB sc x=true):Loc sc x:=by
 unfold locB at h
 simp only [XX,decide_eq_true_eq] at h
 exact h
theorem qgS {X:Cx}{x:Str}(sc:Vq)(hs:X.env.scope=sc)(h:glB sc x=true):Gl X x:=by
 subst hs
 have h':X.env.scope.names.lookup x=some .globalImplicit:=of_decide_eq_true h
 exact h'
theorem Zh {env:Env}:∀ {names:List (Str×NameKind)} {x:Str} {k:NJ},names.lookup x=some k->
  (names.map fun (n,k)=>if (k==Vd&&env.scope.kind==.function&&env.kindOf n==some .cell) then (n,VO) else (n,k)).lookup x=some k\/
  (k=.free/\(names.map fun (n,k)=>if (k==Vd&&env.scope.kind==.function&&env.kindOf n==some .cell) then (n,VO) else (n,k)).lookup x=some .cell)
 | [],_,_,h=>by simp at h
 | (n,k')::r,x,k,h=>by
  have ih:=@Zh env r x k
  show Ul x ((if (k'==Vd&&env.scope.kind==.function&&env.kindOf n==some .cell)=true then (n,VO) else (n,k'))::_)=_\/(_/\Ul x ((if (k'==Vd&&env.scope.kind==.function&&env.kindOf n==some .cell)=true then (n,VO) else (n,k'))::_)=_)
  cases hx:x==n with
  | true =>
   simp only [Ve,hx] at h
   cases h
   by_cases hc:(k'==Vd&&env.scope.kind==.function&&env.kindOf n==some .cell)=true
   ·rw [if_pos hc]
    rw [Ko,Ko] at hc
    exact .inr ⟨by simpa using hc.1.1,by simp [Ve,hx]⟩
   ·rw [if_neg hc]
    exact .inl (by simp [Ve,hx])
  | false =>
   simp only [Ve,hx] at h
   by_cases hc:(k'==Vd&&env.scope.kind==.function&&env.kindOf n==some .cell)=true
   ·rw [if_pos hc]
    simp only [Ve,hx]
    exact ih h
   ·rw [if_neg hc]
    simp only [Ve,hx]
    exact ih h
section
variable {X:Cx}{x:Str}{N':List Str}{sc:Vq}{cl:List (Str×Addr)}{C:Kd}{fp:List Kd}{pins:List (Kd×Obj)}{s:Kf}{H:Hp}
theorem QC (h:visB sc x=true):Vis (qJ X N' sc cl C fp pins s H).env.scope x:=by
 rcases J2 h with h|h|h
 ·rcases Zh (env:=X.env) h with q|q
  ·exact .inl q
  ·cases q.1
 ·rcases Zh (env:=X.env) h with q|q
  ·exact .inr (.inl q)
  ·cases q.1
 ·rcases Zh (env:=X.env) h with q|q
  ·exact .inr (.inr q)
  ·exact .inr (.inl q.2)
theorem Wa (h:glB sc x=true):Gl (qJ X N' sc cl C fp pins s H) x:=by
 rcases Zh (env:=X.env) (of_decide_eq_true h) with q|q
 ·exact q
 ·cases q.1
end
def vr (i:Nat):Rho->Option Ka:=fun ρ=>(ρ[i]?).join
def kd (d:Ka):Rho->Option Ka:=fun _=>some d
def ev1 (fa:Rho->Option Ka)(g:Ka->Option Ka):Rho->Option Ka:=fun ρ=>ob (fa ρ) g
def aN:Rho->Option (List Ka):=fun _=>some []
def aC (fa:Rho->Option Ka)(fs:Rho->Option (List Ka)):Rho->Option (List Ka):=fun ρ=>ob (fa ρ) fun x=>ob (fs ρ) fun xs=>some (x::xs)
def evA (fs:Rho->Option (List Ka))(h:List Ka->Option Ka):Rho->Option Ka:=fun ρ=>ob (fs ρ) h
def evC (n:Nat)(fs:Rho->Option (List Ka))(h:List Ka->Option Ka):Rho->Option Ka:=fun ρ=>ob (fs ρ) fun ds=>if ds.length=n then h ds else none
def evC0 (h:List Ka->Option Ka):Rho->Option Ka:=fun _=>h []
section
variable {X:Cx}{M:List Nat}{a b c:Kw}{es:List Kw}{f g fa fb:Rho->Option Ka}{pos:Pos}
theorem qd (i:Nat){x:Str}(hv:Vis X.env.scope x)(hM:i∉M)(hN:X.N[i]?=some x:=by rfl)(hd:(x==("__debug__" : Str))=false:=by decide +kernel)
  (hcd:(x==("__classdict__" : Str))=false:=by decide +kernel):PD X M (.Name x pos) (vr i) :=
 (JS hN hv hd hcd).weak fun σ H Q ⟨S,ρ,d,hs,e,q⟩=>by
  have e:(ρ[i]?).join=some d:=e
  have e':ρ[i]?=some (some d):=by
   cases h:ρ[i]? with
   | none=>rw [h] at e;cases e
   | some o=>rw [h] at e;exact congrArg some e
  obtain ⟨v,h1,h2⟩:=hs.2.2 i d hM e'
  exact ⟨v,h1,q v H (Same.refl H) h2⟩
theorem ql {i j p}:PD X M (.Constant (.int i) j p) (kd (.int i)):=qhV.weak fun σ H Q ⟨S,_,d,_,e,q⟩=>by cases e;exact q _ H (Same.refl H) (.int i)
theorem Za {i j p}:PD X M (.Constant (.bool i) j p) (kd (.bool i)):=pe_bl.weak fun σ H Q ⟨S,_,d,_,e,q⟩=>by cases e;exact q _ H (Same.refl H) (.bool i)
theorem QR {j p}:PD X M (.Constant .none j p) (kd .none):=qhW.weak fun σ H Q ⟨S,_,d,_,e,q⟩=>by cases e;exact q _ H (Same.refl H) .none
theorem jc {i j p}:PD X M (.Constant (.str i) j p) (kd (.str i)):=qhZ.weak fun σ H Q ⟨S,_,d,_,e,q⟩=>by cases e;exact q _ H (Same.refl H) (.str i)
theorem qgg {x:Str}{v:V}{u:Kb}{d:Ka}(hg:Gl X x)(hm:X.mg x=some u)(r:RelV v u)(hd:∀ H S,Den X.K H S v d)(hdb:(x==("__debug__" : Str))=false:=by decide +kernel):PD X M (.Name x pos) (kd d) :=
 (Ww hg hm r hdb).weak fun σ H Q ⟨S,_,d',_,e,q⟩=>by cases e;exact q _ H (Same.refl H) (hd H S)
def rD2 (K:Kc)(g:Ka->Ka->Option Ka):R2:=fun x y H Q=>∃ S dx dy d,Dm S H/\Den K H S x dx/\Den K H S y dy/\g dx dy=some d/\∀ v H',Same H H'->Den K H' S v d->Q v H'
def OpD (X:Cx)(f:Kb->Kb->Sem Kb)(g:Ka->Ka->Option Ka):Prop:=OpR X f (rD2 X.K g)
def UnD (X:Cx)(f:Kb->Sem Kb)(g:Ka->Option Ka):Prop:=UnR X f (fun x H Q=>∃ S dx d,Dm S H/\Den X.K H S x dx/\g dx=some d/\∀ v H',Same H H'->Den X.K H' S v d->Q v H')
def CallD (X:Cx)(f:Kb)(g:List Ka->Option Ka):Prop:=QT X f (fun vs H Q=>∃ S ds d,Dm S H/\DenL X.K H S vs ds/\g ds=some d/\∀ v H',Same H H'->Den X.K H' S v d->Q v H')
def ev2 (fa fb:Rho->Option Ka)(g:Ka->Ka->Option Ka)(ρ:Rho):Option Ka:=ob (fa ρ) fun x=>ob (fb ρ) fun y=>g x y
theorem tD2 {K:Kc}{g:Ka->Ka->Option Ka}:∀ σ H Q,tD K M (ev2 fa fb g) σ H Q->tOp (rD2 K g) (tD K M fa) (tD K M fb) σ H Q:=by
 intro σ H Q ⟨S,ρ,d,hs,e,q⟩
 obtain ⟨x,e1,e⟩:=qe e
 obtain ⟨y,e2,e⟩:=qe e
 exact ⟨S,ρ,x,hs,e1,fun v H1 g1 d1=>⟨S,ρ,y,hs.same g1,e2,fun w H2 g2 d2=>⟨S,x,y,d,hs.1.same (g1.trans g2),d1.same g2,d2,e,fun z H3 g3 d3=>q z H3 (g1.trans (g2.trans g3)) d3⟩⟩⟩
theorem qF {op:Operator}{g:Ka->Ka->Option Ka}(ho:OpD X (binaryOp op) g)(ha:PD X M a fa)(hb:PD X M b fb):PD X M (.BinOp a op b pos) (ev2 fa fb g):=(qgY ho ha hb).weak tD2
theorem Ws {op:CmpOp}{g:Ka->Ka->Option Ka}(ho:OpD X (compareOp op) g)(ha:PD X M a fa)(hb:PD X M b fb)(hm:behindInMarks op b=false):PD X M (.Compare a [op] [b] pos) (ev2 fa fb g):=(qgn ho ha hb hm).weak tD2
theorem qee {op:UnaryOp}{g:Ka->Option Ka}(ho:UnD X (unaryOp op) g)(ha:PD X M a fa):PD X M (.UnaryOp op a pos) (ev1 fa g) :=
 (pe_un ho ha).weak fun σ H Q ⟨S,ρ,d,hs,e,q⟩=>by
  obtain ⟨x,e1,e⟩:=qe e
  exact ⟨S,ρ,x,hs,e1,fun v H1 g1 d1=>⟨S,x,d,hs.1.same g1,d1,e,fun z H3 g3 d3=>q z H3 (g1.trans g3) d3⟩⟩
def ixD:Ka->Ka->Option Ka
 | .tuple ds,.int i=>atI ds i
 | .list ds,.int i=>atI ds i
 | _,_=>none
theorem DenL.atI {K:Kc}{H:Hp}{S:Av}{vs:List V}{ds:List Ka}{i:Int}{d:Ka}(h:DenL K H S vs ds)(e:atI ds i=some d):∃ v,L2.atI vs i=some v/\Den K H S v d:=by
 unfold L2.atI at e ⊢
 rw [h.length]
 cases q:ixN ds.length i with
 | none=>rw [q] at e;cases e
 | some j=>rw [q] at e;exact h.get e
theorem zc (ha:PD X M a fa)(hb:PD X M b fb)(hs:wO b:=by intro _ _;rfl):PD X M (.Subscript a b pos) (ev2 fa fb ixD) :=
 (qgX (r:=fun x y H Q=>rIxL X.K x y H Q\/rIxT X.K x y H Q) (qbP.or qdL) ha hb hs).weak fun σ H Q ⟨S,ρ,d,hs,e,q⟩=>by
  obtain ⟨x,e1,e⟩:=qe e
  obtain ⟨y,e2,e⟩:=qe e
  refine ⟨S,ρ,x,hs,e1,fun v H1 g1 d1=>⟨S,ρ,y,hs.same g1,e2,fun w H2 g2 d2=>?_⟩⟩
  have d1':=d1.same g2
  cases d1' with
  | list h t =>
   cases d2 with
   | int i=>obtain ⟨z,z1,z2⟩:=t.atI e;exact .inl ⟨_,_,_,_,rfl,rfl,h.sq,z1,q z H2 (g1.trans g2) z2⟩
   | _=>cases e
  | tuple h t =>
   cases d2 with
   | int i=>obtain ⟨z,z1,z2⟩:=t.atI e;exact .inr ⟨_,_,_,_,rfl,rfl,h,z1,q z H2 (g1.trans g2) z2⟩
   | _=>cases e
  | _=>cases e
theorem qj:PDA X M [] aN:=JM.weak fun σ H Q ⟨S,_,d,_,e,q⟩=>by cases e;exact q [] H (Same.refl H) .nil
theorem qb {fs:Rho->Option (List Ka)}(ha:PD X M a fa)(hr:PDA X M es fs)(hs:starEach (a::es) X.env=(false,eval a X.env)::starEach es X.env:=by rfl):PDA X M (a::es) (aC fa fs) :=
 (Q0 ha hr hs).weak fun σ H Q ⟨S,ρ,d,hs,e,q⟩=>by
  obtain ⟨x,e1,e⟩:=qe e
  obtain ⟨xs,e2,e⟩:=qe e
  cases e
  exact ⟨S,ρ,x,hs,e1,fun v H1 g1 d1=>⟨S,ρ,xs,hs.same g1,e2,fun vs H2 g2 d2=>q _ H2 (g1.trans g2) (.cons (d1.same g2) d2)⟩⟩
def tupD (ds:List Ka):Option Ka:=if ds.length<=1000 then some (.tuple ds) else none
def lstD (ds:List Ka):Option Ka:=if ds.length<=1000 then some (.list ds) else none
theorem qc3 {ds:List Ka}{d:Ka}(h:tupD ds=some d):ds.length<=1000/\d=.tuple ds:=by
 unfold tupD at h
 split at h
 ·rename_i q;cases h;exact ⟨q,rfl⟩
 ·cases h
theorem wu {ds:List Ka}{d:Ka}(h:lstD ds=some d):ds.length<=1000/\d=.list ds:=by
 unfold lstD at h
 split at h
 ·rename_i q;cases h;exact ⟨q,rfl⟩
 ·cases h
theorem zF {fs:Rho->Option (List Ka)}{x1}(h:PDA X M es fs):PD X M (.Tuple es x1 pos) (evA fs tupD) :=
 (qem h).weak fun σ H Q ⟨S,ρ,d,hs,e,q⟩=>by
  obtain ⟨xs,e1,e⟩:=qe e
  obtain ⟨hz,rfl⟩:=qc3 e
  refine ⟨S,ρ,xs,hs,e1,fun vs H1 g1 d1=>⟨VA (zj (by rw [d1.length];exact hz)),fun p hp=>?_⟩⟩
  exact q _ _ (g1.lay' hp) (.tuple (SqT.of qI) (d1.same (Same.lay hp)))
theorem JN {fs:Rho->Option (List Ka)}(h:PDA X M es fs):PD X M (.List es pos) (evA fs lstD) :=
 (qel h).weak fun σ H Q ⟨S,ρ,d,hs,e,q⟩=>by
  obtain ⟨xs,e1,e⟩:=qe e
  obtain ⟨hz,rfl⟩:=wu e
  refine ⟨S,ρ,xs,hs,e1,fun vs H1 g1 d1=>⟨VA (zj (by rw [d1.length];exact hz)),fun p hp=>?_⟩⟩
  exact q _ _ (g1.lay' hp) (.list (SqLS.new qI ((hs.1.same g1).free hp)) (d1.same (Same.lay hp)))
def spF (K:Kc)(n:Nat)(f:List Ka->Option Ka):Sp:=fun vs H Q _=>∃ S ds d,Dm S H/\DenL K H S vs ds/\ds.length=n/\f ds=some d/\∀ v H',Same H H'->Den K H' S v d->Q v H'
theorem qge {CX:CXT}{k n:Nat}{fn:Kd}{fd:Vi}{ps:List Str}{h:List Ka->Option Ka}{E:XK}{x:Str}{p:Pos}{fs:Rho->Option (List Ka)}(F:FnOk X.prog X.w X.K X.mg X.base CX k fn fd ps (spF X.K n h))(hr:Room k X.A)(hg:Gl X x)(hm:X.mg x=some (.ref fn))(hk:VT X.K (.ref fn)=true)
  (hb:Binds X.K fd ps []) (hx:wN CX X E) (ha:PDA X M (a::es) fs) (hl:(a::es).length=n) (hdb:(x==("__debug__" : Str))=false:=by decide +kernel) (he:starEach (a::es) X.env=(false,eval a X.env)::starEach es X.env:=by rfl) (hpl:(backTo pos (starEach es X.env)).any (·.1)=false:=by rfl) :
  PD X M (.Call (.Name x p) (a::es) [] pos) (evC n fs h) :=
 (qgm F hr hg hm hk hb .nil hx ha hdb he hpl).weak fun σ H Q ⟨S,ρ,d,hs,e,q⟩=>by
  obtain ⟨ds,e1,e⟩:=qe e
  have e:(if ds.length=n then h ds else none)=some d:=e
  split at e
  ·rename_i hn
   exact ⟨S,ρ,ds,hs,e1,fun vs H1 g1 d1=>⟨S,ds,d,hs.1.same g1,by rw [VN];exact d1,hn,e,fun v H' g2 d2=>q v H' (g1.trans g2) d2⟩⟩
  ·cases e
theorem zp {id:String}{x:Str}{p:Pos}{h:List Ka->Option Ka}{fs:Rho->Option (List Ka)}(hc:CallD X (.builtin id) h)(hg:Gl X x)(hm:X.mg x=none)(hv:bootBuiltins x=some (.builtin id))(ha:PDA X M (a::es) fs)(hn:x ≠ "__name__" := by decide +kernel)(hdb:(x==("__debug__" : Str))=false:=by decide +kernel)
  (he:starEach (a::es) X.env=(false,eval a X.env)::starEach es X.env:=by rfl) (hpl:(backTo pos (starEach es X.env)).any (·.1)=false:=by rfl):PD X M (.Call (.Name x p) (a::es) [] pos) (evA fs h) :=
 (Jk hc hg hm hv ha hn hdb he hpl).weak fun σ H Q ⟨S,ρ,d,hs,e,q⟩=>by
  obtain ⟨ds,e1,e⟩:=qe e
  exact ⟨S,ρ,ds,hs,e1,fun vs H1 g1 d1=>⟨S,ds,d,hs.1.same g1,d1,e,fun v H' g2 d2=>q v H' (g1.trans g2) d2⟩⟩
theorem QK {T:String}{x:Str}{p:Pos}{h:List Ka->Option Ka}{fs:Rho->Option (List Ka)}(hc:CallD X (.type T) h)(hg:Gl X x)(hm:X.mg x=none)(hv:bootBuiltins x=some (.type T))(ha:PDA X M (a::es) fs)(hn:x ≠ "__name__" := by decide +kernel)(hdb:(x==("__debug__" : Str))=false:=by decide +kernel)
  (he:starEach (a::es) X.env=(false,eval a X.env)::starEach es X.env:=by rfl) (hpl:(backTo pos (starEach es X.env)).any (·.1)=false:=by rfl):PD X M (.Call (.Name x p) (a::es) [] pos) (evA fs h) :=
 (wC hc hg hm hv ha hn hdb he hpl).weak fun σ H Q ⟨S,ρ,d,hs,e,q⟩=>by
  obtain ⟨ds,e1,e⟩:=qe e
  exact ⟨S,ρ,ds,hs,e1,fun vs H1 g1 d1=>⟨S,ds,d,hs.1.same g1,d1,e,fun v H' g2 d2=>q v H' (g1.trans g2) d2⟩⟩
def tyS:Ka->String
 | .none => "NoneType" | .bool _ => "bool" | .int _ => "int" | .str _ => "str" | .list _ => "list" | .tuple _ => "tuple" | .dict _ => "dict"
def isiT (T:String):Ka->Bool
 | .none=>T == "NoneType" || T == "object"
 | .bool _=>T == "bool" || T == "int" || T == "object"
 | .int _=>T == "int" || T == "object"
 | .str _=>T == "str" || T == "object"
 | .list _=>T == "list" || T == "object"
 | .tuple _=>T == "tuple" || T == "object"
 | .dict _=>T == "dict" || T == "object"
def isiD (T:String)(d:Ka):Option Ka:=some (.bool (isiT T d))
def WQ (K:Kc)(T:String):Prop:=∀ d:Ka,Vb K (.type (tyS d)) (.type T)=some (isiT T d)
theorem qfO (K:Kc):WQ K "int" := fun d=>by cases d<;>rfl
theorem qdQ (K:Kc):WQ K "bool" := fun d=>by cases d<;>rfl
theorem kit_tuple (K:Kc):WQ K "tuple" := fun d=>by cases d<;>rfl
theorem qdR (K:Kc):WQ K "list" := fun d=>by cases d<;>rfl
theorem qbH {K:Kc}{T:String}{C:Kd}{c:Str}{d:Ka}(hT:T∈j7)(h:xcB K C=true):Vb K (.ref C) (.type T)=some (isiT T (excD c d)):=by
 rw [(jO h).ts T hT]
 have:(T == "dict" || T == "object")=false:=by
  simp only [j7,Kq,V1,or_false] at hT
  rcases hT with rfl|rfl|rfl|rfl|rfl<;>decide +kernel
 exact congrArg some this.symm
theorem qfG {K:Kc}{T:String}{C:Kd}{c:Str}(hT:T∈j7)(h:icB K C=true):Vb K (.ref C) (.type T)=some (isiT T (objD c)):=by
 rw [(qdI h).ts T hT]
 have:(T == "dict" || T == "object")=false:=by
  simp only [j7,Kq,V1,or_false] at hT
  rcases hT with rfl|rfl|rfl|rfl|rfl<;>decide +kernel
 exact congrArg some this.symm
theorem Yh {T:String}{p p2:Pos}(kit:WQ X.K T)(hg:Gl X "isinstance")(hm:X.mg "isinstance" = none)(hgT:Gl X (Ke T))(hmT:X.mg (Ke T)=none)(hvT:bootBuiltins (Ke T)=some (.type T))(hv:bootBuiltins "isinstance" = some (.builtin "isinstance"))(ha:PD X M a fa)(hnT:Ke T ≠ "__name__" := by decide +kernel)(hdT:(Ke T==("__debug__" : Str))=false:=by decide +kernel)(hT:T∈j7:=by decide +kernel)
  (he:starEach [a,.Name (Ke T) p2] X.env=(false,eval a X.env)::starEach [.Name (Ke T) p2] X.env:=by rfl) (hpl:(backTo pos (starEach [.Name (Ke T) p2] X.env)).any (·.1)=false:=by rfl)
  (hs2:starEach [.Name (Ke T) p2] X.env=(false,eval (.Name (Ke T) p2) X.env)::starEach [] X.env:=by rfl) :
  PD X M (.Call (.Name "isinstance" p) [a,.Name (Ke T) p2] [] pos) (ev1 fa (isiD T)) :=
 (Jk (qdj.or (qcp.or qcn)) hg hm hv (Q0 ha (Q0 (qb2 (v:=.ty T) hgT hmT hvT rfl hnT hdT) JM hs2) he) (by decide +kernel) (by decide +kernel) he hpl).weak fun σ H Q ⟨S,ρ,d,hs,e,q⟩=>by
  obtain ⟨x,e1,e⟩:=qe e
  cases e
  refine ⟨S,ρ,x,hs,e1,fun v H1 g1 d1=>?_⟩
  have fin:=q (.bl (isiT T x)) H1 g1 (.bool _)
  have k:=kit x
  show rIsi X.K [v,.ty T] H1 Q\/qg1 X.K [v,.ty T] H1 Q\/qg0 X.K [v,.ty T] H1 Q
  cases d1 with
  | none=>exact .inl ⟨_,_,_,_,rfl,.non,k,fin⟩
  | bool y=>exact .inl ⟨_,_,_,_,rfl,.bl y,k,fin⟩
  | int y=>exact .inl ⟨_,_,_,_,rfl,.int y,k,fin⟩
  | str y=>exact .inl ⟨_,_,_,_,rfl,.str y,k,fin⟩
  | list h t=>exact .inl ⟨_,_,_,_,rfl,.lst h.sq,k,fin⟩
  | tuple h t=>exact .inl ⟨_,_,_,_,rfl,.tup h,k,fin⟩
  | dict h k2 t=>exact .inl ⟨_,_,_,_,rfl,.dct h.1,k,fin⟩
  | exc0 h o=>exact .inr (.inl ⟨_,_,_,_,rfl,⟨_,h,o⟩,fun C z=>qbH hT z,fin⟩)
  | exc1 h o x y t=>exact .inr (.inl ⟨_,_,_,_,rfl,⟨_,h,o⟩,fun C z=>qbH hT z,fin⟩)
  | ins h o=>exact .inr (.inr ⟨_,_,_,_,_,rfl,h,o.2,qfG hT o.2,fin⟩)
theorem jB {f:Kb->Kb->Sem Kb}{g:Ka->Ka->Option Ka}{r:R2}(h:OpR X f r)(w:∀ x y dx dy d H S (Q:VK),Dm S H->Den X.K H S x dx->Den X.K H S y dy->g dx dy=some d->(∀ v H',Same H H'->Den X.K H' S v d->Q v H')->r x y H Q):OpD X f g :=
 fun pins s σ H x y v u Q I rx ry ⟨S,dx,dy,d,m,h1,h2,e,q⟩=>h pins s σ H x y v u Q I rx ry (w x y dx dy d H S Q m h1 h2 e q)
def iiD (h:Int->Int->Option Ka):Ka->Ka->Option Ka
 | .int i,.int j=>h i j
 | _,_=>none
theorem yR {h:Int->Int->Option Ka}{x y d:Ka}(e:iiD h x y=some d):∃ i j,x=.int i/\y=.int j/\h i j=some d:=by
 cases x<;>cases y<;>first|exact ⟨_,_,rfl,rfl,e⟩|cases e
theorem qf3 {f:Kb->Kb->Sem Kb}{gi:Int->Int->Int}(h:OpR X f (rI0 fun i j=>.int (gi i j))):OpD X f (iiD fun i j=>some (.int (gi i j))) :=
 jB h fun x y dx dy d H S Q m h1 h2 e q=>by
  obtain ⟨i,j,rfl,rfl,e⟩:=yR e
  cases h1;cases h2;cases e
  exact ⟨i,j,rfl,rfl,q _ H (Same.refl H) (.int _)⟩
theorem Jg {f:Kb->Kb->Sem Kb}{C:Int->Int->Prop}[∀ i j,Decidable (C i j)]{gi:Int->Int->Int}(h:OpR X f (rI C fun i j=>.int (gi i j))):OpD X f (iiD fun i j=>if C i j then some (.int (gi i j)) else none) :=
 jB h fun x y dx dy d H S Q m h1 h2 e q=>by
  obtain ⟨i,j,rfl,rfl,e'⟩:=yR e
  split at e'
  ·rename_i c
   cases h1;cases h2;cases e'
   exact ⟨i,j,rfl,rfl,c,q _ H (Same.refl H) (.int _)⟩
  ·cases e'
theorem qam {f:Kb->Kb->Sem Kb}{gi:Int->Int->Bool}(h:OpR X f (rI0 fun i j=>.bl (gi i j))):OpD X f (iiD fun i j=>some (.bool (gi i j))) :=
 jB h fun x y dx dy d H S Q m h1 h2 e q=>by
  obtain ⟨i,j,rfl,rfl,e⟩:=yR e
  cases h1;cases h2;cases e
  exact ⟨i,j,rfl,rfl,q _ H (Same.refl H) (.bool _)⟩
instance (i j:Int):Decidable (X6 i j):=by unfold X6;exact inferInstance
instance (i j:Int):Decidable (CDiv i j):=by unfold CDiv;exact inferInstance
instance (i j:Int):Decidable (CPow i j):=by unfold CPow;exact inferInstance
def subD:Ka->Ka->Option Ka:=iiD fun i j=>some (.int (i-j))
def mulD:Ka->Ka->Option Ka:=iiD fun i j=>if X6 i j then some (.int (i*j)) else none
def qY:Ka->Ka->Option Ka:=iiD fun i j=>if CDiv i j then some (.int (i / j)) else none
def modD:Ka->Ka->Option Ka:=iiD fun i j=>if 0<j then some (.int (i % j)) else none
def powD:Ka->Ka->Option Ka:=iiD fun i j=>if CPow i j then some (.int (i ^ j.toNat)) else none
theorem j5:OpD X (binaryOp .Sub) subD:=qf3 qhQ
theorem jZ:OpD X (binaryOp .Mult) mulD:=Jg qf7
theorem Qk:OpD X (binaryOp .FloorDiv) qY:=Jg qf6
theorem zW:OpD X (binaryOp .Mod) modD:=Jg (C:=fun _ j=>0<j) qhN
theorem qgQ:OpD X (binaryOp .Pow) powD:=Jg qhP
def leD:Ka->Ka->Option Ka:=iiD fun i j=>some (.bool (decide (i<=j)))
def gtD:Ka->Ka->Option Ka:=iiD fun i j=>some (.bool (decide (j<i)))
theorem d_le:OpD X (compareOp .LtE) leD:=qam op_le
theorem d_gt:OpD X (compareOp .Gt) gtD:=qam op_gt
def eqD (x y:Ka):Option Ka:=if Vp x=true/\Vp y=true then some (.bool (Kz x y)) else none
def neD (x y:Ka):Option Ka:=if Vp x=true/\Vp y=true then some (.bool (!PyData.eqv x y)) else none
theorem d_eq {k:Nat}(hr:Room k X.A):OpD X (compareOp .Eq) eqD:=jB (qhM hr) fun x y dx dy d H S Q m h1 h2 e q=>by
 unfold eqD at e
 split at e
 ·rename_i c;cases e;exact ⟨S,dx,dy,h1,h2,c.1,c.2,q _ H (Same.refl H) (.bool _)⟩
 ·cases e
theorem d_ne {k:Nat}(hr:Room k X.A):OpD X (compareOp .NotEq) neD:=jB (qhO hr) fun x y dx dy d H S Q m h1 h2 e q=>by
 unfold neD at e
 split at e
 ·rename_i c;cases e;exact ⟨S,dx,dy,h1,h2,c.1,c.2,q _ H (Same.refl H) (.bool _)⟩
 ·cases e
def negD:Ka->Option Ka
 | .int i=>some (.int (-i))
 | _=>none
theorem qdw:UnD X (unaryOp .USub) negD:=fun pins s σ H x v Q I rx ⟨S,dx,d,m,h1,e,q⟩=>qiF pins s σ H x v Q I rx (by
 cases h1<;>first|(cases e;exact ⟨_,rfl,q _ H (Same.refl H) (.int _)⟩)|cases e)
def lenD:List Ka->Option Ka
 | [.list ds]=>some (.int ds.length)
 | [.tuple ds]=>some (.int ds.length)
 | _=>none
theorem QV:CallD X (.builtin "len") lenD:=fun pins s σ H xs us Q I r ⟨S,ds,d,m,h1,e,q⟩=>wQ pins s σ H xs us Q I r (by
 cases h1 with
 | nil=>cases e
 | cons a t =>
  cases t with
  | cons a' t'=>cases a<;>cases e
  | nil =>
   cases a with
   | list h t=>cases e;exact ⟨_,_,rfl,.inl h.sq,by rw [t.length];exact q _ H (Same.refl H) (.int _)⟩
   | tuple h t=>cases e;exact ⟨_,_,rfl,.inr h,by rw [t.length];exact q _ H (Same.refl H) (.int _)⟩
   | _=>cases e)
def zR:List Ka->Option Ka
 | [.list ds]=>some (.tuple ds)
 | [.tuple ds]=>some (.tuple ds)
 | _=>none
theorem jX:CallD X (.type "tuple") zR:=fun pins s σ H xs us Q I r ⟨S,ds,d,m,h1,e,q⟩=>Yw pins s σ H xs us Q I r (by
 cases h1 with
 | nil=>cases e
 | cons a t =>
  cases t with
  | cons a' t'=>cases a<;>cases e
  | nil =>
   cases a with
   | list h t=>cases e;exact ⟨_,_,rfl,.inl ⟨h.sq,fun l hl=>q _ _ (Same.lay hl) (.tuple (SqT.of qI) (t.same (Same.lay hl)))⟩⟩
   | tuple h t=>cases e;exact ⟨_,_,rfl,.inr ⟨h,q _ H (Same.refl H) (.tuple h t)⟩⟩
   | _=>cases e)
def Z2:List Ka->Option Ka
 | [.list ds]=>some (.list ds)
 | [.tuple ds]=>some (.list ds)
 | _=>none
theorem qdc:CallD X (.type "list") Z2:=fun pins s σ H xs us Q I r ⟨S,ds,d,m,h1,e,q⟩=>jY pins s σ H xs us Q I r (by
 cases h1 with
 | nil=>cases e
 | cons a t =>
  cases t with
  | cons a' t'=>cases a<;>cases e
  | nil =>
   cases a with
   | list h t=>cases e;exact ⟨_,_,rfl,.inl h.sq,fun l hl=>q _ _ (Same.lay hl) (.list (SqLS.new qI (m.free hl)) (t.same (Same.lay hl)))⟩
   | tuple h t=>cases e;exact ⟨_,_,rfl,.inr h,fun l hl=>q _ _ (Same.lay hl) (.list (SqLS.new qI (m.free hl)) (t.same (Same.lay hl)))⟩
   | _=>cases e)
end
def Z1:Ka->Option Bool
 | .bool b=>some b
 | _=>none
def tV (f:Rho->Option Ka):Rho->Option Bool:=fun ρ=>ob (f ρ) Z1
def tN (p:Rho->Option Bool):Rho->Option Bool:=fun ρ=>ob (p ρ) fun b=>some (!b)
def tA (p q:Rho->Option Bool):Rho->Option Bool:=fun ρ=>ob (p ρ) fun c=>if c=true then q ρ else some false
def tO (p q:Rho->Option Bool):Rho->Option Bool:=fun ρ=>ob (p ρ) fun c=>if c=true then some true else q ρ
def tT:Rho->Option Bool:=fun _=>some true
def vA (fa fb:Rho->Option Ka):Rho->Option Ka:=fun ρ=>ob (fa ρ) fun x=>ob (Z1 x) fun c=>if c=true then fb ρ else some (.bool false)
def vO (fa fb:Rho->Option Ka):Rho->Option Ka:=fun ρ=>ob (fa ρ) fun x=>ob (Z1 x) fun c=>if c=true then some (.bool true) else fb ρ
def vN (fa:Rho->Option Ka):Rho->Option Ka:=fun ρ=>ob (fa ρ) fun x=>ob (Z1 x) fun c=>some (.bool (!c))
def evI (f:Rho->Option Ka)(h:Ka->Option (List Ka)):Rho->Option (List Ka):=fun ρ=>ob (f ρ) h
def evR (fs:Rho->Option (List Ka))(h:List Ka->Option (List Ka)):Rho->Option (List Ka):=fun ρ=>ob (fs ρ) h
def sN:Rho->Option Out:=fun ρ=>some (.nx ρ)
def sRet (f:Rho->Option Ka):Rho->Option Out:=fun ρ=>ob (f ρ) fun d=>some (.rt d)
def sIf (p:Rho->Option Bool)(u w:Rho->Option Out):Rho->Option Out:=fun ρ=>ob (p ρ) fun b=>if b=true then u ρ else w ρ
def sSet (i:Nat)(f:Rho->Option Ka):Rho->Option Out:=fun ρ=>ob (f ρ) fun d=>some (.nx (ρ.set i (some d)))
def gNm (i:Nat):Ka->Rho->Option Rho:=fun d ρ=>some (ρ.set i (some d))
def gsN:List Ka->Rho->Option Rho:=fun ds ρ=>match ds with | []=>some ρ|_=>none
def gsC (g1:Ka->Rho->Option Rho)(g2:List Ka->Rho->Option Rho):List Ka->Rho->Option Rho:=fun ds ρ=>match ds with | d::r=>ob (g1 d ρ) fun ρ'=>g2 r ρ'|[]=>none
def sBk:Rho->Option Out:=fun ρ=>some (.bk ρ)
def sCt:Rho->Option Out:=fun ρ=>some (.ct ρ)
section
variable {X:Cx}{M:List Nat}{a b c:Kw}{es rest:List Kw}{f g fa fb:Rho->Option Ka}{p q:Rho->Option Bool}{pos:Pos}
theorem Qt {d:Ka}{b:Bool}(h:Z1 d=some b):d=.bool b:=by cases d<;>first|(cases h;rfl)|cases h
theorem yo (h:PD X M a f)(he:∀ whole,isTrue a X.env whole=(do let v ← whole;standAt a.pos;holding [v] (truthy v)):=by intro _;rfl):PDT X M a (tV f) :=
 (qh8 h he).weak fun σ H Q ⟨S,ρ,d,hs,e,q⟩=>by
  obtain ⟨x,e1,e⟩:=qe e
  cases Qt e
  exact ⟨S,ρ,_,hs,e1,fun v H1 g1 d1=>⟨d,d1.bool_inv,q H1 g1⟩⟩
theorem qM {op:CmpOp}{g:Ka->Ka->Option Ka}(ho:OpD X (compareOp op) g)(ha:PD X M a fa)(hb:PD X M b fb)(hm:behindInMarks op b=false):PDT X M (.Compare a [op] [b] pos) (tV (ev2 fa fb g)) :=
 (qgu ho ha hb hm).weak fun σ H Q ⟨S,ρ,d,hs,e,q⟩=>by
  obtain ⟨x,e1,e⟩:=qe e
  cases Qt e
  exact tD2 σ H _ ⟨S,ρ,_,hs,e1,fun v H1 g1 d1=>⟨d,d1.bool_inv,q H1 g1⟩⟩
theorem ZR (h:PDT X M a p):PDT X M (.UnaryOp .Not a pos) (tN p) :=
 (qh7 h).weak fun σ H Q ⟨S,ρ,d,hs,e,q⟩=>by
  obtain ⟨x,e1,e⟩:=qe e
  cases e
  exact ⟨S,ρ,x,hs,e1,fun H1 g1=>q H1 g1⟩
def PDW (X:Cx)(M:List Nat)(e:Kw)(f:Rho->Option Bool):Prop:=PW X e (tDT X.K M f)
theorem PDW.pdt (h:PDW X M a p):PDT X M a p:=PW.pt h
theorem Jj (h:PDT X M a p):PDW X M (.BoolOp .And [a] pos) p:=qgx h
theorem Wu (h:PDT X M a p):PDW X M (.BoolOp .Or [a] pos) p:=qic h
theorem yp (ha:PDT X M a p)(hb:PDW X M (.BoolOp .And (b::rest) pos) q):PDW X M (.BoolOp .And (a::b::rest) pos) (tA p q) :=
 (qib ha hb).weak fun σ H Q ⟨S,ρ,d,hs,e,w⟩=>by
  obtain ⟨x,e1,e⟩:=qe e
  refine ⟨S,ρ,x,hs,e1,fun H1 g1=>?_⟩
  cases x with
  | true=>exact iteT ⟨S,ρ,d,hs.same g1,e,fun H2 g2=>w H2 (g1.trans g2)⟩
  | false=>cases e;exact iteF (w H1 g1)
theorem Yj (ha:PDT X M a p)(hb:PDW X M (.BoolOp .Or (b::rest) pos) q):PDW X M (.BoolOp .Or (a::b::rest) pos) (tO p q) :=
 (pw_or ha hb).weak fun σ H Q ⟨S,ρ,d,hs,e,w⟩=>by
  obtain ⟨x,e1,e⟩:=qe e
  refine ⟨S,ρ,x,hs,e1,fun H1 g1=>?_⟩
  cases x with
  | true=>cases e;exact iteT (w H1 g1)
  | false=>exact iteF ⟨S,ρ,d,hs.same g1,e,fun H2 g2=>w H2 (g1.trans g2)⟩
theorem JP {op}(h:PD X M a f):PD X M (.BoolOp op [a] pos) f:=qhY h
theorem jD (ha:PD X M a fa)(hb:PD X M (.BoolOp .And (b::rest) pos) fb):PD X M (.BoolOp .And (a::b::rest) pos) (vA fa fb) :=
 (qhU ha hb).weak fun σ H Q ⟨S,ρ,d,hs,e,w⟩=>by
  obtain ⟨x,e1,e⟩:=qe e
  obtain ⟨c,e2,e⟩:=qe e
  cases Qt e2
  refine ⟨S,ρ,_,hs,e1,fun v H1 g1 d1=>⟨c,d1.bool_inv,?_⟩⟩
  cases c with
  | true=>exact iteT ⟨S,ρ,d,hs.same g1,e,fun v H2 g2 d2=>w v H2 (g1.trans g2) d2⟩
  | false=>cases e;exact iteF (w _ H1 g1 (.bool false))
theorem pd_or (ha:PD X M a fa)(hb:PD X M (.BoolOp .Or (b::rest) pos) fb):PD X M (.BoolOp .Or (a::b::rest) pos) (vO fa fb) :=
 (pe_or ha hb).weak fun σ H Q ⟨S,ρ,d,hs,e,w⟩=>by
  obtain ⟨x,e1,e⟩:=qe e
  obtain ⟨c,e2,e⟩:=qe e
  cases Qt e2
  refine ⟨S,ρ,_,hs,e1,fun v H1 g1 d1=>⟨c,d1.bool_inv,?_⟩⟩
  cases c with
  | true=>cases e;exact iteT (w _ H1 g1 (.bool true))
  | false=>exact iteF ⟨S,ρ,d,hs.same g1,e,fun v H2 g2 d2=>w v H2 (g1.trans g2) d2⟩
theorem qhT (ha:PD X M a fa):PD X M (.UnaryOp .Not a pos) (vN fa) :=
 (qhX ha).weak fun σ H Q ⟨S,ρ,d,hs,e,w⟩=>by
  obtain ⟨x,e1,e⟩:=qe e
  obtain ⟨c,e2,e⟩:=qe e
  cases Qt e2
  cases e
  exact ⟨S,ρ,_,hs,e1,fun v H1 g1 d1=>⟨c,d1.bool_inv,w _ H1 g1 (.bool _)⟩⟩
structure IsIt (K:Kc)(S:Av)(J:It)(H:Hp)(ds:List Ka):Prop where
 go:∀ (i:Nat) (H':Hp),Same H H'->i<ds.length->J.go i H'
 yld:∀ (i:Nat) (H':Hp) (x:V) (H2:Hp),Same H H'->J.yld i H' x H2->Same H' H2/\∀ d,ds[i]?=some d->∀ S':Av,(∀ y e,Den K H S y e->Den K H2 S' y e)->Den K H2 S' x d
 stop:∀ H':Hp,Same H H'->J.stop ds.length H'
theorem IsIt.lst {K:Kc}{H:Hp}{S:Av}{l:Kd}{xs:List V}{ds:List Ka}(h:SqL K H l xs)(t:DenL K H S xs ds):IsIt K S (Itl K l) H ds where
 go:=fun i H' e hi=>by
  have hi':i<xs.length:=by rw [t.length];exact hi
  exact ⟨xs,xs[i],e.seq h,Kj hi'⟩
 yld:=fun i H' x H2 e ⟨e2,q⟩=>⟨by rw [e2];exact Same.refl _,fun d hd S' w=>by
  obtain ⟨v,h1,h2⟩:=t.get hd
  have:=q xs (e.seq h)
  rw [h1] at this
  cases this
  exact w _ _ h2⟩
 stop:=fun H' e=>⟨xs,e.seq h,by rw [t.length];exact Km _⟩
theorem IsIt.tup {K:Kc}{H:Hp}{S:Av}{l:Kd}{xs:List V}{ds:List Ka}(h:SqT K H l xs)(t:DenL K H S xs ds):IsIt K S (Itt K l) H ds where
 go:=fun i H' e hi=>by
  have hi':i<xs.length:=by rw [t.length];exact hi
  exact ⟨xs,xs[i],e.sqT h,Kj hi'⟩
 yld:=fun i H' x H2 e ⟨e2,q⟩=>⟨by rw [e2];exact Same.refl _,fun d hd S' w=>by
  obtain ⟨v,h1,h2⟩:=t.get hd
  have:=q xs (e.sqT h)
  rw [h1] at this
  cases this
  exact w _ _ h2⟩
 stop:=fun H' e=>⟨xs,e.sqT h,by rw [t.length];exact Km _⟩
theorem SqLS.off {K:Kc}{H H':Hp}{S:Av}{a:Kd}{xs:List V}(e:Off S H H')(h:SqLS K H S a xs):SqLS K H' S a xs:=h.imp (fun q=>⟨q.1.off e q.2,q.2⟩) id
theorem SqT.off {K:Kc}{H H':Hp}{S:Av}{a:Kd}{xs:List V}(m:Dm S H)(e:Off S H H')(h:SqT K H a xs):SqT K H' a xs:=h.imp (fun q=>q.off e (m.tup q)) id
def rngL:Int->Nat->List Ka
 | _,0=>[]
 | lo,n+1=>.int lo::rngL (lo+1) n
theorem je:∀ (lo:Int) (n:Nat),(rngL lo n).length=n
 | _,0=>rfl
 | lo,n+1=>by rw [rngL,KM,je]
theorem qaB:∀ (lo:Int) (n i:Nat) (d:Ka),(rngL lo n)[i]?=some d->d=.int (lo+i)
 | _,0,_,_,h=>by simp [rngL] at h
 | lo,n+1,0,d,h=>by simp [rngL] at h;subst h;simp
 | lo,n+1,i+1,d,h=>by
  have:=qaB (lo+1) n i d (by simpa [rngL] using h)
  rw [this]
  congr 1
  omega
theorem IsIt.rng {K:Kc}{H:Hp}{S:Av}(lo:Int)(n:Nat):IsIt K S (Itr lo n) H (rngL lo n) where
 go:=fun i H' e hi=>by rw [je] at hi;exact hi
 yld:=fun i H' x H2 e ⟨e2,q⟩=>⟨by rw [e2];exact Same.refl _,fun d hd _ _=>by
  have q':x=.int (lo+i):=q
  rw [qaB lo n i d hd,q']
  exact .int _⟩
 stop:=fun H' e=>by rw [je];exact Km n
def tDI (K:Kc)(M:List Nat)(f:Rho->Option (List Ka)):TI:=fun σ H R=>∃ S ρ ds,DenS K H S M σ ρ/\f ρ=some ds/\∀ J H',Same H H'->(∀ H2,Off S H' H2->IsIt K S J H2 ds)->R J H'
def PDI (X:Cx)(M:List Nat)(tg iter:Kw)(f:Rho->Option (List Ka)):Prop:=PI X tg iter (tDI X.K M f)
theorem PI.weak {X:Cx}{tg e:Kw}{t t':TI}(h:PI X tg e t)(w:∀ σ H R,t' σ H R->t σ H R):PI X tg e t':=fun pins s σ H Q I q=>h pins s σ H Q I (w σ H Q q)
def iSeq (K:Kc)(tl:TE):TI:=fun σ H R=>tl σ H fun x H1=>∃ a,x=.ref a/\(((∃ xs,SqL K H1 a xs)/\R (Itl K a) H1)\/((∃ xs,SqT K H1 a xs)/\R (Itt K a) H1))
theorem qh1 {tg l:Kw}{tl:TE}(hl:PE X l tl):PI X tg l (iSeq X.K tl):=by
 intro pins s σ H R I h
 refine thn (hl pins s σ H _ I h) fun v s1 ⟨x,H1,I1,r1,q1⟩=>?_
 obtain ⟨a,e,q1⟩:=q1
 subst e
 cases r1
 have fp:∀ b∈[s1.heap.objs.size],FpOk X pins H1 b:=fun b hb=>by
  have e:b=s1.heap.objs.size:=by simpa using hb
  subst e
  exact I1.fpOk (Km _) (I1.hok.fresh (Km _))
 rcases q1 with ⟨⟨xs,hq⟩,q⟩|⟨⟨xs,hq⟩,q⟩
 ·obtain ⟨its,rv,p,hz⟩:=I1.list hq
  refine wpAny_pyIter_list p.isList ?_
  exact ⟨s1.heap.objs.size,[s1.heap.objs.size],_,_,H1,rfl,I1.kept (t':=s1.toks) fun b o e=>Kk _ e,qc4 a _,⟨_,K4 _ rfl,rfl,rfl⟩,fp,q⟩
 ·obtain ⟨its,rv,p,hz⟩:=I1.tuple hq
  refine wpAny_pyIter_tuple (show s1.heap.IsTuple a its.toArray from p) ?_
  exact ⟨s1.heap.objs.size,[s1.heap.objs.size],_,_,H1,rfl,I1.kept (t':=s1.toks) fun b o e=>Kk _ e,qbi a _,⟨_,K4 _ rfl,rfl,rfl⟩,fp,q⟩
def seqD:Ka->Option (List Ka)
 | .list ds=>some ds
 | .tuple ds=>some ds
 | _=>none
theorem zZ {tg:Kw}(h:PD X M a f):PDI X M tg a (evI f seqD) :=
 (qh1 h).weak fun σ H R ⟨S,ρ,ds,hs,e,w⟩=>by
  obtain ⟨x,e1,e⟩:=qe e
  refine ⟨S,ρ,x,hs,e1,fun v H1 g1 d1=>?_⟩
  cases d1 with
  | list h t=>cases e;exact ⟨_,rfl,.inl ⟨⟨_,h.sq⟩,w _ _ g1 fun H2 o=>IsIt.lst (h.off o).sq (t.off (hs.1.same g1) o)⟩⟩
  | tuple h t=>cases e;exact ⟨_,rfl,.inr ⟨⟨_,h⟩,w _ _ g1 fun H2 o=>IsIt.tup (h.off (hs.1.same g1) o) (t.off (hs.1.same g1) o)⟩⟩
  | _=>cases e
def Qp:List Ka->Option (List Ka)
 | [.int j]=>if -1000<=j/\j<=1000 then some (rngL 0 j.toNat) else none
 | _=>none
theorem Yi {tg:Kw}{fs:Rho->Option (List Ka)}{p:Pos}(hg:Gl X "range")(hm:X.mg "range" = none)(ha:PDA X M [a] fs)(hs:starEach [a] X.env=[(false,eval a X.env)]:=by rfl):PDI X M tg (.Call (.Name "range" p) [a] [] pos) (evR fs Qp) :=
 (wF hg hm ha hs).weak fun σ H R ⟨S,ρ,ds,hs,e,w⟩=>by
  obtain ⟨xs,e1,e⟩:=qe e
  refine ⟨S,ρ,xs,hs,e1,fun vs H1 g1 d1=>?_⟩
  unfold Qp at e
  split at e
  ·rename_i j
   split at e
   ·rename_i hj
    cases e
    obtain ⟨v,rfl,q⟩:=d1.inv1
    cases q
    exact ⟨j,rfl,by omega,by omega,w _ _ g1 fun _ _=>IsIt.rng 0 _⟩
   ·cases e
  ·cases e
def Ql (tt:Rho->Option Bool)(te:Rho->Option Ka)(ρ:Rho):List Ka->Option (List Ka)
 | []=>some []
 | d::ds=>ob (tt (ρ++[some d])) fun b=>if b=true then ob (te (ρ++[some d])) fun y=>ob (Ql tt te ρ ds) fun ys=>some (y::ys) else Ql tt te ρ ds
def QF (n:Nat)(fi:Rho->Option (List Ka))(tt:Rho->Option Bool)(te:Rho->Option Ka)(ρ:Rho):Option Ka :=
 ob (fi ρ) fun ds=>if ρ.length=n/\ds.length<=1000 then ob (Ql tt te ρ ds) fun ys=>some (.list ys) else none
def PDTs (X:Cx)(M:List Nat)(ifs:List Kw)(p:Rho->Option Bool):Prop:=PTs X ifs (tDT X.K M p)
theorem jd:PDTs X M [] tT:=fun pins s σ H Q I ⟨S,ρ,b,hs,e,q⟩=>by
 cases e
 exact qgv pins s σ H Q I (q H (Same.refl H))
def lc1 (sc:Vq)(x:Str):Bool:=decide (sc.names.lookup x=some .local)||decide (sc.names.lookup x=some .cell)
theorem Js {env:Env}:∀ {names:List (Str×NameKind)} {x:Str},names.lookup x=some .cell->
  (names.map fun (n,k)=>if (k==Vd&&env.scope.kind==.function&&env.kindOf n==some .cell) then (n,VO) else (n,k)).lookup x=some .cell
 | [],_,h=>by simp at h
 | (n,k)::r,x,h=>by
  have ih:=@Js env r x
  show Ul x ((if (k==Vd&&env.scope.kind==.function&&env.kindOf n==some .cell)=true then (n,VO) else (n,k))::_)=_
  rw [Ve] at h
  by_cases hx:(x==n)=true
  ·rw [hx] at h;cases h
   split<;>rw [Ve,hx]
  ·rw [XB.mpr hx] at h
   split<;>rw [Ve,XB.mpr hx]<;>exact ih h
def tDGc (K:Kc)(M:List Nat)(g:Ka->Rho->Option Rho):TG:=fun v σ H Q=>∃ S ρ d ρ',DenS K H S M σ ρ/\Den K H S v d/\g d ρ=some ρ'/\∀ σ' H',Same H H'->DenS K H' S M σ' ρ'->Q σ' H'
def PDGc (X:Cx)(M:List Nat)(t:Kw)(g:Ka->Rho->Option Rho):Prop:=PG X t (tDGc X.K M g)
theorem PG.weak {X:Cx}{e:Kw}{t t':TG}(h:PG X e t)(w:∀ v σ H Q,t' v σ H Q->t v σ H Q):PG X e t':=fun pins s σ H v u Q I r q=>h pins s σ H v u Q I r (w v σ H Q q)
theorem PGs.weak {X:Cx}{e:List Kw}{t t':TGs}(h:PGs X e t)(w:∀ v σ H Q,t' v σ H Q->t v σ H Q):PGs X e t':=fun pins s σ H v u Q I r q=>h pins s σ H v u Q I r (w v σ H Q q)
def unpD (n:Nat)(g:List Ka->Rho->Option Rho):Ka->Rho->Option Rho
 | .tuple ds,ρ=>if ds.length=n then g ds ρ else none
 | _,_=>none
theorem wz (i:Nat){x:Str}(hN:X.N.Nodup)(hx:Loc X.env.scope x)(hi:X.N[i]?=some x)(hf:X.fn x=true\/X.env.scope.names.lookup x=some .local):PDGc X M (.Name x pos) (gNm i) :=
 (qb5 hN hi hx hf).weak fun v σ H Q ⟨S,ρ,d,ρ',hs,hd,e,q⟩=>by
  cases e
  exact q _ H (Same.refl H) (hs.set hd i)
def GIn (n k:Nat)(g:Ka->Rho->Option Rho):Prop:=∀ d (ρ r ρ1:Rho),ρ.length=n->r.length=k->g d (ρ++r)=some ρ1->∃ r',r'.length=k/\ρ1=ρ++r'
theorem Z8 {n k i:Nat}(h:n<=i):GIn n k (gNm i):=fun d ρ r ρ1 h1 h2 e=>by
 cases e
 refine ⟨r.set (i-n) (some d),by rw [Vs];exact h2,?_⟩
 rw [Ej _ _ (by omega),h1]
def Qm (k:Nat)(g:Ka->Rho->Option Rho)(tt:Rho->Option Bool)(te:Rho->Option Ka)(ρ:Rho):List Ka->Option (List Ka)
 | []=>some []
 | d::ds=>ob (g d (ρ++Vc k none)) fun ρ1=>ob (tt ρ1) fun b=>if b=true then ob (te ρ1) fun y=>ob (Qm k g tt te ρ ds) fun ys=>some (y::ys) else Qm k g tt te ρ ds
def Zn (n k:Nat)(fi:Rho->Option (List Ka))(g:Ka->Rho->Option Rho)(tt:Rho->Option Bool)(te:Rho->Option Ka)(ρ:Rho):Option Ka :=
 ob (fi ρ) fun ds=>if ρ.length=n/\ds.length<=1000 then ob (Qm k g tt te ρ ds) fun ys=>some (.list ys) else none
theorem yG {tt:Rho->Option Bool}{te:Rho->Option Ka}{ρ:Rho}{n:Nat}(hn:ρ.length=n):∀ ds,Qm 1 (gNm n) tt te ρ ds=Ql tt te ρ ds
 | []=>rfl
 | d::ds=>by
  have e:gNm n d (ρ++Vc 1 none)=some (ρ++[some d]):=by
   show some ((ρ++[none]).set n (some d))=_
   rw [← hn,Ej _ _ (Km _)]
   simp
  rw [Qm,Ql,e]
  show (ob (tt (ρ++[some d])) fun b=>_)=_
  rw [yG hn ds]
theorem ZP (n:Nat)(fi:Rho->Option (List Ka))(tt:Rho->Option Bool)(te:Rho->Option Ka):QF n fi tt te=Zn n 1 fi (gNm n) tt te:=by
 funext ρ
 unfold QF Zn
 cases fi ρ with
 | none=>rfl
 | some ds =>
  show (if ρ.length=n/\ds.length<=1000 then _ else none)=(if ρ.length=n/\ds.length<=1000 then _ else none)
  split
  ·rename_i h
   rw [yG h.1]
  ·rfl
theorem DenS.forget {K:Kc}{H:Hp}{S:Av}{σ:St}{ρ r':Rho}{k:Nat}(h:DenS K H S M σ (ρ++r'))(hk:r'.length=k):DenS K H S M σ (ρ++Vc k none):=by
 refine ⟨h.1,by rw [h.2.1,Kp,Kp,VR,hk],fun i d hi e=>?_⟩
 by_cases hlt:i<ρ.length
 ·rw [VI hlt] at e
  exact h.2.2 i d hi (by rw [VI hlt];exact e)
 ·rw [Ud (by omega)] at e
  have:=Us (a:=(none:Option Ka)) (n:=k) (i:=i-ρ.length)
  rw [this] at e
  split at e<;>cases e
theorem DenS.more {K:Kc}{H:Hp}{S:Av}{σ:St}{ρ:Rho}(k:Nat)(h:DenS K H S M σ ρ):DenS K H S M (σ++Vc k none) (ρ++Vc k none):=by
 refine ⟨h.1,by rw [Kp,Kp,h.2.1,VR,VR],fun i d hi e=>?_⟩
 by_cases hlt:i<ρ.length
 ·rw [VI hlt] at e
  obtain ⟨v,a,b⟩:=h.2.2 i d hi e
  exact ⟨v,by rw [VI (by rw [h.2.1];exact hlt)];exact a,b⟩
 ·rw [Ud (by omega)] at e
  have:=Us (a:=(none:Option Ka)) (n:=k) (i:=i-ρ.length)
  rw [this] at e
  split at e<;>cases e
theorem qcg {K:Kc}{n k:Nat}{fi:Rho->Option (List Ka)}{g:Ka->Rho->Option Rho}(hg:GIn n k g):∀ σ H Q S ρ ds ys,DenS K H S M σ ρ->fi ρ=some ds->ρ.length=n->ds.length<=1000->Qm k g p f ρ ds=some ys->(∀ H' zs,Same H H'->DenL K H' S zs ys->∀ D,H' D=none->Q (.ref D) (upd H' D (.lst zs)))->wJ k (tDI K M fi) (tDGc K M g) (tDT K M p) (tD K M f) σ H Q:=by
 intro σ H Q S ρ ds ys hs e1 hn hz e2 q
 refine ⟨S,ρ,ds,hs,e1,fun J H1 g1 hJ0=>?_⟩
 have hJ:=hJ0 H1 fun _ _ _ z=>z
 have z1000:1000<sizeLine:=zj (Km _)
 refine ⟨fun i m zs σ' H'=>m=ds.length-i/\i<=ds.length/\zs.length<=i/\Same H1 H'/\DenS K H' S M σ' (ρ++Vc k none)/\∃ pre rest,DenL K H' S zs pre/\Qm k g p f ρ (ds.drop i)=some rest/\pre++rest=ys,⟨ds.length,by simp,Vz _,Km _,Same.refl _,(hs.same g1).more k,[],ys,.nil,e2,rfl⟩,?_⟩
 rintro i m zs σ' H' ⟨rfl,hi,hzi,g2,hS,pre,rest,dl,er,rfl⟩
 by_cases hlt:i<ds.length
 ·refine .inr ⟨hJ.go i H' g2 hlt,fun x H2 y=>?_⟩
  obtain ⟨g2',yd⟩:=hJ.yld i H' x H2 g2 y
  have hd:=yd _ (Kj hlt) S fun y e q=>q.same (g2.trans g2')
  rw [VU hlt] at er
  obtain ⟨ρ1,r1,er⟩:=qe er
  obtain ⟨bb,b1,er⟩:=qe er
  obtain ⟨r',hr',rfl⟩:=hg _ ρ _ ρ1 hn (VR) r1
  have g2:=g2.trans g2'
  have dl:=dl.same g2'
  refine ⟨S,_,_,_,hS.same g2',hd,r1,fun σ3 H3 g3 hS3=>⟨S,_,bb,hS3,b1,fun H4 g4=>?_⟩⟩
  cases bb with
  | true =>
   rw [if_pos rfl] at er
   obtain ⟨y1,e3,er⟩:=qe er
   obtain ⟨ys1,e4,er⟩:=qe er
   cases er
   refine iteT ⟨S,_,y1,hS3.same g4,e3,fun v H5 g5 d5=>⟨by omega,ds.length-(i+1),by omega,rfl,hlt,by rw [Kp,Kv];omega,g2.trans (g3.trans (g4.trans g5)),(hS3.same (g4.trans g5)).forget hr',pre++[y1],ys1,(dl.same (g3.trans (g4.trans g5))).snoc d5,e4,by simp⟩⟩
  | false =>
   rw [if_neg Ug] at er
   exact iteF ⟨ds.length-(i+1),by omega,rfl,hlt,by omega,g2.trans (g3.trans g4),(hS3.same g4).forget hr',pre,rest,dl.same (g3.trans g4),er,rfl⟩
 ·have hi':i=ds.length:=by omega
  subst hi'
  rw [XM] at er
  cases er
  refine .inl ⟨hJ.stop H' g2,fun D hD=>q H' zs (g1.trans g2) (by rw [VN];exact dl) D hD⟩
theorem jx {n k:Nat}{fi:Rho->Option (List Ka)}{g:Ka->Rho->Option Rho}{tt:Rho->Option Bool}{te:Rho->Option Ka}{ρ:Rho}{d:Ka}(e:Zn n k fi g tt te ρ=some d):∃ ds ys,fi ρ=some ds/\ρ.length=n/\ds.length<=1000/\Qm k g tt te ρ ds=some ys/\d=.list ys:=by
 obtain ⟨ds,e1,e⟩:=qe e
 split at e
 ·rename_i hc
  obtain ⟨ys,e2,e⟩:=qe e
  cases e
  exact ⟨ds,ys,e1,hc.1,hc.2,e2,rfl⟩
 ·cases e
theorem qix {K:Kc}{n k:Nat}{fi:Rho->Option (List Ka)}{g:Ka->Rho->Option Rho}(hg:GIn n k g):∀ σ H Q,tD K M (Zn n k fi g p f) σ H Q->wJ k (tDI K M fi) (tDGc K M g) (tDT K M p) (tD K M f) σ H Q:=by
 intro σ H Q ⟨S,ρ,d,hs,e,q⟩
 obtain ⟨ds,ys,e1,hn,hz,e2,rfl⟩:=jx e
 exact qcg hg σ H Q S ρ ds ys hs e1 hn hz e2 fun H' zs g2 dl D hD=>q _ _ (g2.lay' hD) (.list (SqLS.new qI ((hs.1.same g2).free hD)) (dl.same (Same.lay hD)))
section
variable {elt iter tg:Kw}{ifs:List Kw}{x:Str}{N':List Str}{px:Pos}{sc:Vq}{n k:Nat}{fi:Rho->Option (List Ka)}{g:Ka->Rho->Option Rho}
theorem Jl {i:Nat}(O:CompOk X N' k sc)(hx:N'[i]?=some x)(hl:lc1 sc x=true)(cl:List (Str×Addr))(C:Kd)(fp:List Kd)(pins:List (Kd×Obj))(s:Kf)(H:Hp):PDGc (qJ X N' sc cl C fp pins s H) M (.Name x px) (gNm i) :=
 (Bool.or_eq_true_iff.mp hl).elim (fun hl =>
  have hloc:(relabel sc X.env).names.lookup x=some .local:=lookup_relabel_local (of_decide_eq_true hl)
  wz (X:=qJ X N' sc cl C fp pins s H) i O.nd' (.inl hloc) hx (.inr hloc)) fun hl =>
  have hloc:(relabel sc X.env).names.lookup x=some .cell:=Js (of_decide_eq_true hl)
  wz (X:=qJ X N' sc cl C fp pins s H) i O.nd' (.inr hloc) hx (.inl hl)
theorem qeb (O:CompOk X N' k sc)(gi:GIn n k g)(hi:PDI X M tg iter fi)(hg:∀ cl C fp pins s H,PDGc (qJ X N' sc cl C fp pins s H) M tg g)(hq:∀ cl C fp pins s H,PDTs (qJ X N' sc cl C fp pins s H) M ifs p)(he:∀ cl C fp pins s H,PD (qJ X N' sc cl C fp pins s H) M elt f)
  (hs:∀ v,foldedSetIterable iter X.env v=pure v:=by intro _;rfl):PD X M (.ListComp elt [⟨tg,iter,ifs,0⟩] sc pos) (Zn n k fi g p f) :=
 (qb3 (wg:=tDGc X.K M g) (tt:=tDT X.K M p) (te:=tD X.K M f) O hi hg hq he hs).weak (qix gi)
theorem qgf (O:CompOk X N' 1 sc)(hx:N'[n]?=some x)(hl:lc1 sc x=true)(hi:PDI X M (.Name x px) iter fi)(hq:∀ cl C fp pins s H,PDTs (qJ X N' sc cl C fp pins s H) M ifs p)(he:∀ cl C fp pins s H,PD (qJ X N' sc cl C fp pins s H) M elt f)
  (hs:∀ v,foldedSetIterable iter X.env v=pure v:=by intro _;rfl):PD X M (.ListComp elt [⟨.Name x px,iter,ifs,0⟩] sc pos) (QF n fi p f):=by
 rw [ZP]
 exact qeb O (Z8 (Km _)) hi (Jl O hx hl) hq he hs
end
end
structure Gm where
 H0:Hp
 S0:Av
 lk:Nat->Kd×PyData
def insA (S:Av)(p:Kd):Av:=fun a=>S a\/a=p
inductive OwnO (K:Kc)(H:Hp)(S:Av)(p:Kd):Ka->Prop
 | lst {xs:List V} {ds:List Ka}:H p=some (.lst xs)->DenL K H S xs ds->OwnO K H S p (.list ds)
 | dct {kvs:List (KX×Addr×V)} {ep:Nat} {ds:List Ka}:H p=some (DctO p kvs ep)->DenL K H S (kvs.map fun p=>kxV p.1 p.2.1) (kvs.map fun p=>kxD p.1)->DenL K H S (kvs.map (·.2.2)) ds->OwnO K H S p (.dict (dkv kvs ds))
section
variable {K:Kc}{H H':Hp}{S S':Av}{p:Kd}{d:Ka}
theorem OwnO.same (e:Same H H')(h:OwnO K H S p d):OwnO K H' S p d:=by
 cases h with
 | lst h t=>exact .lst (e _ _ h) (t.same e)
 | dct h k t=>exact .dct (e _ _ h) (k.same e) (t.same e)
theorem OwnO.sub (e:∀ a,H a≠none->S' a->S a)(h:OwnO K H S p d):OwnO K H S' p d:=by
 cases h with
 | lst h t=>exact .lst h (t.sub e)
 | dct h k t=>exact .dct h (k.sub e) (t.sub e)
theorem OwnO.mut (h:OwnO K H S p d):∃ o,H p=some o/\Z9 o=true:=by
 cases h with
 | lst h t=>exact ⟨_,h,rfl⟩
 | dct h k t=>exact ⟨_,h,rfl⟩
theorem OwnO.dom (h:OwnO K H S p d):H p≠none:=by
 obtain ⟨o,e,_⟩:=h.mut
 rw [e];exact fun z=>nomatch z
theorem OwnO.den (h:OwnO K H S p d)(n:¬ S' p)(e:∀ a,H a≠none->S' a->S a):Den K H S' (.ref p) d:=by
 cases h with
 | lst h t=>exact .list (SqLS.new h n) (t.sub e)
 | dct h k t=>exact .dict ⟨h,n⟩ (k.sub e) (t.sub e)
theorem OwnO.upd {q:Kd}{o:HO}(m:Dm S H)(h:OwnO K H S p d)(hq:S q)(hm:Z9 o=true)(ne:p≠q):OwnO K (upd H q o) S p d:=by
 have off:Off S H (L2.upd H q o):=fun b u n e=>by
  rw [qD (fun z=>n (by rw [z];exact hq))];exact e
 cases h with
 | lst h t=>exact .lst (by rw [qD ne];exact h) (t.off m off)
 | dct h k t=>exact .dct (by rw [qD ne];exact h) (k.off m off) (t.off m off)
theorem Dm.upd {q:Kd}{o:HO}(m:Dm S H)(hm:Z9 o=true):Dm S (upd H q o):=fun a ha=>by
 by_cases e:a=q
 ·subst e;exact ⟨o,qI,hm⟩
 ·rw [qD e];exact m a ha
theorem Dm.ins (m:Dm S H)(h:∃ o,H p=some o/\Z9 o=true):Dm (insA S p) H:=fun a ha=>by
 rcases ha with ha|rfl
 ·exact m a ha
 ·exact h
end
inductive Kids (K:Kc)(H:Hp)(S:Av):List Kd->List Ka->Prop
 | nil:Kids K H S [] []
 | cons {q:Kd} {xs:List V} {es:List Ka} {qs:List Kd} {ds:List Ka}:H q=some (.lst xs)->DenL K H S xs es->q∉qs->Kids K H S qs ds->Kids K H S (q::qs) (.list es::ds)
inductive DeepO (K:Kc)(H:Hp)(S:Av):List Kd->Kd->Ka->Prop
 | tpl {p:Kd} {qs:List Kd} {ds:List Ka}:H p=some (.tup (qs.map V.ref))->Kids K H S qs ds->DeepO K H S qs p (.tuple ds)
 | lst {p:Kd} {qs:List Kd} {ds:List Ka}:H p=some (.lst (qs.map V.ref))->p∉qs->Kids K H S qs ds->DeepO K H S (p::qs) p (.list ds)
 | dct {p:Kd} {kvs:List (KX×Addr×V)} {ep:Nat} {qs:List Kd} {ds:List Ka}:H p=some (DctO p kvs ep)->DenL K H S (kvs.map fun p=>kxV p.1 p.2.1) (kvs.map fun p=>kxD p.1)->kvs.map (·.2.2)=qs.map V.ref->p∉qs->Kids K H S qs ds->DeepO K H S (p::qs) p (.dict (dkv kvs ds))
section
variable {K:Kc}{H H':Hp}{S S':Av}{p:Kd}{d:Ka}{fp qs:List Kd}{ds:List Ka}
theorem Kids.same (e:Same H H'):∀ {qs:List Kd} {ds:List Ka},Kids K H S qs ds->Kids K H' S qs ds
 | _,_,.nil=>.nil
 | _,_,.cons h t n r=>.cons (e _ _ h) (t.same e) n (r.same e)
theorem Kids.sub (e:∀ a,H a≠none->S' a->S a):∀ {qs:List Kd} {ds:List Ka},Kids K H S qs ds->Kids K H S' qs ds
 | _,_,.nil=>.nil
 | _,_,.cons h t n r=>.cons h (t.sub e) n (r.sub e)
theorem Kids.mut:∀ {qs:List Kd} {ds:List Ka},Kids K H S qs ds->∀ q∈qs,∃ o,H q=some o/\Z9 o=true
 | _,_,.nil,q,hq=>absurd hq (by simp)
 | _,_,.cons h t n r,q,hq=>by
  rcases Kq.mp hq with e|hq
  ·rw [e];exact ⟨_,h,rfl⟩
  ·exact r.mut q hq
theorem Kids.den (e:∀ a,H a≠none->S' a->S a):∀ {qs:List Kd} {ds:List Ka},(∀ q∈qs,¬ S' q)->Kids K H S qs ds->DenL K H S' (qs.map V.ref) ds
 | _,_,_,.nil=>.nil
 | _,_,n,.cons h t _ r=>.cons (.list (SqLS.new h (n _ (.head _))) (t.sub e)) (r.den e fun q hq=>n q (.tail _ hq))
theorem Kids.upd {q:Kd}{o:HO}(m:Dm S H)(hq:S q):∀ {qs:List Kd} {ds:List Ka},q∉qs->Kids K H S qs ds->Kids K (upd H q o) S qs ds
 | _,_,_,.nil=>.nil
 | _,_,n,.cons h t n' r=>.cons (by rw [qD (fun z=>n (by rw [z];exact .head _))];exact h) (t.off m fun b u z e=>by rw [qD (fun y=>z (by rw [y];exact hq))];exact e) n' (r.upd m hq fun z=>n (.tail _ z))
theorem DeepO.same (e:Same H H')(h:DeepO K H S fp p d):DeepO K H' S fp p d:=by
 cases h with
 | tpl h t=>exact .tpl (e _ _ h) (t.same e)
 | lst h n t=>exact .lst (e _ _ h) n (t.same e)
 | dct h k v n t=>exact .dct (e _ _ h) (k.same e) v n (t.same e)
theorem DeepO.sub (e:∀ a,H a≠none->S' a->S a)(h:DeepO K H S fp p d):DeepO K H S' fp p d:=by
 cases h with
 | tpl h t=>exact .tpl h (t.sub e)
 | lst h n t=>exact .lst h n (t.sub e)
 | dct h k v n t=>exact .dct h (k.sub e) v n (t.sub e)
theorem DeepO.mut (h:DeepO K H S fp p d):∀ q∈fp,∃ o,H q=some o/\Z9 o=true:=by
 cases h with
 | tpl h t=>exact t.mut
 | lst h n t=>exact fun q hq=>(Kq.mp hq).elim (fun e=>by rw [e];exact ⟨_,h,rfl⟩) (t.mut q)
 | dct h k v n t=>exact fun q hq=>(Kq.mp hq).elim (fun e=>by rw [e];exact ⟨_,h,rfl⟩) (t.mut q)
theorem DeepO.den (h:DeepO K H S fp p d)(n:∀ q∈fp,¬ S' q)(e:∀ a,H a≠none->S' a->S a):Den K H S' (.ref p) d:=by
 cases h with
 | tpl h t=>exact .tuple (.inl (.inl h)) (t.den e n)
 | lst h _ t=>exact .list (SqLS.new h (n _ (.head _))) (t.den e fun q hq=>n q (.tail _ hq))
 | dct h k v _ t=>exact .dict ⟨h,n _ (.head _)⟩ (k.sub e) (by rw [v];exact t.den e fun q hq=>n q (.tail _ hq))
theorem DeepO.upd {q:Kd}{o:HO}(m:Dm S H)(h:DeepO K H S fp p d)(hq:S q)(ne:q∉fp):DeepO K (upd H q o) S fp p d:=by
 have off:Off S H (L2.upd H q o):=fun b u n e=>by
  rw [qD (fun z=>n (by rw [z];exact hq))];exact e
 cases h with
 | tpl h t=>exact .tpl (by rw [qD (fun z=>m.tup (.inl h) (by rw [z];exact hq))];exact h) (t.upd m hq ne)
 | lst h n t=>exact .lst (by rw [qD (fun z=>ne (by rw [z];exact .head _))];exact h) n (t.upd m hq fun z=>ne (.tail _ z))
 | dct h k v n t=>exact .dct (by rw [qD (fun z=>ne (by rw [z];exact .head _))];exact h) (k.off m off) v n (t.upd m hq fun z=>ne (.tail _ z))
end
abbrev Flt (M:List Nat)(i:Nat):Prop:=i∈M/\i+1000∉M
abbrev Dp (M:List Nat)(i:Nat):Prop:=i∈M/\i+1000∈M
abbrev Out0 (M:List Nat)(i:Nat):Prop:=i∉M/\i+1000∉M/\i<1000
structure SubM (A B:List Nat):Prop where
 sub:∀ i∈A,i∈B
 dp:∀ i∈A,i+1000∈B->i+1000∈A
theorem SubM.flt {A B:List Nat}{i:Nat}(h:SubM A B)(q:Flt A i):Flt B i:=⟨h.sub i q.1,fun z=>q.2 (h.dp i q.1 z)⟩
theorem SubM.deep {A B:List Nat}{i:Nat}(h:SubM A B)(q:Dp A i):Dp B i:=⟨h.sub i q.1,h.sub _ q.2⟩
def Has (ρ:Rho)(i:Nat):Prop:=∃ d:Ka,ρ[i]?=some (some d)
structure DeepF (K:Kc)(G:Gm)(M:List Nat)(H:Hp)(S:Av)(σ:St)(ρ:Rho)(F:Nat->List Kd):Prop where
 own:∀ i,Dp M i->∀ d,ρ[i]?=some (some d)->∃ p,σ[i]?=some (some (.ref p))/\DeepO K H S (F i) p d/\∀ q∈F i,S q/\¬ G.S0 q/\G.H0 q=none
 disj:∀ i,Dp M i->∀ j,Dp M j->Has ρ i->Has ρ j->∀ q,q∈F i->q∈F j->i=j
 flat:∀ i,Flt M i->∀ j,Dp M j->Has ρ i->Has ρ j->∀ p,σ[i]?=some (some (.ref p))->p∉F j
structure OwnS (K:Kc)(G:Gm)(M L:List Nat)(H:Hp)(S:Av)(σ:St)(ρ:Rho):Prop where
 ds:DenS K H S M σ ρ
 s0:∀ a,G.S0 a->S a
 h0:Same G.H0 H
 own:∀ i,Flt M i->∀ d,ρ[i]?=some (some d)->∃ p,σ[i]?=some (some (.ref p))/\OwnO K H S p d/\S p/\¬ G.S0 p/\(i∉L->G.H0 p=none)/\(i∈L->(p,d)=G.lk i)
 apart:∀ i,Flt M i->∀ j,Flt M j->∀ d e p,ρ[i]?=some (some d)->ρ[j]?=some (some e)->σ[i]?=some (some (.ref p))->σ[j]?=some (some (.ref p))->i=j
 bnd:∀ a,S a->G.S0 a\/G.H0 a=none\/∃ i∈L,a=(G.lk i).1
 lkd:∀ i∈L,Flt M i/\ρ[i]?=some (some (G.lk i).2)
 deep:∃ F,DeepF K G M H S σ ρ F
section
variable {K:Kc}{G:Gm}{M M' L:List Nat}{H H':Hp}{S:Av}{σ:St}{ρ:Rho}{v:V}{d:Ka}
theorem OwnS.same (e:Same H H')(h:OwnS K G M L H S σ ρ):OwnS K G M L H' S σ ρ :=
 ⟨h.ds.same e,h.s0,h.h0.trans e,fun i hi d q=>let ⟨p,a,b,c⟩:=h.own i hi d q;⟨p,a,b.same e,c⟩,h.apart,h.bnd,h.lkd,let ⟨F,f⟩:=h.deep;⟨F,fun i hi d q=>let ⟨p,a,b,c⟩:=f.own i hi d q;⟨p,a,b.same e,c⟩,f.disj,f.flat⟩⟩
theorem OwnS.lks (h:OwnS K G M L H S σ ρ):∀ i∈L,S (G.lk i).1:=fun i hi=>by
 obtain ⟨hm,e⟩:=h.lkd i hi
 obtain ⟨p,_,_,c,_,_,w⟩:=h.own i hm _ e
 rw [← w hi];exact c
theorem OwnS.den (h:OwnS K G M L H S σ ρ):DenS K H G.S0 [] σ ρ:=by
 refine ⟨h.ds.1.sub h.s0,h.ds.2.1,fun i d _ q=>?_⟩
 by_cases hi:i∈M
 ·by_cases hk:i+1000∈M
  ·obtain ⟨F,f⟩:=h.deep
   obtain ⟨p,a,b,c⟩:=f.own i ⟨hi,hk⟩ d q
   exact ⟨_,a,b.den (fun q hq=>(c q hq).2.1) fun a _ z=>h.s0 a z⟩
  ·obtain ⟨p,a,b,c,n,_⟩:=h.own i ⟨hi,hk⟩ d q
   exact ⟨_,a,b.den n fun a _ z=>h.s0 a z⟩
 ·obtain ⟨v,a,b⟩:=h.ds.2.2 i d hi q
  exact ⟨v,a,b.sub fun a _ z=>h.s0 a z⟩
theorem qy {α:Type}{xs:List α}{i j:Nat}{x:α}(h:i≠j):(xs.set i x)[j]?=xs[j]?:=Vw h
theorem OwnS.set (h:OwnS K G M L H S σ ρ)(q:Den K H S v d){i:Nat}(hi:i∉M):OwnS K G M L H S (σ.set i (some v)) (ρ.set i (some d)):=by
 have ne:∀ j∈M,i≠j:=fun j hj e=>hi (by rw [e];exact hj)
 obtain ⟨F,f⟩:=h.deep
 refine ⟨h.ds.set q i,h.s0,h.h0,fun j hj e he=>?_,fun j hj k hk e e' p h1 h2 h3 h4=>?_,h.bnd,fun j hj=>⟨(h.lkd j hj).1,by rw [qy (ne j (h.lkd j hj).1.1)];exact (h.lkd j hj).2⟩,F,fun j hj e he=>?_,fun j hj k hk h1 h2=>?_,fun j hj k hk h1 h2 p h3=>?_⟩
 ·rw [qy (ne j hj.1)] at he ⊢
  exact h.own j hj e he
 ·rw [qy (ne j hj.1)] at h1 h3
  rw [qy (ne k hk.1)] at h2 h4
  exact h.apart j hj k hk e e' p h1 h2 h3 h4
 ·rw [qy (ne j hj.1)] at he ⊢
  exact f.own j hj e he
 ·unfold Has at h1 h2
  rw [qy (ne j hj.1)] at h1
  rw [qy (ne k hk.1)] at h2
  exact f.disj j hj k hk h1 h2
 ·unfold Has at h1 h2
  rw [qy (ne j hj.1)] at h1 h3
  rw [qy (ne k hk.1)] at h2
  exact f.flat j hj k hk h1 h2 p h3
theorem OwnS.frz (h:OwnS K G M L H S σ ρ)(hs:SubM M' M)(hl:∀ i∈L,i∈M->i∈M'):∃ S',OwnS K G M' L H S' σ ρ:=by
 obtain ⟨F,f⟩:=h.deep
 have sb:∀ a,(S a/\(¬ ∃ i,Flt M i/\i∉M'/\Has ρ i/\σ[i]?=some (some (.ref a)))/\¬ ∃ i,Dp M i/\i∉M'/\Has ρ i/\a∈F i)->S a:=fun a z=>z.1
 refine ⟨fun a=>S a/\(¬ ∃ i,Flt M i/\i∉M'/\Has ρ i/\σ[i]?=some (some (.ref a)))/\¬ ∃ i,Dp M i/\i∉M'/\Has ρ i/\a∈F i,⟨?_,?_,?_⟩,?_,h.h0,?_,?_,?_,fun i hi=>⟨⟨hl i hi (h.lkd i hi).1.1,fun z=>(h.lkd i hi).1.2 (hs.sub _ z)⟩,(h.lkd i hi).2⟩,F,?_,?_,?_⟩
 ·exact h.ds.1.sub fun a z=>z.1
 ·exact h.ds.2.1
 ·intro i d hi q
  by_cases hm:i∈M
  ·by_cases hk:i+1000∈M
   ·obtain ⟨p,a,b,c⟩:=f.own i ⟨hm,hk⟩ d q
    exact ⟨_,a,b.den (fun r hr z=>z.2.2 ⟨i,⟨hm,hk⟩,hi,⟨d,q⟩,hr⟩) fun a _ z=>z.1⟩
   ·obtain ⟨p,a,b,c,_⟩:=h.own i ⟨hm,hk⟩ d q
    exact ⟨_,a,b.den (fun z=>z.2.1 ⟨i,⟨hm,hk⟩,hi,⟨d,q⟩,a⟩) fun a _ z=>z.1⟩
  ·obtain ⟨v,a,b⟩:=h.ds.2.2 i d hm q
   exact ⟨v,a,b.sub fun a _ z=>z.1⟩
 ·intro a ha
  refine ⟨h.s0 a ha,fun ⟨i,hm,hi,⟨d,q⟩,e⟩=>?_,fun ⟨i,hm,hi,⟨d,q⟩,e⟩=>?_⟩
  ·obtain ⟨p,e',b,c,n,_⟩:=h.own i hm d q
   rw [e] at e';cases e'
   exact n ha
  ·obtain ⟨p,e',b,c⟩:=f.own i hm d q
   exact (c a e).2.1 ha
 ·intro i hi d q
  obtain ⟨p,a,b,c,n,w,w'⟩:=h.own i (hs.flt hi) d q
  refine ⟨p,a,b.sub fun a _ z=>z.1,⟨c,fun ⟨j,hj,hj',⟨e,q'⟩,a'⟩=>?_,fun ⟨j,hj,hj',q',a'⟩=>?_⟩,n,w,w'⟩
  ·have:=h.apart i (hs.flt hi) j hj d e p q q' a a'
   subst this
   exact hj' hi.1
  ·exact f.flat i (hs.flt hi) j hj ⟨d,q⟩ q' p a a'
 ·exact fun i hi j hj=>h.apart i (hs.flt hi) j (hs.flt hj)
 ·exact fun a z=>h.bnd a z.1
 ·intro i hi d q
  obtain ⟨p,a,b,c⟩:=f.own i (hs.deep hi) d q
  refine ⟨p,a,b.sub fun a _ z=>z.1,fun r hr=>⟨⟨(c r hr).1,fun ⟨j,hj,hj',q',a'⟩=>?_,fun ⟨j,hj,hj',q',a'⟩=>?_⟩,(c r hr).2⟩⟩
  ·exact f.flat j hj i (hs.deep hi) q' ⟨d,q⟩ r a' hr
  ·have:=f.disj i (hs.deep hi) j hj ⟨d,q⟩ q' r hr a'
   subst this
   exact hj' hi.1
 ·exact fun i hi j hj=>f.disj i (hs.deep hi) j (hs.deep hj)
 ·exact fun i hi j hj=>f.flat i (hs.flt hi) j (hs.deep hj)
theorem qhk {i j:Nat}(hi:Out0 M i)(hj:Flt M j):Flt (i::M) j:=⟨.tail _ hj.1,fun z=>by rcases Kq.mp z with e|z;(have:=hi.2.2;omega);exact hj.2 z⟩
theorem JG {i j:Nat}(hj:Flt (i::M) j)(ne:i≠j):Flt M j:=⟨(Kq.mp hj.1).resolve_left fun z=>ne z.symm,fun z=>hj.2 (.tail _ z)⟩
theorem qbE {i j:Nat}(hi:Out0 M i)(hj:Dp (i::M) j):Dp M j:=by
 have q:j+1000∈M:=(Kq.mp hj.2).resolve_left fun z=>by have:=hi.2.2;omega
 refine ⟨(Kq.mp hj.1).resolve_left fun z=>hi.2.1 (by rw [← z];exact q),q⟩
theorem OwnS.take (h:OwnS K G M L H S σ ρ){p:Kd}{i:Nat}(hn:H p=none)(e:Same H H')(o:OwnO K H' (insA S p) p d)(hi:Out0 M i)(hl:i∉L)(hz:i<ρ.length):OwnS K G (i::M) L H' (insA S p) (σ.set i (some (.ref p))) (ρ.set i (some d)):=by
 have np:¬ S p:=h.ds.1.free hn
 have sub:∀ a,H a≠none->insA S p a->S a:=fun a ha z=>by
  rcases z with z|rfl
  ·exact z
  ·exact absurd hn ha
 have ne:∀ j∈M,i≠j:=fun j hj e=>hi.1 (by rw [e];exact hj)
 have hz':i<σ.length:=by rw [h.ds.2.1];exact hz
 have gi:(ρ.set i (some d))[i]?=some (some d):=Va hz
 have gi':(σ.set i (some (.ref p)))[i]?=some (some (.ref p)):=Va hz'
 obtain ⟨F,f⟩:=h.deep
 refine ⟨⟨(h.ds.1.same e).ins o.mut,by rw [Vs,Vs];exact h.ds.2.1,fun j d' hj q=>?_⟩,fun a z=>.inl (h.s0 a z),h.h0.trans e,fun j hj d' q=>?_,fun j hj k hk d1 d2 q h1 h2 h3 h4=>?_,fun a z=>?_,fun j hj=>⟨qhk hi (h.lkd j hj).1,by rw [qy (fun z=>hl (by rw [z];exact hj))];exact (h.lkd j hj).2⟩,
  F,fun j hj d' q=>?_,fun j hj k hk h1 h2=>?_,fun j hj k hk h1 h2 r h3=>?_⟩
 ·have hij:i≠j:=fun z=>hj (by rw [z];exact .head _)
  rw [qy hij] at q ⊢
  obtain ⟨v,a,b⟩:=h.ds.2.2 j d' (fun z=>hj (.tail _ z)) q
  exact ⟨v,a,(b.sub sub).same e⟩
 ·by_cases hij:i=j
  ·subst hij
   rw [gi] at q;cases q
   exact ⟨p,gi',o,.inr rfl,fun z=>np (h.s0 p z),fun _=>h.h0.free hn,fun z=>absurd z hl⟩
  ·rw [qy hij] at q ⊢
   obtain ⟨q',a,b,c,n,w⟩:=h.own j (JG hj hij) d' q
   exact ⟨q',a,(b.sub sub).same e,.inl c,n,w⟩
 ·have key:∀ m,Flt M m->∀ (d':Ka) (q:Kd),(ρ.set i (some d))[m]?=some (some d')->(σ.set i (some (.ref p)))[m]?=some (some (.ref q))->q≠p:=fun m hm d' q e1 e2 z=>by
   rw [qy (ne m hm.1)] at e1 e2
   obtain ⟨q',a,b,_⟩:=h.own m hm d' e1
   rw [e2] at a;cases a
   subst z
   exact b.dom hn
  by_cases ej:i=j
  ·by_cases ek:i=k
   ·rw [← ej,← ek]
   ·rw [← ej,gi'] at h3
    cases h3
    exact absurd rfl (key k (JG hk ek) d2 p h2 h4)
  ·by_cases ek:i=k
   ·rw [← ek,gi'] at h4
    cases h4
    exact absurd rfl (key j (JG hj ej) d1 p h1 h3)
   ·rw [qy ej] at h1 h3
    rw [qy ek] at h2 h4
    exact h.apart j (JG hj ej) k (JG hk ek) d1 d2 q h1 h2 h3 h4
 ·rcases z with z|rfl
  ·exact h.bnd a z
  ·exact .inr (.inl (h.h0.free hn))
 ·have hj':=qbE hi hj
  rw [qy (ne j hj'.1)] at q ⊢
  obtain ⟨q',a,b,c⟩:=f.own j hj' d' q
  exact ⟨q',a,(b.sub sub).same e,fun r hr=>⟨.inl (c r hr).1,(c r hr).2⟩⟩
 ·have hj':=qbE hi hj
  have hk':=qbE hi hk
  unfold Has at h1 h2
  rw [qy (ne j hj'.1)] at h1
  rw [qy (ne k hk'.1)] at h2
  exact f.disj j hj' k hk' h1 h2
 ·have hk':=qbE hi hk
  unfold Has at h1 h2
  rw [qy (ne k hk'.1)] at h2
  by_cases ej:i=j
  ·rw [← ej,gi'] at h3
   cases h3
   obtain ⟨d2,e2⟩:=h2
   obtain ⟨q',a,b,c⟩:=f.own k hk' d2 e2
   intro z
   obtain ⟨o2,z2,_⟩:=b.mut p z
   rw [hn] at z2;cases z2
  ·rw [qy ej] at h1 h3
   exact f.flat j (JG hj ej) k hk' h1 h2 r h3
def insL (S:Av)(fp:List Kd):Av:=fun a=>S a\/a∈fp
theorem Dm.insL {fp:List Kd}(m:Dm S H)(h:∀ q∈fp,∃ o,H q=some o/\Z9 o=true):Dm (insL S fp) H:=fun a ha=>by
 rcases ha with ha|ha
 ·exact m a ha
 ·exact h a ha
theorem qe1 {i j:Nat}(hj:j∈i::(i+1000)::M)(ne:i≠j)(n2:j≠i+1000):j∈M:=(Kq.mp ((Kq.mp hj).resolve_left fun z=>ne z.symm)).resolve_left n2
theorem yx {i j:Nat}(hj:Flt (i::(i+1000)::M) j)(n2:j≠i+1000):i≠j/\Flt M j:=by
 have ne:i≠j:=fun z=>hj.2 (by rw [← z];exact .tail _ (.head _))
 exact ⟨ne,qe1 hj.1 ne n2,fun z=>hj.2 (.tail _ (.tail _ z))⟩
theorem qbj {i j:Nat}(hi:i<1000)(hj:Dp (i::(i+1000)::M) j)(ne:i≠j)(n2:j≠i+1000):Dp M j:=by
 refine ⟨qe1 hj.1 ne n2,?_⟩
 rcases Kq.mp hj.2 with z|z
 ·omega
 ·rcases Kq.mp z with z|z
  ·omega
  ·exact z
theorem qiC {i j:Nat}(hi:i<1000)(hj:Flt M j)(ne:i≠j):Flt (i::(i+1000)::M) j:=⟨.tail _ (.tail _ hj.1),fun z=>by
 rcases Kq.mp z with z|z
 ·omega
 ·rcases Kq.mp z with z|z
  ·omega
  ·exact hj.2 z⟩
theorem qhn {i:Nat}(h:Has ρ i):i<ρ.length:=by
 obtain ⟨d,e⟩:=h
 exact (KL.mp e).1
theorem OwnS.takeD (h:OwnS K G M L H S σ ρ){p:Kd}{fp:List Kd}{i:Nat}(hn:∀ q∈fp,H q=none)(e:Same H H')(o:DeepO K H' (insL S fp) fp p d)(hi:Out0 M i)(hl:i∉L)(hz:i<ρ.length)(hz2:ρ.length<=1000) :
  OwnS K G (i::(i+1000)::M) L H' (insL S fp) (σ.set i (some (.ref p))) (ρ.set i (some d)):=by
 have sub:∀ a,H a≠none->insL S fp a->S a:=fun a ha z=>by
  rcases z with z|z
  ·exact z
  ·exact absurd (hn a z) ha
 have hz':i<σ.length:=by rw [h.ds.2.1];exact hz
 have gi:(ρ.set i (some d))[i]?=some (some d):=Va hz
 have gi':(σ.set i (some (.ref p)))[i]?=some (some (.ref p)):=Va hz'
 have n2:∀ j,Has (ρ.set i (some d)) j->j≠i+1000:=fun j hj=>by
  have:=qhn hj
  rw [Vs] at this
  omega
 obtain ⟨F,f⟩:=h.deep
 have fne:∀ j,j≠i->(if j=i then fp else F j)=F j:=fun j hj=>if_neg hj
 refine ⟨⟨(h.ds.1.same e).insL o.mut,by rw [Vs,Vs];exact h.ds.2.1,fun j d' hj q=>?_⟩,fun a z=>.inl (h.s0 a z),h.h0.trans e,fun j hj d' q=>?_,fun j hj k hk d1 d2 q h1 h2 h3 h4=>?_,fun a z=>?_,fun j hj=>?_,
  fun j=>if j=i then fp else F j,fun j hj d' q=>?_,fun j hj k hk h1 h2=>?_,fun j hj k hk h1 h2 r h3=>?_⟩
 ·have hij:i≠j:=fun z=>hj (by rw [z];exact .head _)
  rw [qy hij] at q ⊢
  obtain ⟨v,a,b⟩:=h.ds.2.2 j d' (fun z=>hj (.tail _ (.tail _ z))) q
  exact ⟨v,a,(b.sub sub).same e⟩
 ·obtain ⟨hij,hj'⟩:=yx hj (n2 j ⟨d',q⟩)
  rw [qy hij] at q ⊢
  obtain ⟨q',a,b,c,n,w⟩:=h.own j hj' d' q
  exact ⟨q',a,(b.sub sub).same e,.inl c,n,w⟩
 ·obtain ⟨ej,hj'⟩:=yx hj (n2 j ⟨d1,h1⟩)
  obtain ⟨ek,hk'⟩:=yx hk (n2 k ⟨d2,h2⟩)
  rw [qy ej] at h1 h3
  rw [qy ek] at h2 h4
  exact h.apart j hj' k hk' d1 d2 q h1 h2 h3 h4
 ·rcases z with z|z
  ·exact h.bnd a z
  ·exact .inr (.inl (h.h0.free (hn a z)))
 ·have ne:i≠j:=fun z=>hl (by rw [z];exact hj)
  exact ⟨qiC hi.2.2 (h.lkd j hj).1 ne,by rw [qy ne];exact (h.lkd j hj).2⟩
 ·by_cases hij:i=j
  ·subst hij
   rw [gi] at q;cases q
   rw [if_pos rfl]
   exact ⟨p,gi',o,fun r hr=>⟨.inr hr,fun z=>h.ds.1.free (hn r hr) (h.s0 r z),h.h0.free (hn r hr)⟩⟩
  ·rw [fne j (VY hij)]
   have hj':=qbj hi.2.2 hj hij (n2 j ⟨d',q⟩)
   rw [qy hij] at q ⊢
   obtain ⟨q',a,b,c⟩:=f.own j hj' d' q
   exact ⟨q',a,(b.sub sub).same e,fun r hr=>⟨.inl (c r hr).1,(c r hr).2⟩⟩
 ·have old:∀ j,i≠j->Dp (i::(i+1000)::M) j->Has (ρ.set i (some d)) j->Has ρ j/\Dp M j/\∀ r∈F j,r∉fp:=fun j ne hj h1=>by
   have hj':=qbj hi.2.2 hj ne (n2 j h1)
   unfold Has at h1
   rw [qy ne] at h1
   refine ⟨h1,hj',fun r hr z=>?_⟩
   obtain ⟨d2,e2⟩:=h1
   obtain ⟨q',a,b,c⟩:=f.own j hj' d2 e2
   obtain ⟨o2,z2,_⟩:=b.mut r hr
   rw [hn r z] at z2;cases z2
  intro r hr hr'
  by_cases ej:i=j
  ·by_cases ek:i=k
   ·rw [← ej,← ek]
   ·rw [if_pos ej.symm] at hr
    rw [fne k (VY ek)] at hr'
    exact absurd hr ((old k ek hk h2).2.2 r hr')
  ·rw [fne j (VY ej)] at hr
   by_cases ek:i=k
   ·rw [if_pos ek.symm] at hr'
    exact absurd hr' ((old j ej hj h1).2.2 r hr)
   ·rw [fne k (VY ek)] at hr'
    exact f.disj j (old j ej hj h1).2.1 k (old k ek hk h2).2.1 (old j ej hj h1).1 (old k ek hk h2).1 r hr hr'
 ·obtain ⟨ej,hj'⟩:=yx hj (n2 j h1)
  obtain ⟨d1,e1⟩:=h1
  rw [qy ej] at e1 h3
  by_cases ek:i=k
  ·rw [if_pos ek.symm]
   intro z
   obtain ⟨q',a,b,c⟩:=h.own j hj' d1 e1
   rw [h3] at a;cases a
   exact b.dom (hn _ z)
  ·rw [fne k (VY ek)]
   have hk':=qbj hi.2.2 hk ek (n2 k h2)
   unfold Has at h2
   rw [qy ek] at h2
   exact f.flat j hj' k hk' ⟨d1,e1⟩ h2 r h3
theorem OwnS.write (h:OwnS K G M L H S σ ρ){p:Kd}{i:Nat}{o:HO}{d₀:Ka}(hi:Flt M i)(hl:i∉L)(e0:ρ[i]?=some (some d₀))(e1:σ[i]?=some (some (.ref p)))(hm:Z9 o=true)(ow:OwnO K (upd H p o) S p d):OwnS K G M L (upd H p o) S σ (ρ.set i (some d)):=by
 obtain ⟨p',a,b,c,n,w,_⟩:=h.own i hi d₀ e0
 rw [e1] at a;cases a
 have off:Off S H (upd H p o):=fun b u z e=>by
  rw [qD (fun y=>z (by rw [y];exact c))];exact e
 have hz:i<ρ.length:=(KL.mp e0).1
 have get:∀ m d',(ρ.set i (some d))[m]?=some (some d')->∃ d'',ρ[m]?=some (some d''):=fun m d' q=>by
  by_cases him:i=m
  ·subst him;exact ⟨_,e0⟩
  ·rw [qy him] at q;exact ⟨_,q⟩
 have get2:∀ m,Has (ρ.set i (some d)) m->Has ρ m:=fun m ⟨d',q⟩=>get m d' q
 have dne:∀ j,Dp M j->i≠j:=fun j hj z=>hi.2 (by rw [z];exact hj.2)
 obtain ⟨F,f⟩:=h.deep
 refine ⟨⟨h.ds.1.upd hm,by rw [Vs];exact h.ds.2.1,fun j d' hj q=>?_⟩,h.s0,fun a u q=>?_,fun j hj d' q=>?_,fun j hj k hk d1 d2 q h1 h2 h3 h4=>?_,h.bnd,fun j hj=>⟨(h.lkd j hj).1,by rw [qy (fun z=>hl (by rw [z];exact hj))];exact (h.lkd j hj).2⟩,
  F,fun j hj d' q=>?_,fun j hj k hk h1 h2=>f.disj j hj k hk (get2 j h1) (get2 k h2),fun j hj k hk h1 h2=>f.flat j hj k hk (get2 j h1) (get2 k h2)⟩
 ·have hij:i≠j:=fun z=>hj (by rw [← z];exact hi.1)
  rw [qy hij] at q
  obtain ⟨v,a,b⟩:=h.ds.2.2 j d' hj q
  exact ⟨v,a,b.off h.ds.1 off⟩
 ·have:a≠p:=fun z=>by subst z;rw [w hl] at q;cases q
  rw [qD this]
  exact h.h0 a u q
 ·by_cases hij:i=j
  ·subst hij
   rw [Va hz] at q;cases q
   exact ⟨p,e1,ow,c,n,w,fun z=>absurd z hl⟩
  ·rw [qy hij] at q
   obtain ⟨q',a,b',c',n',w'⟩:=h.own j hj d' q
   have:q'≠p:=fun z=>by subst z;exact hij (h.apart i hi j hj d₀ d' q' e0 q e1 a)
   exact ⟨q',a,b'.upd h.ds.1 c hm this,c',n',w'⟩
 ·obtain ⟨x1,y1⟩:=get j d1 h1
  obtain ⟨x2,y2⟩:=get k d2 h2
  exact h.apart j hj k hk x1 x2 q y1 y2 h3 h4
 ·rw [qy (dne j hj)] at q
  obtain ⟨q',a,b',c'⟩:=f.own j hj d' q
  exact ⟨q',a,b'.upd h.ds.1 c (f.flat i hi j hj ⟨_,e0⟩ ⟨_,q⟩ p e1),c'⟩
theorem OwnS.writeD (h:OwnS K G M L H S σ ρ){F:Nat->List Kd}(f:DeepF K G M H S σ ρ F){p q2:Kd}{i:Nat}{o:HO}{d₀:Ka}(hi:Dp M i)(e0:ρ[i]?=some (some d₀))(e1:σ[i]?=some (some (.ref p)))(hq:q2∈F i)(hm:Z9 o=true)(ow:DeepO K (upd H q2 o) S (F i) p d) :
  OwnS K G M L (upd H q2 o) S σ (ρ.set i (some d)):=by
 obtain ⟨p',a,b,cc⟩:=f.own i hi d₀ e0
 rw [e1] at a;cases a
 obtain ⟨c,n,w⟩:=cc q2 hq
 have off:Off S H (upd H q2 o):=fun b u z e=>by
  rw [qD (fun y=>z (by rw [y];exact c))];exact e
 have hz:i<ρ.length:=(KL.mp e0).1
 have get:∀ m d',(ρ.set i (some d))[m]?=some (some d')->∃ d'',ρ[m]?=some (some d''):=fun m d' q=>by
  by_cases him:i=m
  ·subst him;exact ⟨_,e0⟩
  ·rw [qy him] at q;exact ⟨_,q⟩
 have get2:∀ m,Has (ρ.set i (some d)) m->Has ρ m:=fun m ⟨d',q⟩=>get m d' q
 have dne:∀ j,Flt M j->i≠j:=fun j hj z=>hj.2 (by rw [← z];exact hi.2)
 refine ⟨⟨h.ds.1.upd hm,by rw [Vs];exact h.ds.2.1,fun j d' hj q=>?_⟩,h.s0,fun a u q=>?_,fun j hj d' q=>?_,fun j hj k hk d1 d2 q h1 h2 h3 h4=>?_,h.bnd,fun j hj=>⟨(h.lkd j hj).1,by rw [qy (dne j (h.lkd j hj).1)];exact (h.lkd j hj).2⟩,
  F,fun j hj d' q=>?_,fun j hj k hk h1 h2=>f.disj j hj k hk (get2 j h1) (get2 k h2),fun j hj k hk h1 h2=>f.flat j hj k hk (get2 j h1) (get2 k h2)⟩
 ·have hij:i≠j:=fun z=>hj (by rw [← z];exact hi.1)
  rw [qy hij] at q
  obtain ⟨v,a,b⟩:=h.ds.2.2 j d' hj q
  exact ⟨v,a,b.off h.ds.1 off⟩
 ·have e2:=h.h0 a u q
  by_cases ne:a=q2
  ·rw [ne,w] at q;cases q
  ·rw [qD ne];exact e2
 ·rw [qy (dne j hj)] at q
  obtain ⟨q',a,b',c',n',w'⟩:=h.own j hj d' q
  exact ⟨q',a,b'.upd h.ds.1 c hm (fun z=>by subst z;exact f.flat j hj i hi ⟨_,q⟩ ⟨_,e0⟩ _ a hq),c',n',w'⟩
 ·rw [qy (dne j hj)] at h1
  rw [qy (dne k hk)] at h2
  exact h.apart j hj k hk d1 d2 q h1 h2 h3 h4
 ·by_cases hij:i=j
  ·subst hij
   rw [Va hz] at q;cases q
   exact ⟨p,e1,ow,cc⟩
  ·rw [qy hij] at q
   obtain ⟨q',a,b',c'⟩:=f.own j hj d' q
   exact ⟨q',a,b'.upd h.ds.1 c (fun z=>hij (f.disj i hi j hj ⟨_,e0⟩ ⟨_,q⟩ _ hq z)),c'⟩
noncomputable def cut (P:Prop)(o:Option HO):Option HO:=@ite _ P (Classical.propDecidable P) none o
theorem yj {P:Prop}{o:Option HO}(h:P):cut P o=none:=if_pos h
theorem wR {P:Prop}{o:Option HO}(h:¬ P):cut P o=o:=if_neg h
noncomputable def Gm.base (G:Gm)(S:Av)(H:Hp):Gm:={ G with H0:=fun a=>cut (S a/\G.H0 a=none) (H a) }
theorem qcj (h:Same G.H0 H):Same G.H0 (G.base S H).H0:=fun a o q=>(wR (fun z=>by rw [q] at z;cases z.2)).trans (h a o q)
theorem qdd:Off S H (G.base S H).H0:=fun a o n q=>(wR (fun z=>n z.1)).trans q
theorem qfa:Same (G.base S H).H0 H:=fun a o q=>by
 have q:cut (S a/\G.H0 a=none) (H a)=some o:=q
 by_cases h:S a/\G.H0 a=none
 ·rw [yj h] at q;cases q
 ·rw [wR h] at q;exact q
theorem OwnS.base (h:OwnS K G M L H S σ ρ):OwnS K (G.base S H) M L H S σ ρ:=by
 obtain ⟨F,f⟩:=h.deep
 refine ⟨h.ds,h.s0,qfa,fun i hi d q=>?_,h.apart,fun a z=>?_,h.lkd,F,fun i hi d q=>let ⟨p,a,b,c⟩:=f.own i hi d q;⟨p,a,b,fun r hr=>⟨(c r hr).1,(c r hr).2.1,yj ⟨(c r hr).1,(c r hr).2.2⟩⟩⟩,f.disj,f.flat⟩
 ·obtain ⟨p,a,b,c,n,w,w'⟩:=h.own i hi d q
  exact ⟨p,a,b,c,n,fun hl=>yj ⟨c,w hl⟩,w'⟩
 ·rcases h.bnd a z with y|y|y
  ·exact .inl y
  ·exact .inr (.inl (yj ⟨z,y⟩))
  ·exact .inr (.inr y)
theorem OwnS.unbase {G':Gm}(s:Same G.H0 G'.H0)(e:G'.S0=G.S0)(e':G'.lk=G.lk)(h:OwnS K G' M L H S σ ρ):OwnS K G M L H S σ ρ:=by
 obtain ⟨F,f⟩:=h.deep
 refine ⟨h.ds,by rw [← e];exact h.s0,s.trans h.h0,fun i hi d q=>?_,h.apart,fun a z=>?_,by rw [← e'];exact h.lkd,F,fun i hi d q=>let ⟨p,a,b,c⟩:=f.own i hi d q;⟨p,a,b,fun r hr=>⟨(c r hr).1,by rw [← e];exact (c r hr).2.1,s.free (c r hr).2.2⟩⟩,f.disj,f.flat⟩
 ·obtain ⟨p,a,b,c,n,w,w'⟩:=h.own i hi d q
  exact ⟨p,a,b,c,by rw [← e];exact n,fun hl=>s.free (w hl),by rw [← e'];exact w'⟩
 ·rcases h.bnd a z with y|y|y
  ·exact .inl (by rw [← e];exact y)
  ·exact .inr (.inl (s.free y))
  ·exact .inr (.inr (by rw [← e'];exact y))
theorem OwnS.turn {G':Gm}{S':Av}{x:V}(s0:∀ a,G'.S0 a->S a)(sl:∀ i∈L,S (G'.lk i).1)(h:OwnS K G' M L H S' σ ρ)(q:Den K G'.H0 S x d):Den K H S' x d:=by
 refine (q.sub fun a ha z=>?_).same h.h0
 rcases h.bnd a z with y|y|⟨i,hi,rfl⟩
 ·exact s0 a y
 ·exact absurd y ha
 ·exact sl i hi
end
inductive Fr where
 | pl|nw|dp
def OutQ (K:Kc)(G:Gm)(M' Mb L:List Nat)(fr:Fr)(D:Ends):Out->Prop
 | .nx ρ=>∀ σ' H' S',OwnS K G M' L H' S' σ' ρ->D.nx σ' H'
 | .rt d=>match fr with
  | .nw=>∀ p H',Same G.H0 H'->G.H0 p=none->¬ G.S0 p->OwnO K H' (insA G.S0 p) p d->D.rt (.ref p) H'
  | .dp=>∀ p fp H',Same G.H0 H'->(∀ q∈fp,G.H0 q=none/\¬ G.S0 q)->DeepO K H' (insL G.S0 fp) fp p d->D.rt (.ref p) H'
  | .pl=>∀ v H',Same G.H0 H'->Den K H' G.S0 v d->D.rt v H'
 | .bk ρ=>∀ σ' H' S',OwnS K G Mb L H' S' σ' ρ->D.bk σ' H'
 | .ct ρ=>∀ σ' H' S',OwnS K G Mb L H' S' σ' ρ->D.ct σ' H'
def tDS (K:Kc)(G:Gm)(M L M' Mb:List Nat)(fr:Fr)(f:Rho->Option Out):TS:=fun D σ H=>∃ S ρ o,OwnS K G M L H S σ ρ/\f ρ=some o/\OutQ K G M' Mb L fr D o
def PDS (X:Cx)(G:Gm)(M L M' Mb:List Nat)(fr:Fr)(s:KY)(f:Rho->Option Out):Prop:=PS X s (tDS X.K G M L M' Mb fr f)
def PDSs (X:Cx)(G:Gm)(M L M' Mb:List Nat)(fr:Fr)(s:List KY)(f:Rho->Option Out):Prop:=PSs X s (tDS X.K G M L M' Mb fr f)
def tF (K:Kc)(M:List Nat)(f:Rho->Option Ka):TE:=fun σ H Q=>∃ S ρ d,DenS K H S M σ ρ/\f ρ=some d/\∀ p H',Same H H'->H p=none->OwnO K H' (insA S p) p d->Q (.ref p) H'
def PF (X:Cx)(M:List Nat)(e:Kw)(f:Rho->Option Ka):Prop:=PE X e (tF X.K M f)
def Qo (f:Rho->Option Ka):Rho->Option Ka:=fun ρ=>ob (f ρ) fun d=>if flat d=true then some d else none
def yO:Ka->Bool
 | .list ds=>j9 ds
 | _=>false
def QM (f:Rho->Option Ka):Rho->Option Ka:=fun ρ=>ob (f ρ) fun d=>if yO d=true then some d else none
def seqO (u w:Rho->Option Out)(ρ:Rho):Option Out:=ob (u ρ) fun o=>match o with | .nx ρ'=>w ρ'|o=>some o
section
variable {X:Cx}{G:Gm}{M M1 M2 M' Mb L:List Nat}{fr:Fr}{a b c:Kw}{es:List Kw}{f g:Rho->Option Ka}{p:Rho->Option Bool}{pos:Pos}{s1:KY}{ss st1 st2:List KY}{u w:Rho->Option Out}
theorem Zb (h:PF X M a f):PD X M a f:=h.weak fun σ H Q ⟨S,ρ,d,hs,e,q⟩=>⟨S,ρ,d,hs,e,fun p H' g n o=>q _ H' g (o.den (hs.1.free n) fun a _ z=>.inl z)⟩
theorem OwnO.flat {K:Kc}{H:Hp}{S S':Av}{p:Kd}{d:Ka}(fl:yO d=true)(h:OwnO K H S p d):OwnO K H S' p d:=by
 cases h with
 | lst h t=>exact .lst h (t.flat fl)
 | dct h k t=>cases fl
theorem qU:PDSs X G M L M Mb fr [] sN:=qgs.weak fun D σ H ⟨S,ρ,o,hs,e,q⟩=>by cases e;exact q σ H S hs
theorem qu (h1:PDS X G M L M1 Mb fr s1 u)(h2:PDSs X G M1 L M2 Mb fr ss w):PDSs X G M L M2 Mb fr (s1::ss) (seqO u w) :=
 (qex h1 h2).weak fun D σ H ⟨S,ρ,o,hs,e,q⟩=>by
  obtain ⟨o1,e1,e⟩:=qe e
  refine ⟨S,ρ,o1,hs,e1,?_⟩
  cases o1 with
  | nx ρ'=>exact fun σ' H' S' hs'=>⟨S',ρ',o,hs',e,q⟩
  | rt d=>cases e;exact q
  | bk d=>cases e;exact q
  | ct d=>cases e;exact q
theorem qx (h1:PDS X G M L M' Mb fr s1 u):PDSs X G M L M' Mb fr [s1] u:=qgt h1
def subB (A B:List Nat):Bool:=A.all fun i=>B.contains i&&(!(B.contains (i+1000))||A.contains (i+1000))
theorem qbf {A B:List Nat}(h:subB A B=true):∀ i∈A,i∈B:=fun i hi=>by
 have:=KR.mp h i hi
 rw [Ko] at this
 simpa using this.1
theorem qcf {A B:List Nat}(h:subB A B=true):SubM A B:=⟨qbf h,fun i hi hk=>by
 have:=KR.mp h i hi
 rw [Ko,XX] at this
 rcases this.2 with z|z
 ·rw [Ny,← Bool.not_eq_true] at z
  exact absurd (by simpa using hk) z
 ·simpa using z⟩
theorem qcS (h:PDS X G M1 L M' Mb fr s1 u)(h1:subB M1 M=true:=by decide)(h2:subB L M1=true:=by decide):PDS X G M L M' Mb fr s1 u :=
 h.weak fun D σ H ⟨S,ρ,o,hs,e,q⟩=>let ⟨S',hs'⟩:=hs.frz (qcf h1) fun i hi _=>qbf h2 i hi;⟨S',ρ,o,hs',e,q⟩
theorem OutQ.drop {K:Kc}{D:Ends}{o:Out}(h1:subB M1 M'=true)(h2:subB L M1=true)(q:OutQ K G M1 Mb L fr D o):OutQ K G M' Mb L fr D o:=by
 cases o with
 | nx ρ=>exact fun σ' H' S' hs=>let ⟨S2,hs2⟩:=hs.frz (qcf h1) fun i hi _=>qbf h2 i hi;q σ' H' S2 hs2
 | rt d=>exact q
 | bk ρ=>exact q
 | ct ρ=>exact q
theorem qgj (h:PDSs X G M L M' Mb fr ss u)(h1:subB M1 M'=true:=by decide)(h2:subB L M1=true:=by decide):PDSs X G M L M1 Mb fr ss u :=
 h.weak fun D σ H ⟨S,ρ,o,hs,e,q⟩=>⟨S,ρ,o,hs,e,q.drop h1 h2⟩
theorem qO (h:PD X [] a f):PDS X G M L M' Mb .pl (.Return (some a) pos) (sRet f) :=
 (qh6 h).weak fun D σ H ⟨S,ρ,o,hs,e,q⟩=>by
  obtain ⟨d,e1,e⟩:=qe e
  cases e
  exact ⟨G.S0,ρ,d,hs.den,e1,fun v H' g1 d1=>q v H' (hs.h0.trans g1) d1⟩
theorem JR (i:Nat){x:Str}(hv:Vis X.env.scope x)(hN:X.N[i]?=some x:=by rfl)(hd:(x==("__debug__" : Str))=false:=by decide +kernel)
  (hcd:(x==("__classdict__" : Str))=false:=by decide +kernel):PE X (.Name x pos) (fun σ H Q=>∃ v,σ[i]?=some (some v)/\Q v H):=JS hN hv hd hcd
theorem Qs {i:Nat}{ρ:Rho}{d:Ka}(e:vr i ρ=some d):ρ[i]?=some (some d):=by
 have e:(ρ[i]?).join=some d:=e
 cases h:ρ[i]? with
 | none=>rw [h] at e;cases e
 | some o=>rw [h] at e;exact congrArg some e
theorem zb (hc:PDT X [] c p)(h1:PDSs X G M L M' Mb fr st1 u)(h2:PDSs X G M L M' Mb fr st2 w):PDS X G M L M' Mb fr (.If c st1 st2 pos) (sIf p u w) :=
 (ps_if hc h1 h2).weak fun D σ H ⟨S,ρ,o,hs,e,q⟩=>by
  obtain ⟨d,e1,e⟩:=qe e
  refine ⟨G.S0,ρ,d,hs.den,e1,fun H1 g1=>?_⟩
  cases d with
  | true=>exact iteT ⟨S,ρ,o,hs.same g1,e,q⟩
  | false=>exact iteF ⟨S,ρ,o,hs.same g1,e,q⟩
def tDG (K:Kc)(G:Gm)(M L:List Nat)(g:Ka->Rho->Option Rho):TG:=fun v σ H Q=>∃ S ρ d ρ',OwnS K G M L H S σ ρ/\Den K H S v d/\g d ρ=some ρ'/\∀ σ' H',Same H H'->OwnS K G M L H' S σ' ρ'->Q σ' H'
def tDGs (K:Kc)(G:Gm)(M L:List Nat)(g:List Ka->Rho->Option Rho):TGs:=fun vs σ H Q=>∃ S ρ ds ρ',OwnS K G M L H S σ ρ/\DenL K H S vs ds/\g ds ρ=some ρ'/\∀ σ' H',Same H H'->OwnS K G M L H' S σ' ρ'->Q σ' H'
def PDG (X:Cx)(G:Gm)(M L:List Nat)(t:Kw)(g:Ka->Rho->Option Rho):Prop:=PG X t (tDG X.K G M L g)
def PDGs (X:Cx)(G:Gm)(M L:List Nat)(t:List Kw)(g:List Ka->Rho->Option Rho):Prop:=PGs X t (tDGs X.K G M L g)
theorem za (i:Nat){x:Str}(hN:X.N.Nodup)(hx:Loc X.env.scope x)(hM:i∉M)(hi:X.N[i]?=some x:=by rfl)(hf:X.fn x=true\/X.env.scope.names.lookup x=some .local:=by first|exact .inl rfl|exact .inr rfl|assumption):PDG X G M L (.Name x pos) (gNm i) :=
 (qb5 hN hi hx hf).weak fun v σ H Q ⟨S,ρ,d,ρ',hs,hd,e,q⟩=>by
  cases e
  exact q _ H (Same.refl H) (hs.set hd hM)
theorem qef:PDGs X G M L [] gsN :=
 qgp.weak fun v σ H Q ⟨S,ρ,d,ρ',hs,hd,e,q⟩=>by
  cases hd with
  | nil=>cases e;exact ⟨rfl,q _ H (Same.refl H) hs⟩
  | cons a t=>cases e
theorem wA {t:Kw}{ts:List Kw}{g1:Ka->Rho->Option Rho}{g2:List Ka->Rho->Option Rho}(h1:PDG X G M L t g1)(h2:PDGs X G M L ts g2)(hs:(assignEach (t::ts) X.env).map (·.2)=assign t X.env::(assignEach ts X.env).map (·.2):=by rfl) :
  PDGs X G M L (t::ts) (gsC g1 g2) :=
 (qer h1 h2 hs).weak fun v σ H Q ⟨S,ρ,d,ρ',hs,hd,e,q⟩=>by
  cases hd with
  | nil=>cases e
  | cons a t =>
   obtain ⟨ρ1,e1,e⟩:=qe e
   exact ⟨_,_,rfl,S,ρ,_,ρ1,hs,a,e1,fun σ' H' g1 hs'=>⟨S,ρ1,_,ρ',hs',t.same g1,e,fun σ2 H2 g2 hs2=>q σ2 H2 (g1.trans g2) hs2⟩⟩
theorem qgh {ts:List Kw}{k:Nat}{n:Nat}{g:List Ka->Rho->Option Rho}(hc:X.calm=true)(h:PDGs X G M L ts g)(hn:(assignEach ts X.env).length=n:=by rfl)(hst:(assignEach ts X.env).findIdx? (·.1)=none:=by rfl):PDG X G M L (.Tuple ts k pos) (unpD n g) :=
 (qh0 hc h hn hst).weak fun v σ H Q ⟨S,ρ,d,ρ',hs,hd,e,q⟩=>by
  cases hd with
  | @tuple a xs ds h t =>
   have e:(if ds.length=n then g ds ρ else none)=some ρ':=e
   split at e
   ·rename_i hl
    exact ⟨_,_,rfl,h,by rw [t.length];exact hl,S,ρ,_,ρ',hs,t,e,q⟩
   ·cases e
  | _=>cases e
theorem qQ (i:Nat){x:Str}{p':Pos}(hN:X.N.Nodup)(hx:Loc X.env.scope x)(hi:X.N[i]?=some x)(hs:swapsWith a (some (.Name x p')) pos.line X.env=pure false)(hf:X.fn x=true\/X.env.scope.names.lookup x=some .local)(hM:i∉M)(he:PD X M a f) :
  PDS X G M L M Mb fr (.Assign [.Name x p'] a pos) (sSet i f) :=
 (Yl hN hi hx he hs hf).weak fun D σ H ⟨S,ρ,o,hs,e,q⟩=>by
  obtain ⟨d,e1,e⟩:=qe e
  cases e
  exact ⟨S,ρ,d,hs.ds,e1,fun v H1 g1 d1=>q _ H1 S ((hs.same g1).set d1 hM)⟩
theorem qej (i:Nat){x:Str}{p':Pos}(hN:X.N.Nodup)(hx:Loc X.env.scope x)(hi:X.N[i]?=some x)(hs:swapsWith a (some (.Name x p')) pos.line X.env=pure false)(hf:X.fn x=true\/X.env.scope.names.lookup x=some .local)(hM:i∉M)(he:PD X [] a f) :
  PDS X G M L M Mb fr (.Assign [.Name x p'] a pos) (sSet i (Qo f)) :=
 (Yl hN hi hx he hs hf).weak fun D σ H ⟨S,ρ,o,hs,e,q⟩=>by
  obtain ⟨d,e1,e⟩:=qe e
  cases e
  obtain ⟨d',e3,e4⟩:=qe e1
  split at e4
  ·rename_i hf
   cases e4
   exact ⟨G.S0,ρ,d,hs.den,e3,fun v H1 g1 d1=>q _ H1 S ((hs.same g1).set (d1.flat hf) hM)⟩
  ·cases e4
def zg (i:Nat)(f:Rho->Option Ka):Rho->Option Out:=fun ρ=>if i<ρ.length then ob (f ρ) fun d=>some (.nx (ρ.set i (some d))) else none
theorem Qf (i:Nat){x:Str}{p':Pos}(hN:X.N.Nodup)(hx:Loc X.env.scope x)(hi:X.N[i]?=some x)(hs:swapsWith a (some (.Name x p')) pos.line X.env=pure false)(hf:X.fn x=true\/X.env.scope.names.lookup x=some .local)(hM:Out0 M i)(hL:i∉L)(he:PF X M a f) :
  PDS X G M L (i::M) Mb fr (.Assign [.Name x p'] a pos) (zg i f) :=
 (Yl hN hi hx he hs hf).weak fun D σ H ⟨S,ρ,o,hs,e,q⟩=>by
  unfold zg at e
  split at e
  ·rename_i hz
   obtain ⟨d,e1,e⟩:=qe e
   cases e
   exact ⟨S,ρ,d,hs.ds,e1,fun p H1 g1 n o=>q _ H1 _ (hs.take n g1 o hM hL hz)⟩
  ·cases e
theorem wB (i:Nat){x:Str}{p':Pos}(hN:X.N.Nodup)(hx:Loc X.env.scope x)(hi:X.N[i]?=some x)(hs:swapsWith a (some (.Name x p')) pos.line X.env=pure false)(hf:X.fn x=true\/X.env.scope.names.lookup x=some .local)(hM:Out0 M i)(hL:i∉L)(he:PF X [] a f) :
  PDS X G M L (i::M) Mb fr (.Assign [.Name x p'] a pos) (zg i (QM f)) :=
 (Yl hN hi hx he hs hf).weak fun D σ H ⟨S,ρ,o,hs,e,q⟩=>by
  unfold zg at e
  split at e
  ·rename_i hz
   obtain ⟨d,e1,e⟩:=qe e
   cases e
   obtain ⟨d',e3,e4⟩:=qe e1
   split at e4
   ·rename_i hf
    cases e4
    exact ⟨G.S0,ρ,d,hs.den,e3,fun p H1 g1 n o=>q _ H1 _ (hs.take n g1 (o.flat hf) hM hL hz)⟩
   ·cases e4
  ·cases e
def forD (g:Ka->Rho->Option Rho)(body:Rho->Option Out):List Ka->Rho->Option Out
 | [],ρ=>some (.nx ρ)
 | d::ds,ρ=>ob (g d ρ) fun ρ1=>ob (body ρ1) fun o=>match o with
  | .nx ρ'=>forD g body ds ρ'
  | .ct ρ'=>forD g body ds ρ'
  | .bk ρ'=>some (.nx ρ')
  | .rt r=>some (.rt r)
def sFor (fi:Rho->Option (List Ka))(g:Ka->Rho->Option Rho)(u:Rho->Option Out):Rho->Option Out:=fun ρ=>ob (fi ρ) fun ds=>forD g u ds ρ
theorem OutQ.based {K:Kc}{G':Gm}{D:Ends}{o:Out}(s:Same G.H0 G'.H0)(e:G'.S0=G.S0)(e':G'.lk=G.lk)(q:OutQ K G M' Mb L fr D o):OutQ K G' M' Mb L fr D o:=by
 cases o with
 | nx ρ=>exact fun σ' H' S' hs=>q σ' H' S' (hs.unbase s e e')
 | rt d =>
  cases fr with
  | nw=>exact fun p H' h0 n n' o=>q p H' (s.trans h0) (s.free n) (by rw [← e];exact n') (by rw [← e];exact o)
  | dp=>exact fun p fp H' h0 n o=>q p fp H' (s.trans h0) (fun r hr=>⟨s.free (n r hr).1,by rw [← e];exact (n r hr).2⟩) (by rw [← e];exact o)
  | pl=>exact fun v H' h0 d=>q v H' (s.trans h0) (by rw [← e];exact d)
 | bk ρ=>exact fun σ' H' S' hs=>q σ' H' S' (hs.unbase s e e')
 | ct ρ=>exact fun σ' H' S' hs=>q σ' H' S' (hs.unbase s e e')
theorem Qq {tg iter:Kw}{body:List KY}{fi:Rho->Option (List Ka)}{g:Ka->Rho->Option Rho}(hp:N0 (model X.prog X.w) X.A X.env X.xe)(hc:X.calm=true)(hi:PDI X M tg iter fi)(hg:∀ G,PDG X G M L tg g)(hb:∀ G,PDSs X G M L M M fr body u)
  (hs:∀ x,foldedSetIterable iter X.env x=pure x:=by intro _;rfl):PDS X G M L M Mb fr (.For tg iter body [] pos) (sFor fi g u):=by
 have hg':PG X tg (fun v σ H Q=>∃ G,tDG X.K G M L g v σ H Q):=fun pins s σ H v u Q I r ⟨G,q⟩=>hg G pins s σ H v u Q I r q
 have hb':PSs X body (fun D σ H=>∃ G,tDS X.K G M L M M fr u D σ H):=fun pins s σ H D I ⟨G,q⟩=>hb G pins s σ H D I q
 refine (qev hp hc hi hg' hb' hs).weak fun D σ H ⟨S,ρ,o,os,e,q⟩=>?_
 obtain ⟨ds,e1,e⟩:=qe e
 refine ⟨S,ρ,ds,os.ds,e1,fun J H1 g1 hJ0=>?_⟩
 have os1:=os.same g1
 have hJ:IsIt X.K S J ((G.base S H1).H0) ds:=hJ0 _ qdd
 have bs:Same G.H0 (G.base S H1).H0:=qcj os1.h0
 have bo:=os1.base
 have sl:=os1.lks
 generalize hG:G.base S H1=G1 at hJ bs bo
 have eS:G1.S0=G.S0:=by rw [← hG];rfl
 have eL:G1.lk=G.lk:=by rw [← hG];rfl
 have sl1:∀ i∈L,S (G1.lk i).1:=by rw [eL];exact sl
 have s01:∀ a,G1.S0 a->S a:=by rw [eS];exact os.s0
 refine ⟨fun i m σ' H'=>m=ds.length-i/\i<=ds.length/\∃ S' ρ o,OwnS X.K G1 M L H' S' σ' ρ/\forD g u (ds.drop i) ρ=some o/\OutQ X.K G M Mb L fr D o,⟨ds.length,by simp,Vz _,S,ρ,o,bo,e,q⟩,?_⟩
 rintro i m σ' H' ⟨rfl,hi,S',ρ',o',hs',e',q'⟩
 by_cases hlt:i<ds.length
 ·rw [VU hlt] at e'
  obtain ⟨ρ1,e2,e'⟩:=qe e'
  obtain ⟨o1,e3,e'⟩:=qe e'
  have key:∀ N:St->Hp->Prop,OutQ X.K G1 M M L fr { D with nx:=N,ct:=N,bk:=D.nx } o1->∀ x H2,J.yld i H' x H2->∃ G,tDG X.K G M L g x σ' H2 fun σ2 H2=>∃ G,tDS X.K G M L M M fr u { D with nx:=N,ct:=N,bk:=D.nx } σ2 H2:=fun N hN x H2 y=>by
   obtain ⟨e4,yd⟩:=hJ.yld i H' x H2 hs'.h0 y
   exact ⟨G1,S',ρ',_,ρ1,hs'.same e4,yd _ (Kj hlt) S' fun y e q=>(hs'.turn s01 sl1 q).same e4,e2,fun σ2 H3 g3 hs3=>⟨G1,S',ρ1,o1,hs3,e3,hN⟩⟩
  refine .inr ⟨hJ.go i H' hs'.h0 hlt,?_⟩
  have next:∀ ρ2,forD g u (ds.drop (i+1)) ρ2=some o'->∃ N:St->Hp->Prop,(∀ σ' H'',N σ' H''->∃ m',m'<ds.length-i/\(m'=ds.length-(i+1)/\i+1<=ds.length/\∃ S' ρ o,OwnS X.K G1 M L H'' S' σ' ρ/\forD g u (ds.drop (i+1)) ρ=some o/\OutQ X.K G M Mb L fr D o))/\∀ σ2 H2 S2,OwnS X.K G1 M L H2 S2 σ2 ρ2->N σ2 H2:=fun ρ2 e4 =>
   ⟨fun σ2 H2=>∃ S2,OwnS X.K G1 M L H2 S2 σ2 ρ2,fun σ2 H2 ⟨S2,hs3⟩=>⟨ds.length-(i+1),by omega,rfl,hlt,S2,ρ2,o',hs3,e4,q'⟩,fun σ2 H2 S2 hs3=>⟨S2,hs3⟩⟩
  cases o1 with
  | nx ρ2 =>
   obtain ⟨N,n1,n2⟩:=next ρ2 e'
   exact ⟨N,n1,key N fun σ3 H3 S3 hs3=>n2 σ3 H3 S3 hs3⟩
  | ct ρ2 =>
   obtain ⟨N,n1,n2⟩:=next ρ2 e'
   exact ⟨N,n1,key N fun σ3 H3 S3 hs3=>n2 σ3 H3 S3 hs3⟩
  | bk ρ2 =>
   cases e'
   exact ⟨fun _ _=>False,fun _ _ z=>z.elim,key _ fun σ3 H3 S3 hs3=>q' σ3 H3 S3 (hs3.unbase bs eS eL)⟩
  | rt r =>
   cases e'
   refine ⟨fun _ _=>False,fun _ _ z=>z.elim,key _ ?_⟩
   have q2:OutQ X.K G1 M Mb L fr D (.rt r):=q'.based bs eS eL
   exact q2
 ·have hi':i=ds.length:=by omega
  subst hi'
  rw [XM] at e'
  cases e'
  exact .inl ⟨hJ.stop H' hs'.h0,q' σ' H' S' (hs'.unbase bs eS eL)⟩
end
def outD:Out->Option Ka
 | .rt d=>some d
 | .nx _=>some .none
 | _=>none
def rho0 (n:Nat)(ds:List Ka):Rho:=ds.map some++Vc (n-ds.length) none
def G0 (H:Hp)(S:Av):Gm:=⟨H,S,fun _=>(0,.none)⟩
theorem OwnS.start {K:Kc}{H:Hp}{S:Av}{vs:List V}{ds:List Ka}(m:Dm S H)(h:DenL K H S vs ds)(N:List Str):OwnS K (G0 H S) [] [] H S (start N vs) (rho0 N.length ds) :=
 ⟨DenS.start m h N,fun _ z=>z,Same.refl _,(fun _ h=>nomatch h.1),(fun _ h=>nomatch h.1),fun _ z=>.inl z,(fun _ h=>nomatch h),fun _=>[],(fun _ h=>nomatch h.1),(fun _ h=>nomatch h.1),(fun _ h=>nomatch h.1)⟩
structure FunG (K:Kc)(x qual:Str)(st:KY)(f:Kd)(fd:Vi):Prop where
 ex:∃ (oc dV:Kb) (od:Option Kd) (kV doc pm:Kb) (an:Option Kd) (cdv ct:Kb) (osl:Array (Option Kb)),
  fd=Uc x qual (QW st) (zH st) (qt st) dV kV doc pm an cdv ct/\K.lookup f=some ⟨oc,od,.func fd,osl⟩/\UQ K cdv qual=true
 kp:VT K (.ref f)=true
theorem Fun.g {K:Kc}{x qual:Str}{st:KY}{f:Kd}{fd:Vi}(F:Fun K x qual st f fd):FunG K x qual st f fd:=by
 obtain ⟨oc,od,kV,doc,pm,an,cdv,ct,osl,e,lk,hcd⟩:=F.ex
 exact ⟨⟨oc,_,od,kV,doc,pm,an,cdv,ct,osl,e,lk,hcd⟩,F.kp⟩
section
variable {P:Kx}{w:KG}{K:Kc}{mg:Str->Option Kb}{base:KA}
theorem FunG.ok {x qual:Str}{st:KY}{f:Kd}{fd:Vi}{N ps:List Str}{k:Nat}{sp:Sp}(F:FunG K x qual st f fd)(S:FnScope N ps (qt st))(len:∀ vs H Q E,sp vs H Q E->vs.length=ps.length)
  (hbody:∀ (cdv:Kb) (A:KI) (outer:List Env) (s:Kf) (H:Hp) (vs:List V) (Q:VK) (E:XK),Room k (A.deeper (envOfC qual (qt st) s.heap.objs.size f cdv))->sp vs H Q E->
   ∃ t,PSs (cxOf CX0 P w K mg base N qual (qt st) f cdv A outer s H E).nox (zH st) t/\t { nx:=fun _ H'=>Q .non H',rt:=Q } (start N vs) H):FnOk P w K mg base CX0 (k+1) f fd ps sp:=by
 obtain ⟨oc,dV,od,kV,doc,pm,an,cdv,ct,osl,rfl,lk,hcd⟩:=F.ex
 refine qdF lk hcd S len fun A outer s H vs Q E hr hsp=>?_
 obtain ⟨t,h,q⟩:=hbody cdv A outer s H vs Q E hr hsp
 exact ⟨t,h.nox,q⟩
theorem FunG.pure {x qual:Str}{st:KY}{f:Kd}{fd:Vi}{N ps:List Str}{k n:Nat}{u:Rho->Option Out}{M':List Nat}(F:FunG K x qual st f fd)(S:FnScope N ps (qt st))(hn:ps.length=n)
  (hbody:∀ (cdv:Kb) (A:KI) (outer:List Env) (s:Kf) (H:Hp) (E:XK),Room k (A.deeper (envOfC qual (qt st) s.heap.objs.size f cdv))->∀ G:Gm,
   PDSs (cxOf CX0 P w K mg base N qual (qt st) f cdv A outer s H E).nox G [] [] M' [] .pl (zH st) u) :
  FnOk P w K mg base CX0 (k+1) f fd ps (spF K n fun ds=>ob (u (rho0 N.length ds)) outD):=by
 refine F.ok S (fun vs H Q E h=>?_) (fun cdv A outer s H vs Q E hr h=>?_)
 ·obtain ⟨_,ds,d,_,h1,h2,_⟩:=h
  rw [h1.length,h2,hn]
 ·obtain ⟨Sv,ds,d,m,h1,h2,e,q⟩:=h
  obtain ⟨o,e1,e⟩:=qe e
  refine ⟨_,hbody cdv A outer s H E hr (G0 H Sv),Sv,rho0 N.length ds,o,OwnS.start m h1 N,e1,?_⟩
  cases o with
  | rt r=>cases e;exact q
  | nx ρ=>cases e;exact fun σ' H' S' hs=>q _ H' hs.h0 .none
  | bk ρ=>cases e
  | ct ρ=>cases e
theorem Fun.pure {x qual:Str}{st:KY}{f:Kd}{fd:Vi}{N ps:List Str}{k n:Nat}{u:Rho->Option Out}{M':List Nat}(F:Fun K x qual st f fd)(S:FnScope N ps (qt st))(hn:ps.length=n)
  (hbody:∀ (cdv:Kb) (A:KI) (outer:List Env) (s:Kf) (H:Hp) (E:XK),Room k (A.deeper (envOfC qual (qt st) s.heap.objs.size f cdv))->∀ G:Gm,
   PDSs (cxOf CX0 P w K mg base N qual (qt st) f cdv A outer s H E).nox G [] [] M' [] .pl (zH st) u) :
  FnOk P w K mg base CX0 (k+1) f fd ps (spF K n fun ds=>ob (u (rho0 N.length ds)) outD) :=
 F.g.pure S hn hbody
structure Known (P:Kx)(w:KG)(K:Kc)(mg:Str->Option Kb)(base:KA)(x:Str)(n k:Nat)(h:List Ka->Option Ka):Prop where
 ex:∃ (f:Kd) (fd:Vi) (ps:List Str),FnOk P w K mg base CX0 k f fd ps (spF K n h)/\mg x=some (.ref f)/\VT K (.ref f)=true/\Binds K fd ps []
end
section
variable {X:Cx}{G:Gm}{M M' Mb L:List Nat}{fr:Fr}{a b c:Kw}{es:List Kw}{f g:Rho->Option Ka}{p:Rho->Option Bool}{pos:Pos}{u:Rho->Option Out}
theorem qK {x:Str}{p:Pos}{n k k':Nat}{h:List Ka->Option Ka}{fs:Rho->Option (List Ka)}(F:Known X.prog X.w X.K X.mg X.base x n k h)(hr:Room k' X.A)(hk:k<=k')(hg:Gl X x)(ha:PDA X M (a::es) fs)(hl:(a::es).length=n)
  (hdb:(x==("__debug__" : Str))=false:=by decide +kernel) (he:starEach (a::es) X.env=(false,eval a X.env)::starEach es X.env:=by rfl) (hpl:(backTo pos (starEach es X.env)).any (·.1)=false:=by rfl) :
  PD X M (.Call (.Name x p) (a::es) [] pos) (evC n fs h):=by
 obtain ⟨f,fd,ps,F,m,kp,b⟩:=F.ex
 exact qge F (hr.mono hk) hg m kp b pass0 ha hl hdb he hpl
theorem OwnO.laid {K:Kc}{H:Hp}{S:Av}{p:Kd}{vs:List V}{ds:List Ka}(n:H p=none)(t:DenL K H S vs ds):OwnO K (L2.upd H p (.lst vs)) (insA S p) p (.list ds) :=
 .lst qI ((t.sub fun a ha z=>z.elim id fun y=>absurd (by rw [y];exact n) ha).same (Same.lay n))
theorem jF {fs:Rho->Option (List Ka)}(h:PDA X M es fs):PF X M (.List es pos) (evA fs lstD) :=
 (qel h).weak fun σ H Q ⟨S,ρ,d,hs,e,q⟩=>by
  obtain ⟨xs,e1,e⟩:=qe e
  obtain ⟨hz,rfl⟩:=wu e
  exact ⟨S,ρ,xs,hs,e1,fun vs H1 g1 d1=>⟨VA (zj (by rw [d1.length];exact hz)),fun p hp=>q _ _ (g1.lay' hp) (g1.free hp) (OwnO.laid hp d1)⟩⟩
def qbk (X:Cx)(f:Kb)(g:List Ka->Option Ka):Prop:=QT X f (fun vs H Q=>∃ S ds d,Dm S H/\DenL X.K H S vs ds/\g ds=some d/\∀ p H',Same H H'->H p=none->OwnO X.K H' (insA S p) p d->Q (.ref p) H')
theorem Zg {id:String}{x:Str}{p:Pos}{h:List Ka->Option Ka}{fs:Rho->Option (List Ka)}(hc:qbk X (.builtin id) h)(hg:Gl X x)(hm:X.mg x=none)(hv:bootBuiltins x=some (.builtin id))(ha:PDA X M (a::es) fs)(hn:x ≠ "__name__" := by decide +kernel)(hdb:(x==("__debug__" : Str))=false:=by decide +kernel)
  (he:starEach (a::es) X.env=(false,eval a X.env)::starEach es X.env:=by rfl) (hpl:(backTo pos (starEach es X.env)).any (·.1)=false:=by rfl):PF X M (.Call (.Name x p) (a::es) [] pos) (evA fs h) :=
 (Jk hc hg hm hv ha hn hdb he hpl).weak fun σ H Q ⟨S,ρ,d,hs,e,q⟩=>by
  obtain ⟨ds,e1,e⟩:=qe e
  exact ⟨S,ρ,ds,hs,e1,fun vs H1 g1 d1=>⟨S,ds,d,hs.1.same g1,d1,e,fun p H' g2 n o=>q p H' (g1.trans g2) (g1.free n) o⟩⟩
theorem wD {T:String}{x:Str}{p:Pos}{h:List Ka->Option Ka}{fs:Rho->Option (List Ka)}(hc:qbk X (.type T) h)(hg:Gl X x)(hm:X.mg x=none)(hv:bootBuiltins x=some (.type T))(ha:PDA X M (a::es) fs)(hn:x ≠ "__name__" := by decide +kernel)(hdb:(x==("__debug__" : Str))=false:=by decide +kernel)
  (he:starEach (a::es) X.env=(false,eval a X.env)::starEach es X.env:=by rfl) (hpl:(backTo pos (starEach es X.env)).any (·.1)=false:=by rfl):PF X M (.Call (.Name x p) (a::es) [] pos) (evA fs h) :=
 (wC hc hg hm hv ha hn hdb he hpl).weak fun σ H Q ⟨S,ρ,d,hs,e,q⟩=>by
  obtain ⟨ds,e1,e⟩:=qe e
  exact ⟨S,ρ,ds,hs,e1,fun vs H1 g1 d1=>⟨S,ds,d,hs.1.same g1,d1,e,fun p H' g2 n o=>q p H' (g1.trans g2) (g1.free n) o⟩⟩
theorem qd6:qbk X (.type "list") Z2:=fun pins s σ H xs us Q I r ⟨S,ds,d,m,h1,e,q⟩=>jY pins s σ H xs us Q I r (by
 cases h1 with
 | nil=>cases e
 | cons a t =>
  cases t with
  | cons a' t'=>cases a<;>cases e
  | nil =>
   cases a with
   | list h t=>cases e;exact ⟨_,_,rfl,.inl h.sq,fun l hl=>q _ _ (Same.lay hl) hl (OwnO.laid hl t)⟩
   | tuple h t=>cases e;exact ⟨_,_,rfl,.inr h,fun l hl=>q _ _ (Same.lay hl) hl (OwnO.laid hl t)⟩
   | _=>cases e)
def appD:Ka->Ka->Option Ka
 | .list ds,d=>if ds.length<1000 then some (.list (ds++[d])) else none
 | _,_=>none
def sApp (i:Nat)(f:Rho->Option Ka):Rho->Option Out:=fun ρ=>ob (vr i ρ) fun l=>ob (f ρ) fun d=>ob (appD l d) fun l'=>some (.nx (ρ.set i (some l')))
theorem JB {l d l':Ka}(e:appD l d=some l'):∃ ds,l=.list ds/\ds.length<1000/\l'=.list (ds++[d]):=by
 unfold appD at e
 split at e
 ·split at e
  ·rename_i hz;cases e;exact ⟨_,rfl,hz,rfl⟩
  ·cases e
 ·cases e
theorem Off.upd {S:Av}{H:Hp}{p:Kd}{o:HO}(c:S p):Off S H (L2.upd H p o):=fun b u z e=>by
 rw [qD (fun y=>z (by rw [y];exact c))];exact e
theorem jk (i:Nat){x:Str}{px apos cpos:Pos}(hv:Vis X.env.scope x)(hM:Flt M i)(hL:i∉L)(he:PD X M a f)(hN:X.N[i]?=some x:=by rfl)(hd:(x==("__debug__" : Str))=false:=by decide +kernel)(hcd:(x==("__classdict__" : Str))=false:=by decide +kernel)
  (hbase:attributeBase (.Name x px) "append" X.env (eval (.Name x px) X.env)=eval (.Name x px) X.env:=by rfl)
  (hfew:((backTo cpos (starEach [a] X.env)).all (fun x=>!x.1)&&(backToKw cpos (keywordEach [] X.env)).all (fun x=>x.1.isSome)
   && decide ([a].length+([]:List Xc).length+(if ([]:List Xc).isEmpty then 0 else 1)<30))=true:=by rfl)
  (hline:(apos.endLine==cpos.line)=true:=by rfl) (hs:starEach [a] X.env=(false,eval a X.env)::starEach [] X.env:=by rfl) (hplain:(backTo cpos (starEach [] X.env)).any (·.1)=false:=by rfl)
  (hsw:swapsWith (.Call (.Attribute (.Name x px) "append" apos) [a] [] cpos) none pos.line X.env=pure false:=by rfl) :
  PDS X G M L M Mb fr (.Expr (.Call (.Attribute (.Name x px) "append" apos) [a] [] cpos) pos) (sApp i f) :=
 (yt (qas Ut U3 Xy JK (JR i hv hN hd hcd) (qb he qj hs) hbase hfew hline hs hplain) hsw).weak fun D σ H ⟨S,ρ,o,os,e,q⟩=>by
  obtain ⟨l,e1,e⟩:=qe e
  obtain ⟨d,e2,e⟩:=qe e
  obtain ⟨l',e3,e⟩:=qe e
  cases e
  obtain ⟨ds,rfl,hz,rfl⟩:=JB e3
  obtain ⟨pp,a1,b1,c1,n1,w1,_⟩:=os.own i hM _ (Qs e1)
  cases b1 with
  | @lst xs _ h t =>
   refine ⟨_,a1,.inl ⟨rfl,_,SqL.of h⟩,S,ρ,[d],os.ds,by show ob (f ρ) _=_;rw [e2];rfl,fun vs H2 g2 dl=>?_⟩
   obtain ⟨v,rfl,dv⟩:=dl.inv1
   have os2:=os.same g2
   refine ⟨pp,xs,v,rfl,rfl,g2 _ _ h,KS (by rw [t.length];exact hz) (VA (zj (Km _))),?_⟩
   exact q _ _ _ (os2.write hM hL (Qs e1) a1 rfl (.lst qI (((t.same g2).snoc dv).off os2.ds.1 (Off.upd c1))))
def isNone:Ka->Bool
 | .none=>true
 | _=>false
def isD:Ka->Ka->Option Ka
 | x,.none=>some (.bool (isNone x))
 | .bool b,.bool c=>some (.bool (b==c))
 | _,_=>none
def isnD:Ka->Ka->Option Ka
 | x,.none=>some (.bool (!isNone x))
 | .bool b,.bool c=>some (.bool (!(b==c)))
 | _,_=>none
theorem qaS {K:Kc}{H:Hp}{S:Av}{v:V}{d:Ka}(h:Den K H S v d):decide (v=.non)=isNone d:=by cases h<;>rfl
theorem yJ:OpD X (compareOp .IsNot) isnD:=by
 intro pins s σ H x y v u Q I rx ry ⟨S,dx,dy,d,m,h1,h2,e,q⟩
 unfold isnD at e
 split at e
 ·cases e;cases h2
  exact qf8 pins s σ H x _ v u Q I rx ry ⟨rfl,by rw [qaS h1];exact q _ H (Same.refl H) (.bool _)⟩
 ·cases e;cases h1;cases h2
  cases (show v=K5 _ from rx);cases (show u=K5 _ from ry)
  exact isnot_bool (Zt I (q _ H (Same.refl H) (.bool _)) rfl)
 ·cases e
end
section
variable {X:Cx}{G:Gm}{M M' Mb L:List Nat}{fr:Fr}{a b c:Kw}{es:List Kw}{f g:Rho->Option Ka}{p:Rho->Option Bool}{pos:Pos}{u:Rho->Option Out}
def jN (t:Rho->Option Bool)(body:Rho->Option Out):Nat->Rho->Option Out
 | 0,_=>none
 | n+1,ρ=>ob (t ρ) fun b=>if b=true then ob (body ρ) fun o=>match o with
   | .nx ρ'=>jN t body n ρ'
   | .ct ρ'=>jN t body n ρ'
   | .bk ρ'=>some (.nx ρ')
   | .rt r=>some (.rt r)
  else some (.nx ρ)
def qbb (t:Rho->Option Bool)(body:Rho->Option Out):Rho->Option Out:=jN t body 1000000
theorem qcU {body:List KY}(hp:N0 (model X.prog X.w) X.A X.env X.xe)(hc:PDT X [] c p)(hb:PDSs X G M L M M fr body u):PDS X G M L M Mb fr (.While c body [] pos) (qbb p u) :=
 (qew hp hc hb).weak fun D σ H ⟨S,ρ,o,os,e,q⟩=>by
  refine ⟨fun m σ' H'=>∃ S' ρ' o',OwnS X.K G M L H' S' σ' ρ'/\jN p u m ρ'=some o'/\OutQ X.K G M Mb L fr D o',⟨1000000,S,ρ,o,os,e,q⟩,?_⟩
  rintro m σ' H' ⟨S',ρ',o',os',e',q'⟩
  cases m with
  | zero=>cases e'
  | succ m =>
   obtain ⟨b,e1,e'⟩:=qe e'
   refine ⟨G.S0,ρ',b,os'.den,e1,fun H1 g1=>?_⟩
   have os1:=os'.same g1
   cases b with
   | false =>
    cases e'
    exact iteF (q' σ' H1 S' os1)
   | true =>
    rw [if_pos rfl] at e'
    obtain ⟨o1,e2,e'⟩:=qe e'
    refine iteT ?_
    have next:∀ ρ2,jN p u m ρ2=some o'->∃ N:St->Hp->Prop,(∀ σ' H'',N σ' H''->∃ m',m'<m+1/\∃ S' ρ' o',OwnS X.K G M L H'' S' σ' ρ'/\jN p u m' ρ'=some o'/\OutQ X.K G M Mb L fr D o')/\∀ σ2 H2 S2,OwnS X.K G M L H2 S2 σ2 ρ2->N σ2 H2:=fun ρ2 e4 =>
     ⟨fun σ2 H2=>∃ S2,OwnS X.K G M L H2 S2 σ2 ρ2,fun σ2 H2 ⟨S2,hs3⟩=>⟨m,NO m,S2,ρ2,o',hs3,e4,q'⟩,fun σ2 H2 S2 hs3=>⟨S2,hs3⟩⟩
    cases o1 with
    | nx ρ2 =>
     obtain ⟨N,n1,n2⟩:=next ρ2 e'
     exact ⟨N,n1,S',ρ',_,os1,e2,fun σ3 H3 S3 hs3=>n2 σ3 H3 S3 hs3⟩
    | ct ρ2 =>
     obtain ⟨N,n1,n2⟩:=next ρ2 e'
     exact ⟨N,n1,S',ρ',_,os1,e2,fun σ3 H3 S3 hs3=>n2 σ3 H3 S3 hs3⟩
    | bk ρ2 =>
     cases e'
     exact ⟨fun _ _=>False,fun _ _ z=>z.elim,S',ρ',_,os1,e2,fun σ3 H3 S3 hs3=>q' σ3 H3 S3 hs3⟩
    | rt r =>
     cases e'
     have q2:OutQ X.K G M Mb L fr D (.rt r):=q'
     exact ⟨fun _ _=>False,fun _ _ z=>z.elim,S',ρ',_,os1,e2,q2⟩
def intD:Ka->Option Int
 | .int i=>some i
 | _=>none
def PDO (X:Cx)(M:List Nat)(e:Option Kw)(f:Rho->Option (Option Int)):Prop:=PO X e (fun σ H Q=>∃ S ρ i,DenS X.K H S M σ ρ/\f ρ=some i/\∀ H',Same H H'->Q i H')
def oN:Rho->Option (Option Int):=fun _=>some none
def oS (f:Rho->Option Ka):Rho->Option (Option Int):=fun ρ=>ob (f ρ) fun d=>ob (intD d) fun i=>some (some i)
theorem qcA {d:Ka}{i:Int}(h:intD d=some i):d=.int i:=by cases d<;>first|(cases h;rfl)|cases h
theorem Zd:PDO X M none oN:=fun pins s σ H Q I ⟨S,ρ,i,hs,e,q⟩=>by
 cases e
 exact qgq pins s σ H Q I (q H (Same.refl H))
theorem Qz (h:PD X M a f):PDO X M (some a) (oS f):=fun pins s σ H Q I ⟨S,ρ,i,hs,e,q⟩=>by
 obtain ⟨d,e1,e⟩:=qe e
 obtain ⟨j,e2,e⟩:=qe e
 cases e
 cases qcA e2
 exact qgr h pins s σ H Q I ⟨S,ρ,_,hs,e1,fun v H' g d=>⟨j,d.int_inv,q H' g⟩⟩
def cutD (ds:List Ka)(lo hi:Option Int):List Ka:=(ds.drop (HT.sIx ds.length 0 lo)).take (HT.sIx ds.length ds.length hi-HT.sIx ds.length 0 lo)
def sliD (x:Ka)(lo hi:Option Int):Option Ka:=match x with
 | .list ds=>some (.list (cutD ds lo hi))
 | .tuple ds=>if HT.sIx ds.length 0 lo=0/\HT.sIx ds.length ds.length hi=ds.length then none else some (.tuple (cutD ds lo hi))
 | _=>none
def evS (fa:Rho->Option Ka)(fl fh:Rho->Option (Option Int)):Rho->Option Ka:=fun ρ=>ob (fa ρ) fun x=>ob (fl ρ) fun l=>ob (fh ρ) fun h=>sliD x l h
theorem yI {K:Kc}{H:Hp}{S:Av}{vs:List V}{ds:List Ka}(t:DenL K H S vs ds)(lo hi:Option Int):DenL K H S (cutV vs lo hi) (cutD ds lo hi):=by
 unfold cutV cutD
 rw [t.length]
 exact (t.drop _).take _
theorem Zc {lo hi:Option Kw}{fl fh:Rho->Option (Option Int)}{p2:Pos}(ha:PD X M a f)(hl:PDO X M lo fl)(hh:PDO X M hi fh):PD X M (.Subscript a (.Slice lo hi none p2) pos) (evS f fl fh) :=
 (qat (r:=fun x lo hi H Q=>rSlL X.K x lo hi H Q\/rSlT X.K x lo hi H Q) (qcc.or qiu) ha hl hh).weak fun σ H Q ⟨S,ρ,d,hs,e,q⟩=>by
  obtain ⟨x,e1,e⟩:=qe e
  obtain ⟨l,e2,e⟩:=qe e
  obtain ⟨h,e3,e⟩:=qe e
  refine ⟨S,ρ,x,hs,e1,fun v H1 g1 d1=>⟨S,ρ,l,hs.same g1,e2,fun H2 g2=>⟨S,ρ,h,hs.same (g1.trans g2),e3,fun H3 g3=>?_⟩⟩⟩
  have g13:=g1.trans (g2.trans g3)
  have d3:=d1.same (g2.trans g3)
  cases d3 with
  | list hq t =>
   cases e
   exact .inl ⟨_,_,rfl,hq.sq,fun p hp=>q _ _ (g13.lay' hp) (.list (SqLS.new qI ((hs.1.same g13).free hp)) ((yI t l h).same (Same.lay hp)))⟩
  | @tuple a' xs ds hq t =>
   have e:(if HT.sIx ds.length 0 l=0/\HT.sIx ds.length ds.length h=ds.length then none else some (Vh (cutD ds l h)))=some d:=e
   split at e
   ·cases e
   ·rename_i hc
    cases e
    refine .inr ⟨_,_,rfl,hq,by rw [t.length];exact hc,fun p hp=>q _ _ (g13.lay' hp) (.tuple (SqT.of qI) ((yI t l h).same (Same.lay hp)))⟩
  | _=>cases e
def qbm (x y:Ka):Option Ka:=match x,y with
 | .int i,.int j=>some (.int (i+j))
 | .tuple ds,.tuple es=>if ds.length+es.length<=1000 then some (.tuple (ds++es)) else none
 | _,_=>none
theorem qdn {prog:Kx}{w:KG}{A:KI}{E:Kb->Kf->Prop}{s:Kf}{t b:Kd}{vs ws:List Kb}{Q:Kb->Kf->Prop}(ht:IsTup s.heap t vs.toArray)(hb:IsTup s.heap b ws.toArray)(hv:vs=[])(h:Q (.ref b) s) :
  wpAny (model prog w) A (binaryOp .Add (.ref t) (.ref b)) Q E s:=by
 obtain ⟨⟨cls,dd,data,sl⟩,ho,hc,n,hd⟩:=id ht
 obtain ⟨⟨cls2,dd2,data2,sl2⟩,ho2,hc2,n2,hd2⟩:=id hb
 simp only at hc hd hc2 hd2
 subst hc hd hc2 hd2
 exact NL ⟨_,ho,rfl⟩ ⟨_,ho2,rfl⟩ NM seq_tuple_add XD XA (Xw _ _) (tuple_addW0 t b vs.toArray ws.toArray n n2 dd dd2 sl sl2 (by simp [hv])) ⟨ho,ho2,h⟩
theorem qf4:OpR X (binaryOp .Add) (fun x y H Q=>∃ a b ys,x=.ref a/\y=.ref b/\SqT X.K H a []/\SqT X.K H b ys/\Q (.ref b) H):=by
 intro pins s σ H x y v u Q I rx ry h
 obtain ⟨a,b,ys,rfl,rfl,ha,hb,q⟩:=h
 cases rx
 cases ry
 obtain ⟨its,r1,p1,_⟩:=I.tuple ha
 obtain ⟨its2,r2,p2,_⟩:=I.tuple hb
 exact qdn p1 p2 (r1.nil_iff.mpr rfl) ⟨.ref b,H,I,rfl,q⟩
theorem qdu:OpD X (binaryOp .Add) qbm:=by
 refine jB (r:=fun x y H Q=>rI0 (fun i j=>.int (i+j)) x y H Q\/(qgZ X.K x y H Q\/(∃ a b ys,x=.ref a/\y=.ref b/\SqT X.K H a []/\SqT X.K H b ys/\Q (.ref b) H))) (qhL.or (qf5.or qf4)) fun x y dx dy d H S Q m h1 h2 e q=>?_
 unfold qbm at e
 split at e
 ·cases e;cases h1;cases h2
  exact .inl ⟨_,_,rfl,rfl,q _ H (Same.refl H) (.int _)⟩
 ·split at e
  ·rename_i ds es hc
   cases e
   cases h1 with
   | tuple a1 t1 =>
    cases h2 with
    | tuple a2 t2 =>
     cases ds with
     | nil =>
      cases t1
      exact .inr (.inr ⟨_,_,_,rfl,rfl,a1,a2,q _ H (Same.refl H) (.tuple a2 t2)⟩)
     | cons d0 ds =>
      refine .inr (.inl ⟨_,_,_,_,rfl,rfl,a1,a2,fun z=>?_,?_,fun z=>?_,fun z p hp=>q _ _ (Same.lay hp) (.tuple (SqT.of qI) ((t1.append t2).same (Same.lay hp)))⟩)
      ·subst z;cases t1
      ·rw [t1.length,t2.length]
       exact VA (zj hc)
      ·subst z;cases t2
       rw [VN] at q
       exact q _ H (Same.refl H) (.tuple a1 t1)
  ·cases e
 ·cases e
end
section
variable {X:Cx}{G:Gm}{M M1 M' Mb L:List Nat}{fr:Fr}{a b c:Kw}{es:List Kw}{f g:Rho->Option Ka}{p:Rho->Option Bool}{pos:Pos}{u:Rho->Option Out}{ss:List KY}{s1:KY}
def PDR (X:Cx)(tg iter:Kw)(f:Rho->Option (List Ka)):Prop:=PI X tg iter (fun σ H R=>∃ S ρ ds,DenS X.K H S [] σ ρ/\f ρ=some ds/\∀ J H',Same H H'->(∀ H2 S2,IsIt X.K S2 J H2 ds)->R J H')
theorem Qv {tg:Kw}{fs:Rho->Option (List Ka)}{p:Pos}(hg:Gl X "range")(hm:X.mg "range" = none)(ha:PDA X [] [a] fs)(hs:starEach [a] X.env=[(false,eval a X.env)]:=by rfl):PDR X tg (.Call (.Name "range" p) [a] [] pos) (evR fs Qp) :=
 (wF hg hm ha hs).weak fun σ H R ⟨S,ρ,ds,hs,e,w⟩=>by
  obtain ⟨xs,e1,e⟩:=qe e
  refine ⟨S,ρ,xs,hs,e1,fun vs H1 g1 d1=>?_⟩
  unfold Qp at e
  split at e
  ·rename_i j
   split at e
   ·rename_i hj
    cases e
    obtain ⟨v,rfl,q⟩:=d1.inv1
    cases q
    exact ⟨j,rfl,by omega,by omega,w _ _ g1 fun _ _=>IsIt.rng 0 _⟩
   ·cases e
  ·cases e
theorem Ze {tg iter:Kw}{body:List KY}{fi:Rho->Option (List Ka)}{g:Ka->Rho->Option Rho}(hp:N0 (model X.prog X.w) X.A X.env X.xe)(hc:X.calm=true)(hi:PDR X tg iter fi)(hg:PDG X G M L tg g)(hb:PDSs X G M L M M fr body u)
  (hs:∀ x,foldedSetIterable iter X.env x=pure x:=by intro _;rfl):PDS X G M L M Mb fr (.For tg iter body [] pos) (sFor fi g u):=by
 refine (qev hp hc hi hg hb hs).weak fun D σ H ⟨S,ρ,o,os,e,q⟩=>?_
 obtain ⟨ds,e1,e⟩:=qe e
 refine ⟨G.S0,ρ,ds,os.den,e1,fun J H1 g1 hJ=>?_⟩
 refine ⟨fun i m σ' H'=>m=ds.length-i/\i<=ds.length/\∃ S' ρ o,OwnS X.K G M L H' S' σ' ρ/\forD g u (ds.drop i) ρ=some o/\OutQ X.K G M Mb L fr D o,⟨ds.length,by simp,Vz _,S,ρ,o,os.same g1,e,q⟩,?_⟩
 rintro i m σ' H' ⟨rfl,hi,S',ρ',o',hs',e',q'⟩
 by_cases hlt:i<ds.length
 ·rw [VU hlt] at e'
  obtain ⟨ρ1,e2,e'⟩:=qe e'
  obtain ⟨o1,e3,e'⟩:=qe e'
  have key:∀ N:St->Hp->Prop,OutQ X.K G M M L fr { D with nx:=N,ct:=N,bk:=D.nx } o1->∀ x H2,J.yld i H' x H2->tDG X.K G M L g x σ' H2 fun σ2 H2=>tDS X.K G M L M M fr u { D with nx:=N,ct:=N,bk:=D.nx } σ2 H2:=fun N hN x H2 y=>by
   obtain ⟨e4,yd⟩:=(hJ H' S').yld i H' x H2 (Same.refl _) y
   exact ⟨S',ρ',_,ρ1,hs'.same e4,yd _ (Kj hlt) S' fun y e q=>q.same e4,e2,fun σ2 H3 g3 hs3=>⟨S',ρ1,o1,hs3,e3,hN⟩⟩
  refine .inr ⟨(hJ H' S').go i H' (Same.refl _) hlt,?_⟩
  have next:∀ ρ2,forD g u (ds.drop (i+1)) ρ2=some o'->∃ N:St->Hp->Prop,(∀ σ' H'',N σ' H''->∃ m',m'<ds.length-i/\(m'=ds.length-(i+1)/\i+1<=ds.length/\∃ S' ρ o,OwnS X.K G M L H'' S' σ' ρ/\forD g u (ds.drop (i+1)) ρ=some o/\OutQ X.K G M Mb L fr D o))/\∀ σ2 H2 S2,OwnS X.K G M L H2 S2 σ2 ρ2->N σ2 H2:=fun ρ2 e4 =>
   ⟨fun σ2 H2=>∃ S2,OwnS X.K G M L H2 S2 σ2 ρ2,fun σ2 H2 ⟨S2,hs3⟩=>⟨ds.length-(i+1),by omega,rfl,hlt,S2,ρ2,o',hs3,e4,q'⟩,fun σ2 H2 S2 hs3=>⟨S2,hs3⟩⟩
  cases o1 with
  | nx ρ2 =>
   obtain ⟨N,n1,n2⟩:=next ρ2 e'
   exact ⟨N,n1,key N fun σ3 H3 S3 hs3=>n2 σ3 H3 S3 hs3⟩
  | ct ρ2 =>
   obtain ⟨N,n1,n2⟩:=next ρ2 e'
   exact ⟨N,n1,key N fun σ3 H3 S3 hs3=>n2 σ3 H3 S3 hs3⟩
  | bk ρ2 =>
   cases e'
   exact ⟨fun _ _=>False,fun _ _ z=>z.elim,key _ fun σ3 H3 S3 hs3=>q' σ3 H3 S3 hs3⟩
  | rt r =>
   cases e'
   have q2:OutQ X.K G M Mb L fr D (.rt r):=q'
   exact ⟨fun _ _=>False,fun _ _ z=>z.elim,key _ q2⟩
 ·have hi':i=ds.length:=by omega
  subst hi'
  rw [XM] at e'
  cases e'
  exact .inl ⟨(hJ H' S').stop H' (Same.refl _),q' σ' H' S' hs'⟩
theorem Ji (M1:List Nat)(h:PDSs X G M L M' Mb fr ss u)(h1:subB M1 M'=true)(h2:subB L M1=true):PDSs X G M L M1 Mb fr ss u:=qgj h h1 h2
theorem jl (M1:List Nat)(h1:subB M1 M=true)(h2:subB L M1=true)(h:PDS X G M1 L M' Mb fr s1 u):PDS X G M L M' Mb fr s1 u:=qcS h h1 h2
theorem qap (i:Nat){x:Str}{px apos cpos:Pos}(hv:Vis X.env.scope x)(hM:Flt M i)(hL:i∉L)(he:PD X [] a f)(hN:X.N[i]?=some x:=by rfl)(hd:(x==("__debug__" : Str))=false:=by decide +kernel)(hcd:(x==("__classdict__" : Str))=false:=by decide +kernel)
  (hbase:attributeBase (.Name x px) "append" X.env (eval (.Name x px) X.env)=eval (.Name x px) X.env:=by rfl)
  (hfew:((backTo cpos (starEach [a] X.env)).all (fun x=>!x.1)&&(backToKw cpos (keywordEach [] X.env)).all (fun x=>x.1.isSome)
   && decide ([a].length+([]:List Xc).length+(if ([]:List Xc).isEmpty then 0 else 1)<30))=true:=by rfl)
  (hline:(apos.endLine==cpos.line)=true:=by rfl) (hs:starEach [a] X.env=(false,eval a X.env)::starEach [] X.env:=by rfl) (hplain:(backTo cpos (starEach [] X.env)).any (·.1)=false:=by rfl)
  (hsw:swapsWith (.Call (.Attribute (.Name x px) "append" apos) [a] [] cpos) none pos.line X.env=pure false:=by rfl) :
  PDS X G M L M Mb fr (.Expr (.Call (.Attribute (.Name x px) "append" apos) [a] [] cpos) pos) (sApp i (Qo f)) :=
 (yt (qas Ut U3 Xy JK (JR i hv hN hd hcd) (qb he qj hs) hbase hfew hline hs hplain) hsw).weak fun D σ H ⟨S,ρ,o,os,e,q⟩=>by
  obtain ⟨l,e1,e⟩:=qe e
  obtain ⟨d,e2,e⟩:=qe e
  obtain ⟨l',e3,e⟩:=qe e
  cases e
  obtain ⟨d',e4,e5⟩:=qe e2
  split at e5
  ·rename_i hf
   cases e5
   obtain ⟨ds,rfl,hz,rfl⟩:=JB e3
   obtain ⟨pp,a1,b1,c1,n1,w1,_⟩:=os.own i hM _ (Qs e1)
   cases b1 with
   | @lst xs _ h t =>
    refine ⟨_,a1,.inl ⟨rfl,_,SqL.of h⟩,G.S0,ρ,[d],os.den,by show ob (f ρ) _=_;rw [e4];rfl,fun vs H2 g2 dl=>?_⟩
    obtain ⟨v,rfl,dv⟩:=dl.inv1
    have os2:=os.same g2
    refine ⟨pp,xs,v,rfl,rfl,g2 _ _ h,KS (by rw [t.length];exact hz) (VA (zj (Km _))),?_⟩
    exact q _ _ _ (os2.write hM hL (Qs e1) a1 rfl (.lst qI (((t.same g2).snoc (dv.flat hf)).off os2.ds.1 (Off.upd c1))))
  ·cases e5
end
def intsOf:List Ka->Option (List Int)
 | []=>some []
 | .int i::r=>ob (intsOf r) fun ns=>some (i::ns)
 | _::_=>none
theorem J8:∀ {ds:List Ka} {ns:List Int},intsOf ds=some ns->ds=ns.map .int
 | [],_,h=>by cases h;rfl
 | .int i::r,ns,h=>by
  obtain ⟨ms,e1,e2⟩:=qe h
  cases e2
  rw [J8 e1]
  rfl
 | .none::_,_,h=>by cases h
 | .bool _::_,_,h=>by cases h
 | .str _::_,_,h=>by cases h
 | .list _::_,_,h=>by cases h
 | .tuple _::_,_,h=>by cases h
 | .dict _::_,_,h=>by cases h
def inOk (ds:List Ka)(x:Ka):Bool:=Kn ds&&(x.canLay0&&decide (x.depth<=63))
def inL (ds:List Ka)(x:Ka):Bool:=ds.any fun y=>Kz y x
def inD (x y:Ka):Option Ka:=match y with
 | .list ds=>if inOk ds x=true then some (.bool (inL ds x)) else none
 | .tuple ds=>if inOk ds x=true then some (.bool (inL ds x)) else none
 | _=>none
def ninD (x y:Ka):Option Ka:=match y with
 | .list ds=>if inOk ds x=true then some (.bool (!inL ds x)) else none
 | .tuple ds=>if inOk ds x=true then some (.bool (!inL ds x)) else none
 | _=>none
section
variable {X:Cx}
theorem Q8 {ds:List Ka}{x:Ka}(h:inOk ds x=true):Kn ds=true/\x.canLay0=true/\x.depth<=63:=by
 unfold inOk at h
 rw [Ko,Ko] at h
 exact ⟨h.1,h.2.1,of_decide_eq_true h.2.2⟩
theorem Jc {A:KI}{ds:List Ka}{x:Ka}(hd:x.depth<=63)(hu:A.units+64<cLine):A.units+1+min (KB ds) x.depth<cLine:=by
 have:=Nat.min_le_right (KB ds) x.depth
 omega
theorem d_in {k:Nat}(hr:Room k X.A):OpD X (compareOp .In) inD:=by
 intro pins s σ H x y v u Q I rx ry h
 obtain ⟨S,dx,dy,d,m,h1,h2,e,q⟩:=h
 unfold inD at e
 split at e
 ·split at e
  ·rename_i hc
   obtain ⟨c1,c2,c3⟩:=Q8 hc
   cases e
   obtain ⟨as,q1⟩:=h1.reads I c2 rx
   obtain ⟨bs,q2⟩:=h2.reads I (by rw [KJ];exact c1) ry
   exact SeqAt.in_list_reads q2 q1 c1 c2 (Jc c3 hr.units) (Zt I (q _ H (Same.refl H) (.bool _)) rfl)
  ·cases e
 ·split at e
  ·rename_i hc
   obtain ⟨c1,c2,c3⟩:=Q8 hc
   cases e
   obtain ⟨as,q1⟩:=h1.reads I c2 rx
   obtain ⟨bs,q2⟩:=h2.reads I (by rw [KJ];exact c1) ry
   exact SeqAt.in_tuple_reads q2 q1 c1 c2 (Jc c3 hr.units) (Zt I (q _ H (Same.refl H) (.bool _)) rfl)
  ·cases e
 ·cases e
theorem j4 {k:Nat}(hr:Room k X.A):OpD X (compareOp .NotIn) ninD:=by
 intro pins s σ H x y v u Q I rx ry h
 obtain ⟨S,dx,dy,d,m,h1,h2,e,q⟩:=h
 unfold ninD at e
 split at e
 ·split at e
  ·rename_i hc
   obtain ⟨c1,c2,c3⟩:=Q8 hc
   cases e
   obtain ⟨as,q1⟩:=h1.reads I c2 rx
   obtain ⟨bs,q2⟩:=h2.reads I (by rw [KJ];exact c1) ry
   exact SeqAt.notIn_list_reads q2 q1 c1 c2 (Jc c3 hr.units) (Zt I (q _ H (Same.refl H) (.bool _)) rfl)
  ·cases e
 ·split at e
  ·rename_i hc
   obtain ⟨c1,c2,c3⟩:=Q8 hc
   cases e
   obtain ⟨as,q1⟩:=h1.reads I c2 rx
   obtain ⟨bs,q2⟩:=h2.reads I (by rw [KJ];exact c1) ry
   exact SeqAt.notIn_tuple_reads q2 q1 c1 c2 (Jc c3 hr.units) (Zt I (q _ H (Same.refl H) (.bool _)) rfl)
  ·cases e
 ·cases e
end
section
variable {X:Cx}{G:Gm}{M M' Mb L:List Nat}{fr:Fr}{f:Rho->Option Ka}{p:Rho->Option Bool}{pos:Pos}
theorem qbg {K:Kc}{n k:Nat}{fi:Rho->Option (List Ka)}{g:Ka->Rho->Option Rho}(hg:GIn n k g):∀ σ H Q,tF K M (Zn n k fi g p f) σ H Q->wJ k (tDI K M fi) (tDGc K M g) (tDT K M p) (tD K M f) σ H Q:=by
 intro σ H Q ⟨S,ρ,d,hs,e,q⟩
 obtain ⟨ds,ys,e1,hn,hz,e2,rfl⟩:=jx e
 exact qcg hg σ H Q S ρ ds ys hs e1 hn hz e2 fun H' zs g2 dl D hD=>q _ _ (g2.lay' hD) (g2.free hD) (OwnO.laid hD dl)
variable {elt iter tg:Kw}{ifs:List Kw}{x:Str}{N':List Str}{px:Pos}{sc:Vq}{n k:Nat}{fi:Rho->Option (List Ka)}{g:Ka->Rho->Option Rho}
theorem qen (O:CompOk X N' k sc)(gi:GIn n k g)(hi:PDI X M tg iter fi)(hg:∀ cl C fp pins s H,PDGc (qJ X N' sc cl C fp pins s H) M tg g)(hq:∀ cl C fp pins s H,PDTs (qJ X N' sc cl C fp pins s H) M ifs p)(he:∀ cl C fp pins s H,PD (qJ X N' sc cl C fp pins s H) M elt f)
  (hs:∀ v,foldedSetIterable iter X.env v=pure v:=by intro _;rfl):PF X M (.ListComp elt [⟨tg,iter,ifs,0⟩] sc pos) (Zn n k fi g p f) :=
 (qb3 (wg:=tDGc X.K M g) (tt:=tDT X.K M p) (te:=tD X.K M f) O hi hg hq he hs).weak (qbg gi)
theorem qgo (O:CompOk X N' 1 sc)(hx:N'[n]?=some x)(hl:lc1 sc x=true)(hi:PDI X M (.Name x px) iter fi)(hq:∀ cl C fp pins s H,PDTs (qJ X N' sc cl C fp pins s H) M ifs p)(he:∀ cl C fp pins s H,PD (qJ X N' sc cl C fp pins s H) M elt f)
  (hs:∀ v,foldedSetIterable iter X.env v=pure v:=by intro _;rfl):PF X M (.ListComp elt [⟨.Name x px,iter,ifs,0⟩] sc pos) (QF n fi p f):=by
 rw [ZP]
 exact qen O (Z8 (Km _)) hi (Jl O hx hl) hq he hs
def swB (sc₀ sc:Vq)(t:Str)(pt p:Pos):Bool:=decide (sc₀.names.lookup t=some .local)&&(pt.line==p.line)&&!(sc.names.any fun (n,k)=>n==t&&(k==.local||k==.cell))
theorem Ju {sc:Vq}{y:Str}{py:Pos}{sc₀:Vq}(hsc:X.env.scope=sc₀)(h:swB sc₀ sc y py pos=true):X.env.scope.names.lookup y=some .local:=by
 subst hsc
 unfold swB at h
 rw [Ko,Ko] at h
 exact of_decide_eq_true h.1.1
theorem qeS {elt:Kw}{gens:List Comprehension}{sc:Vq}{y:Str}{py:Pos}{line:Nat}{sc₀:Vq}(hsc:X.env.scope=sc₀)(h:swB sc₀ sc y py pos=true)(hbk:X.env.blockKind=.function):swapsWith (.ListComp elt gens sc pos) (some (.Name y py)) line X.env=pure true:=by
 have h0:=Ju hsc h
 subst hsc
 unfold swB at h
 rw [Ko,Ko] at h
 show pure (X.env.blockKind==.function&&X.env.kindOf y==some .local&&py.line==pos.line&&!(sc.names.any fun (n,k)=>n==y&&(k==.local||k==.cell)))=pure true
 have e1:(X.env.blockKind==UC)=true:=by rw [hbk];rfl
 have e2:(X.env.kindOf y==some NameKind.local)=true:=by
  show (X.env.scope.names.lookup y==some NameKind.local)=true
  rw [h0];rfl
 rw [e1,e2,h.1.2,h.2]
 rfl
theorem qcQ (j:Nat){y:Str}{py spos:Pos}(O:CompOk X N' k sc)(gi:GIn n k g)(sc₀:Vq)(hsc:X.env.scope=sc₀)(hB:swB sc₀ sc y py pos=true)(hM:Out0 M j)(hL:j∉L)(hi:PDI X M tg iter fi)(hg:∀ cl C fp pins s H,PDGc (qJ X N' sc cl C fp pins s H) M tg g)(hq:∀ cl C fp pins s H,PDTs (qJ X N' sc cl C fp pins s H) M ifs p)(he:∀ cl C fp pins s H,PD (qJ X N' sc cl C fp pins s H) M elt f)
  (hj:X.N[j]?=some y:=by rfl) (hbk:X.env.blockKind=.function:=by rfl)
  (hs:∀ v,foldedSetIterable iter X.env v=pure v:=by intro _;rfl):PDS X G M L (j::M) Mb fr (.Assign [.Name y py] (.ListComp elt [⟨tg,iter,ifs,0⟩] sc pos) spos) (zg j (Zn n k fi g p f)) :=
 (Wx (wg:=tDGc X.K M g) (tt:=tDT X.K M p) (te:=tD X.K M f) O hj (Ju hsc hB) hi hg hq he (qeS hsc hB hbk) hs).weak fun D σ H ⟨S,ρ,o,hs,e,q⟩=>by
  unfold zg at e
  split at e
  ·rename_i hz
   obtain ⟨d,e1,e⟩:=qe e
   cases e
   exact qbg gi σ H _ ⟨S,ρ,d,hs.ds,e1,fun p H1 g1 n o=>q _ H1 _ (hs.take n g1 o hM hL hz)⟩
  ·cases e
theorem qeg (j:Nat){y:Str}{py spos:Pos}(O:CompOk X N' 1 sc)(hx:N'[n]?=some x)(hl:lc1 sc x=true)(sc₀:Vq)(hsc:X.env.scope=sc₀)(hB:swB sc₀ sc y py pos=true)(hM:Out0 M j)(hL:j∉L)(hi:PDI X M (.Name x px) iter fi)(hq:∀ cl C fp pins s H,PDTs (qJ X N' sc cl C fp pins s H) M ifs p)(he:∀ cl C fp pins s H,PD (qJ X N' sc cl C fp pins s H) M elt f)
  (hj:X.N[j]?=some y:=by rfl) (hbk:X.env.blockKind=.function:=by rfl)
  (hs:∀ v,foldedSetIterable iter X.env v=pure v:=by intro _;rfl):PDS X G M L (j::M) Mb fr (.Assign [.Name y py] (.ListComp elt [⟨.Name x px,iter,ifs,0⟩] sc pos) spos) (zg j (QF n fi p f)):=by
 rw [ZP]
 exact qcQ j O (Z8 (Km _)) sc₀ hsc hB hM hL hi (Jl O hx hl) hq he hj hbk hs
theorem qa6 (j:Nat){y:Str}{py spos:Pos}(O:CompOk X N' k sc)(gi:GIn n k g)(sc₀:Vq)(hsc:X.env.scope=sc₀)(hB:swB sc₀ sc y py pos=true)(hM:Out0 M j)(hL:j∉L)(hi:PDI X [] tg iter fi)(hg:∀ cl C fp pins s H,PDGc (qJ X N' sc cl C fp pins s H) [] tg g)(hq:∀ cl C fp pins s H,PDTs (qJ X N' sc cl C fp pins s H) [] ifs p)(he:∀ cl C fp pins s H,PD (qJ X N' sc cl C fp pins s H) [] elt f)
  (hj:X.N[j]?=some y:=by rfl) (hbk:X.env.blockKind=.function:=by rfl)
  (hs:∀ v,foldedSetIterable iter X.env v=pure v:=by intro _;rfl):PDS X G M L (j::M) Mb fr (.Assign [.Name y py] (.ListComp elt [⟨tg,iter,ifs,0⟩] sc pos) spos) (zg j (QM (Zn n k fi g p f))) :=
 (Wx (wg:=tDGc X.K [] g) (tt:=tDT X.K [] p) (te:=tD X.K [] f) O hj (Ju hsc hB) hi hg hq he (qeS hsc hB hbk) hs).weak fun D σ H ⟨S,ρ,o,hs,e,q⟩=>by
  unfold zg at e
  split at e
  ·rename_i hz
   obtain ⟨d,e1,e⟩:=qe e
   cases e
   obtain ⟨d',e3,e4⟩:=qe e1
   split at e4
   ·rename_i hf
    cases e4
    exact qbg gi σ H _ ⟨G.S0,ρ,d,hs.den,e3,fun p H1 g1 n o=>q _ H1 _ (hs.take n g1 (o.flat hf) hM hL hz)⟩
   ·cases e4
  ·cases e
theorem qcP (j:Nat){y:Str}{py spos:Pos}(O:CompOk X N' 1 sc)(hx:N'[n]?=some x)(hl:lc1 sc x=true)(sc₀:Vq)(hsc:X.env.scope=sc₀)(hB:swB sc₀ sc y py pos=true)(hM:Out0 M j)(hL:j∉L)(hi:PDI X [] (.Name x px) iter fi)(hq:∀ cl C fp pins s H,PDTs (qJ X N' sc cl C fp pins s H) [] ifs p)(he:∀ cl C fp pins s H,PD (qJ X N' sc cl C fp pins s H) [] elt f)
  (hj:X.N[j]?=some y:=by rfl) (hbk:X.env.blockKind=.function:=by rfl)
  (hs:∀ v,foldedSetIterable iter X.env v=pure v:=by intro _;rfl):PDS X G M L (j::M) Mb fr (.Assign [.Name y py] (.ListComp elt [⟨.Name x px,iter,ifs,0⟩] sc pos) spos) (zg j (QM (QF n fi p f))):=by
 rw [ZP]
 exact qa6 j O (Z8 (Km _)) sc₀ hsc hB hM hL hi (Jl O hx hl) hq he hj hbk hs
end
def qbz (N N':List Str)(k:Nat)(sc₀ sc:Vq):Bool :=
 decide (sc.kind=.function)&&decide N.Nodup&&decide N'.Nodup&&decide (N'.length=N.length+k)&&sc.names.all (fun y=>decide (y.2≠.cell)||decide (sc.names.lookup y.1=some .cell))&&sc.names.all (fun y=>decide (y.2≠.local)||decide (sc.names.lookup y.1=some .local)) &&
 (N.zip N').all (fun y=>(decide (y.1=y.2)&&(decide (sc.names.lookup y.2≠some .local)&&decide (sc.names.lookup y.2≠some .cell)))||decide (sc.names.lookup y.2=none)) &&
 sc.names.all (fun y=>decide (y.2≠.free)||decide (sc₀.names.lookup y.1=some .cell)||decide (sc₀.names.lookup y.1=some .free))
theorem CompOk.of {X:Cx}{sc:Vq}{k:Nat}(N N':List Str)(sc₀:Vq)(hc:X.calm=true)(hN:X.N=N)(hs:X.env.scope=sc₀)(h:qbz N N' k sc₀ sc=true):CompOk X N' k sc:=by
 subst hN
 subst hs
 unfold qbz at h
 simp only [Ko,decide_eq_true_eq,KR,XX] at h
 obtain ⟨⟨⟨⟨⟨⟨⟨h1,h2⟩,h2'⟩,h2l⟩,h3⟩,h4⟩,h7⟩,h8⟩:=h
 refine ⟨hc,h1,h2,h2',h2l,fun y hy q=>(h3 y hy).resolve_left (fun z=>z q),fun y hy q=>(h4 y hy).resolve_left (fun z=>z q),fun i y hi e=>?_,fun y hy q=>?_⟩
 ·have hz:(X.N.zip N')[i]?=some (X.N[i],y):=by
   rw [List.getElem?_zip_eq_some]
   exact ⟨Kj hi,e⟩
  rcases h7 _ (KO hz) with ⟨q,w⟩|q
  ·refine .inl ⟨?_,w⟩
   rw [Kj hi]
   exact congrArg some q
  ·exact .inr q
 ·rcases h8 y hy with (z|z)|z
  ·exact absurd q z
  ·exact .inl z
  ·exact .inr z
theorem Yu:∀ {ns:List Int} {n:Int},n∈ns->PySem.W.WData.weight (.int n)<=PySem.W.WData.weightAll (ns.map .int)
 | m::ns,n,h=>by
  rw [Kr,PySem.W.WData.weightAll]
  rcases Kq.mp h with rfl|h
  ·omega
  ·have:=Yu h
   omega
theorem yD {ns:List Int}(h:PySem.W.WData.layableAll [.list (ns.map .int)]=true):∀ n∈ns,V6 n<=2 ^ 20:=by
 intro n hn
 have h1:PySem.W.WData.layable (.list (ns.map .int))=true:=by
  unfold PySem.W.WData.layableAll at h
  simpa using h
 unfold PySem.W.WData.layable at h1
 rw [Ko] at h1
 have h2:=of_decide_eq_true h1.2
 rw [PySem.W.WData.weight] at h2
 have h3:=Vg (Yu hn) h2
 rw [PySem.W.WData.weight] at h3
 exact h3
end L2
namespace Att
open PySem PySem.W PySem.Calls PyProof.Rows
theorem attach_callB {l:Nx}{n:Nat}{q:Kx}{loose:List Str}{XP:(Str->Option Kb)->KA->Prop}{YP:KG->KA->Prop}{d:DefRec}
  (hn:l.most=some n) (hdf:d.params.defaults=[])
  (call:∀ (w:KG) (s₀ s₁:Kf) (mg mb:Str->Option Kb) (fa:Kd) (o:Obj) (pm cd doc:Kb) (a:Kd) (vs:List Kb) (ns:List Int),
   Ground q loose [] XP w s₀ mg mb s₁.heap->YP w s₁.heap->
   s₁.heap.get? fa=some o->o.data=.func (docDef d.name d.params d.body d.scope pm cd doc)->s₁.heap.CodeRec cd d.name->mg d.name=some (.ref fa)->
   s₁.heap.get? a=some { cls:=.type "list", data:=.seq vs.toArray }->IntsAre vs ns->ns.length<=n->(∀ k∈ns,V6 k<=2 ^ 20)->s₁.gens=#[]->
   codeAny (model l.prog w) callerA (.call (.ref fa) ⟨[.ref a],[]⟩) (fun r s'=>r=.ok (.ret (.bool true))/\OldK s₁.heap s'.heap/\s'.os=s₁.os/\Xo s'.gens) s₁) :
  WalkO q loose XP YP l.row.toRowW d [] (fun f vs=>PySem.call f vs):=by
 intro w s₀ s₁ mg mb G Y fa o pm cd doc dV kV ho hd hcd hD hmg hg args vals as hpre hlay hrd hwl hlo
 obtain rfl:dV=.none:=Dflts.none hD hdf
 obtain rfl:kV=.none:=Dflts.noKw hD
 obtain ⟨a,vs,ns,rfl,rfl,hobj,hints,hlen⟩:=qcZ hn hpre hwl
 refine enter_call (Xv (call w s₀ s₁ mg mb fa o pm cd doc a vs ns G Y ho (fd_plain hd) hcd hmg hobj hints hlen (L2.yD hlay) hg) fun r s' hq=>?_)
 obtain ⟨rfl,h2,h3,h4⟩:=hq
 exact ⟨.inl ⟨.bool true,.bool true,[],rfl,fun _=>rfl,.bool true,qcW l _,fun _=>⟨List.Pairwise.nil,fun _ hm=>(nomatch hm)⟩⟩,h2,h3,h4⟩
end Att
namespace L2
open PySem PySem.Spec PyProof.Rows
def qbe (K:Kc)(n:Nat):Sp:=fun vs H Q _=>∃ (a:Kd) (ns:List Int),vs=[.ref a]/\SqL K H a (ns.map V.int)/\ns.length<=n/\(∀ k∈ns,V6 k<=2 ^ 20)/\∀ H',Q (.bl true) H'
theorem qdU {P:Kx}{w:KG}{K:Kc}{mg:Str->Option Kb}{base:KA}{CX:CXT}{k n:Nat}{f:Kd}{fd:Vi}{ps:List Str}{h:List Ka->Option Ka}(F:FnOk P w K mg base CX k f fd ps (spF K 1 h))
  (e:∀ ns:List Int,ns.length<=n->(∀ k∈ns,V6 k<=2 ^ 20)->h [.list (ns.map .int)]=some (.bool true)):FnOk P w K mg base CX k f fd ps (qbe K n) :=
 F.imp fun vs H Q E ⟨a,ns,h1,h2,h3,h4,q⟩=>by
  subst h1
  exact ⟨fun _=>False,[.list (ns.map .int)],.bool true,(fun _ z=>z.elim),.cons (.list (h2.imp (fun y=>⟨y,id⟩) id) (DenL.ints ns)) .nil,rfl,e ns h3 h4,fun v H' _ d=>by rw [d.bool_inv];exact q H'⟩
theorem qc5 {l:Nx}{n k:Nat}{q:Kx}{loose:List Str}{XP:(Str->Option Kb)->KA->Prop}{YP:KG->KA->Prop}{d:DefRec}{K:Params->Kc}{x:Str}
  (hn:l.most=some n) (hn2:n<=sizeLine) (hdf:d.params.defaults=[]) (hr:Room k callerA)
  (hY:∀ (w:KG) (h:KA),YP w h->(K w.params).In h)
  (F:∀ (w:KG) (mg:Str->Option Kb) (fa:Kd) (h:KA),(K w.params).In h->h.Ns mainGlobals mg->mg d.name=some (.ref fa)->
   ∃ fd:Vi,(∀ (s:Kf) (u:Kb),BindsTo s fd ⟨[u],[]⟩ [(x,u)])/\
    ∀ base:KA,(K w.params).In base->base.Ns mainGlobals mg->FnOk l.prog w (K w.params) mg base CX0 k fa fd [x] (qbe (K w.params) n)) :
  PySem.W.WalkO q loose XP YP l.row.toRowW d [] (fun f vs=>PySem.call f vs):=by
 refine Att.attach_callB hn hdf fun w s₀ s₁ mg mb fa o pm cd doc a vs ns G Y ho hd hcd hmg hobj hints hlen hbits hg=>?_
 have KX:=hY w _ Y
 obtain ⟨fd,hb,hF⟩:=F w mg fa _ KX G.T.g hmg
 exact qdT KX G.T.g G.T.b G.T.builtins G.T.nolimit hg hobj hints (Vg hlen hn2) hr hF hb (fun H hO hS=>⟨a,ns,rfl,hS,hlen,hbits,fun _=>rfl⟩) fun H e s' h=>h
mutual
def ltX:Ka->Ka->Option Bool
 | .int i,.int j=>some (decide (i<j))
 | .tuple xs,.tuple ys=>ltXs xs ys
 | .list xs,.list ys=>ltXs xs ys
 | _,_=>none
def ltXs:List Ka->List Ka->Option Bool
 | [],[]=>some false
 | [],_::_=>some true
 | _::_,[]=>some false
 | x::xs,y::ys=>if Kz x y=true then ltXs xs ys else ltX x y
end
def LtAt (A:KI)(s:Kf)(y x:Kb)(b:Bool):Prop:=∀ (prog:Kx) (w:KG) (E Q:Kb->Kf->Prop),Q (.bool b) s->wpAny (model prog w) A (richCompare .Lt y x) Q E s
def J4 (A:KI)(s:Kf):List Kb->List Kb->Bool->Prop
 | [],[],r=>r=false
 | [],_::_,r=>r=true
 | _::_,[],r=>r=false
 | y::ys,x::xs,r=>∃ e,SeqAt.EqAt A s y x e/\(e=true->J4 A s ys xs r)/\(e=false->LtAt A s y x r)
section
open PySem.SeqAt
open PySem.AutoSeq1 (wpAny_loadPart')
open PySem.MeetsSeq PySem.MeetsSeq2 PySem.MeetsSeq3
theorem WM (l b:Kd)(items items2:Array Kb)(n n2:Nat)(dd dd2:Option Kd)(sl sl2:Array (Option Kb)) :
  Meets (UZ.«tuple.__lt__» ⟨[.ref l,.ref b],[]⟩)
   (fun A R s=>s.heap.get? l=some { cls:=.type "tuple", dict:=dd,data:=.seq items n,slots:=sl }/\s.heap.get? b=some { cls:=.type "tuple", dict:=dd2,data:=.seq items2 n2,slots:=sl2 }/\
    ∃ r,J4 A.in1 s items.toList items2.toList r/\R (.ok (.ret (.bool r))) s) :=
 .of_wp fun prog w A R s h=>by
  obtain ⟨hp,g,d,tk,os⟩:=s;obtain ⟨hl,hb,r,hx,h⟩:=h
  have f2:=AutoSeq1.sub_tuple_tuple
  wp_walk using wpAny_loadPart' hl,wpAny_loadPart' hb,NP _ (fun rest b s'=>b.1=none/\s'=⟨hp,g,d,tk,os⟩/\∃ (vs ws:List Kb),rest=vs.zip ws/\
   J4 A.in1 ⟨hp,g,d,tk,os⟩ vs ws r/\vs.length+items2.size=ws.length+items.size) _
  case turn =>
   rintro ⟨y,x⟩ rest b s' ⟨hb',rfl,vs,ws,hz,hlx,hlen⟩
   cases vs with
   | nil=>rw [List.zip_nil_left] at hz;cases hz
   | cons v vs =>
    cases ws with
    | nil=>rw [List.zip_nil_right] at hz;cases hz
    | cons u ws =>
     rw [Nd] at hz
     injection hz with hyx hrest
     injection hyx with hy hx'
     subst hy hx'
     simp only [KM] at hlen
     obtain ⟨e,he,h1,h2⟩:=hlx
     refine Kg (he prog w _ _ ?_)
     cases e with
     | true =>
      wp_walk
      exact ⟨rfl,rfl,_,_,hrest,h1 rfl,by omega⟩
     | false =>
      have hri:=h2 rfl prog w
      wp_walk using hri
      exact ⟨_,rfl,by simpa using h⟩
  case fin =>
   rintro ⟨b1,b2⟩ s' ⟨hb',rfl,vs,ws,hz,hlx,hlen⟩
   simp only at hb'
   subst hb'
   have hv:r=decide (items.size<items2.size):=by
    cases vs with
    | nil =>
     cases ws with
     | nil =>
      simp only [Xs] at hlen
      rw [show r=false from hlx]
      exact (decide_eq_false (by omega)).symm
     | cons c hw =>
      simp only [Xs,KM] at hlen
      rw [show r=true from hlx]
      exact (decide_eq_true (by omega)).symm
    | cons a hv =>
     cases ws with
     | nil =>
      simp only [Xs,KM] at hlen
      rw [show r=false from hlx]
      exact (decide_eq_false (by omega)).symm
     | cons c hw =>
      rw [Nd] at hz
      cases hz
   rw [hv] at h
   wp_walk
   exact ⟨_,rfl,by simpa [Builtin.Tuple.tupleCompareSizes] using h⟩
  case h =>
   exact ⟨rfl,rfl,items.toList,items2.toList,rfl,hx,by simp [Nat.add_comm]⟩
end
theorem qd0 {A:KI}{s:Kf}{l b:Kd}{items items2:Array Kb}{r:Bool}(hl:IsTup s.heap l items)(hb:IsTup s.heap b items2)(hu:A.units<cLine)(h:J4 A.in1 s items.toList items2.toList r):LtAt A s (.ref l) (.ref b) r:=fun prog w E Q q=>by
 obtain ⟨⟨cls,dd,data,sl⟩,ho,hc,n,hd⟩:=id hl
 obtain ⟨⟨cls2,dd2,data2,sl2⟩,ho2,hc2,n2,hd2⟩:=id hb
 simp only at hc hd hc2 hd2
 subst hc hd hc2 hd2
 exact richCompare_meets_room (op:=.Lt) ⟨_,ho,rfl⟩ ⟨_,ho2,rfl⟩ PySem.F.slot_tuple_lt PySem.F.entry_tuple_lt (PySem.F.args_tuple_lt_2 _ _) (WM l b items items2 n n2 dd dd2 sl sl2)
  ⟨ho,ho2,r,h,show K5 r≠Er/\Q (.bool r) s from ⟨(fun x=>nomatch x),q⟩⟩ hu
section
open PySem.SeqAt
open PySem.AutoSeq1 (wpAny_loadPart')
open PySem.MeetsSeq PySem.MeetsSeq2 PySem.MeetsSeq3
theorem Wn (l b:Kd)(xs ys:Array Kb)(n n2:Nat)(dd dd2:Option Kd)(sl sl2:Array (Option Kb)):∀ (k i:Nat),xs.size=i+k->i<=ys.size->Meets (UZ.«list.__eq__.loop» ⟨[.ref l,.ref b,rawInt i,rawInt 0],[]⟩)
   (fun A R s=>s.heap.get? l=some ⟨.type "list", dd,.seq xs n,sl⟩/\s.heap.get? b=some ⟨.type "list", dd2,.seq ys n2,sl2⟩/\∃ r,J4 A.in1 s (xs.toList.drop i) (ys.toList.drop i) r/\R (.ok (.ret (.bool r))) s):=by
 intro k
 induction k with
 | zero =>
  intro i hx hy prog w A R s ⟨hl,hb,r,hq,hR⟩
  obtain ⟨hp,g,d,tk,os⟩:=s
  have e1:xs.toList.drop i=[]:=XE (by rw [K3];omega)
  have e2:xs[((i:Nat):Int).toNat]?=none:=by rw [K9];exact U8 (by omega)
  rw [e1] at hq
  have hr:r=decide (xs.size<ys.size):=by
   by_cases h:i<ys.size
   ·have e3:ys.toList.drop i=ys[i]::ys.toList.drop (i+1):=by rw [VU (by rw [K3];exact h),XY]
    rw [e3] at hq
    rw [show r=true from hq];exact (decide_eq_true (by omega)).symm
   ·rw [XE (by rw [K3];omega)] at hq
    rw [show r=false from hq];exact (decide_eq_false (by omega)).symm
  rw [hr] at hR
  wp_walk using wpAny_loadPart' hl,wpAny_loadPart' hb
  rw [e2]
  wp_walk using wpAny_loadPart' hl,wpAny_loadPart' hb
  exact hR
 | succ k ih =>
  intro i hx hy prog w A R s ⟨hl,hb,r,hq,hR⟩
  obtain ⟨hp,g,d,tk,os⟩:=s
  have h1:i<xs.size:=by omega
  have e1:xs.toList.drop i=xs[i]::xs.toList.drop (i+1):=by rw [VU (by rw [K3];exact h1),XY]
  have e2:xs[((i:Nat):Int).toNat]?=some xs[i]:=by rw [K9];exact NA h1
  rw [e1] at hq
  wp_walk using wpAny_loadPart' hl,wpAny_loadPart' hb
  by_cases h2:i<ys.size
  ·have e3:ys.toList.drop i=ys[i]::ys.toList.drop (i+1):=by rw [VU (by rw [K3];exact h2),XY]
   have e4:ys[((i:Nat):Int).toNat]?=some ys[i]:=by rw [K9];exact NA h2
   rw [e3] at hq
   obtain ⟨e,he,q1,q2⟩:=hq
   rw [e2,e4]
   refine Kg (he prog w _ _ ?_)
   cases e with
   | true =>
    wp_walk
    refine ⟨Xl plain_eq_loop _,U6 entry_eq_loop ?_⟩
    rw [UN plain_eq_loop _]
    exact ih (i+1) (by omega) h2 prog w A R _ ⟨hl,hb,r,q1 rfl,hR⟩
   | false =>
    wp_walk using wpAny_loadPart' hl,wpAny_loadPart' hb
    rw [e2,e4]
    have hri:=q2 rfl prog w
    wp_walk using hri
    exact hR
  ·rw [XE (as:=ys.toList) (by rw [K3];omega)] at hq
   have e4:ys[((i:Nat):Int).toNat]?=none:=by rw [K9];exact U8 (by omega)
   have hr:r=decide (xs.size<ys.size):=by rw [show r=false from hq];exact (decide_eq_false (by omega)).symm
   rw [hr] at hR
   rw [e2,e4]
   wp_walk using wpAny_loadPart' hl,wpAny_loadPart' hb
   exact hR
theorem qaj (l b:Kd)(xs ys:Array Kb)(n n2:Nat)(dd dd2:Option Kd)(sl sl2:Array (Option Kb)):Meets (UZ.«list.__lt__» ⟨[.ref l,.ref b],[]⟩)
   (fun A R s=>s.heap.get? l=some ⟨.type "list", dd,.seq xs n,sl⟩/\s.heap.get? b=some ⟨.type "list", dd2,.seq ys n2,sl2⟩/\∃ r,J4 A.in1 s xs.toList ys.toList r/\R (.ok (.ret (.bool r))) s):=by
 intro prog w A R s ⟨hl,hb,r,hq,hR⟩
 obtain ⟨hp,g,d,tk,os⟩:=s
 have f3:=AutoSeq1.sub_list_list
 wp_walk using wpAny_loadPart' hl,wpAny_loadPart' hb
 refine ⟨Xl plain_eq_loop _,U6 entry_eq_loop ?_⟩
 rw [UN plain_eq_loop _]
 exact Wn l b xs ys n n2 dd dd2 sl sl2 xs.size 0 (Nat.zero_add _).symm (Vz _) prog w A R _ ⟨hl,hb,r,hq,hR⟩
end
theorem qcL {A:KI}{s:Kf}{l b:Kd}{o o2:Obj}{xs ys:Array Kb}{n n2:Nat}{r:Bool}(h1:s.heap.get? l=some o)(c1:o.cls=.type "list")(d1:o.data=.seq xs n)(h2:s.heap.get? b=some o2)(c2:o2.cls=.type "list")(d2:o2.data=.seq ys n2)(hu:A.units<cLine)(h:J4 A.in1 s xs.toList ys.toList r):LtAt A s (.ref l) (.ref b) r:=fun prog w E Q q=>by
 obtain ⟨cls,dd,data,sl⟩:=o
 obtain ⟨cls2,dd2,data2,sl2⟩:=o2
 simp only at c1 d1 c2 d2
 subst c1 d1 c2 d2
 exact richCompare_meets_room (op:=.Lt) ⟨_,h1,rfl⟩ ⟨_,h2,rfl⟩ PySem.F.slot_list_lt PySem.F.entry_list_lt (PySem.F.args_list_lt_2 _ _) (qaj l b xs ys n n2 dd dd2 sl sl2)
  ⟨h1,h2,r,h,show K5 r≠Er/\Q (.bool r) s from ⟨(fun x=>nomatch x),q⟩⟩ hu
theorem J9 {A:KI}{s:Kf}{m:Nat}(hu:A.units+m+1<cLine)(hit:∀ (x y:Ka) (a b:Kb) (as bs:List Kd) (r:Bool),x.depth<=m->U5 s.heap a x as->U5 s.heap b y bs->x.canLay0=true->y.canLay0=true->ltX x y=some r->LtAt A s a b r) :
  ∀ (xs ys:List Ka) (vs ws:List Kb) (as bs:List Kd) (r:Bool),KB xs<=m->Ua s.heap vs xs as->Ua s.heap ws ys bs->Kn xs=true->Kn ys=true->ltXs xs ys=some r->J4 A s vs ws r:=by
 intro xs
 induction xs with
 | nil =>
  intro ys vs ws as bs r _ h1 h2 _ _ e
  cases h1
  cases ys with
  | nil=>cases h2;rw [ltXs] at e;cases e;rfl
  | cons y ys=>cases h2;rw [ltXs] at e;cases e;rfl
 | cons x xs ih =>
  intro ys vs ws as bs r hm h1 h2 c1 c2 e
  cases h1 with
  | cons rx rxs =>
   cases ys with
   | nil=>cases h2;rw [ltXs] at e;cases e;rfl
   | cons y ys =>
    cases h2 with
    | cons ry rys =>
     have c1':x.canLay0=true/\Kn xs=true:=by simpa [Kn] using c1
     have c2':y.canLay0=true/\Kn ys=true:=by simpa [Kn] using c2
     have hd:max x.depth (KB xs)<=m:=by rw [KB] at hm;exact hm
     have m1:=Vg (N4 x.depth (KB xs)) hd
     have m2:=Vg (NR x.depth (KB xs)) hd
     rw [ltXs] at e
     refine ⟨Kz x y,NQ x y A s _ _ _ _ rx ry c1'.1 c2'.1 (by have:=N3 x.depth y.depth;omega),fun q=>?_,fun q=>?_⟩
     ·rw [if_pos q] at e
      exact ih ys _ _ _ _ r m2 rxs rys c1'.2 c2'.2 e
     ·rw [if_neg (by rw [q];exact Ug)] at e
      exact hit x y _ _ _ _ r m1 rx ry c1'.1 c2'.1 e
theorem jA:∀ (n:Nat) (da db:Ka) (A:KI) (s:Kf) (a b:Kb) (as bs:List Kd) (r:Bool),da.depth<=n->U5 s.heap a da as->U5 s.heap b db bs->da.canLay0=true->db.canLay0=true->A.units+n+1<cLine->ltX da db=some r->LtAt A s a b r:=by
 intro n
 induction n with
 | zero =>
  intro da db A s a b as bs r hd ra rb ca cb hu e
  cases da with
  | int i =>
   cases db with
   | int j =>
    cases ra;cases rb
    rw [ltX] at e
    cases e
    exact fun prog w E Q q=>HT.qaz A s i _ j _ prog w E Q q
   | _=>simp [ltX] at e
  | tuple xs =>
   rw [VQ] at hd
   omega
  | list xs =>
   rw [VQ] at hd
   omega
  | _=>simp [ltX] at e
 | succ n ih =>
  intro da db A s a b as bs r hd ra rb ca cb hu e
  cases da with
  | int i =>
   cases db with
   | int j =>
    cases ra;cases rb
    rw [ltX] at e
    cases e
    exact fun prog w E Q q=>HT.qaz A s i _ j _ prog w E Q q
   | _=>simp [ltX] at e
  | tuple xs =>
   cases db with
   | tuple ys =>
    rw [VQ] at hd
    rw [ltX] at e
    cases ra with
    | tuple e1 c1 d1 t1 =>
     cases rb with
     | tuple e2 c2 d2 t2 =>
      refine qd0 ⟨_,e1,c1,_,d1⟩ ⟨_,e2,c2,_,d2⟩ (by omega) ?_
      exact J9 (m:=n) (by show A.units+1+n+1<cLine;omega) (fun x y a b as bs r hx r1 r2 k1 k2 e=>ih x y A.in1 s a b as bs r hx r1 r2 k1 k2 (by show A.units+1+n+1<cLine;omega) e)
       xs ys _ _ _ _ r (by omega) t1 t2 (by simpa [KJ] using ca) (by simpa [KJ] using cb) e
   | _=>simp [ltX] at e
  | list xs =>
   cases db with
   | list ys =>
    rw [VQ] at hd
    rw [ltX] at e
    cases ra with
    | list e1 c1 d1 t1 =>
     cases rb with
     | list e2 c2 d2 t2 =>
      refine qcL e1 c1 d1 e2 c2 d2 (by omega) ?_
      exact J9 (m:=n) (by show A.units+1+n+1<cLine;omega) (fun x y a b as bs r hx r1 r2 k1 k2 e=>ih x y A.in1 s a b as bs r hx r1 r2 k1 k2 (by show A.units+1+n+1<cLine;omega) e)
       xs ys _ _ _ _ r (by omega) t1 t2 (by simpa [KJ] using ca) (by simpa [KJ] using cb) e
   | _=>simp [ltX] at e
  | _=>simp [ltX] at e
def ltD2 (x y:Ka):Option Ka:=if Vp x=true/\Vp y=true/\x.depth<=60 then ob (ltX x y) fun r=>some (.bool r) else none
theorem qdv {X:Cx}{k:Nat}(hr:Room k X.A):OpD X (compareOp .Lt) ltD2:=by
 intro pins s σ H x y v u Q I rx ry ⟨S,dx,dy,d,m,h1,h2,e,q⟩
 unfold ltD2 at e
 split at e
 ·rename_i hc
  obtain ⟨as,q1⟩:=h1.reads I (K0 hc.1) rx
  obtain ⟨bs,q2⟩:=h2.reads I (K0 hc.2.1) ry
  obtain ⟨r,e1,e⟩:=qe e
  cases e
  have hu:=hr.units
  exact jA 60 dx dy X.A s v u as bs r hc.2.2 q1 q2 (K0 hc.1) (K0 hc.2.1) (by omega) e1 X.prog X.w X.xe _ (Zt I (q _ H (Same.refl H) (.bool r)) rfl)
 ·cases e
end L2
namespace L2
open PySem PySem.Spec PyProof.Rows PySem.W
def runC {α:Type}(lt:Nat->Nat->Option Bool):KasT α->Option α
 | .ret a=>some a
 | .ask i j k=>ob (lt i j) fun b=>runC lt (k b)
theorem qcb {α:Type}{cmp:Nat->Nat->(Bool->Kf->Prop)->Kf->Prop}{lt:Nat->Nat->Option Bool}{s:Kf}{Q:α->Kf->Prop}(hc:∀ i j b C,lt i j=some b->C b s->cmp i j C s) :
  ∀ (t:KasT α) (a:α),runC lt t=some a->Q a s->t.kasWp cmp Q s
 | .ret x,a,e,q=>by cases e;exact q
 | .ask i j k,a,e,q=>by
  obtain ⟨b,e1,e2⟩:=qe e
  exact hc i j b _ e1 (qcb hc (k b) a e2 q)
section
variable {prog:Kx}{w:KG}{A:KI}{E:Kb->Kf->Prop}{s:Kf}
def Kept (a:Kd)(s s':Kf):Prop:=∀ b o,b≠a->s.heap.get? b=some o->s'.heap.get? b=some o
theorem qbc {a:Kd}{vs:List Kb}{n:Nat}{P:PySem.Fin->Kf->Prop}{κ:SortKind}{p:Array Nat}(ho:s.heap.get? a=some (seqObj "list" vs.toArray n))(h2:2<=vs.length)(h64:vs.length<64)
  (hk:∀ (s':Kf) (Q:SortKind->Kf->Prop),Kept a s s'->Q κ s'->wpAny (model prog w) A (keyKind' vs.toArray) Q E s')
  (hr:∀ (s':Kf) (G:Array Nat->Kf->Prop),Kept a s s'->G p s'->(NS vs.length).kasWp (kas_ask prog w A κ vs) G s')
  (h:P (.done (.ret .none)) { s with heap:=sortedHeap s.heap a vs (p.toList.map fun i=>vs.getD i VH).toArray }) :
  wpAny (model prog w) A (UZ.«list.sort» ⟨[.ref a],[]⟩) P E s:=by
 have small:vs.length<=sizeLine:=by rw [Uj];omega
 have lt:=Ku ho
 obtain ⟨e1,o1⟩:∃ e1,(s.heap.update a (VW fun _=>#[])).get? a=some (seqObj "list" #[] e1):=⟨_,get?_update_seq ho fun _=>#[]⟩
 rw [list_sort_plain]
 refine Kg (listItems_at ho rfl (Kg (Nn ho rfl (Kg (N8 o1 rfl (Kg ?_))) (by simpa using small) (Vz _))))
 refine wpAny_newTuple (Kg (Np (V8 ?_) (Vz _))) (by simpa using small)
 obtain ⟨h6,hE⟩:∃ h6,h6=((s.heap.update a (VW fun _=>(#[]:Array Kb))).push (seqObj "tuple" vs.toArray 0)).push (seqObj "list" #[] 0):=⟨_,rfl⟩
 have kp:Kept a s { s with heap:=h6 }:=fun b o ne e=>by
  show h6.get? b=some o
  rw [hE]
  refine Kk _ (Kk _ ?_)
  rw [Uu _ _ _ _ ne]
  exact e
 have o6:h6.get? a=some (seqObj "list" #[] e1):=by
  rw [hE]
  exact Kk _ (Kk _ o1)
 show wpAny (model prog w) A _ P E { s with heap:=((s.heap.update a (VW fun _=>(#[]:Array Kb))).push (seqObj "tuple" vs.toArray 0)).push (seqObj "list" #[] 0) }
 rw [← hE]
 have n2:¬ vs.toArray.size<2:=by rw [Kt];omega
 dsimp only
 rw [if_neg n2,if_neg n2]
 refine Kg (hk _ _ kp ?_)
 refine Kg (Vk (kat_run (Q:=fun st' s'=>s'={ s with heap:=h6 }/\arrOf st'=p.map (kas_item (vs.toArray.zip vs.toArray))/\failedOf st'=none/\p.size=vs.length) rfl h2 h64
  (fun p' st' s' z har hf hg=>⟨hg.1,by rw [← hg.2];exact har,hf,by rw [← hg.2];exact z⟩) (hr _ (fun p' s'=>s'={ s with heap:=h6 }/\p'=p) kp ⟨rfl,rfl⟩)) ?_ fun _ _ e=>e)
 rintro ⟨⟨⟩,st'⟩ s' ⟨rfl,har,hf,hz⟩
 dsimp only
 rw [kat_snds rfl har]
 refine Kg (N8 o6 rfl (Kg (Nn o6 rfl ?_ (Vz _) (by rw [Kt,Kh,K3,hz];omega))))
 rw [hf]
 simp only [bne_self_eq_false,VZ,if_false]
 refine Ks ?_
 rw [hE]
 exact h
theorem qbd {a:Kd}{vs:List Kb}{n:Nat}{P:PySem.Fin->Kf->Prop}(ho:s.heap.get? a=some (seqObj "list" vs.toArray n))(h2:vs.length<2)
  (h:P (.done (.ret .none)) { s with heap:=sortedHeap s.heap a vs vs.toArray }):wpAny (model prog w) A (UZ.«list.sort» ⟨[.ref a],[]⟩) P E s:=by
 have small:vs.length<=sizeLine:=by rw [Uj];omega
 obtain ⟨e1,o1⟩:∃ e1,(s.heap.update a (VW fun _=>#[])).get? a=some (seqObj "list" #[] e1):=⟨_,get?_update_seq ho fun _=>#[]⟩
 rw [list_sort_plain]
 refine Kg (listItems_at ho rfl (Kg (Nn ho rfl (Kg (N8 o1 rfl (Kg ?_))) (by simpa using small) (Vz _))))
 refine wpAny_newTuple (Kg (Np (V8 ?_) (Vz _))) (by simpa using small)
 obtain ⟨h6,hE⟩:∃ h6,h6=((s.heap.update a (VW fun _=>(#[]:Array Kb))).push (seqObj "tuple" vs.toArray 0)).push (seqObj "list" #[] 0):=⟨_,rfl⟩
 have o6:h6.get? a=some (seqObj "list" #[] e1):=by
  rw [hE]
  exact Kk _ (Kk _ o1)
 show wpAny (model prog w) A _ P E { s with heap:=((s.heap.update a (VW fun _=>(#[]:Array Kb))).push (seqObj "tuple" vs.toArray 0)).push (seqObj "list" #[] 0) }
 rw [← hE]
 have n2:vs.toArray.size<2:=by rw [Kt];omega
 dsimp only
 rw [if_pos n2,if_pos n2]
 refine Kg (Ks ?_)
 rw [StateT.run_pure]
 refine Kg (Ks ?_)
 dsimp only
 have eo:Array.map (fun x=>x.2) (vs.toArray.zip vs.toArray)=vs.toArray:=by
  apply Array.toList_inj.mp
  simp [List.map_snd_zip]
 show wpAny (model prog w) A (seqEpoch a >>= _) P E { s with heap:=h6 }
 refine Kg (N8 o6 rfl (Kg ?_))
 rw [show Array.map (fun x=>x.2) (arrOf (SortSt.mk' general' (vs.toArray.zip vs.toArray) #[] 7 none))=vs.toArray from eo]
 refine Nn o6 rfl ?_ (Vz _) (by rw [Kt];omega)
 simp only [bne_self_eq_false,VZ,if_false]
 refine Ks ?_
 rw [hE]
 exact h
theorem WK {l:Kd}{vs:List Kb}{Q:Kb->Kf->Prop}{κ:SortKind}{p:Array Nat}(hl:s.heap.IsList l vs.toArray)(h2:2<=vs.length)(h64:vs.length<64)
  (hk:∀ (s':Kf) (Q:SortKind->Kf->Prop),(∀ b o,s.heap.get? b=some o->s'.heap.get? b=some o)->Q κ s'->wpAny (model prog w) A.in1.in1 (keyKind' vs.toArray) Q (fun _ _=>False) s')
  (hr:∀ (s':Kf) (G:Array Nat->Kf->Prop),(∀ b o,s.heap.get? b=some o->s'.heap.get? b=some o)->G p s'->(NS vs.length).kasWp (kas_ask prog w A.in1.in1 κ vs) G s')
  (h:Q (.ref (s.heap.objs.size+1)) { s with heap:=sortedAll s.heap vs (p.toList.map fun i=>vs.getD i VH).toArray }) :
  wpAny (model prog w) A (call (.builtin "sorted") [.ref l]) Q E s:=by
 have small:vs.length<=sizeLine:=by rw [Uj];omega
 refine Calls.call_function_entry kind_sorted plain_sorted entry_sorted (args_sorted1 _) ?_
 unfold UZ.«sorted»
 refine Kg (m:=checkCount "sorted" 1 1 _) (Ks (Kg (collect_list hl (Kg (Np ?_ (by simpa using small))) (by simpa using small))))
 have zz:((s.heap.push (seqObj "list" #[] 0)).update s.heap.objs.size (VW (·++vs.toArray))).objs.size=s.heap.objs.size+1:=by rw [Heap.size_update,size_push']
 obtain ⟨h3,hH⟩:∃ h3,h3=((s.heap.push (seqObj "list" #[] 0)).update s.heap.objs.size (VW (·++vs.toArray))).push (seqObj "list" vs.toArray 0):=⟨_,rfl⟩
 have oL:h3.get? (s.heap.objs.size+1)=some (seqObj "list" vs.toArray 0):=by
  rw [hH,← zz]
  exact K4 _ rfl
 have keep:∀ b o,s.heap.get? b=some o->h3.get? b=some o:=fun b o e=>by
  rw [hH]
  have hlt:=Ku e
  refine Kk _ ?_
  rw [Uu _ _ _ _ (K6 hlt)]
  exact Kk _ e
 show wpAny _ _ _ _ _ { s with heap:=((s.heap.push (seqObj "list" #[] 0)).update s.heap.objs.size (VW (·++vs.toArray))).push (seqObj "list" vs.toArray 0) }
 rw [zz,← hH]
 have k2:∀ s':Kf,Kept (s.heap.objs.size+1) { s with heap:=h3 } s'->∀ b o,s.heap.get? b=some o->s'.heap.get? b=some o:=fun s' kp b o e=>kp b o (K6 (UJ (Ku e))) (keep b o e)
 refine Kg (V8 (XJ slot_list_sort ⟨_,oL,rfl⟩ entry_list_sort (qbc (κ:=κ) (p:=p) oL h2 h64 (fun s' Q kp q=>Vk (hk s' Q (k2 s' kp) q) (fun _ _ z=>z) fun _ _ z=>z.elim) (fun s' G kp q=>hr s' G (k2 s' kp) q) ⟨_,rfl,?_⟩) (args_list_sort _)))
 refine Ks ⟨_,rfl,?_⟩
 have hA:sortedHeap h3 (s.heap.objs.size+1) vs (p.toList.map fun i=>vs.getD i VH).toArray=sortedAll s.heap vs (p.toList.map fun i=>vs.getD i VH).toArray:=by
  rw [hH]
  rfl
 rw [hA]
 exact h
theorem WL {l:Kd}{vs:List Kb}{Q:Kb->Kf->Prop}(hl:s.heap.IsList l vs.toArray)(h2:vs.length<2)
  (h:Q (.ref (s.heap.objs.size+1)) { s with heap:=sortedAll s.heap vs vs.toArray }) :
  wpAny (model prog w) A (call (.builtin "sorted") [.ref l]) Q E s:=by
 have small:vs.length<=sizeLine:=by rw [Uj];omega
 refine Calls.call_function_entry kind_sorted plain_sorted entry_sorted (args_sorted1 _) ?_
 unfold UZ.«sorted»
 refine Kg (m:=checkCount "sorted" 1 1 _) (Ks (Kg (collect_list hl (Kg (Np ?_ (by simpa using small))) (by simpa using small))))
 have zz:((s.heap.push (seqObj "list" #[] 0)).update s.heap.objs.size (VW (·++vs.toArray))).objs.size=s.heap.objs.size+1:=by rw [Heap.size_update,size_push']
 obtain ⟨h3,hH⟩:∃ h3,h3=((s.heap.push (seqObj "list" #[] 0)).update s.heap.objs.size (VW (·++vs.toArray))).push (seqObj "list" vs.toArray 0):=⟨_,rfl⟩
 have oL:h3.get? (s.heap.objs.size+1)=some (seqObj "list" vs.toArray 0):=by
  rw [hH,← zz]
  exact K4 _ rfl
 show wpAny _ _ _ _ _ { s with heap:=((s.heap.push (seqObj "list" #[] 0)).update s.heap.objs.size (VW (·++vs.toArray))).push (seqObj "list" vs.toArray 0) }
 rw [zz,← hH]
 refine Kg (V8 (XJ slot_list_sort ⟨_,oL,rfl⟩ entry_list_sort (qbd oL h2 ⟨_,rfl,?_⟩) (args_list_sort _)))
 refine Ks ⟨_,rfl,?_⟩
 have hA:sortedHeap h3 (s.heap.objs.size+1) vs vs.toArray=sortedAll s.heap vs vs.toArray:=by
  rw [hH]
  rfl
 rw [hA]
 exact h
end
def qak (ds:List Ka)(i j:Nat):Option Bool:=match ds[i]?,ds[j]? with
 | some x,some y=>ltX x y
 | _,_=>none
def keyD:Ka->Nat
 | .tuple (.int _::_)=>0
 | .tuple (.tuple _::_)=>1
 | .int _=>2
 | _=>3
def qav (ds:List Ka)(p:Array Nat):Option Ka:=if (p.toList.all fun i=>decide (i<ds.length))=true/\p.toList.length<=1000 then some (.list (p.toList.map fun i=>ds.getD i .none)) else none
def Zx (k:Nat)(ds:List Ka):Bool:=(ds.all fun d=>keyD d==k)&&(decide (2<=ds.length)&&(decide (ds.length<64)&&(Kn ds&&decide (KB ds<=50))))
def zA:List Ka->Option Ka
 | [.list ds]=>if ds.length<2 then some (.list ds) else if Zx 0 ds=true\/Zx 1 ds=true then ob (runC (qak ds) (NS ds.length)) fun p=>qav ds p else none
 | _=>none
section
variable {prog:Kx}{w:KG}{A:KI}{s:Kf}
theorem Wk {b fin:Bool}{m:Nat}{Q:Bool->Kf->Prop}{r:Bool}(hu:A.units+m+1<cLine)(q:Q r s) :
  ∀ (xs ys:List Ka) (vs ws:List Kb) (as bs:List Kd) (i:Nat),KB xs<=m->Ua s.heap vs xs as->Ua s.heap ws ys bs->Kn xs=true->Kn ys=true->ltXs xs ys=some r->
   (b=true->i=0->∀ x y,xs.head?=some x->ys.head?=some y->∃ n k,x=.int n/\y=.int k)->fin=decide (xs.length<ys.length)->KatLex prog w A b fin Q (vs.zip ws) i s:=by
 intro xs
 induction xs with
 | nil =>
  intro ys vs ws as bs i _ h1 h2 _ _ e _ hf
  cases h1
  rw [List.zip_nil_left]
  refine kat_nil ?_
  cases ys with
  | nil=>rw [ltXs] at e;cases e;rw [hf];simpa using q
  | cons y ys=>rw [ltXs] at e;cases e;rw [hf];simpa using q
 | cons x xs ih =>
  intro ys vs ws as bs i hm h1 h2 c1 c2 e hb hf
  cases h1 with
  | cons rx rxs =>
   cases ys with
   | nil =>
    cases h2
    rw [List.zip_nil_right]
    refine kat_nil ?_
    rw [ltXs] at e;cases e;rw [hf];simpa using q
   | cons y ys =>
    cases h2 with
    | cons ry rys =>
     have c1':x.canLay0=true/\Kn xs=true:=by simpa [Kn] using c1
     have c2':y.canLay0=true/\Kn ys=true:=by simpa [Kn] using c2
     have hd:max x.depth (KB xs)<=m:=by rw [KB] at hm;exact hm
     have m1:=Vg (N4 x.depth (KB xs)) hd
     have m2:=Vg (NR x.depth (KB xs)) hd
     rw [ltXs] at e
     rw [Nd]
     refine kat_cons (NQ x y A s _ _ _ _ rx ry c1'.1 c2'.1 (by have:=N3 x.depth y.depth;omega) prog w _ _ (kat_go (fun z=>?_) fun z=>?_))
     ·rw [if_pos z] at e
      refine kat_yes (ih ys _ _ _ _ (i+1) m2 rxs rys c1'.2 c2'.2 e (fun _ z=>by omega) ?_)
      rw [hf,KM,KM]
      exact decide_eq_decide.mpr (by omega)
     ·rw [if_neg (by rw [z];exact Ug)] at e
      refine kat_no ?_
      cases hbi:(b&&i==0) with
      | true =>
       rw [Ko] at hbi
       obtain ⟨n,k,rfl,rfl⟩:=hb hbi.1 (by simpa using hbi.2) x y rfl rfl
       cases rx;cases ry
       rw [ltX] at e
       cases e
       exact oneLt_int q
      | false =>
       exact kat_one _ _ (jA m x y A s _ _ _ _ r m1 rx ry c1'.1 c2'.1 hu e prog w _ _ q)
theorem Jp {h:KA}:∀ {vs:List Kb} {ds:List Ka} {as:List Kd},Ua h vs ds as->vs.length=ds.length
 | _,_,_,.nil=>rfl
 | _,_,_,.cons _ t=>by rw [KM,KM,Jp t]
theorem Jo {h:KA}:∀ {vs:List Kb} {ds:List Ka} {as:List Kd} {i:Nat} {d:Ka},Ua h vs ds as->ds[i]?=some d->∃ v bs,vs[i]?=some v/\U5 h v d bs
 | _,_,_,_,_,.nil,e=>by simp at e
 | _,_,_,0,_,.cons r _,e=>by simp at e;subst e;exact ⟨_,_,rfl,r⟩
 | _,_,_,i+1,d,.cons _ t,e=>by
  obtain ⟨v,bs,h1,h2⟩:=Jo (i:=i) (d:=d) t (by simpa using e)
  exact ⟨v,bs,by simpa using h1,h2⟩
theorem ju:∀ {ds:List Ka} {i:Nat} {d:Ka},Kn ds=true->ds[i]?=some d->d.canLay0=true/\d.depth<=KB ds
 | [],_,_,_,e=>by simp at e
 | x::xs,0,d,h,e=>by
  have h':x.canLay0=true/\Kn xs=true:=by simpa [Kn] using h
  simp at e
  subst e
  exact ⟨h'.1,by rw [KB];exact N4 _ _⟩
 | x::xs,i+1,d,h,e=>by
  have h':x.canLay0=true/\Kn xs=true:=by simpa [Kn] using h
  obtain ⟨h1,h2⟩:=ju (i:=i) (d:=d) h'.2 (by simpa using e)
  exact ⟨h1,Vg h2 (by rw [KB];exact NR _ _)⟩
theorem yZ {h:KA}{k:Nat}(hk:k<2):∀ {vs:List Kb} {ds:List Ka} {as:List Kd},Ua h vs ds as->(ds.all fun d=>keyD d==k)=true->∃ fs:List Kb,KatTups h vs fs/\fs.length=vs.length/\∀ (M:Model),∀ f∈fs,UD M h (typeOf f) (if k=0 then VV "int" else VV "tuple")
 | _,_,_,.nil,_=>⟨[],trivial,rfl,fun _ _ z=>nomatch z⟩
 | _,d::ds,_,.cons (d:=_) r t,e=>by
  rw [List.all_cons,Ko] at e
  obtain ⟨fs,h1,h2,h3⟩:=yZ hk t e.2
  have e1:keyD d=k:=by simpa using e.1
  cases d with
  | tuple xs =>
   cases r with
   | @tuple a o its n xs' as' g1 g2 g3 g4 =>
    cases xs with
    | nil=>rw [show keyD (.tuple [])=3 from rfl] at e1;omega
    | cons x xs =>
     obtain ⟨v,rv,q1,rx⟩:=Jo (i:=0) g4 rfl
     have h0:its[0]?=some v:=by rw [← Eg];exact q1
     refine ⟨v::fs,KatTups.cons g1 g2 g3 h0 h1,by rw [KM,KM,h2],fun M f hf=>?_⟩
     rcases Kq.mp hf with rfl|hf
     ·cases x with
      | int n =>
       cases rx
       rw [show keyD (.tuple (.int n::xs))=0 from rfl] at e1
       rw [if_pos e1.symm]
       exact Looks.of_pure rfl
      | tuple ys =>
       rw [show keyD (.tuple (.tuple ys::xs))=1 from rfl] at e1
       cases rx with
       | tuple k1 k2 k3 k4 =>
        rw [if_neg (by omega),← k2]
        exact (Xx k1).andThen .now
      | none=>rw [show keyD (.tuple (.none::xs))=3 from rfl] at e1;omega
      | bool _=>rw [show keyD (.tuple (.bool _::xs))=3 from rfl] at e1;omega
      | str _=>rw [show keyD (.tuple (.str _::xs))=3 from rfl] at e1;omega
      | list _=>rw [show keyD (.tuple (.list _::xs))=3 from rfl] at e1;omega
      | dict _=>rw [show keyD (.tuple (.dict _::xs))=3 from rfl] at e1;omega
     ·exact h3 M f hf
  | int n=>rw [show keyD (.int n)=2 from rfl] at e1;omega
  | none=>rw [show keyD .none=3 from rfl] at e1;omega
  | bool _=>rw [show keyD (.bool _)=3 from rfl] at e1;omega
  | str _=>rw [show keyD (.str _)=3 from rfl] at e1;omega
  | list _=>rw [show keyD (.list _)=3 from rfl] at e1;omega
  | dict _=>rw [show keyD (.dict _)=3 from rfl] at e1;omega
end
section
variable {h h':KA}
mutual
theorem qcY (k:∀ b o,h.get? b=some o->h'.get? b=some o):∀ {d:Ka} {v:Kb} {as:List Kd},U5 h v d as->d.canLay0=true->U5 h' v d as
 | .none,_,_,r,_=>by cases r;exact .none
 | .bool _,_,_,r,_=>by cases r;exact .bool _
 | .int _,_,_,r,_=>by cases r;exact .int _ _
 | .str _,_,_,r,_=>by cases r;exact .str _ _
 | .list xs,_,_,r,c=>by
  cases r with
  | list e q g t=>exact .list (k _ _ e) q g (QB k t (by simpa [KJ] using c))
 | .tuple xs,_,_,r,c=>by
  cases r with
  | tuple e q g t=>exact .tuple (k _ _ e) q g (QB k t (by simpa [KJ] using c))
 | .dict _,_,_,_,c=>by simp [KJ] at c
theorem QB (k:∀ b o,h.get? b=some o->h'.get? b=some o):∀ {ds:List Ka} {vs:List Kb} {as:List Kd},Ua h vs ds as->Kn ds=true->Ua h' vs ds as
 | [],_,_,r,_=>by cases r;exact .nil
 | d::ds,_,_,r,c=>by
  have c':d.canLay0=true/\Kn ds=true:=by simpa [Kn] using c
  cases r with
  | cons r t=>exact .cons (qcY k r c'.1) (QB k t c'.2)
end
end
theorem qd2 {x y:Ka}{r:Bool}(hx:keyD x<2)(e:ltX x y=some r):∃ xs ys,x=.tuple xs/\y=.tuple ys/\ltXs xs ys=some r:=by
 cases x with
 | tuple xs =>
  cases y with
  | tuple ys=>rw [ltX] at e;exact ⟨xs,ys,rfl,rfl,e⟩
  | _=>simp [ltX] at e
 | int n=>simp [keyD] at hx
 | list xs=>simp [keyD] at hx
 | _=>simp [ltX] at e
theorem Y4 {k:Nat}{xs:List Ka}(e:keyD (.tuple xs)=k)(h0:k=0):∀ x,xs.head?=some x->∃ n,x=.int n:=by
 intro x hx
 cases xs with
 | nil=>cases hx
 | cons y ys =>
  cases hx
  cases x with
  | int n=>exact ⟨n,rfl⟩
  | _=>(first|(simp [keyD] at e;omega)|(simp only [keyD] at e;omega))
theorem getD_some {α:Type}{xs:List α}{i:Nat}{x d:α}(e:xs[i]?=some x):xs.getD i d=x:=by rw [VE,e];rfl
theorem Q9 {X:Cx}{k:Nat}(hr:Room k X.A):qbk X (.builtin "sorted") zA:=by
 intro pins s σ H xs us Q I r ⟨S,ds,d,m,h1,e,q⟩
 unfold zA at e
 split at e
 ·rename_i ds
  split at e
  ·rename_i hlt
   cases e
   obtain ⟨v,rfl,hv⟩:=h1.inv1
   obtain ⟨a,ys,rfl,hs,ht⟩:=hv.list_inv
   obtain ⟨u,rfl,ru⟩:=vals1 r
   cases (show u=KW a from ru)
   obtain ⟨its,rv,pl,hz⟩:=I.list hs.sq
   have hlen:=rv.length
   have hl2:=ht.length
   refine WL pl.isList (by omega) ?_
   obtain ⟨en,ob⟩:=sortedAll_at s.heap its its.toArray
   have hfr:H (s.heap.objs.size+1)=none:=I.hok.fresh (Uk _)
   exact ⟨.ref (s.heap.objs.size+1),_,I.laid (t':=s.toks) (o:=.lst ys) (fun b o e=>sortedAll_old e) (Uk _) ⟨hz,_,en,rv,ob⟩,rfl,q _ _ (Same.lay hfr) hfr (OwnO.laid hfr ht)⟩
  split at e
  ·rename_i hok
   obtain ⟨p,e1,e2⟩:=qe e
   obtain ⟨v,rfl,hv⟩:=h1.inv1
   obtain ⟨a,ys,rfl,hs,ht⟩:=hv.list_inv
   obtain ⟨u,rfl,ru⟩:=vals1 r
   cases (show u=KW a from ru)
   obtain ⟨its,rv,pl,hz⟩:=I.list hs.sq
   obtain ⟨kk,hk2,hk⟩:∃ kk,kk<2/\Zx kk ds=true:=hok.elim (fun z=>⟨0,by decide,z⟩) fun z=>⟨1,by decide,z⟩
   unfold Zx at hk
   simp only [Ko,decide_eq_true_eq] at hk
   obtain ⟨hall,l2,l64,hcan,hdep⟩:=hk
   obtain ⟨as,ra⟩:=ht.reads I hcan rv
   have hlen:=Jp ra
   unfold qav at e2
   split at e2
   ·rename_i hin
    cases e2
    have hin':∀ i∈p.toList,i<ds.length:=fun i hi=>by
     have:=KR.mp hin.1 i hi
     simpa using this
    have hu:=hr.units
    obtain ⟨T,hT⟩:∃ T,T=(if kk=0 then VV "int" else VV "tuple"):=⟨_,rfl⟩
    have hT2:(T==T)=true:=by rw [hT];split<;>rfl
    have hb:(T != VV "tuple")=true->kk=0:=fun z=>by
     rw [hT] at z
     by_cases h0:kk=0
     ·exact h0
     ·rw [if_neg h0] at z;exact absurd z (by decide)
    refine WK (κ:=tuples' (T != VV "tuple")) (p:=p) pl.isList (by omega) (by omega) (fun s' Q' keep q'=>?_) (fun s' G keep g=>?_) ?_
    ·obtain ⟨fs,t1,t2,t3⟩:=yZ hk2 (QB keep ra hcan) hall
     exact kat_kind t1 (by omega) (fun f hf=>by rw [hT];exact t3 _ f hf) hT2 q'
    ·have ra':=QB keep ra hcan
     rw [hlen]
     refine qcb (fun i j b C el hC=>?_) _ p e1 g
     unfold qak at el
     split at el
     ·rename_i x y ex ey
      obtain ⟨vx,bx,gx,rx⟩:=Jo ra' ex
      obtain ⟨vy,byy,gy,ry⟩:=Jo ra' ey
      obtain ⟨cx,dx⟩:=ju hcan ex
      obtain ⟨cy,dy⟩:=ju hcan ey
      have kx:keyD x=kk:=by
       have:=KR.mp hall x (KO ex)
       simpa using this
      have ky:keyD y=kk:=by
       have:=KR.mp hall y (KO ey)
       simpa using this
      obtain ⟨xs,ys',rfl,rfl,elx⟩:=qd2 (by omega) el
      show kas_ask X.prog X.w X.A.in1.in1 _ its i j C s'
      unfold kas_ask
      rw [getD_some gx,getD_some gy]
      cases rx with
      | @tuple ax ox ax1 nx _ _ x1 x2 x3 x4 =>
       cases ry with
       | @tuple ay oy ay1 ny _ _ y1 y2 y3 y4 =>
        have dxs:KB xs<=50:=by rw [VQ] at dx;omega
        refine kat_lt x1 x3 y1 y3 (Wk (m:=50) (by show X.A.units+1+1+50+1<cLine;omega) hC xs ys' _ _ _ _ 0 dxs x4 y4 (by simpa [KJ] using cx) (by simpa [KJ] using cy) elx (fun hbb _ x y hx hy=>?_) ?_)
        ·have h0:=hb hbb
         obtain ⟨n1,rfl⟩:=Y4 kx h0 x hx
         obtain ⟨n2,rfl⟩:=Y4 ky h0 y hy
         exact ⟨n1,n2,rfl,rfl⟩
        ·have z1:=Jp x4
         have z2:=Jp y4
         rw [K3] at z1 z2
         rw [z1,z2]
     ·cases el
    ·obtain ⟨en,ob⟩:=sortedAll_at s.heap its (p.toList.map fun i=>its.getD i VH).toArray
     have hfr:H (s.heap.objs.size+1)=none:=I.hok.fresh (Uk _)
     have dl:DenL X.K H S (p.toList.map fun i=>ys.getD i .non) (p.toList.map fun i=>ds.getD i .none):=by
      generalize p.toList=pl at hin'
      induction pl with
      | nil=>exact .nil
      | cons i pl ih =>
       have hi:=hin' i (.head _)
       obtain ⟨vy,gy,dy⟩:=ht.get (Kj hi)
       rw [Kr,Kr,getD_some gy,getD_some (Kj hi)]
       exact .cons dy (ih fun j hj=>hin' j (.tail _ hj))
     have vl:Vals (p.toList.map fun i=>ys.getD i .non) (p.toList.map fun i=>its.getD i VH):=by
      generalize p.toList=pl at hin'
      induction pl with
      | nil=>exact .nil
      | cons i pl ih =>
       have hi:i<ys.length:=by rw [ht.length];exact hin' i (.head _)
       obtain ⟨w,gw,rw'⟩:=rv.get (Kj hi)
       rw [Kr,Kr,getD_some (Kj hi),getD_some gw]
       exact .cons rw' (ih fun j hj=>hin' j (.tail _ hj))
     have zz:(p.toList.map fun i=>ys.getD i V.non).length<=sizeLine:=by rw [Kh];exact VA (zj hin.2)
     refine ⟨.ref (s.heap.objs.size+1),_,I.laid (t':=s.toks) (o:=.lst (p.toList.map fun i=>ys.getD i .non)) (fun b o e=>sortedAll_old e) (Uk _) ⟨zz,_,en,vl,ob⟩,rfl,q _ _ (Same.lay hfr) hfr (OwnO.laid hfr dl)⟩
   ·cases e2
  ·cases e
 ·cases e
end L2
namespace L2
open PySem PySem.Spec PyProof.Rows
def Jx (K:Kc)(mg:Str->Option Kb)(x:Str)(d:Ka):Prop:=∃ v u,mg x=some u/\RelV v u/\∀ H S,Den K H S v d
theorem Jh {X:Cx}{M:List Nat}{x:Str}{d:Ka}{pos:Pos}(C:Jx X.K X.mg x d)(hg:Gl X x)(hdb:(x==("__debug__" : Str))=false:=by decide +kernel):PD X M (.Name x pos) (kd d):=by
 obtain ⟨v,u,m,r,hd⟩:=C
 exact qgg hg m r hd hdb
end L2
namespace L2
open PySem
theorem zU:bootBuiltins "sorted" = some (.builtin "sorted"):=by decide +kernel
end L2
namespace L2
open PySem PySem.Spec PyProof.Rows
theorem ob_s {α β:Type}(x:α)(f:α->Option β):ob (some x) f=f x:=rfl
theorem vr_z (o:Option Ka)(ρ:Rho):vr 0 (o::ρ)=o:=rfl
theorem vr_s (n:Nat)(o:Option Ka)(ρ:Rho):vr (n+1) (o::ρ)=vr n ρ:=rfl
theorem atI0 {α:Type}(x:α)(xs:List α):atI (x::xs) 0=some x:=by simp [atI,ixN]
theorem Z6 {α:Type}(x:α)(xs:List α)(k:Nat):atI (x::xs) ((k:Int)+1)=atI xs (k:Int):=by
 unfold atI ixN
 have h1:(0:Int)<=(k:Int)+1:=by omega
 have h2:(0:Int)<=(k:Int):=by omega
 rw [if_pos h1,if_pos h2]
 by_cases h:(k:Int)<xs.length
 ·have h':(k:Int)+1<((x::xs).length:Int):=by rw [KM];omega
  rw [if_pos h,if_pos h']
  have e1:((k:Int)+1).toNat=k+1:=by omega
  have e2:(k:Int).toNat=k:=by omega
  rw [e1,e2]
  rfl
 ·have h':¬ (k:Int)+1<((x::xs).length:Int):=by rw [KM];omega
  rw [if_neg h,if_neg h']
  rfl
theorem atI1 {α:Type}(x y:α)(xs:List α):atI (x::y::xs) 1=some y:=(Z6 x (y::xs) 0).trans (atI0 y xs)
theorem atI2 {α:Type}(x y z:α)(xs:List α):atI (x::y::z::xs) 2=some z:=(Z6 x (y::z::xs) 1).trans (atI1 y z xs)
theorem atI3 {α:Type}(x y z a:α)(xs:List α):atI (x::y::z::a::xs) 3=some a:=(Z6 x (y::z::a::xs) 2).trans (atI2 y z a xs)
theorem atI4 {α:Type}(x y z a b:α)(xs:List α):atI (x::y::z::a::b::xs) 4=some b:=(Z6 x (y::z::a::b::xs) 3).trans (atI3 y z a b xs)
theorem atI5 {α:Type}(x y z a b c:α)(xs:List α):atI (x::y::z::a::b::c::xs) 5=some c:=(Z6 x (y::z::a::b::c::xs) 4).trans (atI4 y z a b c xs)
theorem QZ {i j:Int}(h:X6 i j):mulD (.int i) (.int j)=some (.int (i*j)):=by
 show (if X6 i j then some (Ky (i*j)) else none)=_
 rw [if_pos h]
def Bd (n:Nat)(i:Int):Prop:=V6 i<=n
theorem Bd.ok {n m:Nat}{i j:Int}(h:Bd n i)(g:Bd m j)(e:n+m<=134217728:=by decide):X6 i j:=IntMulOk.of_le h g e
theorem Bd.of {n:Nat}{i:Int}(h:i.natAbs<2 ^ n):Bd n i:=intBits_le_iff.mpr h
theorem natLit (n:Nat):((no_index (OfNat.ofNat n):Nat):Int)=(OfNat.ofNat n:Int):=rfl
theorem qfq (i j:Int):eqD (.int i) (.int j)=some (.bool (i==j)):=rfl
theorem qfZ (i j:Int):neD (.int i) (.int j)=some (.bool (!(i==j))):=rfl
theorem pow_a:powD (.int 7919) (.int 8)=some (.int (7919 ^ 8)):=rfl
theorem pow_b:powD (.int 10) (.int 30)=some (.int (10 ^ 30)):=rfl
theorem jj (i:Int){j:Int}(h:0<j):modD (.int i) (.int j)=some (.int (i % j)):=by
 show (if 0<j then some (Ky (i % j)) else none)=_
 rw [if_pos h]
theorem qdD (i:Int){j:Int}(h:0<j)(h2:j<1073741824):qY (.int i) (.int j)=some (.int (i / j)):=by
 show (if CDiv i j then some (Ky (i / j)) else none)=_
 rw [if_pos ⟨h,h2⟩]
def yC (o:Option Out)(w:Rho->Option Out):Option Out:=match o with | some (.nx ρ')=>w ρ'|o=>o
theorem qeM (u w:Rho->Option Out)(ρ:Rho):seqO u w ρ=yC (u ρ) w:=by
 unfold seqO ob yC
 cases u ρ with
 | none=>rfl
 | some o=>cases o<;>rfl
theorem WW (ρ:Rho)(w:Rho->Option Out):yC (some (.nx ρ)) w=w ρ:=rfl
theorem qdg (d:Ka)(w:Rho->Option Out):yC (some (.rt d)) w=some (.rt d):=rfl
theorem qde (ρ:Rho)(w:Rho->Option Out):yC (some (.bk ρ)) w=some (.bk ρ):=rfl
theorem qdf (ρ:Rho)(w:Rho->Option Out):yC (some (.ct ρ)) w=some (.ct ρ):=rfl
def ifO {α:Type}(b:Option Bool)(u w:Rho->Option α)(ρ:Rho):Option α:=match b with | some true=>u ρ|some false=>w ρ|none=>none
theorem ifO_t {α:Type}(u w:Rho->Option α)(ρ:Rho):ifO (some true) u w ρ=u ρ:=rfl
theorem ifO_f {α:Type}(u w:Rho->Option α)(ρ:Rho):ifO (some false) u w ρ=w ρ:=rfl
theorem sIf_b (p:Rho->Option Bool)(u w:Rho->Option Out)(ρ:Rho):sIf p u w ρ=ifO (p ρ) u w ρ:=by
 unfold sIf ob ifO
 cases p ρ with
 | none=>rfl
 | some b=>cases b<;>rfl
theorem tA_b (p q:Rho->Option Bool)(ρ:Rho):tA p q ρ=ifO (p ρ) q (fun _=>some false) ρ:=by
 unfold tA ob ifO
 cases p ρ with
 | none=>rfl
 | some b=>cases b<;>rfl
theorem tO_b (p q:Rho->Option Bool)(ρ:Rho):tO p q ρ=ifO (p ρ) (fun _=>some true) q ρ:=by
 unfold tO ob ifO
 cases p ρ with
 | none=>rfl
 | some b=>cases b<;>rfl
theorem vA_b (f g:Rho->Option Ka)(ρ:Rho):vA f g ρ=ifO (ob (f ρ) Z1) g (fun _=>some (.bool false)) ρ:=by
 unfold vA ob ifO
 cases f ρ with
 | none=>rfl
 | some x =>
  dsimp only
  cases Z1 x with
  | none=>rfl
  | some b=>cases b<;>rfl
theorem vO_b (f g:Rho->Option Ka)(ρ:Rho):vO f g ρ=ifO (ob (f ρ) Z1) (fun _=>some (.bool true)) g ρ:=by
 unfold vO ob ifO
 cases f ρ with
 | none=>rfl
 | some x =>
  dsimp only
  cases Z1 x with
  | none=>rfl
  | some b=>cases b<;>rfl
def setO (o:Option Ka)(i:Nat)(ρ:Rho):Option Out:=match o with | some d=>some (.nx (ρ.set i (some d)))|none=>none
theorem qin (i:Nat)(f:Rho->Option Ka)(ρ:Rho):sSet i f ρ=setO (f ρ) i ρ:=by
 unfold sSet ob setO
 cases f ρ<;>rfl
theorem qit (d:Ka)(i:Nat)(ρ:Rho):setO (some d) i ρ=some (.nx (ρ.set i (some d))):=rfl
def binO (a b:Option Ka)(g:Ka->Ka->Option Ka):Option Ka:=match a,b with | some x,some y=>g x y|_,_=>none
theorem ev2_b (fa fb:Rho->Option Ka)(g:Ka->Ka->Option Ka)(ρ:Rho):ev2 fa fb g ρ=binO (fa ρ) (fb ρ) g:=by
 unfold ev2 ob binO
 cases fa ρ<;>cases fb ρ<;>rfl
theorem qhb (x y:Ka)(g:Ka->Ka->Option Ka):binO (some x) (some y) g=g x y:=rfl
def jr (a:Option Ka)(b:Option (List Ka)):Option (List Ka):=match a,b with | some x,some xs=>some (x::xs)|_,_=>none
theorem aC_b (fa:Rho->Option Ka)(fs:Rho->Option (List Ka))(ρ:Rho):aC fa fs ρ=jr (fa ρ) (fs ρ):=by
 unfold aC ob jr
 cases fa ρ<;>cases fs ρ<;>rfl
theorem qfo (x:Ka)(xs:List Ka):jr (some x) (some xs)=some (x::xs):=rfl
def qdh (n:Nat)(a:Option (List Ka))(h:List Ka->Option Ka):Option Ka:=match a with | some ds=>if ds.length=n then h ds else none|none=>none
theorem evC_b (n:Nat)(fs:Rho->Option (List Ka))(h:List Ka->Option Ka)(ρ:Rho):evC n fs h ρ=qdh n (fs ρ) h:=by
 unfold evC ob qdh
 cases fs ρ<;>rfl
theorem qfd (n:Nat)(ds:List Ka)(h:List Ka->Option Ka):qdh n (some ds) h=if ds.length=n then h ds else none:=rfl
def qbw (b:Option Bool)(tt:Rho->Option Bool)(te:Rho->Option Ka)(ρ:Rho)(d:Ka)(ds:List Ka):Option (List Ka):=match b with | some true=>jr (te (ρ++[some d])) (Ql tt te ρ ds)|some false=>Ql tt te ρ ds|none=>none
theorem qbv (tt:Rho->Option Bool)(te:Rho->Option Ka)(ρ:Rho)(d:Ka)(ds:List Ka):Ql tt te ρ (d::ds)=qbw (tt (ρ++[some d])) tt te ρ d ds:=by
 rw [Ql]
 unfold ob qbw jr
 cases tt (ρ++[some d]) with
 | none=>rfl
 | some b =>
  cases b with
  | false=>rfl
  | true =>
   dsimp only [if_true]
   rw [if_pos rfl]
   cases te (ρ++[some d])<;>cases Ql tt te ρ ds<;>rfl
theorem qfk (tt:Rho->Option Bool)(te:Rho->Option Ka)(ρ:Rho):Ql tt te ρ []=some []:=rfl
theorem qby (tt:Rho->Option Bool)(te:Rho->Option Ka)(ρ:Rho)(d:Ka)(ds:List Ka):qbw (some true) tt te ρ d ds=jr (te (ρ++[some d])) (Ql tt te ρ ds):=rfl
theorem qbx (tt:Rho->Option Bool)(te:Rho->Option Ka)(ρ:Rho)(d:Ka)(ds:List Ka):qbw (some false) tt te ρ d ds=Ql tt te ρ ds:=rfl
def Ye (a:Option (List Ka)):Option Ka:=match a with | some ys=>some (.list ys)|none=>none
def qdr (a:Option (List Ka))(n:Nat)(tt:Rho->Option Bool)(te:Rho->Option Ka)(ρ:Rho):Option Ka:=match a with | some ds=>if ρ.length=n/\ds.length<=1000 then Ye (Ql tt te ρ ds) else none|none=>none
theorem qfm (n:Nat)(fi:Rho->Option (List Ka))(tt:Rho->Option Bool)(te:Rho->Option Ka)(ρ:Rho):QF n fi tt te ρ=qdr (fi ρ) n tt te ρ:=by
 unfold QF ob qdr Ye
 cases fi ρ with
 | none=>rfl
 | some ds =>
  dsimp only
  split
  ·cases Ql tt te ρ ds<;>rfl
  ·rfl
theorem qfi (ds:List Ka)(n:Nat)(tt:Rho->Option Bool)(te:Rho->Option Ka)(ρ:Rho):qdr (some ds) n tt te ρ=if ρ.length=n/\ds.length<=1000 then Ye (Ql tt te ρ ds) else none:=rfl
theorem qfT (ds:List Ka):Ye (some ds)=some (.list ds):=rfl
def forI (a:Option (List Ka))(g:Ka->Rho->Option Rho)(u:Rho->Option Out)(ρ:Rho):Option Out:=match a with | some ds=>forD g u ds ρ|none=>none
theorem qij (fi:Rho->Option (List Ka))(g:Ka->Rho->Option Rho)(u:Rho->Option Out)(ρ:Rho):sFor fi g u ρ=forI (fi ρ) g u ρ:=by
 unfold sFor ob forI
 cases fi ρ<;>rfl
theorem qhm (ds:List Ka)(g:Ka->Rho->Option Rho)(u:Rho->Option Out)(ρ:Rho):forI (some ds) g u ρ=forD g u ds ρ:=rfl
def forO (o:Option Out)(g:Ka->Rho->Option Rho)(u:Rho->Option Out)(ds:List Ka):Option Out:=match o with
 | some (.nx ρ')=>forD g u ds ρ'
 | some (.ct ρ')=>forD g u ds ρ'
 | some (.bk ρ')=>some (.nx ρ')
 | some (.rt r)=>some (.rt r)
 | none=>none
theorem JH (g:Ka->Rho->Option Rho)(u:Rho->Option Out)(d:Ka)(ds:List Ka)(ρ:Rho):forD g u (d::ds) ρ=forO (ob (g d ρ) u) g u ds:=by
 rw [forD]
 unfold ob forO
 cases g d ρ with
 | none=>rfl
 | some ρ1 =>
  dsimp only
  cases u ρ1 with
  | none=>rfl
  | some o=>cases o<;>rfl
theorem qhl (g:Ka->Rho->Option Rho)(u:Rho->Option Out)(ρ:Rho):forD g u [] ρ=some (.nx ρ):=rfl
theorem Ja (ρ:Rho)(g:Ka->Rho->Option Rho)(u:Rho->Option Out)(ds:List Ka):forO (some (.nx ρ)) g u ds=forD g u ds ρ:=rfl
theorem qfB (ρ:Rho)(g:Ka->Rho->Option Rho)(u:Rho->Option Out)(ds:List Ka):forO (some (.ct ρ)) g u ds=forD g u ds ρ:=rfl
theorem qfA (ρ:Rho)(g:Ka->Rho->Option Rho)(u:Rho->Option Out)(ds:List Ka):forO (some (.bk ρ)) g u ds=some (.nx ρ):=rfl
theorem qbL (d:Ka)(g:Ka->Rho->Option Rho)(u:Rho->Option Out)(ds:List Ka):forO (some (.rt d)) g u ds=some (.rt d):=rfl
def nxO (o:Option Rho):Option Out:=match o with | some ρ=>some (.nx ρ)|none=>none
def retO (o:Option Ka):Option Out:=match o with | some d=>some (.rt d)|none=>none
theorem qim (f:Rho->Option Ka)(ρ:Rho):sRet f ρ=retO (f ρ):=by
 unfold sRet ob retO
 cases f ρ<;>rfl
theorem qig (d:Ka):retO (some d)=some (.rt d):=rfl
theorem gsN_n (ρ:Rho):gsN [] ρ=some ρ:=rfl
theorem gsC_c (g1:Ka->Rho->Option Rho)(g2:List Ka->Rho->Option Rho)(d:Ka)(r:List Ka)(ρ:Rho):gsC g1 g2 (d::r) ρ=ob (g1 d ρ) (g2 r):=rfl
theorem qiH (n:Nat)(g:List Ka->Rho->Option Rho)(ds:List Ka)(ρ:Rho):unpD n g (.tuple ds) ρ=if ds.length=n then g ds ρ else none:=rfl
theorem qiq (ds:List Ka):seqD (.list ds)=some ds:=rfl
theorem qir (ds:List Ka):seqD (.tuple ds)=some ds:=rfl
theorem ixD_l (ds:List Ka)(i:Int):ixD (.list ds) (.int i)=atI ds i:=rfl
theorem ixD_t (ds:List Ka)(i:Int):ixD (.tuple ds) (.int i)=atI ds i:=rfl
theorem qhD (ds:List Ka):lenD [.list ds]=some (.int ds.length):=rfl
theorem qhE (ds:List Ka):lenD [.tuple ds]=some (.int ds.length):=rfl
theorem qeY (ds:List Ka):zR [.list ds]=some (.tuple ds):=rfl
theorem qeZ (ds:List Ka):zR [.tuple ds]=some (.tuple ds):=rfl
theorem qfR (ds:List Ka):Z2 [.list ds]=some (.list ds):=rfl
theorem qfS (ds:List Ka):Z2 [.tuple ds]=some (.list ds):=rfl
theorem qfc (b:Bool):Z1 (.bool b)=some b:=rfl
theorem qhS (d:Ka):outD (.rt d)=some d:=rfl
theorem qhR (ρ:Rho):outD (.nx ρ)=some .none:=rfl
theorem qg6 (i j:Int):qbm (.int i) (.int j)=some (.int (i+j)):=rfl
def takO (b:Bool)(o:Option Ka)(i:Nat)(ρ:Rho):Option Out:=match b,o with | true,some d=>some (.nx (ρ.set i (some d)))|_,_=>none
theorem Wz (i:Nat)(f:Rho->Option Ka)(ρ:Rho):zg i f ρ=takO (decide (i<ρ.length)) (f ρ) i ρ:=by
 unfold zg ob takO
 by_cases h:i<ρ.length
 ·rw [if_pos h,decide_eq_true h]
  cases f ρ<;>rfl
 ·rw [if_neg h,decide_eq_false h]
theorem qiz (d:Ka)(i:Nat)(ρ:Rho):takO true (some d) i ρ=some (.nx (ρ.set i (some d))):=rfl
def flaO (o:Option Ka):Option Ka:=match o with | some d=>if flat d=true then some d else none|none=>none
theorem qfx (f:Rho->Option Ka)(ρ:Rho):Qo f ρ=flaO (f ρ):=by
 unfold Qo ob flaO
 cases f ρ<;>rfl
theorem qhi (d:Ka):flaO (some d)=if flat d=true then some d else none:=rfl
def flgO (o:Option Ka):Option Ka:=match o with | some d=>if yO d=true then some d else none|none=>none
theorem qfy (f:Rho->Option Ka)(ρ:Rho):QM f ρ=flgO (f ρ):=by
 unfold QM ob flgO
 cases f ρ<;>rfl
theorem qhj (d:Ka):flgO (some d)=if yO d=true then some d else none:=rfl
def appO (l d:Option Ka)(i:Nat)(ρ:Rho):Option Out:=match l,d with | some x,some y=>setO (appD x y) i ρ|_,_=>none
theorem qii (i:Nat)(f:Rho->Option Ka)(ρ:Rho):sApp i f ρ=appO (vr i ρ) (f ρ) i ρ:=by
 unfold sApp ob appO setO
 cases vr i ρ with
 | none=>rfl
 | some x =>
  cases f ρ with
  | none=>rfl
  | some y=>dsimp only;cases appD x y<;>rfl
theorem qg8 (x y:Ka)(i:Nat)(ρ:Rho):appO (some x) (some y) i ρ=setO (appD x y) i ρ:=rfl
theorem qaI (ds:List Ka)(d:Ka):appD (.list ds) d=if ds.length<1000 then some (.list (ds++[d])) else none:=rfl
theorem qhw (x:Ka):isnD x .none=some (.bool (!isNone x)):=by cases x<;>rfl
theorem qhv (b c:Bool):isnD (.bool b) (.bool c)=some (.bool (!(b==c))):=rfl
def sliO (a:Option Ka)(l h:Option (Option Int)):Option Ka:=match a,l,h with | some x,some l,some h=>sliD x l h|_,_,_=>none
theorem evS_b (fa:Rho->Option Ka)(fl fh:Rho->Option (Option Int))(ρ:Rho):evS fa fl fh ρ=sliO (fa ρ) (fl ρ) (fh ρ):=by
 unfold evS ob sliO
 cases fa ρ<;>cases fl ρ<;>cases fh ρ<;>rfl
theorem qiv (x:Ka)(l h:Option Int):sliO (some x) (some l) (some h)=sliD x l h:=rfl
def prtO (a:Option Ka):Option (Option Int):=match a with | some (.int i)=>some (some i)|_=>none
theorem oS_b (f:Rho->Option Ka)(ρ:Rho):oS f ρ=prtO (f ρ):=by
 unfold oS ob prtO
 cases f ρ with
 | none=>rfl
 | some d=>cases d<;>rfl
theorem qh5 (i:Int):prtO (some (.int i))=some (some i):=rfl
theorem qiw (i j:Int):subD (.int i) (.int j)=some (.int (i-j)):=rfl
theorem qhH (i:Int):negD (.int i)=some (.int (-i)):=rfl
theorem qhF (i j:Int):ltD2 (.int i) (.int j)=some (.bool (decide (i<j))):=by
 show (if _ then ob (ltX (.int i) (.int j)) _ else none)=_
 rw [if_pos ⟨rfl,rfl,Vz 60⟩,ltX]
 rfl
theorem leD_i (i j:Int):leD (.int i) (.int j)=some (.bool (decide (i<=j))):=rfl
theorem gtD_i (i j:Int):gtD (.int i) (.int j)=some (.bool (decide (j<i))):=rfl
theorem qhu (T:String)(ds:List Ka):isiT T (.tuple ds)=(T == "tuple" || T == "object"):=rfl
theorem qhr (T:String)(ds:List Ka):isiT T (.list ds)=(T == "list" || T == "object"):=rfl
theorem qhq (T:String)(i:Int):isiT T (.int i)=(T == "int" || T == "object"):=rfl
theorem qhp (T:String)(b:Bool):isiT T (.bool b)=(T == "bool" || T == "int" || T == "object"):=rfl
theorem qht (T:String)(x:Str):isiT T (.str x)=(T == "str" || T == "object"):=rfl
theorem qhs (T:String):isiT T .none=(T == "NoneType" || T == "object"):=rfl
theorem qgB (j:Int):Qp [.int j]=if -1000<=j/\j<=1000 then some (rngL 0 j.toNat) else none:=rfl
section
variable {X:Cx}{G:Gm}{M M' Mb L:List Nat}{fr:Fr}{a b c:Kw}{es:List Kw}{f fk g:Rho->Option Ka}{pos:Pos}{u:Rho->Option Out}
theorem DenL.set {K:Kc}{H:Hp}{S:Av}:∀ {vs:List V} {ds:List Ka} {v:V} {d:Ka} (j:Nat),DenL K H S vs ds->Den K H S v d->DenL K H S (vs.set j v) (ds.set j d)
 | _,_,_,_,_,.nil,_=>.nil
 | _,_,_,_,0,.cons _ t,q=>.cons q t
 | _,_,_,_,j+1,.cons h t,q=>.cons h (t.set j q)
theorem DenL.erase {K:Kc}{H:Hp}{S:Av}:∀ {vs:List V} {ds:List Ka} (j:Nat),DenL K H S vs ds->DenL K H S (vs.eraseIdx j) (ds.eraseIdx j)
 | _,_,_,.nil=>.nil
 | _,_,0,.cons _ t=>t
 | _,_,j+1,.cons h t=>.cons h (t.erase j)
def setD:Ka->Ka->Ka->Option Ka
 | .list ds,.int k,d=>ob (ixN ds.length k) fun j=>some (.list (ds.set j d))
 | _,_,_=>none
def sPut (i:Nat)(fk f:Rho->Option Ka):Rho->Option Out:=fun ρ=>ob (f ρ) fun d=>ob (vr i ρ) fun l=>ob (fk ρ) fun k=>ob (setD l k d) fun l'=>some (.nx (ρ.set i (some l')))
theorem qc1 {l k d l':Ka}(e:setD l k d=some l'):∃ ds n j,l=.list ds/\k=.int n/\ixN ds.length n=some j/\l'=.list (ds.set j d):=by
 unfold setD at e
 split at e
 ·obtain ⟨j,e1,e⟩:=qe e
  cases e
  exact ⟨_,_,j,rfl,rfl,e1,rfl⟩
 ·cases e
theorem qar (i:Nat){x:Str}{px sp:Pos}(hv:Vis X.env.scope x)(hM:Flt M i)(hL:i∉L)(hk:PD X [] b fk)(he:PD X [] a f)(hN:X.N[i]?=some x:=by rfl)(hd:(x==("__debug__" : Str))=false:=by decide +kernel)(hcd:(x==("__classdict__" : Str))=false:=by decide +kernel)
  (ha:∀ v,assign (.Subscript (.Name x px) b sp) X.env v=(do
   let ov ← holding [v] (eval (.Name x px) X.env)
   let iv ← holding [v,ov] (eval b X.env)
   standAt sp
   holding [v,ov,iv] (setItem ov iv v)
   release [v,ov,iv] []):=by intro _;rfl)
  (hs:swapsWithSole [.Subscript (.Name x px) b sp] a pos.line X.env=pure false:=by rfl) (hw:swappedStores [.Subscript (.Name x px) b sp] a X.env=pure none:=by rfl)
  (h1:(assignEach [.Subscript (.Name x px) b sp] X.env).map (·.2)=[assign (.Subscript (.Name x px) b sp) X.env]:=by rfl) :
  PDS X G M L M Mb fr (.Assign [.Subscript (.Name x px) b sp] a pos) (sPut i fk (Qo f)) :=
 (qeu he (qeq (JR i hv hN hd hcd) hk set_list ha) hs hw h1).weak fun D σ H ⟨S,ρ,o,os,e,q⟩=>by
  obtain ⟨d,e1,e⟩:=qe e
  obtain ⟨l,e2,e⟩:=qe e
  obtain ⟨k,e3,e⟩:=qe e
  obtain ⟨l',e4,e⟩:=qe e
  cases e
  obtain ⟨ds,n,j,rfl,rfl,ej,rfl⟩:=qc1 e4
  obtain ⟨d',e5,e6⟩:=qe e1
  have hf:flat d'=true/\d'=d:=by
   split at e6
   ·rename_i hf;cases e6;exact ⟨hf,rfl⟩
   ·cases e6
  obtain ⟨hf,rfl⟩:=hf
  refine ⟨G.S0,ρ,d',os.den,e5,fun v H1 g1 d1'=>?_⟩
  have d1:Den X.K H1 S v d':=d1'.flat hf
  have os1:=os.same g1
  obtain ⟨pp,a1,b1,c1,n1,w1,_⟩:=os1.own i hM _ (Qs e2)
  cases b1 with
  | @lst xs _ h t =>
   refine ⟨_,a1,G.S0,ρ,_,os1.den,e3,fun kv H2 g2 dk=>?_⟩
   have os2:=os1.same g2
   refine ⟨pp,xs,n,j,rfl,dk.int_inv,g2 _ _ h,by rw [t.length];exact ej,?_⟩
   exact q _ _ _ (os2.write hM hL (Qs e2) a1 rfl (.lst qI (((t.same g2).set j (d1.same g2)).off os2.ds.1 (Off.upd c1))))
def jG:Ka->Ka->Option (Ka×PyData)
 | .list ds,.int k=>ob (if -1000<=k/\k<=1000 then seqIndex? k ds.length else none) fun n=>ob (ds[n]?) fun d=>some (d,.list (ds.eraseIdx n))
 | _,_=>none
def JW (i j:Nat)(fk:Rho->Option Ka):Rho->Option Out:=fun ρ=>ob (vr i ρ) fun l=>ob (fk ρ) fun k=>ob (jG l k) fun r=>some (.nx ((ρ.set i (some r.2)).set j (some r.1)))
theorem qax {l k:Ka}{r:Ka×PyData}(e:jG l k=some r):∃ ds m n d,l=.list ds/\k=.int m/\(-1000<=m/\m<=1000)/\seqIndex? m ds.length=some n/\ds[n]?=some d/\r=(d,.list (ds.eraseIdx n)):=by
 unfold jG at e
 split at e
 ·obtain ⟨n,e1,e⟩:=qe e
  obtain ⟨d,e2,e⟩:=qe e
  cases e
  split at e1
  ·rename_i hm
   exact ⟨_,_,n,d,rfl,rfl,hm,e1,e2,rfl⟩
  ·cases e1
 ·cases e
theorem qcT (i j:Nat){x y:Str}{px py apos cpos:Pos}(hv:Vis X.env.scope x)(hM:Flt M i)(hL:i∉L)(hj:j∉M)(hN2:X.N.Nodup)(hy:Loc X.env.scope y)(hk:PD X [] b fk)(hN:X.N[i]?=some x:=by rfl)(hjN:X.N[j]?=some y:=by rfl)(hd:(x==("__debug__" : Str))=false:=by decide +kernel)(hcd:(x==("__classdict__" : Str))=false:=by decide +kernel)
  (hf:X.fn y=true\/X.env.scope.names.lookup y=some .local:=by first|exact .inl rfl|exact .inr rfl|assumption)
  (hbase:attributeBase (.Name x px) "pop" X.env (eval (.Name x px) X.env)=eval (.Name x px) X.env:=by rfl)
  (hfew:((backTo cpos (starEach [b] X.env)).all (fun x=>!x.1)&&(backToKw cpos (keywordEach [] X.env)).all (fun x=>x.1.isSome)
   && decide ([b].length+([]:List Xc).length+(if ([]:List Xc).isEmpty then 0 else 1)<30))=true:=by rfl)
  (hline:(apos.endLine==cpos.line)=true:=by rfl) (hs:starEach [b] X.env=(false,eval b X.env)::starEach [] X.env:=by rfl) (hplain:(backTo cpos (starEach [] X.env)).any (·.1)=false:=by rfl)
  (hsw:swapsWith (.Call (.Attribute (.Name x px) "pop" apos) [b] [] cpos) (some (.Name y py)) pos.line X.env=pure false:=by rfl) :
  PDS X G M L M Mb fr (.Assign [.Name y py] (.Call (.Attribute (.Name x px) "pop" apos) [b] [] cpos) pos) (JW i j fk) :=
 (Yl hN2 hjN hy (qas Ut PySem.F.slot_list_pop PySem.F.type_list_pop qd5 (JR i hv hN hd hcd) (qb hk qj hs) hbase hfew hline hs hplain) hsw hf).weak fun D σ H ⟨S,ρ,o,os,e,q⟩=>by
  obtain ⟨l,e1,e⟩:=qe e
  obtain ⟨k,e2,e⟩:=qe e
  obtain ⟨r,e3,e⟩:=qe e
  cases e
  obtain ⟨ds,m,n,d,rfl,rfl,hm,en,ed,rfl⟩:=qax e3
  obtain ⟨pp,a1,b1,c1,n1,w1,_⟩:=os.own i hM _ (Qs e1)
  cases b1 with
  | @lst xs _ h t =>
   refine ⟨_,a1,.inl ⟨rfl,_,SqL.of h⟩,G.S0,ρ,[.int m],os.den,by show ob (fk ρ) _=_;rw [e2];rfl,fun vs H2 g2 dl=>?_⟩
   obtain ⟨kv,rfl,dk⟩:=dl.inv1
   have os2:=os.same g2
   obtain ⟨v,hv1,dv⟩:=(t.same g2).get ed
   refine ⟨pp,xs,m,n,v,rfl,by rw [dk.int_inv],g2 _ _ h,by omega,by omega,by rw [t.length];exact en,hv1,?_⟩
   have os3:=os2.write hM hL (Qs e1) a1 (d:=.list (ds.eraseIdx n)) (o:=.lst (xs.eraseIdx n)) rfl (.lst qI (((t.same g2).erase n).off os2.ds.1 (Off.upd c1)))
   exact q _ _ _ (os3.set (dv.off os2.ds.1 (Off.upd c1)) hj)
end
end L2
namespace L2
open PySem
def putO (d l k:Option Ka)(i:Nat)(ρ:Rho):Option Out:=match d,l,k with | some d,some l,some k=>setO (setD l k d) i ρ|_,_,_=>none
theorem qil (i:Nat)(fk f:Rho->Option Ka)(ρ:Rho):sPut i fk f ρ=putO (f ρ) (vr i ρ) (fk ρ) i ρ:=by
 unfold sPut ob putO setO
 cases f ρ with
 | none=>rfl
 | some d =>
  cases vr i ρ with
  | none=>rfl
  | some l =>
   cases fk ρ with
   | none=>rfl
   | some k=>dsimp only;cases setD l k d<;>rfl
theorem qh9 (d l k:Ka)(i:Nat)(ρ:Rho):putO (some d) (some l) (some k) i ρ=setO (setD l k d) i ρ:=rfl
theorem qis (ds:List Ka)(k:Int)(d:Ka):setD (.list ds) (.int k) d=ob (ixN ds.length k) fun j=>some (.list (ds.set j d)):=rfl
def popO (r:Option (Ka×PyData))(i j:Nat)(ρ:Rho):Option Out:=match r with | some r=>some (.nx ((ρ.set i (some r.2)).set j (some r.1)))|none=>none
def popA (l k:Option Ka):Option (Ka×PyData):=match l,k with | some l,some k=>jG l k|_,_=>none
theorem qeK (i j:Nat)(fk:Rho->Option Ka)(ρ:Rho):JW i j fk ρ=popO (popA (vr i ρ) (fk ρ)) i j ρ:=by
 unfold JW ob popO popA
 cases vr i ρ with
 | none=>rfl
 | some l =>
  cases fk ρ with
  | none=>rfl
  | some k=>dsimp only;cases jG l k<;>rfl
theorem qh4 (r:Ka×PyData)(i j:Nat)(ρ:Rho):popO (some r) i j ρ=some (.nx ((ρ.set i (some r.2)).set j (some r.1))):=rfl
theorem qh3 (l k:Ka):popA (some l) (some k)=jG l k:=rfl
end L2
namespace L2
open PySem PySem.Spec PyProof.Rows
section
variable {X:Cx}
def absD:List Ka->Option Ka
 | [.int i]=>some (.int (if i<0 then -i else i))
 | _=>none
theorem b_abs:CallD X (.builtin "abs") absD:=fun pins s σ H xs us Q I r ⟨S,ds,d,m,h1,e,q⟩=>qdi pins s σ H xs us Q I r (by
 unfold absD at e
 split at e
 ·cases e
  obtain ⟨v,rfl,hv⟩:=h1.inv1
  exact ⟨_,by rw [hv.int_inv],q _ H (Same.refl H) (.int _)⟩
 ·cases e)
theorem qck:bootBuiltins "abs" = some (.builtin "abs"):=by decide +kernel
theorem qcl:bootBuiltins "min" = some (.builtin "min"):=by decide +kernel
theorem qaF (i:Int):absD [.int i]=some (.int (if i<0 then -i else i)):=rfl
end
def evCh (fa fb fc:Rho->Option Ka)(g g':Ka->Ka->Option Ka):Rho->Option Ka:=fun ρ=>ob (fa ρ) fun x=>ob (fb ρ) fun y=>ob (g x y) fun z=>ob (Z1 z) fun k=>if k=true then ob (fc ρ) fun w=>g' y w else some (.bool false)
section
variable {X:Cx}{M:List Nat}{a b c:Kw}{fa fb fc:Rho->Option Ka}{pos:Pos}{op op':CmpOp}{g g':Ka->Ka->Option Ka}
theorem tChD {K:Kc}:∀ σ H Q,tD K M (evCh fa fb fc g g') σ H Q->qeT (rD2 K g) (rD2 K g') (tD K M fa) (tD K M fb) (tD K M fc) σ H Q:=by
 intro σ H Q ⟨S,ρ,d,hs,e,q⟩
 obtain ⟨x,e1,e⟩:=qe e
 obtain ⟨y,e2,e⟩:=qe e
 obtain ⟨z,e3,e⟩:=qe e
 obtain ⟨k,e4,e⟩:=qe e
 cases Qt e4
 refine ⟨S,ρ,x,hs,e1,fun v H1 g1 d1=>⟨S,ρ,y,hs.same g1,e2,fun w H2 g2 d2=>⟨S,x,y,_,hs.1.same (g1.trans g2),d1.same g2,d2,e3,fun zv H3 g3 dz=>⟨k,dz.bool_inv,?_⟩⟩⟩⟩
 have g123:=g1.trans (g2.trans g3)
 cases k with
 | true =>
  have e:(ob (fc ρ) fun w=>g' y w)=some d:=e
  obtain ⟨w',e5,e⟩:=qe e
  exact iteT ⟨S,ρ,w',hs.same g123,e5,fun wv H4 g4 d4=>⟨S,y,w',d,hs.1.same (g123.trans g4),d2.same (g3.trans g4),d4,e,fun v5 H5 g5 d5=>q v5 H5 (g123.trans (g4.trans g5)) d5⟩⟩
 | false =>
  cases e
  exact iteF (q _ H3 g123 (.bool false))
theorem JQ (ho:OpD X (compareOp op) g)(ho':OpD X (compareOp op') g')(ha:PD X M a fa)(hb:PD X M b fb)(hc:PD X M c fc)(hm:lastMarks [op,op'] [b,c]=false:=by with_unfolding_all rfl):PDT X M (.Compare a [op,op'] [b,c] pos) (tV (evCh fa fb fc g g')) :=
 (qey ho ho' ha hb hc hm).weak fun σ H Q ⟨S,ρ,d,hs,e,q⟩=>by
  obtain ⟨x,e1,e⟩:=qe e
  cases Qt e
  exact tChD σ H _ ⟨S,ρ,_,hs,e1,fun v H1 g1 d1=>⟨d,d1.bool_inv,q H1 g1⟩⟩
end
def chO (y:Option Ka)(k:Option Ka)(fc:Rho->Option Ka)(g':Ka->Ka->Option Ka)(ρ:Rho):Option Ka:=match y,k with
 | some y,some (.bool true)=>ob (fc ρ) (g' y)
 | some _,some (.bool false)=>some (.bool false)
 | _,_=>none
theorem qhf (fa fb fc:Rho->Option Ka)(g g':Ka->Ka->Option Ka)(ρ:Rho):evCh fa fb fc g g' ρ=chO (fb ρ) (binO (fa ρ) (fb ρ) g) fc g' ρ:=by
 unfold evCh ob chO binO Z1
 cases fa ρ with
 | none=>cases fb ρ<;>rfl
 | some x =>
  cases fb ρ with
  | none=>rfl
  | some y =>
   dsimp only
   cases g x y with
   | none=>rfl
   | some z =>
    cases z with
    | bool k=>cases k<;>rfl
    | _=>rfl
theorem chO_t (y:Ka)(fc:Rho->Option Ka)(g':Ka->Ka->Option Ka)(ρ:Rho):chO (some y) (some (.bool true)) fc g' ρ=ob (fc ρ) (g' y):=rfl
theorem chO_f (y:Ka)(fc:Rho->Option Ka)(g':Ka->Ka->Option Ka)(ρ:Rho):chO (some y) (some (.bool false)) fc g' ρ=some (.bool false):=rfl
section
variable {X:Cx}{G:Gm}{M M' Mb L:List Nat}{fr:Fr}{a b c:Kw}{es:List Kw}{f fk g:Rho->Option Ka}{pos:Pos}{u:Rho->Option Out}
def qR (x y:Ka):Option Ka:=match x,y with
 | .int i,.int j=>some (.int (i+j))
 | .list ds,.list es=>if ds.length+es.length<=1000 then some (.list (ds++es)) else none
 | x,y=>qbm x y
def rCatL (K:Kc):R2:=fun x y H Q=>∃ l b xs zs,x=.ref l/\y=.ref b/\SqL K H l xs/\SqL K H b zs/\xs.length+zs.length<=sizeLine/\∀ p,H p=none->Q (.ref p) (upd H p (.lst (xs++zs)))
theorem qbZ:OpR X (binaryOp .Add) (rCatL X.K):=by
 intro pins s σ H x y v u Q I rx ry h
 obtain ⟨l,b,xs,zs,rfl,rfl,hH,hB,hz,q⟩:=h
 cases rx
 cases ry
 obtain ⟨its,r,⟨⟨cls,dd,data,sl⟩,n,g1,g2,_,g3⟩,_⟩:=I.list hH
 obtain ⟨its2,r2,⟨⟨cls2,dd2,data2,sl2⟩,n2,k1,k2,_,k3⟩,_⟩:=I.list hB
 simp only at g2 g3 k2 k3
 subst g2 g3 k2 k3
 have ea:its.toArray++its2.toArray=(its++its2).toArray:=by simp
 have l1:=r.length
 have l2:=r2.length
 refine NL ⟨_,g1,rfl⟩ ⟨_,k1,rfl⟩ noFill_list_add seq_list_add PySem.F.slot_list_add PySem.F.entry_list_add (PySem.F.args_list_add_2 _ _) (list_addW l b its.toArray its2.toArray n n2 dd dd2 sl sl2 (by rw [Kt,Kt];omega)) ⟨g1,k1,?_⟩
 rw [ea]
 exact ⟨.ref _,_,I.lnew (t':=s.toks) (r.append r2) (by rw [Kp];omega),rfl,q _ I.fresh⟩
theorem qhd:OpD X (binaryOp .Add) (fun x y=>match x,y with | .list ds,.list es=>if ds.length+es.length<=1000 then some (.list (ds++es)) else none|_,_=>none):=by
 refine jB qbZ fun x y dx dy d H S Q m h1 h2 e q=>?_
 split at e
 ·split at e
  ·rename_i ds es hc
   cases e
   cases h1 with
   | list a1 t1 =>
    cases h2 with
    | list a2 t2 =>
     exact ⟨_,_,_,_,rfl,rfl,a1.sq,a2.sq,by rw [t1.length,t2.length];exact VA (zj hc),fun p hp=>q _ _ (Same.lay hp) (.list (SqLS.new qI (m.free hp)) ((t1.append t2).same (Same.lay hp)))⟩
  ·cases e
 ·cases e
theorem zJ:OpD X (binaryOp .Add) qR:=by
 intro pins s σ H x y v u Q I rx ry h
 obtain ⟨S,dx,dy,d,m,h1,h2,e,q⟩:=h
 unfold qR at e
 split at e
 ·exact qdu pins s σ H x y v u Q I rx ry ⟨S,_,_,d,m,h1,h2,e,q⟩
 ·exact qhd pins s σ H x y v u Q I rx ry ⟨S,_,_,d,m,h1,h2,e,q⟩
 ·exact qdu pins s σ H x y v u Q I rx ry ⟨S,_,_,d,m,h1,h2,e,q⟩
theorem qe5 (i j:Int):qR (.int i) (.int j)=some (.int (i+j)):=rfl
theorem qe6 (ds es:List Ka)(h:ds.length+es.length<=1000):qR (.list ds) (.list es)=some (.list (ds++es)):=if_pos h
end
def ItB (h:KA)(b:Bool)(it a:Kd)(i:Nat):Prop:=if b=true then h.IsTupleIter it a i else h.IsListIter it a i
section
variable {X:Cx}{pins:List (Kd×Obj)}{σ:St}{H:Hp}{s:Kf}
theorem ItB.obj {h:KA}{b:Bool}{it a:Kd}{i:Nat}(q:ItB h b it a i):∃ o,h.get? it=some o/\∀ v,o.data≠.cell v:=by
 cases b with
 | true=>obtain ⟨o,ho,c,d⟩:=(show h.IsTupleIter it a i from q);exact ⟨o,ho,fun v z=>by rw [d] at z;cases z⟩
 | false=>obtain ⟨o,ho,c,d⟩:=(show h.IsListIter it a i from q);exact ⟨o,ho,fun v z=>by rw [d] at z;cases z⟩
end
section
variable {X:Cx}{M:List Nat}{a:Kw}{es:List Kw}{f:Rho->Option Ka}{pos:Pos}
def qbt (o:Option Rho)(k:Nat)(g:Ka->Rho->Option Rho)(tt:Rho->Option Bool)(te:Rho->Option Ka)(ρ:Rho)(ds:List Ka):Option (List Ka):=match o with
 | some ρ1=>(match tt ρ1 with | some true=>jr (te ρ1) (Qm k g tt te ρ ds)|some false=>Qm k g tt te ρ ds|none=>none)
 | none=>none
theorem qbA (k:Nat)(g:Ka->Rho->Option Rho)(tt:Rho->Option Bool)(te:Rho->Option Ka)(ρ:Rho)(d:Ka)(ds:List Ka):Qm k g tt te ρ (d::ds)=qbt (g d (ρ++Vc k none)) k g tt te ρ ds:=by
 rw [Qm]
 unfold ob qbt jr
 cases g d (ρ++Vc k none) with
 | none=>rfl
 | some ρ1 =>
  dsimp only
  cases tt ρ1 with
  | none=>rfl
  | some b =>
   cases b with
   | false=>rfl
   | true=>cases te ρ1<;>cases Qm k g tt te ρ ds<;>rfl
theorem qfn (k:Nat)(g:Ka->Rho->Option Rho)(tt:Rho->Option Bool)(te:Rho->Option Ka)(ρ:Rho):Qm k g tt te ρ []=some []:=rfl
def W0 (b:Option Bool)(y:Option Ka)(r:Option (List Ka)):Option (List Ka):=match b with | some true=>jr y r|some false=>r|none=>none
theorem qbu (ρ1:Rho)(k:Nat)(g:Ka->Rho->Option Rho)(tt:Rho->Option Bool)(te:Rho->Option Ka)(ρ:Rho)(ds:List Ka):qbt (some ρ1) k g tt te ρ ds=W0 (tt ρ1) (te ρ1) (Qm k g tt te ρ ds):=by
 unfold qbt W0
 rfl
theorem qbs (y:Option Ka)(r:Option (List Ka)):W0 (some true) y r=jr y r:=rfl
theorem qfj (y:Option Ka)(r:Option (List Ka)):W0 (some false) y r=r:=rfl
def qdq (a:Option (List Ka))(n k:Nat)(g:Ka->Rho->Option Rho)(tt:Rho->Option Bool)(te:Rho->Option Ka)(ρ:Rho):Option Ka:=match a with | some ds=>if ρ.length=n/\ds.length<=1000 then Ye (Qm k g tt te ρ ds) else none|none=>none
theorem qfl (n k:Nat)(fi:Rho->Option (List Ka))(g:Ka->Rho->Option Rho)(tt:Rho->Option Bool)(te:Rho->Option Ka)(ρ:Rho):Zn n k fi g tt te ρ=qdq (fi ρ) n k g tt te ρ:=by
 unfold Zn ob qdq Ye
 cases fi ρ with
 | none=>rfl
 | some ds =>
  dsimp only
  split
  ·cases Qm k g tt te ρ ds<;>rfl
  ·rfl
theorem qfh (ds:List Ka)(n k:Nat)(g:Ka->Rho->Option Rho)(tt:Rho->Option Bool)(te:Rho->Option Ka)(ρ:Rho):qdq (some ds) n k g tt te ρ=if ρ.length=n/\ds.length<=1000 then Ye (Qm k g tt te ρ ds) else none:=rfl
end
def k1Of:Ka->Option (Int ⊕ List Int)
 | .int i=>some (.inl i)
 | .tuple ds=>ob (intsOf ds) fun js=>some (.inr js)
 | _=>none
def qdM:List Ka->Option K2
 | []=>some []
 | d::ds=>ob (k1Of d) fun k=>ob (qdM ds) fun ks=>some (k::ks)
def k2Of:Ka->Option K2
 | .tuple ds=>qdM ds
 | _=>none
theorem qcD {d:Ka}{k:Int ⊕ List Int}(e:k1Of d=some k):d=k2D k:=by
 unfold k1Of at e
 split at e
 ·cases e;rfl
 ·obtain ⟨js,e1,e⟩:=qe e
  cases e
  rw [J8 e1];rfl
 ·cases e
theorem yU:∀ {ds:List Ka} {ks:K2},qdM ds=some ks->ds=ks.map k2D
 | [],_,e=>by cases e;rfl
 | d::ds,_,e=>by
  obtain ⟨k,e1,e⟩:=qe e
  obtain ⟨ks,e2,e⟩:=qe e
  cases e
  rw [qcD e1,yU e2];rfl
theorem qcE {d:Ka}{ks:K2}(e:k2Of d=some ks):d=k2T ks:=by
 unfold k2Of at e
 split at e
 ·rw [yU e];rfl
 ·cases e
def kxOf:Ka->Option KX
 | .int i=>some (.inl i)
 | d=>ob (k2Of d) fun ks=>some (.inr ks)
theorem Y7 {d:Ka}{k:KX}(e:kxOf d=some k):d=kxD k:=by
 unfold kxOf at e
 split at e
 ·cases e;rfl
 ·obtain ⟨ks,e1,e⟩:=qe e
  cases e
  exact qcE e1
def kOk (kvs:List (Ka×PyData))(k:KX):Bool:=kvs.all fun p=>qdK p.1==kxI k
theorem qae:∀ js:List Int,Kn (js.map .int)=true
 | []=>rfl
 | j::js=>by rw [Kr,Kn,KJ,qae js];rfl
theorem qaT:∀ ks:K2,Kn (ks.map k2D)=true
 | []=>rfl
 | .inl i::ks=>by rw [Kr,Kn,qaT ks];rfl
 | .inr js::ks=>by
  rw [Kr,Kn,qaT ks]
  show (KJ (.tuple (js.map .int))&&true)=true
  rw [KJ,qae];rfl
theorem qbQ (ks:K2):(k2T ks).canLay0=true:=by unfold k2T;rw [KJ];exact qaT ks
theorem qfJ (c:Str)(z:Int)(d:Ka)(ks:KX):kOk [(.str c,d),(.int z,.none)] ks=false:=by
 cases ks with
 | inl i=>rfl
 | inr k=>rfl
theorem qaN {α β:Type}{a:Option β}{g:β->KX}{F:β->Option α}{c:Str}{z:Int}{d:Ka}{r:α}(e:(ob a fun ks=>if kOk [(.str c,d),(.int z,.none)] (g ks)=true then F ks else none)=some r):False:=by
 obtain ⟨ks,_,e⟩:=qe e
 rw [qfJ] at e
 cases e
def Qj (kvs:List (Ka×PyData))(ks:KX):Option Ka:=(kvs.find? fun p=>Kz p.1 (kxD ks)).map (·.2)
def putD (kvs:List (Ka×PyData))(ks:KX)(v:Ka):List (Ka×PyData) :=
 if (Qj kvs ks).isSome=true then kvs.map (fun p=>if Kz p.1 (kxD ks)=true then (p.1,v) else p) else kvs++[(kxD ks,v)]
def putV (kvs:List (KX×Addr×V))(ks:KX)(b:Kd)(v:V):List (KX×Addr×V) :=
 if (kvs.any fun p=>decide (p.1=ks))=true then kvs.map (fun p=>if p.1=ks then (p.1,p.2.1,v) else p) else kvs++[(ks,b,v)]
section
variable {K:Kc}{H:Hp}{S:Av}
theorem ZD (p:KX×Addr×V)(kvs:List (KX×Addr×V))(d:Ka)(ds:List Ka):dkv (p::kvs) (d::ds)=(kxD p.1,d)::dkv kvs ds:=rfl
theorem JD {k:KX}{d:Ka}{kvs:List (Ka×PyData)}{ks:KX}(e:k=ks):Qj ((kxD k,d)::kvs) ks=some d:=by
 unfold Qj
 rw [VP,wY,decide_eq_true e];rfl
theorem JC {k:KX}{d:Ka}{kvs:List (Ka×PyData)}{ks:KX}(e:k≠ks):Qj ((kxD k,d)::kvs) ks=Qj kvs ks:=by
 unfold Qj
 rw [VP,wY,decide_eq_false e]
theorem jJ {α β:Type}{R:α->β->Prop}{a:α}{b:β}:∀ {as:List α} {bs:List β},Vo R as bs->R a b->Vo R (as++[a]) (bs++[b])
 | _,_,.nil,h=>.cons h .nil
 | _,_,.cons h t,q=>.cons h (jJ t q)
theorem qb7 {ks:KX}{v:V}{d:Ka}(dv:Den K H S v d):∀ {kvs:List (KX×Addr×V)} {ds:List Ka},DenL K H S (kvs.map (·.2.2)) ds->∃ ds',DenL K H S ((kvs.map fun p=>if p.1=ks then (p.1,p.2.1,v) else p).map (·.2.2)) ds'/\dkv (kvs.map fun p=>if p.1=ks then (p.1,p.2.1,v) else p) ds'=(dkv kvs ds).map (fun p=>if Kz p.1 (kxD ks)=true then (p.1,d) else p)
 | [],_,t=>by cases t;exact ⟨[],.nil,rfl⟩
 | p::kvs,_,t=>by
  cases t with
  | @cons _ d0 _ ds dv0 t' =>
   obtain ⟨ds',h1,h2⟩:=qb7 dv t'
   rw [Kr,Kr,ZD,Kr,wY]
   by_cases e:p.1=ks
   ·refine ⟨d::ds',?_,?_⟩
    ·rw [if_pos e];exact .cons dv h1
    ·rw [if_pos e,ZD,h2,if_pos (decide_eq_true e)]
   ·refine ⟨d0::ds',?_,?_⟩
    ·rw [if_neg e];exact .cons dv0 h1
    ·rw [if_neg e,ZD,h2,if_neg (fun z=>e (of_decide_eq_true z))]
theorem qdA {kvs:List (KX×Addr×V)}{ds:List Ka}(hl:kvs.length=ds.length)(p:KX×Addr×V)(d:Ka):dkv (kvs++[p]) (ds++[d])=dkv kvs ds++[(kxD p.1,d)]:=by
 unfold dkv
 rw [VD,List.zip_append (by rw [Kh,hl])]
 rfl
theorem qeD {ks:KX}{b:Kd}{v:V}{d:Ka}{kvs:List (KX×Addr×V)}{ds:List Ka}(t:DenL K H S (kvs.map (·.2.2)) ds)(dv:Den K H S v d)(he:(kvs.any fun p=>decide (p.1=ks))=(Qj (dkv kvs ds) ks).isSome) :
  ∃ ds',DenL K H S ((putV kvs ks b v).map (·.2.2)) ds'/\dkv (putV kvs ks b v) ds'=putD (dkv kvs ds) ks d:=by
 have hl:kvs.length=ds.length:=by
  have:=t.length
  rwa [Kh] at this
 unfold putV putD
 rw [he]
 split
 ·exact qb7 dv t
 ·refine ⟨ds++[d],?_,qdA hl _ _⟩
  rw [VD]
  exact t.append (.cons dv .nil)
theorem qeA {ks:KX}{b:Kd}{v:V}{kvs:List (KX×Addr×V)}(k:DenL K H S (kvs.map fun p=>kxV p.1 p.2.1) (kvs.map fun p=>kxD p.1))(dk:Den K H S (kxV ks b) (kxD ks)):DenL K H S ((putV kvs ks b v).map fun p=>kxV p.1 p.2.1) ((putV kvs ks b v).map fun p=>kxD p.1):=by
 unfold putV
 split
 ·have e1:(kvs.map fun p=>if p.1=ks then (p.1,p.2.1,v) else p).map (fun p=>kxV p.1 p.2.1)=kvs.map fun p=>kxV p.1 p.2.1:=by
   rw [VG]
   refine Ub fun p _=>?_
   show kxV (if p.1=ks then (p.1,p.2.1,v) else p).1 (if p.1=ks then (p.1,p.2.1,v) else p).2.1=_
   split<;>rfl
  have e2:(kvs.map fun p=>if p.1=ks then (p.1,p.2.1,v) else p).map (fun p=>kxD p.1)=kvs.map fun p=>kxD p.1:=by
   rw [VG]
   refine Ub fun p _=>?_
   show kxD (if p.1=ks then (p.1,p.2.1,v) else p).1=_
   split<;>rfl
  rw [e1,e2];exact k
 ·rw [VD,VD]
  exact k.append (.cons dk .nil)
end
section
variable {K:Kc}{H:Hp}{S:Av}
theorem qbR {kvs:List (KX×Addr×V)}{ds:List Ka}{k:KX}(hl:kvs.length=ds.length)(h:kOk (dkv kvs ds) k=true):∀ p∈kvs,kxI p.1=kxI k:=by
 intro p hp
 have hm:kxD p.1∈(dkv kvs ds).map (·.1):=by rw [qdz hl];exact VB.mpr ⟨p,hp,rfl⟩
 obtain ⟨q,hq,e⟩:=VB.mp hm
 have:=KR.mp h q hq
 rw [e,qaR] at this
 simpa using this
theorem JF (ks:K2):∀ {kvs:List (KX×Addr×V)} {xs:List (K2×Addr×Value)} {ds:List Ka},Vo PkT kvs xs->DenL K H S (kvs.map (·.2.2)) ds->
  (Qj (dkv kvs ds) (.inr ks)=none/\atKey xs ks=none/\(kvs.any fun p=>decide (p.1=.inr ks))=false)\/∃ d b y u,Qj (dkv kvs ds) (.inr ks)=some d/\atKey xs ks=some (b,u)/\RelV y u/\Den K H S y d/\(kvs.any fun p=>decide (p.1=.inr ks))=true
 | [],_,_,r,t=>by
  cases r
  cases t
  exact .inl ⟨rfl,rfl,rfl⟩
 | p::kvs,_,_,r,t=>by
  cases r with
  | @cons _ q _ qs h r' =>
   cases t with
   | @cons _ d _ ds dv t' =>
    rw [ZD]
    by_cases e:p.1=.inr ks
    ·refine .inr ⟨d,q.2.1,p.2.2,q.2.2,JD e,?_,h.2.2,dv,by rw [Ue,decide_eq_true e,NT]⟩
     unfold atKey
     have eq:q.1=ks:=Sum.inr.inj (h.1.symm.trans e)
     rw [VP,decide_eq_true eq];rfl
    ·have e':¬ q.1=ks:=fun z=>e (by rw [h.1,z])
     have ea:atKey (q::qs) ks=atKey qs ks:=by
      unfold atKey
      rw [VP,decide_eq_false e']
     rw [JC e,ea,Ue,decide_eq_false e,XI]
     exact JF ks r' t'
theorem YW (i:Int):∀ {kvs:List (KX×Addr×V)} {vs:List (Int×Value)} {ds:List Ka},Vo PkI kvs vs->DenL K H S (kvs.map (·.2.2)) ds->
  (Qj (dkv kvs ds) (.inl i)=none/\valueAt vs i=none/\(kvs.any fun p=>decide (p.1=.inl i))=false)\/∃ d y u,Qj (dkv kvs ds) (.inl i)=some d/\valueAt vs i=some u/\RelV y u/\Den K H S y d/\(kvs.any fun p=>decide (p.1=.inl i))=true
 | [],_,_,r,t=>by
  cases r
  cases t
  exact .inl ⟨rfl,rfl,rfl⟩
 | p::kvs,_,_,r,t=>by
  cases r with
  | @cons _ q _ qs h r' =>
   cases t with
   | @cons _ d _ ds dv t' =>
    rw [ZD]
    by_cases e:p.1=.inl i
    ·refine .inr ⟨d,p.2.2,q.2,JD e,?_,h.2,dv,by rw [Ue,decide_eq_true e,NT]⟩
     unfold valueAt
     have eq:q.1=i:=Sum.inl.inj (h.1.symm.trans e)
     rw [VP,decide_eq_true eq];rfl
    ·have e':¬ q.1=i:=fun z=>e (by rw [h.1,z])
     have ea:valueAt (q::qs) i=valueAt qs i:=by
      unfold valueAt
      rw [VP,decide_eq_false e']
     rw [JC e,ea,Ue,decide_eq_false e,XI]
     exact YW i r' t'
theorem Yn {ks:K2}{v:V}{u:Kb}(rv:RelV v u):∀ {kvs:List (KX×Addr×V)} {xs:List (K2×Addr×Value)},Vo PkT kvs xs->Vo PkT (kvs.map fun p=>if p.1=.inr ks then (p.1,p.2.1,v) else p) (xs.map (putAt ks u))
 | [],_,r=>by cases r;exact .nil
 | p::kvs,_,r=>by
  cases r with
  | @cons _ q _ qs h r' =>
   rw [Kr,Kr]
   refine .cons ?_ (Yn rv r')
   unfold putAt
   by_cases e:p.1=.inr ks
   ·have eq:q.1=ks:=Sum.inr.inj (h.1.symm.trans e)
    rw [if_pos e,if_pos eq];exact ⟨h.1,h.2.1,rv⟩
   ·rw [if_neg e,if_neg (fun z=>e (by rw [h.1,z]))];exact h
theorem qeC {ks:K2}{b:Kd}{v:V}{u:Kb}{kvs:List (KX×Addr×V)}{xs:List (K2×Addr×Value)}(r:Vo PkT kvs xs)(rv:RelV v u)(he:(kvs.any fun p=>decide (p.1=.inr ks))=(atKey xs ks).isSome):Vo PkT (putV kvs (.inr ks) b v) (storedH xs ks b u):=by
 unfold putV storedH
 rw [he]
 split
 ·exact Yn rv r
 ·exact jJ r ⟨rfl,rfl,rv⟩
theorem Ym {i:Int}{v:V}{u:Kb}(rv:RelV v u):∀ {kvs:List (KX×Addr×V)} {xs:List (Int×Value)},Vo PkI kvs xs->Vo PkI (kvs.map fun p=>if p.1=.inl i then (p.1,p.2.1,v) else p) (xs.map fun q=>if q.1=i then (q.1,u) else q)
 | [],_,r=>by cases r;exact .nil
 | p::kvs,_,r=>by
  cases r with
  | @cons _ q _ qs h r' =>
   rw [Kr,Kr]
   refine .cons ?_ (Ym rv r')
   by_cases e:p.1=.inl i
   ·have eq:q.1=i:=Sum.inl.inj (h.1.symm.trans e)
    rw [if_pos e,if_pos eq];exact ⟨h.1,rv⟩
   ·rw [if_neg e,if_neg (fun z=>e (by rw [h.1,z]))];exact h
theorem qbn (i:Int):∀ {kvs:List (KX×Addr×V)} {xs:List (Int×Value)},Vo PkI kvs xs->(kvs.any fun p=>decide (p.1=.inl i))=xs.any fun q=>decide (q.1=i)
 | _,_,.nil=>rfl
 | _,_,@Paired.cons _ _ _ p q _ _ h t=>by
  rw [Ue,Ue,qbn i t]
  by_cases e:p.1=.inl i
  ·rw [decide_eq_true e,decide_eq_true (Sum.inl.inj (h.1.symm.trans e):q.1=i)]
  ·rw [decide_eq_false e,decide_eq_false (fun z=>e (by rw [h.1,z]):¬ q.1=i)]
theorem qeB {i:Int}{b:Kd}{v:V}{u:Kb}{kvs:List (KX×Addr×V)}{xs:List (Int×Value)}(r:Vo PkI kvs xs)(rv:RelV v u):Vo PkI (putV kvs (.inl i) b v) (stored xs i u):=by
 unfold putV stored
 rw [qbn i r]
 split
 ·exact Ym rv r
 ·exact jJ r ⟨rfl,rv⟩
end
section
variable {X:Cx}{pins:List (Kd×Obj)}{σ:St}{H:Hp}{s:Kf}{S:Av}
theorem qbS (I:Inv X pins σ H s):∀ {kvs:List (KX×Addr×V)} {xs:List (K2×Addr×Value)},Vo PkT kvs xs->DenL X.K H S (kvs.map fun p=>kxV p.1 p.2.1) (kvs.map fun p=>kxD p.1)->∀ x∈xs,Is2 s.heap x.1 x.2.1
 | _,_,.nil,_,x,hx=>by cases hx
 | _,_,@Paired.cons _ _ _ p q kvs qs h t,k,x,hx=>by
  cases k with
  | cons dk k' =>
   have dk:Den X.K H S (kxV p.1 p.2.1) (kxD p.1):=dk
   rcases Kq.mp hx with rfl|hx
   ·rw [h.1] at dk
    obtain ⟨as,r⟩:=Den.reads I dk (qbQ _) (u:=KW x.2.1) (by rw [h.2.1];rfl)
    exact ⟨as,r⟩
   ·exact qbS I t k' x hx
theorem qbD (I:Inv X pins σ H s){a:Kd}{kvs:List (KX×Addr×V)}{ep:Nat}(h:H a=some (DctO a kvs ep))(k:DenL X.K H S (kvs.map fun p=>kxV p.1 p.2.1) (kvs.map fun p=>kxD p.1))(hk:∀ p∈kvs,kxI p.1=false) :
  kvs.length<=sizeLine/\(a==sysModules)=false/\∃ xs:List (K2×Addr×Value),Vo PkT kvs xs/\s.heap.DictOfH (qdP X.prog X.w) a xs:=by
 have d:=QD.of (I.hok a _ h)
 obtain ⟨xs,pk,o,es,h1,h2,h3,h4,h5⟩:=d.tup hk
 exact ⟨d.1,d.2.1,xs,pk,o,es,ep,h1,h2,h3,h4,qbS I pk k,h5⟩
theorem qan {P:Kx}{w:KG}:∀ {es:List Xd} {vs:List (Int×Value)},Vo EnI es vs->Pairs (intKind P w) es vs
 | _,_,.nil=>.nil
 | _,_,.cons h t=>by
  obtain ⟨_,⟨tk,h2⟩,h3⟩:=h
  exact .cons (by rw [h2];exact NB P w _ tk) h3 (qan t)
theorem qcG {P:Kx}{w:KG}{es:Array Xd}{vs:List (Int×Value)}(h:Vo EnI es.toList vs):PySem.KeysOf (intKind P w) es:=by
 intro e he
 have he:e∈es.toList:=Xg.mpr he
 generalize es.toList=l at h he
 induction h with
 | nil=>cases he
 | @cons a b as bs h t ih =>
  rcases Kq.mp he with rfl|he
  ·obtain ⟨h1,⟨tk,h2⟩,_⟩:=h
   exact ⟨b.1,by rw [h2];exact NB P w _ tk,h1⟩
  ·exact ih he
theorem jC {P:Kx}{w:KG}:∀ {es:List Xd} {vs:List (Int×Value)},Pairs (intKind P w) es vs->(∀ e∈es,∃ k,(intKind P w).is k e.key=true/\e.hash=(intKind P w).hash k)->Vo EnI es vs
 | _,_,.nil,_=>.nil
 | _,_,.cons h1 h2 t,hk=>by
  refine .cons ?_ (jC t fun e he=>hk e (.tail _ he))
  obtain ⟨k,g1,g2⟩:=hk _ (.head _)
  obtain ⟨tk,e⟩:=Value.isInt_shape h1
  have hkk:=(intKind P w).inj _ _ _ g1 h1
  exact ⟨by rw [g2,hkk];rfl,⟨tk,e⟩,h2⟩
theorem wV (I:Inv X pins σ H s){a:Kd}{kvs:List (KX×Addr×V)}{ep:Nat}(h:H a=some (DctO a kvs ep))(hk:∀ p∈kvs,kxI p.1=true) :
  kvs.length<=sizeLine/\(a==sysModules)=false/\∃ vs:List (Int×Value),Vo PkI kvs vs/\s.heap.DictOf (intKind X.prog X.w) a vs:=by
 have d:=QD.of (I.hok a _ h)
 obtain ⟨vs,pk,o,es,h1,h2,h3,h4,h5⟩:=d.int hk
 exact ⟨d.1,d.2.1,vs,pk,o,es,ep,h1,h2,h3,qcG h4,qan h4,h5⟩
theorem key_is (I:Inv X pins σ H s){y:V}{u:Kb}{ks:K2}(d:Den X.K H S y (k2T ks))(r:RelV y u):∃ b,y=.ref b/\u=.ref b/\Is2 s.heap ks b:=by
 obtain ⟨a,xs,e,_,_⟩:=d.tuple_inv
 subst e
 cases (show u=KW a from r)
 obtain ⟨as,q⟩:=d.reads I (qbQ ks) (u:=.ref a) rfl
 exact ⟨a,rfl,rfl,as,q⟩
theorem Wl {y:V}{u:Kb}{i:Int}(d:Den X.K H S y (.int i))(r:RelV y u):y=.int i/\∃ t,u=.int i t:=by
 cases d
 exact ⟨rfl,r⟩
end
def dgetD (d k:Ka):Option Ka:=match d with
 | .dict kvs=>ob (kxOf k) fun ks=>if kOk kvs ks=true then Qj kvs ks else none
 | _=>none
def ye (k d:Ka):Option Ka:=match d with
 | .dict kvs=>ob (kxOf k) fun ks=>if kOk kvs ks=true then some (.bool (!(Qj kvs ks).isSome)) else none
 | d=>ninD k d
def yL (d k v:Ka):Option Ka:=match d with
 | .dict kvs=>ob (kxOf k) fun ks=>if kOk kvs ks=true/\kvs.length<1000 then some (.dict (putD kvs ks v)) else none
 | _=>none
section
variable {X:Cx}{pins:List (Kd×Obj)}{σ:St}{H:Hp}{s:Kf}{S:Av}{A:KI}{E:Kb->Kf->Prop}{a:Kd}{kvs:List (KX×Addr×V)}{ep:Nat}{ds:List Ka}{ks:KX}{y x v:V}{u r:Kb}{d dx:Ka}
theorem qg2 {A:KI}(hu:A.units+64<cLine):A.in1.units+3<cLine:=by show A.units+1+3<cLine;omega
theorem qdy {Q:Kb->Kf->Prop}(hu:A.units+64<cLine)(I:Inv X pins σ H s)(h:H a=some (DctO a kvs ep))(k:DenL X.K H S (kvs.map fun p=>kxV p.1 p.2.1) (kvs.map fun p=>kxD p.1))(t:DenL X.K H S (kvs.map (·.2.2)) ds)(hk:∀ p∈kvs,kxI p.1=kxI ks)
  (dy:Den X.K H S y (kxD ks)) (ry:RelV y u) (q:∀ s',Inv X pins σ H s'->Q (.bool (!(Qj (dkv kvs ds) ks).isSome)) s'):wpAny (model X.prog X.w) A (compareOp .NotIn u (.ref a)) Q E s:=by
 cases ks with
 | inr ks =>
  obtain ⟨z,hs,xs,pk,dd⟩:=qbD I h k hk
  obtain ⟨b,rfl,rfl,hk⟩:=key_is I dy ry
  refine wpAny_notIn_heap (knd:=qdP X.prog X.w) (qg2 hu) hk hs dd ?_
  rcases JF ks pk t with ⟨e1,e2,_⟩|⟨d',b',v,w',e1,e2,rv,dv,_⟩
  ·rw [e1] at q;rw [e2];exact q _ (I.tok _)
  ·rw [e1] at q;rw [e2];exact q _ (I.tok _)
 | inl i =>
  obtain ⟨z,hs,vs,pk,dd⟩:=wV I h hk
  obtain ⟨rfl,t',rfl⟩:=Wl dy ry
  refine wpAny_notIn_of (NB _ _ i t') hs dd.mapOf ?_
  rcases YW i pk t with ⟨e1,e2,_⟩|⟨d',v,w',e1,e2,rv,dv,_⟩
  ·rw [e1] at q;rw [e2];exact q _ (I.tok _)
  ·rw [e1] at q;rw [e2];exact q _ (I.tok _)
def qie (K:Kc):TSet:=fun o i v H Q=>∃ S p kvs ep ks ds d,o=.ref p/\H p=some (DctO p kvs ep)/\DenL K H S (kvs.map fun p=>kxV p.1 p.2.1) (kvs.map fun p=>kxD p.1)/\DenL K H S (kvs.map (·.2.2)) ds/\(∀ p∈kvs,kxI p.1=kxI ks)/\Den K H S i (kxD ks)/\Den K H S v d/\kvs.length<1000/\∀ b ep',i=kxV ks b->Q (upd H p (DctO p (putV kvs ks b v) ep'))
theorem qay (kvs:List (KX×Addr×V))(ks:KX)(b:Kd)(v:V):(putV kvs ks b v).length<=kvs.length+1:=by
 unfold putV
 split
 ·rw [Kh];omega
 ·rw [Kp,Kv];omega
theorem set_dict (hu:X.A.units+64<cLine):PSet X (qie X.K):=by
 intro pins s σ H o i v ov iv u Q I ro ri rv h
 obtain ⟨S,p,kvs,ep,ks,ds,d,rfl,hp,k,t,hk,di,dv,hz,q⟩:=h
 cases ro
 have z1000:1000<sizeLine:=zj (Km _)
 cases ks with
 | inr ks =>
  obtain ⟨z,hs,xs,pk,dd⟩:=qbD I hp k hk
  obtain ⟨b,rfl,rfl,hk⟩:=key_is I di ri
  have hxl:xs.length<=sizeLine:=by rw [← Paired.length pk];exact z
  have he:(kvs.any fun p=>decide (p.1=.inr ks))=(atKey xs ks).isSome:=by
   rcases JF ks pk t with ⟨_,e2,e3⟩|⟨_,_,_,_,_,e2,_,_,e3⟩
   ·rw [e2,e3];rfl
   ·rw [e2,e3];rfl
  refine wpAny_setItem_heap (knd:=qdP X.prog X.w) (hsz:=hxl) (qg2 hu) hk dd fun h' dd' hs'=>?_
  obtain ⟨o,es,ep',g1,g2,g3,g4,_,g5⟩:=dd'
  have dct:QD p (putV kvs (.inr ks) b v) ep' h':=⟨by have:=qay kvs (.inr ks) b v;omega,hs,.inl ⟨_,qeC pk rv he,o,es,g1,g2,g3,g4,g5⟩⟩
  exact ⟨_,I.write (x:=p) (e:=p) (by rw [hp];exact V0) (.inl rfl) (fun c o' hc e=>(hs'.2 c hc).trans e) ⟨o,g1⟩ dct.ok,q b ep' rfl⟩
 | inl i =>
  obtain ⟨z,hs,vs,pk,dd⟩:=wV I hp hk
  obtain ⟨rfl,t',rfl⟩:=Wl di ri
  have hxl:vs.length<=sizeLine:=by rw [← Paired.length pk];exact z
  refine wpAny_setItem_pairs (hsz:=hxl) (NB _ _ i t') dd fun h' dd' hs'=>?_
  obtain ⟨o,es,ep',g1,g2,g3,g4,g4',g5⟩:=dd'
  have dct:QD p (putV kvs (.inl i) 0 v) ep' h':=⟨by have:=qay kvs (.inl i) 0 v;omega,hs,.inr ⟨_,qeB pk rv,o,es,g1,g2,g3,jC g4' fun e he=>g4 e (Xg.mp he),g5⟩⟩
  exact ⟨_,I.write (x:=p) (e:=p) (by rw [hp];exact V0) (.inl rfl) (fun c o' hc e=>(hs'.2 c hc).trans e) ⟨o,g1⟩ dct.ok,q 0 ep' rfl⟩
end
section
variable {X:Cx}{G:Gm}{M M' Mb L:List Nat}{fr:Fr}{a b c:Kw}{es:List Kw}{f fk fx g fa fb:Rho->Option Ka}{pos:Pos}{u:Rho->Option Out}
theorem W2 {k:Nat}(hr:Room k X.A):OpD X (compareOp .NotIn) ye:=by
 intro pins s σ H x y v u Q I rx ry h
 obtain ⟨S,dx,dy,d,m,h1,h2,e,q⟩:=h
 cases h2 with
 | @dict p kvs ep ds hp kk t =>
  have e:ob (kxOf dx) (fun ks=>if kOk (dkv kvs ds) ks=true then some (N9 (!(Qj (dkv kvs ds) ks).isSome)) else none)=some d:=e
  obtain ⟨ks,e3,e⟩:=qe e
  have hl:kvs.length=ds.length:=by
   have:=t.length
   rwa [Kh] at this
  split at e
  case isFalse=>cases e
  rename_i hok
  cases e
  rw [Y7 e3] at h1
  cases (show u=KW p from ry)
  exact qdy hr.units I hp.1 kk t (qbR hl hok) h1 rx fun s' I'=>⟨.bl _,H,I',rfl,q _ H (Same.refl H) (.bool _)⟩
 | list a b=>exact j4 hr pins s σ H x _ v u Q I rx ry ⟨S,dx,_,d,m,h1,.list a b,e,q⟩
 | tuple a b=>exact j4 hr pins s σ H x _ v u Q I rx ry ⟨S,dx,_,d,m,h1,.tuple a b,e,q⟩
 | exc0 h o=>exact (qaN (g:=id) e).elim
 | exc1 h o x z t=>exact (qaN (g:=id) e).elim
 | ins h o=>exact (qaN (g:=id) e).elim
 | _=>cases e
def Yp (i:Nat)(fk f:Rho->Option Ka):Rho->Option Out:=fun ρ=>ob (f ρ) fun d=>ob (vr i ρ) fun l=>ob (fk ρ) fun k=>ob (yL l k d) fun l'=>some (.nx (ρ.set i (some l')))
theorem qfz (js:List Int):j9 (js.map .int)=true:=by
 induction js with
 | nil=>rfl
 | cons j js ih=>exact ih
theorem w6:∀ ks:K2,j9 (ks.map k2D)=true
 | []=>rfl
 | .inl _::ks=>w6 ks
 | .inr js::ks=>by
  show (j9 (js.map .int)&&j9 (ks.map k2D))=true
  rw [qfz,w6];rfl
theorem qdE (k:KX):flat (kxD k)=true:=by
 cases k with
 | inl i=>rfl
 | inr ks=>exact w6 ks
theorem qaL {l k d l':Ka}(e:yL l k d=some l'):∃ kvs ks,l=.dict kvs/\k=kxD ks/\kOk kvs ks=true/\kvs.length<1000/\l'=.dict (putD kvs ks d):=by
 unfold yL at e
 split at e
 ·obtain ⟨ks,e1,e⟩:=qe e
  split at e
  ·rename_i hc;cases e;exact ⟨_,ks,rfl,Y7 e1,hc.1,hc.2,rfl⟩
  ·cases e
 ·cases e
theorem qea {kvs:List (KX×Addr×V)}{ep:Nat}{ds:List Ka}{S:Av}{σ:St}{ρ:Rho}{H:Hp}{i:Nat}{pp b:Kd}{ks:KX}{v:V}{d:Ka}{ep':Nat}(os:OwnS X.K G M L H S σ ρ)(hM:Flt M i)(hL:i∉L)(e0:ρ[i]?=some (some (.dict (dkv kvs ds))))(a1:σ[i]?=some (some (.ref pp)))(c1:S pp)(h:H pp=some (DctO pp kvs ep))(k:DenL X.K H S (kvs.map fun p=>kxV p.1 p.2.1) (kvs.map fun p=>kxD p.1))(t:DenL X.K H S (kvs.map (·.2.2)) ds)(dk:Den X.K H S (kxV ks b) (kxD ks))(dv:Den X.K H S v d)
  (he:(kvs.any fun p=>decide (p.1=ks))=(Qj (dkv kvs ds) ks).isSome):OwnS X.K G M L (upd H pp (DctO pp (putV kvs ks b v) ep')) S σ (ρ.set i (some (.dict (putD (dkv kvs ds) ks d)))):=by
 obtain ⟨ds',t',ed⟩:=qeD (b:=b) t dv he
 refine os.write hM hL e0 a1 rfl ?_
 rw [← ed]
 exact .dct qI ((qeA k dk).off os.ds.1 (Off.upd c1)) (t'.off os.ds.1 (Off.upd c1))
theorem WT {K:Kc}{H:Hp}{S:Av}(ks:KX):∀ {kvs:List (KX×Addr×V)} {ds:List Ka},DenL K H S (kvs.map (·.2.2)) ds->(kvs.any fun p=>decide (p.1=ks))=(Qj (dkv kvs ds) ks).isSome
 | [],_,t=>by cases t;rfl
 | p::kvs,_,t=>by
  cases t with
  | @cons _ d _ ds dv t' =>
   rw [ZD,Ue]
   by_cases e:p.1=ks
   ·rw [JD e,decide_eq_true e];rfl
   ·rw [JC e,decide_eq_false e,XI];exact WT ks t'
theorem qfp {kvs:List (KX×Addr×V)}{ds:List Ka}(h:kvs.length=ds.length):(dkv kvs ds).length=kvs.length:=by
 unfold dkv
 rw [List.length_zip,Kh,h,Nat.min_self]
theorem qeh {k:Nat}(hr:Room k X.A)(i:Nat){x:Str}{px sp:Pos}(hv:Vis X.env.scope x)(hM:Flt M i)(hL:i∉L)(hk:PD X [] b fk)(he:PD X M a f)(hN:X.N[i]?=some x:=by rfl)(hd:(x==("__debug__" : Str))=false:=by decide +kernel)(hcd:(x==("__classdict__" : Str))=false:=by decide +kernel)
  (ha:∀ v,assign (.Subscript (.Name x px) b sp) X.env v=(do
   let ov ← holding [v] (eval (.Name x px) X.env)
   let iv ← holding [v,ov] (eval b X.env)
   standAt sp
   holding [v,ov,iv] (setItem ov iv v)
   release [v,ov,iv] []):=by intro _;rfl)
  (hs:swapsWithSole [.Subscript (.Name x px) b sp] a pos.line X.env=pure false:=by rfl) (hw:swappedStores [.Subscript (.Name x px) b sp] a X.env=pure none:=by rfl)
  (h1:(assignEach [.Subscript (.Name x px) b sp] X.env).map (·.2)=[assign (.Subscript (.Name x px) b sp) X.env]:=by rfl) :
  PDS X G M L M Mb fr (.Assign [.Subscript (.Name x px) b sp] a pos) (Yp i fk f) :=
 (qeu he (qeq (JR i hv hN hd hcd) hk (set_dict hr.units) ha) hs hw h1).weak fun D σ H ⟨S,ρ,o,os,e,q⟩=>by
  obtain ⟨d,e1,e⟩:=qe e
  obtain ⟨l,e2,e⟩:=qe e
  obtain ⟨kd,e3,e⟩:=qe e
  obtain ⟨l',e4,e⟩:=qe e
  cases e
  obtain ⟨kvs0,ks,rfl,rfl,hok,hz,rfl⟩:=qaL e4
  refine ⟨S,ρ,d,os.ds,e1,fun v H1 g1 d1=>?_⟩
  have os1:=os.same g1
  obtain ⟨pp,a1,b1,c1,n1,w1,_⟩:=os1.own i hM _ (Qs e2)
  cases b1 with
  | @dct kvs ep ds h kk t =>
   refine ⟨_,a1,G.S0,ρ,_,os1.den,e3,fun kv H2 g2 dk=>?_⟩
   have os2:=os1.same g2
   have dk:Den X.K H2 S kv (kxD ks):=dk.flat (qdE ks)
   have hl:kvs.length=ds.length:=by
    have:=t.length
    rwa [Kh] at this
   rw [qfp hl] at hz
   refine ⟨S,pp,kvs,ep,ks,ds,d,rfl,g2 _ _ h,kk.same g2,t.same g2,qbR hl hok,dk,d1.same g2,hz,fun b' ep' eb=>?_⟩
   subst eb
   exact q _ _ _ (qea os2 hM hL (Qs e2) a1 c1 (g2 _ _ h) (kk.same g2) (t.same g2) dk (d1.same g2) (WT ks t))
end
section
variable {X:Cx}{G:Gm}{M M' Mb L:List Nat}{fr:Fr}{a b c:Kw}{es:List Kw}{f fk g:Rho->Option Ka}{pos:Pos}{u:Rho->Option Out}
def sNo:Rho->Option Out:=fun _=>none
theorem Q5 {e1 e2:Option Kw}:PDS X G M L M' Mb fr (.Raise e1 e2 pos) sNo:=fun pins s σ H D I ⟨S,ρ,o,os,e,q⟩=>by cases e
end
def tVd (K:Kc)(M:List Nat)(f:Rho->Option Ka):TE:=fun σ H Q=>∃ S ρ d,DenS K H S M σ ρ/\f ρ=some d/\∀ p fp H',Same H H'->(∀ q∈fp,H q=none)->DeepO K H' (insL S fp) fp p d->Q (.ref p) H'
def qbN:Ka->Bool
 | .list _=>true
 | _=>false
theorem Kids.length {K:Kc}{H:Hp}{S:Av}:∀ {qs:List Kd} {ds:List Ka},Kids K H S qs ds->qs.length=ds.length
 | _,_,.nil=>rfl
 | _,_,.cons _ _ _ r=>by rw [KM,KM,r.length]
theorem Kids.get {K:Kc}{H:Hp}{S:Av}:∀ {qs:List Kd} {ds:List Ka} {i:Nat} {d:Ka},Kids K H S qs ds->ds[i]?=some d->∃ q xs es,qs[i]?=some q/\d=.list es/\H q=some (.lst xs)/\DenL K H S xs es
 | _,_,_,_,.nil,e=>by simp at e
 | _,_,0,_,.cons h t _ _,e=>by simp at e;subst e;exact ⟨_,_,_,rfl,rfl,h,t⟩
 | _,_,i+1,d,.cons _ _ _ r,e=>by
  obtain ⟨q,xs,es,h1,h2⟩:=Kids.get (i:=i) (d:=d) r (by simpa using e)
  exact ⟨q,xs,es,by simpa using h1,h2⟩
theorem Kids.put {K:Kc}{H:Hp}{S:Av}{q:Kd}{xs:List V}{es:List Ka}(m:Dm S H)(hq:S q)(t:DenL K (L2.upd H q (.lst xs)) S xs es):∀ {qs:List Kd} {ds:List Ka} {i:Nat},Kids K H S qs ds->qs[i]?=some q->Kids K (L2.upd H q (.lst xs)) S qs (ds.set i (.list es))
 | _,_,_,.nil,e=>by simp at e
 | _,_,0,.cons h t' n r,e=>by
  simp at e;subst e
  exact .cons qI t n (r.upd m hq n)
 | _,_,i+1,.cons h t' n r,e=>by
  have e':=(List.getElem?_cons_succ ..).symm.trans e
  have hm:q∈_:=KO e'
  refine .cons ?_ (t'.off m fun b u z e=>by rw [qD (fun y=>z (by rw [y];exact hq))];exact e) n (Kids.put m hq t r e')
  rw [qD (fun z=>n (by rw [z];exact hm))];exact h
section
variable {X:Cx}{G:Gm}{M M' Mb L:List Nat}{fr:Fr}{a b c:Kw}{es:List Kw}{f fk g:Rho->Option Ka}{pos:Pos}{u:Rho->Option Out}{fs:Rho->Option (List Ka)}
theorem DenS.insO {K:Kc}{H H':Hp}{S:Av}{σ:St}{ρ:Rho}{p:Kd}{d:Ka}(hs:DenS K H S M σ ρ)(e:Same H H')(n:H p=none)(o:OwnO K H' (insA S p) p d):DenS K H' (insA S p) M σ ρ :=
 ⟨(hs.1.same e).ins o.mut,hs.2.1,fun i d hi q=>let ⟨v,a,b⟩:=hs.2.2 i d hi q;⟨v,a,(b.sub fun a ha z=>z.elim id fun y=>absurd (by rw [y];exact n) ha).same e⟩⟩
def Yr (i:Nat)(f:Rho->Option Ka):Rho->Option Out:=fun ρ=>if i<ρ.length/\ρ.length<=1000 then ob (f ρ) fun d=>some (.nx (ρ.set i (some d))) else none
def Jd:Ka->Ka->Option Nat
 | .tuple ds,.int k=>ixN ds.length k
 | .list ds,.int k=>ixN ds.length k
 | _,_=>none
def Y5:Ka->Nat->Option Ka
 | .tuple ds,j=>ds[j]?
 | .list ds,j=>ds[j]?
 | _,_=>none
def Wm:Ka->Nat->Ka->Ka
 | .tuple ds,j,l=>.tuple (ds.set j l)
 | .list ds,j,l=>.list (ds.set j l)
 | d,_,_=>d
theorem DeepF.same {K:Kc}{H H':Hp}{S:Av}{σ:St}{ρ:Rho}{F:Nat->List Kd}(e:Same H H')(f:DeepF K G M H S σ ρ F):DeepF K G M H' S σ ρ F :=
 ⟨fun i hi d q=>let ⟨p,a,b,c⟩:=f.own i hi d q;⟨p,a,b.same e,c⟩,f.disj,f.flat⟩
theorem Zm {qs:List Kd}{j:Nat}{k:Int}{q:Kd}{n:Nat}(h:n=qs.length)(e:ixN n k=some j)(e':qs[j]?=some q):atI (qs.map V.ref) k=some (.ref q):=by
 unfold atI
 rw [Kh,← h,e]
 show (qs.map V.ref)[j]?=_
 rw [Vv,e'];rfl
theorem DeepO.kid {K:Kc}{H:Hp}{S:Av}{fp:List Kd}{p:Kd}{d0 l:Ka}{j:Nat}(b:DeepO K H S fp p d0)(e:Y5 d0 j=some l):∃ q xs es,q∈fp/\l=.list es/\H q=some (.lst xs)/\DenL K H S xs es/\
  (∀ k,Jd d0 (.int k)=some j->∀ Q:VK,Q (.ref q) H->(rIxL K (.ref p) (.int k) H Q\/rIxT K (.ref p) (.int k) H Q))/\
  ∀ H2,Same H H2->∀ xs' es',S q->Dm S H2->DenL K (L2.upd H2 q (.lst xs')) S xs' es'->DeepO K (L2.upd H2 q (.lst xs')) S fp p (Wm d0 j (.list es')):=by
 cases b with
 | @tpl _ qs ds h t =>
  obtain ⟨q,xs,es,h1,rfl,h2,h3⟩:=t.get (show ds[j]?=some l from e)
  refine ⟨q,xs,es,KO h1,rfl,h2,h3,fun k hk Q hQ=>.inr ⟨p,_,k,_,rfl,rfl,.inl (.inl h),Zm t.length.symm hk h1,hQ⟩,fun H2 g xs' es' hS m t'=>?_⟩
  exact .tpl (by rw [qD (fun z=>m.tup (.inl (g _ _ h)) (by rw [z];exact hS))];exact g _ _ h) (Kids.put m hS t' (t.same g) h1)
 | @lst _ qs ds h n t =>
  obtain ⟨q,xs,es,h1,rfl,h2,h3⟩:=t.get (show ds[j]?=some l from e)
  have hm:=KO h1
  refine ⟨q,xs,es,.tail _ hm,rfl,h2,h3,fun k hk Q hQ=>.inl ⟨p,_,k,_,rfl,rfl,SqL.of h,Zm t.length.symm hk h1,hQ⟩,fun H2 g xs' es' hS m t'=>?_⟩
  exact .lst (by rw [qD (fun z=>n (by rw [z];exact hm))];exact g _ _ h) n (Kids.put m hS t' (t.same g) h1)
 | dct h k v n t=>cases e
def Yq (i:Nat)(fk f:Rho->Option Ka):Rho->Option Out:=fun ρ=>ob (vr i ρ) fun c=>ob (fk ρ) fun k=>ob (Jd c k) fun j=>ob (Y5 c j) fun l=>ob (f ρ) fun d=>ob (appD l d) fun l'=>some (.nx (ρ.set i (some (Wm c j l'))))
theorem qcH {c k:Ka}{j:Nat}(e:Jd c k=some j):∃ n,k=.int n:=by
 unfold Jd at e
 split at e
 ·exact ⟨_,rfl⟩
 ·exact ⟨_,rfl⟩
 ·cases e
theorem qaq (i:Nat){x:Str}{px sp apos cpos:Pos}(hv:Vis X.env.scope x)(hM:Dp M i)(hb:PD X M b fk)(he:PD X M a f)(hpx:wO b:=by intro _ _;rfl)(hN:X.N[i]?=some x:=by rfl)(hd:(x==("__debug__" : Str))=false:=by decide +kernel)(hcd:(x==("__classdict__" : Str))=false:=by decide +kernel)
  (hbase:attributeBase (.Subscript (.Name x px) b sp) "append" X.env (eval (.Subscript (.Name x px) b sp) X.env)=eval (.Subscript (.Name x px) b sp) X.env:=by rfl)
  (hfew:((backTo cpos (starEach [a] X.env)).all (fun x=>!x.1)&&(backToKw cpos (keywordEach [] X.env)).all (fun x=>x.1.isSome)
   && decide ([a].length+([]:List Xc).length+(if ([]:List Xc).isEmpty then 0 else 1)<30))=true:=by rfl)
  (hline:(apos.endLine==cpos.line)=true:=by rfl) (hs:starEach [a] X.env=(false,eval a X.env)::starEach [] X.env:=by rfl) (hplain:(backTo cpos (starEach [] X.env)).any (·.1)=false:=by rfl)
  (hsw:swapsWith (.Call (.Attribute (.Subscript (.Name x px) b sp) "append" apos) [a] [] cpos) none pos.line X.env=pure false:=by rfl) :
  PDS X G M L M Mb fr (.Expr (.Call (.Attribute (.Subscript (.Name x px) b sp) "append" apos) [a] [] cpos) pos) (Yq i fk f) :=
 (yt (qas Ut U3 Xy JK (qgX (r:=fun x y H Q=>rIxL X.K x y H Q\/rIxT X.K x y H Q) (qbP.or qdL) (JR i hv hN hd hcd) hb hpx) (qb he qj hs) hbase hfew hline hs hplain) hsw).weak fun D σ H ⟨S,ρ,o,os,e,q⟩=>by
  obtain ⟨c0,e1,e⟩:=qe e
  obtain ⟨k0,e2,e⟩:=qe e
  obtain ⟨j,e3,e⟩:=qe e
  obtain ⟨l,e4,e⟩:=qe e
  obtain ⟨d,e5,e⟩:=qe e
  obtain ⟨l',e6,e⟩:=qe e
  cases e
  obtain ⟨k,rfl⟩:=qcH e3
  obtain ⟨F,f0⟩:=os.deep
  obtain ⟨pp,a1,b1,c1⟩:=f0.own i hM _ (Qs e1)
  refine ⟨_,a1,S,ρ,.int k,os.ds,e2,fun w H1 g1 d1=>?_⟩
  cases d1.int_inv
  obtain ⟨q0,xs,es,m0,rfl,h0,t0,ix,put⟩:=(b1.same g1).kid e4
  refine ix k e3 _ ⟨.inl ⟨rfl,_,SqL.of h0⟩,S,ρ,[d],os.ds.same g1,by show ob (f ρ) _=_;rw [e5];rfl,fun vs H2 g2 dl=>?_⟩
  obtain ⟨v,rfl,dv⟩:=dl.inv1
  have os2:=os.same (g1.trans g2)
  obtain ⟨ds,e7,hz,rfl⟩:=JB e6
  cases e7
  refine ⟨q0,xs,v,rfl,rfl,g2 _ _ h0,KS (by rw [t0.length];exact hz) (VA (zj (Km _))),?_⟩
  exact q _ _ _ (os2.writeD (f0.same (g1.trans g2)) hM (Qs e1) a1 m0 rfl (put H2 g2 _ _ (c1 q0 m0).1 os2.ds.1 (((t0.same g2).snoc dv).off os2.ds.1 (Off.upd (c1 q0 m0).1))))
end
theorem qcm:bootBuiltins "zip" = some (.type "zip"):=by decide +kernel
section
variable {X:Cx}{pins:List (Kd×Obj)}{σ:St}{H:Hp}{s:Kf}
theorem Inv.turnedL {h':KA}{t':Nat}{fp:List Kd}(I:Inv X pins σ H s)(k:∀ b o,b∉fp->s.heap.get? b=some o->h'.get? b=some o)(ff:∀ b∈fp,FpOk X pins H b):Inv X pins σ H { s with heap:=h',toks:=t' }:=by
 have nit:∀ b u,H b=some u->b∉fp:=fun b u q z=>by rw [(ff b z).1] at q;cases q
 refine I.step (g':=s.gens) (d':=s.drawn) (ch:=fp) (fun b hb=>⟨(ff b hb).2.2.2.1,(ff b hb).2.1,(ff b hb).2.2.2.2.1,(ff b hb).2.2.2.2.2⟩) (fun b o _ _ hc e _=>k b o hc e) (fun b o _ _ hc e _=>⟨o.slots,k b o hc e⟩) (fun _ _ _ _ n=>n)
  (fun b o hc e=>⟨o,k b o hc e⟩) (fun _ _ e=>e) (fun _ _ _ e=>e) (fun b ps e=>⟨#[],by rw [e];simp⟩) (fun m hm=>?_) (fun b u q=>?_) I.bare
 ·obtain ⟨o,es,ep,ho,r⟩:=hm
  exact ⟨o,es,ep,k _ o (fun z=>(ff _ z).2.1 rfl) ho,r⟩
 ·refine (I.hok b u q).stay (fun c v hc q'=>k c v ?_ q') (fun _ q=>q) fun _ _ q=>q
  rcases hc with z|z
  ·rw [z];exact nit b u q
  ·exact nit c _ z
end
def Itz (K:Kc)(a b:Kd):It :=
 ⟨fun i H=>∃ xs ys x y,SqL K H a xs/\SqL K H b ys/\xs[i]?=some x/\ys[i]?=some y,
  fun i H v H'=>∃ p x y,H p=none/\v=.ref p/\H'=upd H p (.tup [x,y])/\(∀ xs,SqL K H a xs->xs[i]?=some x)/\∀ ys,SqL K H b ys->ys[i]?=some y,
  fun i H=>∃ xs ys,SqL K H a xs/\SqL K H b ys/\(xs[i]?=none\/ys[i]?=none)⟩
def tnZ (z ti to i1 i2 a b:Kd)(i:Nat)(h:KA):Prop:=IsZip h z ti to .none/\IsPair h ti (.ref i1) (.ref i2)/\(∃ u v,IsPair h to u v)/\h.IsListIter i1 a i/\h.IsListIter i2 b i
theorem qe0 {P:Kx}{w:KG}{K:Kc}{ts:List Kw}{kk:Nat}{tp:Pos}{z ti to i1 i2 a b:Kd}(D:ZipApart z ti to i1 i2 a b):Turn P w K (.Tuple ts kk tp) (Itz K a b) [z,ti,to,i1,i2] z (tnZ z ti to i1 i2 a b) where
 mem:=by simp
 obj:=fun i h ⟨hz,hti,⟨u,v,hto⟩,⟨o1,e1,c1,d1⟩,⟨o2,e2,c2,d2⟩⟩ c hc=>by
  simp only [Kq,V1,or_false] at hc
  rcases hc with rfl|rfl|rfl|rfl|rfl
  ·exact ⟨_,hz,fun v z=>by cases z⟩
  ·exact ⟨_,hti,fun v z=>by cases z⟩
  ·exact ⟨_,hto,fun v z=>by cases z⟩
  ·exact ⟨_,e1,fun v z=>by rw [d1] at z;cases z⟩
  ·exact ⟨_,e2,fun v z=>by rw [d2] at z;cases z⟩
 keep:=fun i h h' ⟨hz,hti,⟨u,v,hto⟩,⟨o1,e1,r1⟩,⟨o2,e2,r2⟩⟩ k =>
  ⟨k z (by simp) _ hz,k ti (by simp) _ hti,⟨u,v,k to (by simp) _ hto⟩,⟨o1,k i1 (by simp) o1 e1,r1⟩,⟨o2,k i2 (by simp) o2 e2,r2⟩⟩
 item:=by
  intro X hP hw hK hc i pins s σ H E I hf st hg
  subst hP hw hK
  obtain ⟨xs,ys,x,y,hq1,hq2,hx,hy⟩:=hg
  obtain ⟨hz,hti,⟨u0,v0,hto⟩,h1,h2⟩:=st
  obtain ⟨its1,rv1,p1,_⟩:=I.list hq1
  obtain ⟨its2,rv2,p2,_⟩:=I.list hq2
  obtain ⟨u1,hu1,ru1⟩:=rv1.get hx
  obtain ⟨u2,hu2,ru2⟩:=rv2.get hy
  refine wpAny_pyNext_zip_item D hz hti hto h1 h2 p1.isList p2.isList (x:=u1) (y:=u2) (by simpa using hu1) (by simpa using hu2) fun h' a1 a2 a3 a4 a5 a6 hk=>⟨_,rfl,wpAny_letOwnedTupleGo_zip a1 fun h3 hz3 hs3=>?_⟩
  have k3:∀ c o,c≠z->h'.get? c=some o->h3.get? c=some o:=fun c o hc q=>(hs3.2 c hc).trans q
  have I1:Inv X pins σ H { s with heap:=h3,toks:=s.toks }:=I.turnedL (fp:=[z,ti,to,i1,i2]) (fun c o hc q=>by
   simp only [Kq,V1,or_false,not_or] at hc
   exact k3 c o hc.1 (hk c o hc.1 hc.2.2.1 hc.2.2.2.1 hc.2.2.2.2 q)) hf
  have hn:H s.heap.objs.size=none:=I.hok.fresh (Km _)
  have fT:FpOk X pins H s.heap.objs.size:=I.fpOk (Km _) hn
  have lt:∀ {b:Kd} {o:Obj},s.heap.get? b=some o->s.heap.objs.size≠b:=fun e=>Uo (Ku e)
  have n1:s.heap.objs.size≠i1:=by obtain ⟨o,e,_⟩:=h1;exact lt e
  have n2:s.heap.objs.size≠i2:=by obtain ⟨o,e,_⟩:=h2;exact lt e
  have ok:zK X.prog X.w (upd H s.heap.objs.size (.tup [x,y])) h3 s.heap.objs.size (.tup [x,y]) :=
   ⟨VA (zj (show 2<=1000 by decide)),[u1,u2],.cons ru1 (.cons ru2 .nil),⟨_,k3 _ _ (lt hz) a5,rfl,_,rfl⟩⟩
  refine ⟨.ref s.heap.objs.size,upd H s.heap.objs.size (.tup [x,y]),I1.track hn fT.2.1 fT.2.2.2.1 fT.2.2.2.2.1 fT.2.2.2.2.2 ok,rfl,⟨_,x,y,hn,rfl,rfl,fun zs hy'=>by rw [I.list_inj hy' hq1];exact hx,fun zs hy'=>by rw [I.list_inj hy' hq2];exact hy⟩,
   ⟨hz3,k3 _ _ D.TIz (hk _ _ D.TIz D.TITO D.TIi1 D.TIi2 hti),⟨_,_,k3 _ _ D.TOz a2⟩,a3.extBut hs3.extBut D.i1z,a4.extBut hs3.extBut D.i2z⟩,fun c hc=>?_⟩
  have hcc:=(hf c hc).1
  simp only [Kq,V1,or_false] at hc
  rw [qD ?_]
  ·exact hcc
  ·rcases hc with rfl|rfl|rfl|rfl|rfl
   ·exact VY (lt hz)
   ·exact VY (lt hti)
   ·exact VY (lt hto)
   ·exact VY n1
   ·exact VY n2
 done:=by
  intro X hP hw hK hc i pins s σ H E I hf st hg
  subst hP hw hK
  obtain ⟨xs,ys,hq1,hq2,hx⟩:=hg
  obtain ⟨hz,hti,⟨u0,v0,hto⟩,h1,h2⟩:=st
  obtain ⟨its1,rv1,p1,_⟩:=I.list hq1
  obtain ⟨its2,rv2,p2,_⟩:=I.list hq2
  have l1:=rv1.length
  have l2:=rv2.length
  have hend:its1.toArray[i]?=none\/its2.toArray[i]?=none:=by
   rcases hx with hx|hx
   ·left
    rw [UO] at hx
    rw [U8];rw [Kt];omega
   ·right
    rw [UO] at hx
    rw [U8];rw [Kt];omega
  exact wpAny_pyNext_zip_end (I.ok.hd hc) D hz hti hto h1 h2 p1.isList p2.isList hend fun h' hk=>⟨rfl,I.turnedL (fp:=[z,ti,to,i1,i2]) (t':=s.toks) (fun c o hc q=>by
   simp only [Kq,V1,or_false,not_or] at hc
   exact hk c o hc.1 hc.2.2.1 hc.2.2.2.1 hc.2.2.2.2 q) hf⟩
 self:=fun _ _ _ _ _ st h=>wpAny_pyIter_zip st.1 h
theorem qc6 {n p1 p2:Nat}(h1:p1<n)(h2:p2<n):ZipApart (n+4) (n+2) (n+3) n (n+1) p1 p2:=by
 constructor<;>first|exact K6 (by omega)|exact Uo (by omega)
def iZip (K:Kc)(ta:TA):TI:=fun σ H R=>ta σ H fun vs H1=>∃ a b xs ys,vs=[.ref a,.ref b]/\SqL K H1 a xs/\SqL K H1 b ys/\R (Itz K a b) H1
section
variable {X:Cx}{M:List Nat}{a b:Kw}{es:List Kw}{f fa fb:Rho->Option Ka}{pos:Pos}
theorem qh2 {ts:List Kw}{kk:Nat}{tp:Pos}{ta:TA}{p:Pos}(hg:Gl X "zip")(hm:X.mg "zip" = none)(ha:PA X [a,b] ta)(hs:starEach [a,b] X.env=(false,eval a X.env)::starEach [b] X.env:=by rfl)(hpl:(backTo pos (starEach [b] X.env)).any (·.1)=false:=by rfl):PI X (.Tuple ts kk tp) (.Call (.Name "zip" p) [a,b] [] pos) (iZip X.K ta):=by
 intro pins s σ H R I h
 refine Call_ (Yc I hg hm qcm (Xf (thn (ha pos pins s σ H _ I h) fun us s1 ⟨vs,H1,I1,r1,q1⟩=>?_) hs hpl) (by decide +kernel) (by decide +kernel))
 obtain ⟨p1,p2,xs,ys,e,hq1,hq2,q⟩:=q1
 subst e
 cases r1 with
 | cons ru1 r2 =>
 cases r2 with
 | cons ru2 r3 =>
 cases r3
 cases ru1
 cases ru2
 obtain ⟨its1,rv1,l1,_⟩:=I1.list hq1
 obtain ⟨its2,rv2,l2,_⟩:=I1.list hq2
 have lt1:p1<s1.heap.objs.size:=by obtain ⟨o,e,_⟩:=l1.isList;exact Ku e
 have lt2:p2<s1.heap.objs.size:=by obtain ⟨o,e,_⟩:=l2.isList;exact Ku e
 refine call_zip_2 l1.isList l2.isList fun h' a1 a2 a3 a4 a5 a6 k=>wpAny_pyIter_zip a1 ?_
 have I2:Inv X pins σ H1 { s1 with heap:=h',toks:=s1.toks }:=I1.kept (t':=s1.toks) k
 have D:ZipApart (s1.heap.objs.size+4) (s1.heap.objs.size+2) (s1.heap.objs.size+3) s1.heap.objs.size (s1.heap.objs.size+1) p1 p2:=qc6 lt1 lt2
 refine ⟨_,[s1.heap.objs.size+4,s1.heap.objs.size+2,s1.heap.objs.size+3,s1.heap.objs.size,s1.heap.objs.size+1],_,Itz X.K p1 p2,H1,rfl,I2,qe0 D,⟨a1,a2,⟨_,_,a3⟩,a4,a5⟩,fun c hc=>?_,q⟩
 have hl:s1.heap.objs.size<=c:=by
  simp only [Kq,V1,or_false] at hc
  rcases hc with e|e|e|e|e<;>(rw [e];first|exact Km _|exact Nat.le_add_right _ _)
 exact I1.fpOk hl (I1.hok.fresh hl)
def zpL:List Ka->List Ka->List Ka
 | d::ds,e::es=>.tuple [d,e]::zpL ds es
 | _,_=>[]
theorem WP:∀ (ds es:List Ka) (i:Nat) (d:Ka),(zpL ds es)[i]?=some d->∃ x y,ds[i]?=some x/\es[i]?=some y/\d=.tuple [x,y]
 | [],_,_,_,h=>by simp [zpL] at h
 | _::_,[],_,_,h=>by simp [zpL] at h
 | x::ds,y::es,0,d,h=>by simp [zpL] at h;exact ⟨x,y,rfl,rfl,h.symm⟩
 | x::ds,y::es,i+1,d,h=>by
  obtain ⟨x',y',h1,h2,h3⟩:=WP ds es i d (by simpa [zpL] using h)
  exact ⟨x',y',by simpa using h1,by simpa using h2,h3⟩
theorem qch:∀ (ds es:List Ka),ds[(zpL ds es).length]?=none\/es[(zpL ds es).length]?=none
 | [],_=>.inl rfl
 | _::_,[]=>.inr rfl
 | x::ds,y::es=>by
  rcases qch ds es with h|h
  ·left;simpa [zpL] using h
  ·right;simpa [zpL] using h
theorem IsIt.zip {K:Kc}{H:Hp}{S:Av}{l m:Kd}{xs ys:List V}{ds es:List Ka}(h:SqL K H l xs)(t:DenL K H S xs ds)(h':SqL K H m ys)(t':DenL K H S ys es):IsIt K S (Itz K l m) H (zpL ds es) where
 go:=fun i H' e hi=>by
  obtain ⟨d,hd⟩:∃ d,(zpL ds es)[i]?=some d:=⟨_,Kj hi⟩
  obtain ⟨x,y,h1,h2,_⟩:=WP ds es i d hd
  obtain ⟨v,h3,_⟩:=t.get h1
  obtain ⟨w,h4,_⟩:=t'.get h2
  exact ⟨xs,ys,v,w,e.seq h,e.seq h',h3,h4⟩
 yld:=fun i H' x H2 e ⟨p,y1,y2,hp,ex,e2,q1,q2⟩=>by
  subst ex e2
  refine ⟨Same.lay hp,fun d hd S' w=>?_⟩
  obtain ⟨d1,d2,h1,h2,rfl⟩:=WP ds es i d hd
  obtain ⟨v1,h3,r1⟩:=t.get h1
  obtain ⟨v2,h4,r2⟩:=t'.get h2
  have e3:=q1 xs (e.seq h)
  have e4:=q2 ys (e.seq h')
  rw [h3] at e3
  rw [h4] at e4
  cases e3
  cases e4
  exact .tuple (SqT.of qI) (.cons (w _ _ r1) (.cons (w _ _ r2) .nil))
 stop:=fun H' e=>⟨xs,ys,e.seq h,e.seq h',by
  have a:=t.length
  have b:=t'.length
  rcases qch ds es with z|z
  ·left;rw [UO] at z ⊢;omega
  ·right;rw [UO] at z ⊢;omega⟩
def zipD:Ka->Ka->Option (List Ka)
 | .list ds,.list es=>some (zpL ds es)
 | _,_=>none
def evI2 (fa fb:Rho->Option Ka)(g:Ka->Ka->Option (List Ka))(ρ:Rho):Option (List Ka):=ob (fa ρ) fun x=>ob (fb ρ) fun y=>g x y
theorem qgi {ts:List Kw}{kk:Nat}{tp p:Pos}(hg:Gl X "zip")(hm:X.mg "zip" = none)(ha:PD X M a fa)(hb:PD X M b fb)(hs:starEach [a,b] X.env=(false,eval a X.env)::starEach [b] X.env:=by rfl)(hs2:starEach [b] X.env=(false,eval b X.env)::starEach [] X.env:=by rfl)(hpl:(backTo pos (starEach [b] X.env)).any (·.1)=false:=by rfl) :
  PDI X M (.Tuple ts kk tp) (.Call (.Name "zip" p) [a,b] [] pos) (evI2 fa fb zipD) :=
 (qh2 hg hm (qb ha (qb hb qj hs2) hs) hs hpl).weak fun σ H R ⟨S,ρ,ds,hs,e,w⟩=>by
  obtain ⟨x,e1,e⟩:=qe e
  obtain ⟨y,e2,e⟩:=qe e
  refine ⟨S,ρ,[x,y],hs,by show ob (fa ρ) _=_;rw [e1];show ob (ob (fb ρ) _) _=_;rw [e2];rfl,fun vs H1 g1 dl=>?_⟩
  cases dl with
  | cons d1 dl =>
  cases dl with
  | cons d2 dl =>
  cases dl
  cases d1 with
  | list h t =>
   cases d2 with
   | list h' t'=>cases e;exact ⟨_,_,_,_,rfl,h.sq,h'.sq,w _ _ g1 fun H2 o=>IsIt.zip (h.off o).sq (t.off (hs.1.same g1) o) (h'.off o).sq (t'.off (hs.1.same g1) o)⟩
   | _=>cases e
  | _=>cases e
theorem qgM (ds es:List Ka):zipD (.list ds) (.list es)=some (zpL ds es):=rfl
theorem qg5 (d e:Ka)(ds es:List Ka):zpL (d::ds) (e::es)=.tuple [d,e]::zpL ds es:=rfl
theorem qe3 (es:List Ka):zpL [] es=[]:=by cases es<;>rfl
theorem qe4 (ds:List Ka):zpL ds []=[]:=by cases ds<;>rfl
end
section
open PySem.SeqAt
open PySem.AutoSeq1 (wpAny_loadPart')
open PySem.MeetsSeq PySem.MeetsSeq2 PySem.MeetsSeq3
end
def bestOf (bt:Nat->Nat->Bool):Nat->Nat
 | 0=>0
 | k+1=>if bt (k+1) (bestOf bt k) then k+1 else bestOf bt k
theorem jh (bt:Nat->Nat->Bool):∀ k,bestOf bt k<=k
 | 0=>Km _
 | k+1=>by
  have:=jh bt k
  rw [bestOf]
  split<;>omega
def YG (prog:Kx)(w:KG)(A:KI)(h0:KA)(P:Nat->Kb->Prop)(bt:Nat->Nat->Bool):Prop :=
 ∀ (i j:Nat) (x y:Kb) (s:Kf) (Q E:Kb->Kf->Prop),j<i->(∀ b o,h0.get? b=some o->s.heap.get? b=some o)->P i x->P j y->Q (.bool (bt i j)) s->wpAny (model prog w) A (richCompare .Lt x y) Q E s
section
variable {prog:Kx}{w:KG}{A:KI}{R:Result->Kf->Prop}{it:Kd}{fp wr:List Kd}{n:Nat}{P:Nat->Kb->Prop}{St:Nat->KA->Prop}{h0:KA}
theorem qdZ (W:Walks prog w A.in1 it fp wr n P St)(bt:Nat->Nat->Bool)(hc:YG prog w A.in1 h0 P bt)(Z:Kd)(hZ:Z∉fp)(hw:∀ b o,h0.get? b=some o->b∉wr/\b≠Z)(kw:List (Str×Value)) :
  ∀ (m j:Nat) (s:Kf) (x:Kb) (c:Nat),n-(j+1)=m->j+1<=n->St (j+1) s.heap->P (bestOf bt j) x->(∀ b o,h0.get? b=some o->s.heap.get? b=some o)->
  s.heap.get? Z=some { cls:=.type "list", dict:=none,data:=.seq #[x,x] c,slots:=#[] }->
  (∀ v g tk,P (bestOf bt (n-1)) v->(∀ b o,b∉wr->b≠Z->s.heap.get? b=some o->g.get? b=some o)->R (.ok (.ret v)) { s with heap:=g,toks:=tk })->
  codeAny (model prog w) A (.builtin "min.loop" ⟨[.ref it,.none,.ref Z],kw⟩) R s:=by
 have zw:Z∉wr:=fun h=>hZ (W.sub _ h)
 have nm:(toString "min" ++ toString ".loop" : String) = "min.loop" := by decide
 intro m
 induction m with
 | zero =>
  intro j s x c hm hj st hP hb hz hR
  have last:j+1=n:=by omega
  refine U6 NU ?_;rw [UN UA _]
  show wpAny _ A.in1 (seqItems? (.ref Z) >>= _) _ _ s
  refine Kg (X5 hz rfl ?_)
  show wpAny _ A.in1 (tryCatch (pyNext (.ref it)) _ >>= _) _ _ s
  refine Kg (X7 (W.done s _ _ (last ▸ st) fun g tk k=>?_))
  have hz':=k Z _ zw hz
  show wpAny _ A.in1 (updateSeq Z (fun _=>#[]) >>= _) _ _ _
  refine Kg (N5 hz' rfl (Kg (Ea (Ks ?_))))
  exact hR x _ tk (by rw [← last];exact hP) fun b o h1 h2 e=>(Vy _ _ (fun z=>h2 z.symm)).trans (k b o h1 e)
 | succ m ih =>
  intro j s x c hm hj st hP hb hz hR
  have more:j+1<n:=by omega
  refine U6 NU ?_;rw [UN UA _]
  show wpAny _ A.in1 (seqItems? (.ref Z) >>= _) _ _ s
  refine Kg (X5 hz rfl ?_)
  show wpAny _ A.in1 (tryCatch (pyNext (.ref it)) _ >>= _) _ _ s
  refine Kg (X7 (W.item (j+1) s _ _ more st fun y g tk hy st' k=>?_))
  have hz':=k Z _ zw hz
  have hb':∀ b o,h0.get? b=some o->g.get? b=some o:=fun b o e=>k b o (hw b o e).1 (hb b o e)
  show wpAny _ A.in1 (tryCatch (holding [y,y] (richCompare .Lt y x >>= _)) _ >>= _) _ _ _
  refine Kg (X7 (V8 (Kg (hc (j+1) (bestOf bt j) y x _ _ _ (Nat.lt_succ_of_le (jh bt j)) hb' hy hP ?_))))
  refine Kg (V8 (V4 (Kg (Ea (Ks ?_)))))
  cases hh:bt (j+1) (bestOf bt j) with
  | true =>
   simp only [if_true]
   refine Kg (N5 hz' rfl (Kg (Ea ?_)))
   rw [nm]
   refine Ks ⟨Xl UA _,ih (j+1) _ y _ (by omega) more (W.frame _ _ _ st' fun b h1 o e=>(Vy _ _ (fun h:Z=b=>hZ (by rw [h];exact h1))).trans e) (by simp only [bestOf,hh,if_true];exact hy)
    (fun b o e=>(Vy _ _ (fun h:Z=b=>(hw b o e).2 h.symm)).trans (hb' b o e)) (Ui _ hz' rfl) fun v g2 tk2 h1 h2=>?_⟩
   exact hR v g2 tk2 h1 fun b o n1 n2 e=>h2 b o n1 n2 ((Vy _ _ (fun z=>n2 z.symm)).trans (k b o n1 e))
  | false =>
   simp only [VZ,if_false];refine Kg (Ea ?_)
   rw [nm]
   refine Ks ⟨Xl UA _,ih (j+1) _ x c (by omega) more st' (by simp only [bestOf,hh,VZ,if_false];exact hP) hb' hz' fun v g2 tk2 h1 h2=>?_⟩
   exact hR v g2 tk2 h1 fun b o n1 n2 e=>h2 b o n1 n2 (k b o n1 e)
theorem qcK (W:Walks prog w A.in1 it fp wr n P St)(bt:Nat->Nat->Bool)(hc:YG prog w A.in1 h0 P bt)(Z:Kd)(hZ:Z∉fp)(hw:∀ b o,h0.get? b=some o->b∉wr/\b≠Z)(kw:List (Str×Value))(hn:0<n){s:Kf}{c:Nat}(st:St 0 s.heap)(hb:∀ b o,h0.get? b=some o->s.heap.get? b=some o)
  (hz:s.heap.get? Z=some { cls:=.type "list", dict:=none,data:=.seq #[] c,slots:=#[] })
  (hR:∀ v g tk,P (bestOf bt (n-1)) v->(∀ b o,b∉wr->b≠Z->s.heap.get? b=some o->g.get? b=some o)->R (.ok (.ret v)) { s with heap:=g,toks:=tk }) :
  codeAny (model prog w) A (.builtin "min.loop" ⟨[.ref it,.none,.ref Z],kw⟩) R s:=by
 have zw:Z∉wr:=fun h=>hZ (W.sub _ h)
 have nm:(toString "min" ++ toString ".loop" : String) = "min.loop" := by decide
 refine U6 NU ?_;rw [UN UA _]
 show wpAny _ A.in1 (seqItems? (.ref Z) >>= _) _ _ s
 refine Kg (X5 hz rfl ?_)
 show wpAny _ A.in1 (tryCatch (pyNext (.ref it)) _ >>= _) _ _ s
 refine Kg (X7 (W.item 0 s _ _ hn st fun y g tk hy st' k=>?_))
 have hz':=k Z _ zw hz
 show wpAny _ A.in1 (updateSeq Z (fun _=>#[y,y]) >>= _) _ _ _
 refine Kg (N5 hz' rfl ?_)
 rw [nm]
 refine Ks ⟨Xl UA _,qdZ W bt hc Z hZ hw kw _ 0 _ y _ rfl hn (W.frame _ _ _ st' fun b h1 o e=>(Vy _ _ (fun h:Z=b=>hZ (by rw [h];exact h1))).trans e) hy
  (fun b o e=>(Vy _ _ (fun h:Z=b=>(hw b o e).2 h.symm)).trans (k b o (hw b o e).1 (hb b o e))) (Ui _ hz' rfl) fun v g2 tk2 h1 h2=>?_⟩
 exact hR v g2 tk2 h1 fun b o n1 n2 e=>h2 b o n1 n2 ((Vy _ _ (fun z=>n2 z.symm)).trans (k b o n1 e))
end
theorem Vals.back:∀ {vs:List V} {us:List Kb} {i:Nat} {u:Kb},Vals vs us->us[i]?=some u->∃ v,vs[i]?=some v/\RelV v u
 | _,_,_,_,.nil,h=>by simp at h
 | _,_,0,_,.cons r _,h=>by cases h;exact ⟨_,rfl,r⟩
 | _,_,i+1,_,.cons _ t,h=>by
  obtain ⟨v,hv,r⟩:=Vals.back t (i:=i) (by simpa using h)
  exact ⟨v,by simpa using hv,r⟩
theorem DenL.back {K:Kc}{H:Hp}{S:Av}:∀ {vs:List V} {ds:List Ka} {i:Nat} {v:V},DenL K H S vs ds->vs[i]?=some v->∃ d,ds[i]?=some d/\Den K H S v d
 | _,_,_,_,.nil,h=>by simp at h
 | _,_,0,_,.cons r _,h=>by cases h;exact ⟨_,rfl,r⟩
 | _,_,i+1,_,.cons _ t,h=>by
  obtain ⟨v,hv,r⟩:=DenL.back t (i:=i) (by simpa using h)
  exact ⟨v,by simpa using hv,r⟩
section
variable {s:Kf}{prog:Kx}{w:KG}{A:KI}{E:Kb->Kf->Prop}
theorem qdX {l:Kd}{items:Array Kb}{bt:Nat->Nat->Bool}{Q:Kb->Kf->Prop}(hh:A.handled=none)(hl:s.heap.IsList l items)(hn:0<items.size)
  (hc:∀ (i j:Nat) (x y:Kb) (s':Kf) (Q' E':Kb->Kf->Prop),j<i->(∀ b o,s.heap.get? b=some o->s'.heap.get? b=some o)->items[i]?=some x->items[j]?=some y->Q' (.bool (bt i j)) s'->wpAny (model prog w) A.in1 (richCompare .Lt x y) Q' E' s')
  (h:∀ v g tk,items[bestOf bt (items.size-1)]?=some v->(∀ b o,s.heap.get? b=some o->g.get? b=some o)->Q v { s with heap:=g,toks:=tk }):wpAny (model prog w) A (call (.builtin "min") [.ref l]) Q E s:=by
 have nm:(toString "min" ++ toString ".loop" : String) = "min.loop" := by decide
 have lt:∀ {b:Kd} {o:Obj},s.heap.get? b=some o->b<s.heap.objs.size:=fun e=>Ku e
 have hll:l<s.heap.objs.size:=by obtain ⟨o,e,_⟩:=id hl;exact lt e
 refine call_function_tree (id := "min") F.kind_min F.plain_min F.entry_min (F.args_min1 (.ref l)) ?_
 have par:Builtin.Builtins.bindParams "min" ["key", "default"] 0 ⟨[],[]⟩=pure [none,none]:=rfl
 refine (Kg (wpAny_of_eq par ?_):wpAny _ A.in1 (Builtin.Builtins.bindParams "min" _ 0 _ >>= _) _ _ s)
 refine Kg (Ks (Kg (wpAny_pyIter_list hl (Kg (Up ?_)))))
 rw [nm]
 refine Ks ⟨Xl UA _,qcK (h0:=s.heap) (Walks.list (A:=A.in1) hh _ l (K6 hll) items) bt (fun i j u v s' Q' E' hij k hu hv q=>hc i j u v s' Q' E' hij k hu hv q) _ ?_ (fun b o e=>?_) [] hn
  ⟨⟨_,Kk _ (K4 _ rfl),rfl,rfl⟩,(hl.push _).push _⟩ (fun b o e=>Kk _ (Kk _ e)) (K4 _ rfl) fun v g tk hv k=>?_⟩
 ·simp only [Uy]
  intro hm;simp only [Kq,V1,or_false] at hm
  rcases hm with hm|hm
  ·exact Nat.succ_ne_self _ hm
  ·exact absurd hm (Uo (UJ hll))
 ·have:=lt e
  simp only [Uy]
  exact ⟨fun hm=>absurd (KC.mp hm) (K6 this),K6 (UJ this)⟩
 ·refine h v g tk hv fun b o e=>k b o ?_ ?_ (Kk _ (Kk _ e))
  ·exact fun hm=>absurd (KC.mp hm) (K6 (lt e))
  ·have:=lt e
   simp only [Uy]
   exact K6 (UJ this)
end
section
variable {X:Cx}
def ji (ds:List Ka):Bool:=ds.all fun d=>Vp d&&decide (d.depth<=50)&&ds.all fun e=>(ltX d e).isSome
def zy (ds:List Ka)(i j:Nat):Bool:=match ds[i]?,ds[j]? with
 | some d,some e=>(ltX d e).getD false
 | _,_=>false
def Jf:List Ka->Option Ka
 | [.list ds]=>if ji ds=true/\ds.length<=1000 then ds[bestOf (zy ds) (ds.length-1)]? else none
 | _=>none
theorem qg9 {k:Nat}(hr:Room k X.A):CallD X (.builtin "min") Jf:=fun pins s σ H xs us Q I r ⟨S,ds,d,m,h1,e,q⟩=>by
 unfold Jf at e
 split at e
 ·rename_i ls
  split at e
  ·rename_i hc
   obtain ⟨v1,rfl,d1⟩:=h1.inv1
   obtain ⟨u1,rfl,r1⟩:=r.one
   cases d1 with
   | @list a ys _ hs t =>
    cases (show u1=KW a from r1)
    obtain ⟨its,rv,p,hz⟩:=I.list hs.sq
    have hl:=rv.length
    have ht:=t.length
    have hu:=hr.units
    have hpos:0<ls.length:=by
     cases ls with
     | nil=>cases e
     | cons=>exact Nat.zero_lt_succ _
    have get:∀ {i:Nat} {x:Kb},its.toArray[i]?=some x->∃ y d,ys[i]?=some y/\RelV y x/\ls[i]?=some d/\Den X.K H S y d:=fun {i x} hx=>by
     rw [Ek] at hx
     obtain ⟨hi,-⟩:=KL.mp hx
     have hi':i<ys.length:=by omega
     obtain ⟨y,hy,ry⟩:=Vals.back rv hx
     obtain ⟨d,hd,dd⟩:=t.back hy
     exact ⟨y,d,hy,ry,hd,dd⟩
    have ok:=KR.mp hc.1
    refine qdX (bt:=zy ls) hr.hd p.isList (by simp;omega) (fun i j x y s' Q' E' hij kp hx hy q'=>?_) fun v g tk hv kp=>?_
    ·obtain ⟨vx,dx,_,rx,ex,gx⟩:=get hx
     obtain ⟨vy,dy,_,ry,ey,gy⟩:=get hy
     have ox:=ok dx (KO ex)
     have oy:=ok dy (KO ey)
     rw [Ko,Ko] at ox oy
     obtain ⟨as,rx2⟩:=gx.reads I (K0 ox.1.1) rx
     obtain ⟨bs,ry2⟩:=gy.reads I (K0 oy.1.1) ry
     have lt:=KR.mp ox.2 dy (KO ey)
     obtain ⟨b,eb⟩:=NK.mp lt
     have ebt:zy ls i j=b:=by unfold zy;rw [ex,ey];show (ltX dx dy).getD false=b;rw [eb];rfl
     rw [ebt] at q'
     exact jA 50 _ _ X.A.in1 s' x y as bs b (of_decide_eq_true ox.1.2) (Reads.keeps kp rx2) (Reads.keeps kp ry2) (K0 ox.1.1) (K0 oy.1.1) (by show X.A.units+1+50+1<cLine;omega) eb X.prog X.w E' Q' q'
    ·obtain ⟨vx,dx,_,rx,ex,gx⟩:=get hv
     have hsz:its.toArray.size=ls.length:=by simp;omega
     rw [hsz] at ex
     rw [e] at ex
     cases ex
     exact ⟨vx,H,I.kept kp,rx,q _ H (Same.refl H) gx⟩
  ·cases e
 ·cases e
end
section
variable {X:Cx}{M:List Nat}{a b:Kw}{f fk:Rho->Option Ka}{pos:Pos}
def W3 (k v:Ka):Option Ka:=match k with
 | .int i=>some (.dict [(.int i,v)])
 | _=>none
theorem qaK {k v d:Ka}(e:W3 k v=some d):∃ i,k=.int i/\d=.dict [(.int i,v)]:=by
 unfold W3 at e
 split at e
 ·cases e;exact ⟨_,rfl,rfl⟩
 ·cases e
theorem qeo (hk:PD X M a fk)(hv:PD X M b f):PF X M (.Dict [some a] [b] pos) (ev2 fk f W3):=fun pins s σ H Q I ⟨S,ρ,d,hs,e,q⟩=>by
 obtain ⟨x,e1,e⟩:=qe e
 obtain ⟨y,e2,e⟩:=qe e
 obtain ⟨i,rfl,rfl⟩:=qaK e
 have hb:sysModules<s.heap.objs.size:=EB (by decide) (show mainGlobals<s.heap.objs.size from (I.mod.glob.keeps I.bk).lt)
 have hn:=I.hok.fresh (Km s.heap.objs.size)
 have dct:QD s.heap.objs.size [] 0 (s.heap.push { cls:=.type "dict", data:=.dict #[] }):=⟨Vz _,beq_eq_false_iff_ne.mpr (VY (K6 hb)),.inl ⟨[],.nil,_,#[],K4 _ rfl,⟨rfl,rfl,rfl⟩,rfl,rfl,Eh⟩⟩
 have I1:=I.laid (a:=s.heap.objs.size) (o:=DctO s.heap.objs.size [] 0) (t':=s.toks) (fun _ _ q=>Kk _ q) (Km _) dct.ok
 have g0:Same H (upd H s.heap.objs.size (DctO s.heap.objs.size [] 0)):=Same.lay hn
 have o0:OwnO X.K (upd H s.heap.objs.size (DctO s.heap.objs.size [] 0)) (insA S s.heap.objs.size) s.heap.objs.size (.dict []):=.dct (kvs:=[]) (ds:=[]) qI .nil .nil
 have hs1:=hs.insO g0 hn o0
 refine wpAny_Dict_walk (knd:=intKind X.prog X.w) rfl rfl (by simp) (show 1<=15 by decide) (pairTrees_cons_walk (thn (hk pins _ σ _ (fun v H2=>Same (upd H s.heap.objs.size (DctO s.heap.objs.size [] 0)) H2/\Den X.K H2 (insA S s.heap.objs.size) v (.int i)) I1 ⟨_,ρ,_,hs1,e1,fun v H2 g d=>⟨g,d⟩⟩) fun u s1 ⟨kv,H2,I2,rk,g2,dk⟩ =>
  thn (hv pins s1 σ H2 (fun v H3=>Same H2 H3/\Den X.K H3 (insA S s.heap.objs.size) v y) I2 ⟨_,ρ,_,hs1.same g2,e2,fun v H3 g d=>⟨g,d⟩⟩) fun w2 s2 ⟨vv,H3,I3,rv,g3,dv⟩=>pairTrees_nil_walk ?_))
 obtain ⟨rfl,t',rfl⟩:=Wl dk rk
 have hp3:H3 s.heap.objs.size=some (DctO s.heap.objs.size [] 0):=g3 _ _ (g2 _ _ qI)
 obtain ⟨_,hsys,vs,pk,dd⟩:=wV I3 hp3 (fun p hp=>by cases hp)
 cases pk
 refine ⟨[(i,w2)],⟨NB _ _ i t',rfl,V0⟩,dd,fun h' dd' hs'=>?_⟩
 obtain ⟨o,es,ep',k1,k2,k3,k4,k4',k5⟩:=dd'
 have dct':QD s.heap.objs.size [(.inl i,0,vv)] ep' h':=⟨VA (zj (show 1<=1000 by decide)),hsys,.inr ⟨[(i,w2)],.cons ⟨rfl,rv⟩ .nil,o,es,k1,k2,k3,jC k4' fun e he=>k4 e (Xg.mp he),k5⟩⟩
 refine ⟨.ref s.heap.objs.size,_,I3.write (x:=s.heap.objs.size) (e:=s.heap.objs.size) (by rw [hp3];exact V0) (.inl rfl) (fun c o' hc e=>(hs'.2 c hc).trans e) ⟨o,k1⟩ dct'.ok,rfl,?_⟩
 refine q _ _ (fun c o' hc=>?_) hn ?_
 ·rw [qD (qT hc hn)]
  exact g3 _ _ (g2 _ _ (g0 _ _ hc))
 ·refine .dct (kvs:=[(.inl i,0,vv)]) (ds:=[y]) qI (.cons (.int i) .nil) ((DenL.cons dv .nil).off ?_ (Off.upd (.inr rfl)))
  exact (hs1.1.same g2).same g3
end
def truD:Ka->Option Bool
 | .bool b=>some b
 | .none=>some false
 | .int i=>some (i != 0)
 | .list ds=>some (!ds.isEmpty)
 | .tuple ds=>some (!ds.isEmpty)
 | _=>none
def tW (f:Rho->Option Ka):Rho->Option Bool:=fun ρ=>ob (f ρ) truD
theorem yM {K:Kc}{H:Hp}{S:Av}{vs:List V}{ds:List Ka}(h:DenL K H S vs ds):vs.isEmpty=ds.isEmpty:=by cases h<;>rfl
section
variable {X:Cx}{M:List Nat}{a:Kw}{f:Rho->Option Ka}
theorem qgl (h:PD X M a f)(he:∀ whole,isTrue a X.env whole=(do let v ← whole;standAt a.pos;holding [v] (truthy v)):=by intro _;rfl):PDT X M a (tW f) :=
 (qez h he).weak fun σ H Q ⟨S,ρ,b,hs,e,q⟩=>by
  obtain ⟨x,e1,e⟩:=qe e
  refine ⟨S,ρ,x,hs,e1,fun v H1 g1 d1=>⟨b,?_,q H1 g1⟩⟩
  cases d1 with
  | none=>cases e;exact rfl
  | bool c=>cases e;exact rfl
  | int i=>cases e;exact rfl
  | list s t=>cases e;exact .inl ⟨_,s.sq,by rw [yM t]⟩
  | tuple s t=>cases e;exact .inr (.inl ⟨_,s,by rw [yM t]⟩)
  | str x=>cases e
  | dict a b c=>cases e
  | exc0 a b=>cases e
  | exc1 a b c d f=>cases e
  | ins a b=>cases e
end
def truO (d:Option Ka):Option Bool:=match d with | some d=>truD d|none=>none
theorem tW_b (f:Rho->Option Ka)(ρ:Rho):tW f ρ=truO (f ρ):=by
 unfold tW truO ob
 cases f ρ<;>rfl
theorem qiA:truO (some (.list []))=some false:=rfl
theorem qeX (d:Ka)(ds:List Ka):truO (some (.list (d::ds)))=some true:=rfl
end L2
namespace L2
open PySem
theorem qeL (i:Nat)(f:Rho->Option Ka)(ρ:Rho):Yr i f ρ=takO (decide (i<ρ.length/\ρ.length<=1000)) (f ρ) i ρ:=by
 unfold Yr ob takO
 by_cases h:i<ρ.length/\ρ.length<=1000
 ·rw [if_pos h,decide_eq_true h]
  cases f ρ<;>rfl
 ·rw [if_neg h,decide_eq_false h]
def bi2O (a b:Option Ka)(g:Ka->Ka->Option (List Ka)):Option (List Ka):=match a,b with | some x,some y=>g x y|_,_=>none
theorem qhg (fa fb:Rho->Option Ka)(g:Ka->Ka->Option (List Ka))(ρ:Rho):evI2 fa fb g ρ=bi2O (fa ρ) (fb ρ) g:=by
 unfold evI2 ob bi2O
 cases fa ρ<;>cases fb ρ<;>rfl
theorem qha (x y:Ka)(g:Ka->Ka->Option (List Ka)):bi2O (some x) (some y) g=g x y:=rfl
def kapO (c k d:Option Ka)(i:Nat)(ρ:Rho):Option Out:=match c,k,d with
 | some c,some k,some d=>ob (Jd c k) fun j=>ob (Y5 c j) fun l=>ob (appD l d) fun l'=>some (.nx (ρ.set i (some (Wm c j l'))))
 | _,_,_=>none
theorem qgD (i:Nat)(fk f:Rho->Option Ka)(ρ:Rho):Yq i fk f ρ=kapO (vr i ρ) (fk ρ) (f ρ) i ρ:=by
 unfold Yq kapO
 cases vr i ρ with
 | none=>rfl
 | some c =>
  cases fk ρ with
  | none=>rfl
  | some k =>
   cases f ρ with
   | some d=>rfl
   | none =>
    show ob (Jd c k) _=none
    cases Jd c k with
    | none=>rfl
    | some j =>
     show ob (Y5 c j) _=none
     cases Y5 c j<;>rfl
def nxdO (o:Option Ka)(i:Nat)(ρ:Rho):Option Out:=match o with | some l=>some (.nx (ρ.set i (some l)))|none=>none
theorem qhJ (l:Ka)(i:Nat)(ρ:Rho):nxdO (some l) i ρ=some (.nx (ρ.set i (some l))):=rfl
def dpO (d l k:Option Ka)(i:Nat)(ρ:Rho):Option Out:=match d,l,k with | some d,some l,some k=>nxdO (yL l k d) i ρ|_,_,_=>none
theorem dpO_s (d l k:Ka)(i:Nat)(ρ:Rho):dpO (some d) (some l) (some k) i ρ=nxdO (yL l k d) i ρ:=rfl
theorem qgC (i:Nat)(fk f:Rho->Option Ka)(ρ:Rho):Yp i fk f ρ=dpO (f ρ) (vr i ρ) (fk ρ) i ρ:=by
 unfold Yp dpO ob
 cases f ρ with
 | none=>rfl
 | some d =>
  cases vr i ρ with
  | none=>rfl
  | some l =>
   cases fk ρ with
   | none=>rfl
   | some k =>
    dsimp only
    unfold nxdO
    cases yL l k d<;>rfl
theorem qfL (a b:List Ka)(d:Ka)(i:Nat)(ρ:Rho):kapO (some (.tuple [.list a,.list b])) (some (.int 0)) (some d) i ρ=if a.length<1000 then some (.nx (ρ.set i (some (.tuple [.list (a++[d]),.list b])))) else none:=by
 show ob (appD (.list a) d) _=_
 rw [qaI]
 split<;>rfl
theorem qfM (a b:List Ka)(d:Ka)(i:Nat)(ρ:Rho):kapO (some (.tuple [.list a,.list b])) (some (.int 1)) (some d) i ρ=if b.length<1000 then some (.nx (ρ.set i (some (.tuple [.list a,.list (b++[d])])))) else none:=by
 show ob (appD (.list b) d) _=_
 rw [qaI]
 split<;>rfl
end L2
namespace L2
open PySem PySem.Spec PyProof.Rows
theorem Kids.snoc {K:Kc}{H:Hp}{S:Av}{p:Kd}{xs:List V}{es:List Ka}(h:H p=some (.lst xs))(t:DenL K H S xs es):∀ {qs:List Kd} {ds:List Ka},p∉qs->Kids K H S qs ds->Kids K H S (qs++[p]) (ds++[.list es])
 | _,_,_,.nil=>.cons h t (fun z=>nomatch z) .nil
 | _,_,n,.cons h' t' n' r=>.cons h' t' (fun z=>(KQ.mp z).elim n' fun z=>n (by rw [KC.mp z];exact .head _)) (Kids.snoc h t (fun z=>n (.tail _ z)) r)
theorem qgT {S:Av}{p:Kd}{qs:List Kd}:insL S (qs++[p])=insA (insL S qs) p:=by
 funext a
 unfold insL insA
 rw [KQ,KC,or_assoc]
section
variable {X:Cx}{G:Gm}{M M' Mb L:List Nat}{fr:Fr}{f:Rho->Option Ka}{p:Rho->Option Bool}{pos:Pos}
def qbB (n k:Nat)(fi:Rho->Option (List Ka))(g:Ka->Rho->Option Rho)(p:Rho->Option Bool)(f:Rho->Option Ka):Rho->Option Ka:=fun ρ=>ob (Zn n k fi g p f ρ) fun d=>match d with | .list ds=>if ds.all qbN=true then some (.list ds) else none|_=>none
theorem qgH {K:Kc}{n k:Nat}{fi:Rho->Option (List Ka)}{g:Ka->Rho->Option Rho}(hg:GIn n k g):∀ σ H Q,tVd K M (qbB n k fi g p f) σ H Q->wJ k (tDI K M fi) (tDGc K M g) (tDT K M p) (tF K M f) σ H Q:=by
 intro σ H Q ⟨S,ρ,d,hs,e,q⟩
 obtain ⟨d',e0,e⟩:=qe e
 obtain ⟨ds,ys,e1,hn,hz,e2,rfl⟩:=jx e0
 have e:(if ys.all qbN=true then some (Um ys) else none)=some d:=e
 split at e
 case isFalse=>cases e
 rename_i hall
 cases e
 refine ⟨S,ρ,ds,hs,e1,fun J H1 g1 hJ0=>?_⟩
 have hJ:=hJ0 H1 fun _ _ _ z=>z
 have z1000:1000<sizeLine:=zj (Km _)
 refine ⟨fun i m zs σ' H'=>m=ds.length-i/\i<=ds.length/\zs.length<=i/\Same H1 H'/\∃ qs pre rest,zs=qs.map V.ref/\(∀ r∈qs,H1 r=none)/\DenS K H' (insL S qs) M σ' (ρ++Vc k none)/\Kids K H' (insL S qs) qs pre/\Qm k g p f ρ (ds.drop i)=some rest/\pre++rest=ys,
  ⟨ds.length,by simp,Vz _,Km _,Same.refl _,[],[],ys,rfl,(fun _ z=>nomatch z),?_,.nil,e2,rfl⟩,?_⟩
 ·have h0:=(hs.same g1).more k
  have sb:∀ a,insL S [] a->S a:=fun a z=>z.elim id fun y=>absurd y (by simp)
  exact ⟨h0.1.sub sb,h0.2.1,fun i d hi q=>let ⟨v,a,b⟩:=h0.2.2 i d hi q;⟨v,a,b.sub fun a _ z=>sb a z⟩⟩
 rintro i m zs σ' H' ⟨rfl,hi,hzi,g2,qs,pre,rest,rfl,new,hS,kids,er,rfl⟩
 by_cases hlt:i<ds.length
 ·refine .inr ⟨hJ.go i H' g2 hlt,fun x H2 y=>?_⟩
  obtain ⟨g2',yd⟩:=hJ.yld i H' x H2 g2 y
  have hd:=yd _ (Kj hlt) (insL S qs) fun y e q=>(q.sub fun a ha z=>z.elim id fun y=>absurd (new a y) ha).same (g2.trans g2')
  rw [VU hlt] at er
  obtain ⟨ρ1,r1,er⟩:=qe er
  obtain ⟨bb,b1,er⟩:=qe er
  obtain ⟨r',hr',rfl⟩:=hg _ ρ _ ρ1 hn (VR) r1
  have g2:=g2.trans g2'
  have kids:=kids.same g2'
  refine ⟨insL S qs,_,_,_,hS.same g2',hd,r1,fun σ3 H3 g3 hS3=>⟨insL S qs,_,bb,hS3,b1,fun H4 g4=>?_⟩⟩
  cases bb with
  | true =>
   rw [if_pos rfl] at er
   obtain ⟨y1,e3,er⟩:=qe er
   obtain ⟨ys1,e4,er⟩:=qe er
   cases er
   refine iteT ⟨insL S qs,_,y1,hS3.same g4,e3,fun r H5 g5 n5 o5=>⟨by rw [Kh] at hzi;rw [Kh];omega,ds.length-(i+1),by omega,rfl,hlt,?_,g2.trans (g3.trans (g4.trans g5)),qs++[r],pre++[y1],ys1,by simp,?_,?_,?_,e4,by simp⟩⟩
   ·rw [Kp,Kv];exact NN hzi
   ·intro a ha
    rcases KQ.mp ha with z|z
    ·exact new a z
    ·rw [KC.mp z];exact (g2.trans (g3.trans g4)).free n5
   ·rw [qgT]
    exact ((hS3.same g4).insO g5 n5 o5).forget hr'
   ·rw [qgT]
    have k4:Kids K H5 (insA (insL S qs) r) qs pre:=((kids.same (g3.trans g4)).sub fun a ha z=>z.elim id fun y=>absurd (by rw [y];exact n5) ha).same g5
    have nr:r∉qs:=fun z=>by
     obtain ⟨o,ho,_⟩:=(kids.same (g3.trans g4)).mut r z
     rw [n5] at ho;cases ho
    cases o5 with
    | lst h t=>exact Kids.snoc h t nr k4
    | dct h kk t =>
     rw [List.all_append,List.all_cons] at hall
     simp [qbN] at hall
  | false =>
   rw [if_neg Ug] at er
   exact iteF ⟨ds.length-(i+1),by omega,rfl,hlt,by omega,g2.trans (g3.trans g4),qs,pre,rest,rfl,new,(hS3.same g4).forget hr',kids.same (g3.trans g4),er,rfl⟩
 ·have hi':i=ds.length:=by omega
  subst hi'
  rw [XM] at er
  cases er
  refine .inl ⟨hJ.stop H' g2,fun D hD=>?_⟩
  have nD:D∉qs:=fun z=>by
   obtain ⟨o,ho,_⟩:=kids.mut D z
   rw [hD] at ho;cases ho
  refine q D (D::qs) _ ((g1.trans g2).lay' hD) (fun r hr=>?_) ?_
  ·rcases Kq.mp hr with e|hr
   ·rw [e];exact (g1.trans g2).free hD
   ·exact g1.free (new r hr)
  ·rw [VN]
   refine .lst qI nD ((kids.sub fun a ha z=>?_).same (Same.lay hD))
   rcases z with z|z
   ·exact .inl z
   ·rcases Kq.mp z with e|z
    ·rw [e] at ha;exact absurd hD ha
    ·exact .inr z
variable {elt iter tg:Kw}{ifs:List Kw}{x:Str}{N':List Str}{px:Pos}{sc:Vq}{n k:Nat}{fi:Rho->Option (List Ka)}{g:Ka->Rho->Option Rho}
theorem qcR (j:Nat){y:Str}{py spos:Pos}(O:CompOk X N' k sc)(gi:GIn n k g)(sc₀:Vq)(hsc:X.env.scope=sc₀)(hB:swB sc₀ sc y py pos=true)(hM:Out0 M j)(hL:j∉L)(hi:PDI X M tg iter fi)(hg:∀ cl C fp pins s H,PDGc (qJ X N' sc cl C fp pins s H) M tg g)(hq:∀ cl C fp pins s H,PDTs (qJ X N' sc cl C fp pins s H) M ifs p)(he:∀ cl C fp pins s H,PF (qJ X N' sc cl C fp pins s H) M elt f)
  (hj:X.N[j]?=some y:=by rfl) (hbk:X.env.blockKind=.function:=by rfl)
  (hs:∀ v,foldedSetIterable iter X.env v=pure v:=by intro _;rfl):PDS X G M L (j::(j+1000)::M) Mb fr (.Assign [.Name y py] (.ListComp elt [⟨tg,iter,ifs,0⟩] sc pos) spos) (Yr j (qbB n k fi g p f)) :=
 (Wx (wg:=tDGc X.K M g) (tt:=tDT X.K M p) (te:=tF X.K M f) O hj (Ju hsc hB) hi hg hq he (qeS hsc hB hbk) hs).weak fun D σ H ⟨S,ρ,o,hs,e,q⟩=>by
  unfold Yr at e
  split at e
  ·rename_i hz
   obtain ⟨d,e1,e⟩:=qe e
   cases e
   exact qgH gi σ H _ ⟨S,ρ,d,hs.ds,e1,fun p fp H1 g1 n o=>q _ H1 _ (hs.takeD n g1 o hM hL hz.1 hz.2)⟩
  ·cases e
end
def scB (N P G:List Str)(sc:Vq):Bool :=
 decide (sc.kind=.function)&&(decide (sc.isCoroutine=false)&&(decide (sc.isGenerator=false)&&(decide N.Nodup&&(decide (N.take P.length=P)&&(P.all (locB sc)&&(sc.names.all (fun y=>decide (y.2≠.free))&&(N.all (fun x=>visB sc x&&locB sc x)&&G.all (glB sc))))))))
structure ScOk (N P G:List Str)(sc:Vq):Prop where
 fs:FnScope N P sc
 nm:∀ x∈N,visB sc x=true/\locB sc x=true
 gb:∀ x∈G,glB sc x=true
theorem scmk {N P G:List Str}{sc:Vq}(h:scB N P G sc=true):ScOk N P G sc:=by
 unfold scB at h
 simp only [Ko,decide_eq_true_eq,KR] at h
 obtain ⟨h1,h2,h3,h4,h5,h6,h7,h8,h9⟩:=h
 exact ⟨⟨h1,h2,h3,h4,h5,fun x hx=>qdY (h6 x hx),h7⟩,h8,h9⟩
section
variable {N P G:List Str}{sc:Vq}{x:Str}
theorem ScOk.vis (S:ScOk N P G sc)(i:Nat)(e:N[i]?=some x):Vis sc x:=J2 (S.nm x (KO e)).1
theorem ScOk.loc (S:ScOk N P G sc)(i:Nat)(e:N[i]?=some x):Loc sc x:=qdY (S.nm x (KO e)).2
theorem ScOk.gl {X:Cx}(S:ScOk N P G sc)(i:Nat)(e:G[i]?=some x)(hs:X.env.scope=sc):Gl X x:=qgS sc hs (S.gb x (KO e))
end
def FnK (K:Kc)(n:Str)(st:KY):Prop:=∃ (f:Kd) (fd:Vi),KF K mainGlobals n=some (some (.ref f))/\Fun K n n st f fd
theorem FnK.of {K:Kc}{n:Str}{st:KY}{f:Kd}{oc:Kb}{od an:Option Kd}{osl:Array (Option Kb)}{kV doc pm cdv ct:Kb}(a:KF K mainGlobals n=some (some (.ref f)))(l:K.lookup f=some ⟨oc,od,.func (Uc n n (QW st) (zH st) (qt st) .none kV doc pm an cdv ct),osl⟩)
  (c:UQ K cdv n=true) (k:VT K (.ref f)=true):FnK K n st:=⟨f,_,a,qaP l c k⟩
theorem yK (f:Array Kb->Array Kb)(o:Obj):(Xm f o).dict=o.dict:=by
 obtain ⟨c,d,dt,sl⟩:=o
 cases dt<;>rfl
structure TrD (h B:KA)(e:Kd)(cls a0:Kb)(dd:Option Kd)(fl:Kb):Prop where
 ex:∃ o fs T p ts,h.get? e=some o/\o.data=.fields fs/\o.cls=cls/\o.dict=dd/\fs[0]?=some a0/\fs[1]?=some (.ref T)/\T≠e/\B.get? T=none/\h.get? T=some p/\p.data=.fields ts/\ts[3]?=some fl
section
variable {h g B:KA}{l:List Env}{e x:Kd}{o:Obj}{fs:Array Kb}{i:Nat}{v:Kb}
theorem Jm (hb:x≠e):(h.update e (Xm (·.setIfInBounds i v))).get? x=h.get? x:=Vy _ _ (VY hb)
theorem qb6 (he:h.get? e=some o)(hd:o.data=.fields fs):∃ o',(h.update e (Xm (·.setIfInBounds i v))).get? e=some o'/\o'.data=.fields (fs.setIfInBounds i v)/\o'.cls=o.cls/\o'.dict=o.dict :=
 ⟨_,Ui _ he (Obj.isFreed_of_fields (Obj.data_mapFields hd _)),Obj.data_mapFields hd _,Obj.cls_mapFields _ _,yK _ _⟩
theorem Wy (he:h.get? e=some o)(hd:o.data=.fields fs):h.UpToSlots (h.update e (Xm (·.setIfInBounds i v))):=fun b ob hb nf=>by
 have nb:b≠e:=fun z=>by
  rw [z,he] at hb
  cases hb
  exact nf _ hd
 exact ⟨ob.slots,by rw [Jm nb];exact hb⟩
theorem JT (hB:B.StaysIn h)(hn:B.get? e=none):B.StaysIn (h.update e (Xm (·.setIfInBounds i v))):=fun b ob hb=>by
 rw [Jm fun z=>by rw [z,hn] at hb;cases hb]
 exact hB b ob hb
theorem J0 (u:h.UpToSlots g)(F:h.FunFrames B l):g.FunFrames B l:=F.of_keeps fun b ob hb nf=>by
 obtain ⟨sl,z⟩:=u b ob hb nf
 exact ⟨_,z,rfl⟩
end
section
variable {M:Model}{A:KI}{E:Kb->Kf->Prop}{s:Kf}{B:KA}{env:Env}{outer:List Env}{L e:Kd}{cls a0 fl:Kb}{dd:Option Kd}{Q:Unit->Kf->Prop}
theorem YT {o:Obj}{fs:Array Kb}{hd:Kb}{nx:Bool}(fr:A.frames=some (env::outer))(F:s.heap.FunFrames B (env::outer))(hf:env.frame=some L)(he:s.heap.get? e=some o)(hB:B.StaysIn s.heap)(hn:B.get? e=none)(ho:o.data=.fields fs)(hz:1<fs.size)(h0:fs[0]?=some a0)
  (k:∀ h',B.StaysIn h'->h'.FunFrames B (env::outer)->TrD h' B e o.cls a0 o.dict (rawInt L)->s.heap.UpToSlots h'->Q () { s with heap:=h' }) :
  wpAny M A (do let a ← frameOf env;let pl ← entryPlaceOf L nx;let b ← EntryCells.newEntry hd a .none (rawInt L) .none pl;setField (.ref e) 1 b) Q E s:=by
 refine Kg (wpAny_frameOf_fun fr F hf fun g sl=>Kg (wpAny_entryPlaceOf fun pl hpl=>?_))
 have nf:e∉(env::outer).filterMap (·.frame):=fun z=>by
  obtain ⟨_,o',y,n⟩:=F.mem z
  rw [he] at y
  cases y
  exact n _ ho
 have e1:g.get? e=some o:=(sl.2.1 e nf).trans he
 have b1:B.StaysIn g:=fun b ob y=>(sl.2.1 b fun z=>by rw [(F.mem z).1] at y;cases y).trans (hB b ob y)
 have u1:s.heap.UpToSlots g:=fun b ob y _=>sl.2.2 b ob y
 unfold EntryCells.newEntry newFields
 refine Kg (Up ?_ (hpl.sizeOk5 _ _ _ _ _))
 generalize hp:(Vf (VV "traceback") none (UP ([hd,KW L,VH,rawInt L,VH]++(if pl.isEmpty=true then Vc 6 VH else pl)).toArray) #[])=p
 have t1:∃ ts,p.data=.fields ts/\ts[3]?=some (rawInt L):=⟨_,by rw [← hp],by rw [Ek];rfl⟩
 obtain ⟨ts,pd,p3⟩:=t1
 have e2:(g.push p).get? e=some o:=Kk _ e1
 have eT:(g.push p).get? g.objs.size=some p:=K4 g (by rw [← hp];rfl)
 have nT:g.objs.size≠e:=Uo (Ku e1)
 have k2:∀ b ob,g.get? b=some ob->(g.push p).get? b=some ob:=fun b ob y=>Kk _ y
 refine El e2 ho hz ?_
 obtain ⟨o',a1,a2,a3,a4⟩:=qb6 (i:=1) (v:=.ref g.objs.size) e2 ho
 have u2:s.heap.UpToSlots ((g.push p).update e (Xm (·.setIfInBounds 1 (.ref g.objs.size)))):=(u1.trans (.of_keeps k2)).trans (Wy e2 ho)
 refine k _ (JT (fun b ob y=>k2 b ob (b1 b ob y)) hn) (J0 u2 F) ⟨o',_,g.objs.size,p,ts,a1,a2,a3,a4,?_,?_,nT,b1.fresh,?_,pd,p3⟩ u2
 ·rw [Array.getElem?_setIfInBounds_ne (by decide)];exact h0
 ·rw [XF,if_pos hz]
 ·rw [Jm nT];exact eT
theorem qa5 {o:Obj}{fs:Array Kb}(fr:A.frames=some (env::outer))(F:s.heap.FunFrames B (env::outer))(hf:env.frame=some L)(he:s.heap.get? e=some o)(hB:B.StaysIn s.heap)(hn:B.get? e=none)(ho:o.data=.fields fs)(h1:fs[1]?=some .none)(h0:fs[0]?=some a0)
  (k:∀ h',B.StaysIn h'->h'.FunFrames B (env::outer)->TrD h' B e o.cls a0 o.dict (rawInt L)->s.heap.UpToSlots h'->Q () { s with heap:=h' }):wpAny M A (noteFrame (.ref e) env) Q E s:=by
 unfold noteFrame
 simp only [hf]
 refine Kg (Xp he ho h1 ?_)
 rw [if_neg (by decide)]
 exact YT fr F hf he hB hn ho (UH.mp h1).1 h0 k
theorem qbY (fr:A.frames=some (env::outer))(F:s.heap.FunFrames B (env::outer))(hf:env.frame=some L)(t:TrD s.heap B e cls a0 dd .none)(hB:B.StaysIn s.heap)(hn:B.get? e=none)
  (k:∀ h',B.StaysIn h'->h'.FunFrames B (env::outer)->TrD h' B e cls a0 dd (rawInt L)->s.heap.UpToSlots h'->Q () { s with heap:=h' }):wpAny M A (noteFrame (.ref e) env) Q E s:=by
 obtain ⟨o,fs,T,p,ts,he,ho,rfl,rfl,h0,h1,nT,bT,hT,hp,h3⟩:=t.ex
 unfold noteFrame
 simp only [hf]
 refine Kg (Xp he ho h1 ?_)
 rw [if_pos (show (KW T != VH)=true by simp)]
 refine Kg (Xp hT hp h3 ?_)
 rw [if_neg (show ¬ (VH==rawInt L)=true by simp [rawInt])]
 refine Kg (El hT hp (UH.mp h3).1 ?_)
 have u:=Wy (i:=3) (v:=.none) hT hp
 exact YT fr (J0 u F) hf (by rw [Jm nT.symm];exact he) (JT hB bT) hn ho (UH.mp h1).1 h0 fun h' x1 x2 x3 x4=>k h' x1 x2 x3 (u.trans x4)
theorem Zq {l:List Env}(Fl:s.heap.FunFrames B l)(t:TrD s.heap B e cls a0 dd fl)(hB:B.StaysIn s.heap)
  (k:∀ h',B.StaysIn h'->h'.FunFrames B l->TrD h' B e cls a0 dd .none->s.heap.UpToSlots h'->Q () { s with heap:=h' }):wpAny M A (setFlight (.ref e) none) Q E s:=by
 obtain ⟨o,fs,T,p,ts,he,ho,rfl,rfl,h0,h1,nT,bT,hT,hp,h3⟩:=t.ex
 have z3:=(UH.mp h3).1
 unfold setFlight
 refine Kg (Xp he ho h1 ?_)
 rw [if_pos (show (KW T != VH)=true by simp)]
 refine El hT hp z3 ?_
 have u:=Wy (i:=3) (v:=.none) hT hp
 obtain ⟨p',b1,b2,_,_⟩:=qb6 (i:=3) (v:=.none) hT hp
 exact k _ (JT hB bT) (J0 u Fl) ⟨o,fs,T,p',_,by rw [Jm nT.symm];exact he,ho,rfl,rfl,h0,h1,nT,bT,b1,b2,by rw [XF,if_pos z3]⟩ u
end
def FlyD (B:KA)(l:List Env)(e:Kd)(cls a0:Kb)(dd:Option Kd)(h:KA):Prop:=B.StaysIn h/\B.get? e=none/\h.FunFrames B l/\TrD h B e cls a0 dd .none
def HldD (B:KA)(l:List Env)(e:Kd)(cls a0:Kb)(dd:Option Kd)(L:Kd)(h:KA):Prop:=B.StaysIn h/\B.get? e=none/\h.FunFrames B l/\TrD h B e cls a0 dd (rawInt L)
theorem FlyD.first {B h:KA}{l:List Env}{e:Kd}{cls a0:Kb}{dd:Option Kd}(x:FlyD B l e cls a0 dd h):∃ o fs,h.get? e=some o/\o.cls=cls/\o.data=.fields fs/\o.dict=dd:=by
 obtain ⟨o,fs,_,_,_,he,ho,h1,h2,_⟩:=x.2.2.2.ex
 exact ⟨o,fs,he,h1,ho,h2⟩
section
variable {M:Model}{A:KI}{E:Kb->Kf->Prop}{s:Kf}{B:KA}{env:Env}{outer:List Env}{L e:Kd}{cls a0:Kb}{dd:Option Kd}{Q:Unit->Kf->Prop}
theorem qah {o:Obj}{fs:Array Kb}(fr:A.frames=some (env::outer))(F:s.heap.FunFrames B (env::outer))(hf:env.frame=some L)(he:s.heap.get? e=some o)(hB:B.StaysIn s.heap)(hn:B.get? e=none)(ho:o.data=.fields fs)(h1:fs[1]?=some .none)(h0:fs[0]?=some a0)
  (k:∀ h',FlyD B outer e o.cls a0 o.dict h'->s.heap.UpToSlots h'->Q () { s with heap:=h' }):wpAny M A (leaving env (.ref e)) Q E s:=by
 unfold leaving
 refine Kg (qa5 fr F hf he hB hn ho h1 h0 fun h' x1 x2 x3 x4=>Zq x2 x3 x1 fun h2 y1 y2 y3 y4=>k h2 ⟨y1,hn,?_,y3⟩ (x4.trans y4))
 obtain ⟨_,_,z⟩:=y2
 exact z
theorem qdV (fr:A.frames=some (env::outer))(hf:env.frame=some L)(x:FlyD B (env::outer) e cls a0 dd s.heap)(k:∀ h',FlyD B outer e cls a0 dd h'->s.heap.UpToSlots h'->Q () { s with heap:=h' }):wpAny M A (leaving env (.ref e)) Q E s:=by
 unfold leaving
 refine Kg (qbY fr x.2.2.1 hf x.2.2.2 x.1 x.2.1 fun h' x1 x2 x3 x4=>Zq x2 x3 x1 fun h2 y1 y2 y3 y4=>k h2 ⟨y1,x.2.1,?_,y3⟩ (x4.trans y4))
 obtain ⟨_,_,z⟩:=y2
 exact z
theorem qfU (fr:A.frames=some (env::outer))(hf:env.frame=some L)(x:FlyD B (env::outer) e cls a0 dd s.heap)(k:∀ h',HldD B (env::outer) e cls a0 dd L h'->s.heap.UpToSlots h'->Q () { s with heap:=h' }):wpAny M A (noteFrame (.ref e) env) Q E s :=
 qbY fr x.2.2.1 hf x.2.2.2 x.1 x.2.1 fun h' x1 x2 x3 x4=>k h' ⟨x1,x.2.1,x2,x3⟩ x4
theorem land {l:List Env}(x:HldD B l e cls a0 dd L s.heap)(k:∀ h',FlyD B l e cls a0 dd h'->s.heap.UpToSlots h'->Q () { s with heap:=h' }):wpAny M A (setFlight (.ref e) none) Q E s :=
 Zq x.2.2.1 x.2.2.2 x.1 fun h' x1 x2 x3 x4=>k h' ⟨x1,x.2.1,x2,x3⟩ x4
theorem qfP {l:List Env}(x:FlyD B l e cls a0 dd s.heap)(k:∀ h',FlyD B l e cls a0 dd h'->s.heap.UpToSlots h'->Q () { s with heap:=h' }):wpAny M A (setFlight (.ref e) none) Q E s :=
 Zq x.2.2.1 x.2.2.2 x.1 fun h' x1 x2 x3 x4=>k h' ⟨x1,x.2.1,x2,x3⟩ x4
end
structure Fly (l:List Env)(H H':Hp)(g h B:KA)(a:Kd)(cls:Kb)(t:Kd)(dd:Option Kd):Prop where
 fl:FlyD B l a cls (.ref t) dd h
 trk:∀ b u,H' b=some u->∀ o,h.get? b=some o->B.get? b=some o
 old:∀ b o,g.get? b=some o->H b=none->b∉frs l->B.get? b=some o
 dom:∀ b o,g.get? b=some o->b∉frs l->∃ o',B.get? b=some o'
 un:Un (frs l) [] H H' g h
def CX1 (P:Kx)(w:KG):CXT:=fun outer H s E e s'=>∃ a H' cls t B dd,e=.ref a/\s'.os=s.os/\Xo s'.gens/\HOk P w H' s'.heap/\Fly outer H H' s.heap s'.heap B a cls t dd/\E cls dd H'
theorem zK.ex {P:Kx}{w:KG}{H:Hp}{h:KA}{a:Kd}{o:HO}(x:zK P w H h a o):∃ ob,h.get? a=some ob:=by
 cases o with
 | lst xs=>obtain ⟨_,_,_,_,e⟩:=x;exact ⟨_,e⟩
 | tup xs=>obtain ⟨_,_,_,_,e,_⟩:=x;exact ⟨_,e⟩
 | dK kvs=>obtain ⟨_,_,_,_,o,_,_,e,_⟩:=x;exact ⟨_,e⟩
 | dT kvs=>obtain ⟨_,_,_,_,o,_,_,e,_⟩:=x;exact ⟨_,e⟩
 | set S n=>obtain ⟨o,_,_,_,e,_⟩:=x;exact ⟨_,e⟩
 | ins C dx fs=>obtain ⟨_,_,_,e,_⟩:=x;exact ⟨_,e⟩
 | own y=>obtain ⟨_,e⟩:=x;exact ⟨_,e⟩
 | xd fs=>obtain ⟨_,⟨_,_,_,e,_⟩,_⟩:=x;exact ⟨_,e⟩
 | rng lo hi=>obtain ⟨_,_,_,e⟩:=x;exact ⟨_,e⟩
 | frz ob u=>exact ⟨_,x.1⟩
 | tbl ps=>exact ⟨_,(show h.get? a=some _ from x)⟩
 | met f y=>exact ⟨_,(show h.get? a=some _ from x)⟩
 | ext φ=>exact x.2.1
section
variable {P:Kx}{w:KG}{l l':List Env}{H H':Hp}{g h h' B:KA}{a t:Kd}{cls:Kb}{dd:Option Kd}
theorem Fly.hok (F:Fly l H H' g h B a cls t dd)(k:HOk P w H' h)(fl':FlyD B l' a cls (.ref t) dd h'):HOk P w H' h':=fun b u e =>
 (k b u e).stay (fun c v hc q=>by
  have:H' c≠none:=by
   rcases hc with z|z
   ·rw [z,e];exact fun y=>nomatch y
   ·rw [z];exact fun y=>nomatch y
  obtain ⟨u',hu⟩:=Nq.mp this
  exact fl'.1 _ _ (F.trk c u' hu v q)) (fun _ q=>q) fun _ _ q=>q
theorem Fly.step (F:Fly l H H' g h B a cls t dd)(k:HOk P w H' h)(fl':FlyD B l a cls (.ref t) dd h')(up:h.UpToSlots h'):Fly l H H' g h' B a cls t dd where
 fl:=fl'
 trk:=fun b u e o q=>by
  obtain ⟨o1,h1⟩:∃ o1,h.get? b=some o1:=(k b u e).ex
  have h2:=F.trk b u e o1 h1
  have h3:=fl'.1 _ _ h2
  rw [q] at h3
  cases h3
  exact h2
 old:=F.old
 dom:=F.dom
 un:={
  keep:=fun b o e n hb _=>fl'.1 _ _ (F.old b o e n hb)
  slot:=fun b o e n hb hx=>by
   obtain ⟨sl,e1⟩:=F.un.slot b o e n hb hx
   obtain ⟨_,o',e2,nf⟩:=F.fl.2.2.1.mem hb
   rw [e1] at e2
   cases e2
   obtain ⟨sl',e3⟩:=up b _ e1 nf
   exact ⟨sl',e3⟩
  free:=F.un.free
  there:=fun b o e _=>by
   by_cases hb:b∈frs l
   ·obtain ⟨_,o',e2,nf⟩:=F.fl.2.2.1.mem hb
    obtain ⟨sl',e3⟩:=up b _ e2 nf
    exact ⟨_,e3⟩
   ·obtain ⟨o',e'⟩:=F.dom b o e hb
    exact ⟨o',fl'.1 _ _ e'⟩
  tups:=F.un.tups
  frzs:=F.un.frzs
  tbls:=F.un.tbls }
end
abbrev exO (C:Kd)(od:Option Kd)(t:Kd):Obj:={ cls:=.ref C,dict:=od,data:=.fields #[.ref t,.none,.none,.none,.bool false,.none] }
def DxD (K:Kc)(H:Hp)(dd:Option Kd)(y:Ka):Prop:=y=.none\/∃ n d dx v,y=.tuple [.str n,d]/\flat d=true/\dd=some dx/\H dx=some (.xd [(n,v)])/\Den K H (fun _=>False) v d
def XMade (X:Cx)(pins:List (Kd×Obj))(G:Gm)(M L:List Nat)(ρ:Rho)(a C:Kd)(y:Ka)(s':Kf):Prop :=
 ∃ σ H S od t,Inv X pins σ H s'/\OwnS X.K G M L H S σ ρ/\DxD X.K H od y/\H a=none/\(X.ex=[]->X.s₀.heap.get? a=none)/\s'.heap.get? a=some (exO C od t)
def qgN (X:Cx)(pins:List (Kd×Obj))(G:Gm)(M L:List Nat)(ρ:Rho)(a C:Kd)(y:Ka)(s':Kf):Prop :=
 ∃ σ H S s1 H' B t dd,DxD X.K H' dd y/\Inv X pins σ H s1/\OwnS X.K G M L H S σ ρ/\Same H H'/\s'.os=s1.os/\Xo s'.gens/\HOk X.prog X.w H' s'.heap/\Fly X.stack H H' s1.heap s'.heap B a (.ref C) t dd
def XCls (K:Kc)(c:Str)(C:Kd):Prop:=KF K mainGlobals c=some (some (.ref C))/\xcB K C=true
def XAt (X:Cx)(o:Bool)(pins:List (Kd×Obj))(G:Gm)(M L:List Nat)(x:Ka)(ρ:Rho)(e:Kb)(s':Kf):Prop :=
 ∃ a c C y,e=.ref a/\x=excD c y/\XCls X.K c C/\((o=false/\XMade X pins G M L ρ a C y s')\/qgN X pins G M L ρ a C y s')
def PDX (X:Cx)(o:Bool)(G:Gm)(M L Mx:List Nat)(st:KY)(w:Rho->Option (Ka×Rho)):Prop :=
 ∀ (pins:List (Kd×Obj)) (s:Kf) (σ:St) (H:Hp) (S:Av) (ρ ρ':Rho) (x:Ka),Inv X pins σ H s->OwnS X.K G M L H S σ ρ->w ρ=some (x,ρ')->
  wpAny (model X.prog X.w) X.A (exec st X.env) (fun _ _=>False) (XAt X o pins G Mx L x ρ') s
def PDXs (X:Cx)(o:Bool)(G:Gm)(M L Mx:List Nat)(st:List KY)(w:Rho->Option (Ka×Rho)):Prop :=
 ∀ (pins:List (Kd×Obj)) (s:Kf) (σ:St) (H:Hp) (S:Av) (ρ ρ':Rho) (x:Ka),Inv X pins σ H s->OwnS X.K G M L H S σ ρ->w ρ=some (x,ρ')->
  wpAny (model X.prog X.w) X.A (execs st X.env) (fun _ _=>False) (XAt X o pins G Mx L x ρ') s
section
variable {X:Cx}{pins:List (Kd×Obj)}{σ:St}{H H':Hp}{s s':Kf}{G:Gm}{S:Av}
theorem Inv.stkLoc (I:Inv X pins σ H s){b:Kd}{o:Obj}(e:X.s₀.heap.get? b=some o)(h:b∉X.fs):b∉frs X.stack:=fun z=>by
 rcases Kq.mp (I.stkSub b z) with y|y
 ·exact absurd (Ku e) (by rw [y];exact Nat.not_lt.mpr I.ok.above)
 ·exact h y
theorem qaY {E:Kb->Kf->Prop}{Q:Unit->Kf->Prop}{a C t:Kd}{od:Option Kd}(I:Inv X pins σ H s)(hHa:H a=none)(hs0:X.s₀.heap.get? a=none)(ha:s.heap.get? a=some (exO C od t))(hst:X.stack=X.env::X.outer)(hfr:X.env.frame=some X.env.locals)(hex:X.ex=[])
  (hq:∀ h',HOk X.prog X.w H h'->Fly X.outer X.H₀ H X.s₀.heap h' (UE s.heap (a::frs X.stack)) a (.ref C) t od->Q () { s with heap:=h' }):wpAny (model X.prog X.w) X.A (leaving X.env (.ref a)) Q E s:=by
 have noex:∀ b,b∉X.ex:=fun b z=>by rw [hex] at z;cases z
 have hin:∀ env∈X.env::X.outer,∀ b,env.frame=some b->b∈a::frs X.stack:=fun env he b hb=>by
  rw [hst];exact .tail _ (Nc.mpr ⟨env,he,hb⟩)
 have hF:s.heap.FunFrames X.base (X.env::X.outer):=by have:=I.stack;rw [hst] at this;exact this
 have fr:X.A.frames=some (X.env::X.outer):=by rw [I.ok.frames,hst]
 have hBn:(UE s.heap (a::frs X.stack)).get? a=none:=Ep _ (.head _)
 refine qah (a0:=.ref t) fr (PySem.W.funFrames_hide hF hin) hfr ha (fun b o q=>Ex _ q) hBn rfl rfl rfl fun h' x1 x4=>?_
 have hB:∀ b o,s.heap.get? b=some o->b≠a->b∉frs X.stack->(UE s.heap (a::frs X.stack)).get? b=some o:=fun b o q na n=>Ew _ q fun z=>by
  rcases Kq.mp z with z|z
  ·exact na z
  ·exact n z
 have na:∀ {b:Kd} {u:HO},H b=some u->b≠a:=fun e z=>by rw [z,hHa] at e;cases e
 have n0:∀ {b:Kd} {o:Obj},X.s₀.heap.get? b=some o->b≠a:=fun e z=>by rw [z,hs0] at e;cases e
 have trk:∀ b u,H b=some u->∀ o,s.heap.get? b=some o->(UE s.heap (a::frs X.stack)).get? b=some o:=fun b u e o q=>hB b o q (na e) fun z=>by rw [I.stkFree b z] at e;cases e
 have old:∀ b o,X.s₀.heap.get? b=some o->X.H₀ b=none->b∉frs X.outer->(UE s.heap (a::frs X.stack)).get? b=some o:=fun b o e n hb =>
  hB b o (I.base.keep b o e n hb (noex b)) (n0 e) (I.stkLoc e hb)
 have dom:∀ b o,X.s₀.heap.get? b=some o->b∉frs X.outer->∃ o',(UE s.heap (a::frs X.stack)).get? b=some o':=fun b o e hb=>by
  obtain ⟨o',e'⟩:=I.base.there b o e (noex b)
  exact ⟨o',hB b o' e' (n0 e) (I.stkLoc e hb)⟩
 have frm:∀ b o,s.heap.get? b=some o->b∈frs X.stack->∃ sl,h'.get? b=some { o with slots:=sl }:=fun b o e hb=>by
  obtain ⟨_,o',e2,nf⟩:=hF.mem (show b∈(X.env::X.outer).filterMap (·.frame) from by rw [← hst];exact hb)
  rw [e] at e2
  cases e2
  exact x4 b o e nf
 have hsub:∀ b∈frs X.outer,b∈frs X.stack:=fun b hb=>by rw [hst];show b∈(X.env::X.outer).filterMap (·.frame);rw [UY,hfr];exact .tail _ hb
 refine hq h' (fun b u e=>(I.hok b u e).stay (fun c v hc q=>?_) (fun _ q=>q) fun _ _ q=>q) ⟨x1,fun b u e o q=>?_,old,dom,?_⟩
 ·have:H c≠none:=by
   rcases hc with z|z
   ·rw [z,e];exact fun y=>nomatch y
   ·rw [z];exact fun y=>nomatch y
  obtain ⟨u',hu⟩:=Nq.mp this
  exact x1.1 _ _ (trk c u' hu v q)
 ·obtain ⟨o1,h1⟩:=(I.hok b u e).ex
  have h2:=trk b u e o1 h1
  have h3:=x1.1 _ _ h2
  rw [q] at h3
  cases h3
  exact h2
 ·exact {
      keep:=fun b o e n hb _=>x1.1 _ _ (old b o e n hb)
      slot:=fun b o e n hb _=>by
       obtain ⟨sl,e1⟩:=I.base.slot b o e n hb (noex b)
       obtain ⟨sl',e2⟩:=frm b _ e1 (hsub b hb)
       exact ⟨sl',e2⟩
      free:=fun b o e n _=>I.base.free b o e n (noex b)
      there:=fun b o e _=>by
       obtain ⟨o',e'⟩:=I.base.there b o e (noex b)
       by_cases hb:b∈frs X.stack
       ·obtain ⟨sl,e2⟩:=frm b o' e' hb
        exact ⟨_,e2⟩
       ·exact ⟨o',x1.1 _ _ (hB b o' e' (n0 e) hb)⟩
      tups:=I.base.tups
      frzs:=I.base.frzs
      tbls:=I.base.tbls }
theorem qaX {E:Kb->Kf->Prop}{Q:Unit->Kf->Prop}{B:KA}{a t:Kd}{cls:Kb}{dd:Option Kd}(I:Inv X pins σ H s)(ok:HOk X.prog X.w H' s'.heap)(F:Fly X.stack H H' s.heap s'.heap B a cls t dd)(hst:X.stack=X.env::X.outer)(hfr:X.env.frame=some X.env.locals)(hex:X.ex=[])
  (hq:∀ h',HOk X.prog X.w H' h'->Fly X.outer X.H₀ H' X.s₀.heap h' B a cls t dd->Q () { s' with heap:=h' }):wpAny (model X.prog X.w) X.A (leaving X.env (.ref a)) Q E s':=by
 have noex:∀ b,b∉X.ex:=fun b z=>by rw [hex] at z;cases z
 have fr:X.A.frames=some (X.env::X.outer):=by rw [I.ok.frames,hst]
 have fl:FlyD B (X.env::X.outer) a cls (.ref t) dd s'.heap:=by have:=F.fl;rw [hst] at this;exact this
 refine qdV fr hfr fl fun h' x1 up=>?_
 have hok:=F.hok ok x1
 have hsub:∀ b∈frs X.outer,b∈frs X.stack:=fun b hb=>by rw [hst];show b∈(X.env::X.outer).filterMap (·.frame);rw [UY,hfr];exact .tail _ hb
 have old:∀ b o,X.s₀.heap.get? b=some o->X.H₀ b=none->b∉frs X.outer->B.get? b=some o:=fun b o e n hb=>F.old b o (I.base.keep b o e n hb (noex b)) (I.base.free b o e n (noex b)) (I.stkLoc e hb)
 have dom:∀ b o,X.s₀.heap.get? b=some o->b∉frs X.outer->∃ o',B.get? b=some o':=fun b o e hb=>by
  obtain ⟨o',e'⟩:=I.base.there b o e (noex b)
  exact F.dom b o' e' (I.stkLoc e hb)
 have frm:∀ b o,s'.heap.get? b=some o->b∈frs X.stack->∃ sl,h'.get? b=some { o with slots:=sl }:=fun b o e hb=>by
  obtain ⟨_,o',e2,nf⟩:=F.fl.2.2.1.mem hb
  rw [e] at e2
  cases e2
  exact up b o e nf
 refine hq h' hok ⟨x1,fun b u e o q=>?_,old,dom,?_⟩
 ·obtain ⟨o1,h1⟩:=(ok b u e).ex
  have h2:=F.trk b u e o1 h1
  have h3:=x1.1 _ _ h2
  rw [q] at h3
  cases h3
  exact h2
 ·exact {
      keep:=fun b o e n hb _=>x1.1 _ _ (old b o e n hb)
      slot:=fun b o e n hb _=>by
       obtain ⟨sl,e1⟩:=I.base.slot b o e n hb (noex b)
       obtain ⟨sl1,e2⟩:=F.un.slot b _ e1 (I.base.free b o e n (noex b)) (hsub b hb) (by simp)
       obtain ⟨sl',e3⟩:=frm b _ e2 (hsub b hb)
       exact ⟨sl',e3⟩
      free:=fun b o e n _=>by
       obtain ⟨o',e'⟩:=I.base.there b o e (noex b)
       exact F.un.free b o' e' (I.base.free b o e n (noex b)) (by simp)
      there:=fun b o e _=>by
       obtain ⟨o',e'⟩:=I.base.there b o e (noex b)
       obtain ⟨o2,e2⟩:=F.un.there b o' e' (by simp)
       by_cases hb:b∈frs X.stack
       ·obtain ⟨sl,e3⟩:=frm b o2 e2 hb
        exact ⟨_,e3⟩
       ·obtain ⟨o3,e3⟩:=F.dom b o' e' hb
        exact ⟨o3,x1.1 _ _ e3⟩
      tups:=fun b xs e=>F.un.tups b xs (I.base.tups b xs e)
      frzs:=fun b o u e=>F.un.frzs b o u (I.base.frzs b o u e)
      tbls:=fun b ps e=>by
       obtain ⟨m1,e1⟩:=I.base.tbls b ps e
       obtain ⟨m2,e2⟩:=F.un.tbls b _ e1
       exact ⟨m1++m2,by rw [e2,Nb]⟩ }
end
def xNo:Rho->Option (Ka×Rho):=fun _=>none
def xSeq (u:Rho->Option Out)(w1 w2:Rho->Option (Ka×Rho))(ρ:Rho):Option (Ka×Rho):=match w1 ρ with
 | some r=>some r
 | none=>match u ρ with
  | some (.nx ρ')=>w2 ρ'
  | _=>none
def xIf (p:Rho->Option Bool)(w1 w2:Rho->Option (Ka×Rho))(ρ:Rho):Option (Ka×Rho):=ob (p ρ) fun b=>if b=true then w1 ρ else w2 ρ
def qaE (n:Nat)(fs:Rho->Option (List Ka))(h:List Ka->Option Ka)(ρ:Rho):Option (Ka×Rho):=ob (fs ρ) fun ds=>if ds.length=n then ob (h ds) fun x=>some (x,ρ) else none
def spX (K:Kc)(n:Nat)(f:List Ka->Option Ka):Sp:=fun vs H _ E=>∃ S ds x,Dm S H/\DenL K H S vs ds/\ds.length=n/\f ds=some x/\∀ c C y dd H',x=excD c y->XCls K c C->DxD K H' dd y->Same H H'->E (.ref C) dd H'
structure KnownR (P:Kx)(w:KG)(K:Kc)(mg:Str->Option Kb)(base:KA)(x:Str)(n k:Nat)(h:List Ka->Option Ka):Prop where
 ex:∃ (f:Kd) (fd:Vi) (ps:List Str),FnOk P w K mg base (CX1 P w) k f fd ps (spX K n h)/\mg x=some (.ref f)/\VT K (.ref f)=true/\Binds K fd ps []
section
variable {X:Cx}{G:Gm}{M M1 M' Mb L Mx:List Nat}{fr:Fr}{a c:Kw}{es:List Kw}{fs:Rho->Option (List Ka)}{p:Rho->Option Bool}{pos:Pos}{s1:KY}{ss st1 st2:List KY}{u:Rho->Option Out}{w w1 w2:Rho->Option (Ka×Rho)}{x:Str}{o:Bool}
theorem Wv:PDX X o G M L Mx s1 xNo:=fun _ _ _ _ _ _ _ _ _ _ e=>nomatch e
theorem yr:PDXs X o G M L Mx ss xNo:=fun _ _ _ _ _ _ _ _ _ _ e=>nomatch e
theorem yq (h:PDX X o G M L Mx s1 w):PDXs X o G M L Mx [s1] w:=fun pins s σ H S ρ ρ' x I os e=>Uw (thn (h pins s σ H S ρ ρ' x I os e) fun _ _ z=>z.elim)
theorem Zf (h1:PDS X G M L M1 Mb fr s1 u)(x1:PDX X o G M L Mx s1 w1)(x2:PDXs X o G M1 L Mx ss w2)(hn:∀ e s,X.xe e s->False:=by exact fun _ _ z=>z):PDXs X o G M L Mx (s1::ss) (xSeq u w1 w2):=by
 intro pins s σ H S ρ ρ' x I os e
 unfold xSeq at e
 cases e1:w1 ρ with
 | some r =>
  rw [e1] at e
  cases e
  exact Uw (thn (x1 pins s σ H S ρ ρ' x I os e1) fun _ _ z=>z.elim)
 | none =>
  rw [e1] at e
  cases e2:u ρ with
  | none=>rw [e2] at e;cases e
  | some o' =>
   rw [e2] at e
   cases o' with
   | nx ρ1 =>
    refine Uw (Vk (h1 pins s σ H { nx:=fun σ' H'=>∃ S',OwnS X.K G M1 L H' S' σ' ρ1,rt:=fun _ _=>False } I ⟨S,ρ,_,os,e2,fun σ' H' S' os'=>⟨S',os'⟩⟩) (fun f s1 q=>?_) fun e s z=>(hn e s z).elim)
    cases f with
    | next=>obtain ⟨σ',H',I',S',os'⟩:=q;exact x2 pins s1 σ' H' S' ρ1 ρ' x I' os' e
    | ret v=>obtain ⟨_,_,_,_,_,z⟩:=q;exact z.elim
    | brk=>obtain ⟨_,_,_,z⟩:=q;exact z.elim
    | cont=>obtain ⟨_,_,_,z⟩:=q;exact z.elim
   | rt d=>cases e
   | bk d=>cases e
   | ct d=>cases e
theorem qa7 (hc:PDT X [] c p)(x1:PDXs X o G M L Mx st1 w1)(x2:PDXs X o G M L Mx st2 w2)(hn:∀ e s,X.xe e s->False:=by exact fun _ _ z=>z):PDX X o G M L Mx (.If c st1 st2 pos) (xIf p w1 w2):=by
 intro pins s σ H S ρ ρ' x I os e
 obtain ⟨d,e1,e⟩:=qe e
 refine wpAny_If (Vk (hc pins s σ H (fun b H1=>b=d/\Same H H1) I ⟨G.S0,ρ,d,os.den,e1,fun H1 g1=>⟨rfl,g1⟩⟩) (fun b s1 ⟨H1,I1,hb,g1⟩=>?_) fun e s z=>(hn e s z).elim)
 subst hb
 cases b with
 | true=>rw [if_pos rfl] at e;exact x1 pins s1 σ H1 S ρ ρ' x I1 (os.same g1) e
 | false=>rw [if_neg (by decide)] at e;exact x2 pins s1 σ H1 S ρ ρ' x I1 (os.same g1) e
theorem qft {p:Pos}{n k k':Nat}{h:List Ka->Option Ka}(F:KnownR X.prog X.w X.K X.mg X.base x n k h)(hr:Room k' X.A)(hk:k<=k')(hg:Gl X x)(ha:PDA X M (a::es) fs)
  (hdb:(x==("__debug__" : Str))=false:=by decide +kernel) (he:starEach (a::es) X.env=(false,eval a X.env)::starEach es X.env:=by rfl) (hpl:(backTo pos (starEach es X.env)).any (·.1)=false:=by rfl)
  (hn:∀ e s,X.xe e s->False:=by exact fun _ _ z=>z) {pins:List (Kd×Obj)} {s:Kf} {σ:St} {H:Hp} {S:Av} {ρ ρ':Rho} {d:Ka} (I:Inv X pins σ H s) (os:OwnS X.K G M L H S σ ρ) (e:qaE n fs h ρ=some (d,ρ')) :
  wpAny (model X.prog X.w) X.A (eval (.Call (.Name x p) (a::es) [] pos) X.env) (fun _ _=>False) (XAt X o pins G M L d ρ') s:=by
 obtain ⟨ds,e1,e⟩:=qe e
 have e:(if ds.length=n then ob (h ds) fun x=>some (x,ρ) else none)=some (d,ρ'):=e
 split at e
 case isFalse=>cases e
 rename_i hl
 obtain ⟨y,e2,e⟩:=qe e
 cases e
 obtain ⟨f,fd,ps,F,hm,kp,hb⟩:=F.ex
 refine Uh (Zr I hg hm ?_ hdb)
 have ha':=ha pos pins s σ H (fun vs H1=>Same H H1/\DenL X.K H1 S vs ds) I ⟨S,ρ,ds,os.ds,e1,fun vs H1 g1 d1=>⟨g1,d1⟩⟩
 refine U2 (h₀:=X.base) I.ok.mod.kin kp (Vk ha' (fun us s1 ⟨vs,H1,I1,r,g1,d1⟩=>⟨I1.kIn,?_⟩) fun e s z=>(hn e s z).elim) he hpl
 have hsp:spX X.K n h vs H1 (fun _ _=>False) (fun cls dd H'=>∃ cn C y,cls=.ref C/\d=excD cn y/\XCls X.K cn C/\DxD X.K H' dd y/\Same H1 H'):=⟨S,ds,d,os.ds.1.same g1,d1,hl,e2,fun cn C y dd H' ed hC dx g=>⟨cn,C,y,rfl,ed,hC,dx,g⟩⟩
 have hlen:(us++[]).length=ps.length:=by rw [VN,← r.length];exact F.len _ _ _ _ hsp
 refine XQ (Xv (F.run X.A X.stack s1 H1 ⟨us,[]⟩ us vs _ _ (hr.mono hk) I1.env0 (by have:=hb s1 us I1.kIn hlen;rwa [VN] at this) r hsp) fun r s' hq=>?_)
 cases r with
 | error e =>
  obtain ⟨a,H',cls,t,B,dd,rfl,os',bare,ok,fl,cn,C,y,rfl,rfl,hC,dx,g⟩:=hq
  exact ⟨a,cn,C,y,rfl,rfl,hC,.inr ⟨σ,H1,S,s1,H',B,t,dd,dx,I1,os.same g1,g,os',bare,ok,fl⟩⟩
 | ok fl =>
  cases fl with
  | ret u=>obtain ⟨_,_,_,_,_,_,_,z⟩:=hq;exact z.elim
  | next=>exact Vx hq
  | brk=>exact Vx hq
  | cont=>exact Vx hq
theorem qek {p cpos:Pos}{n k k':Nat}{h:List Ka->Option Ka}(F:KnownR X.prog X.w X.K X.mg X.base x n k h)(hr:Room k' X.A)(hk:k<=k')(hg:Gl X x)(ha:PDA X M (a::es) fs)
  (hdb:(x==("__debug__" : Str))=false:=by decide +kernel) (he:starEach (a::es) X.env=(false,eval a X.env)::starEach es X.env:=by rfl) (hpl:(backTo cpos (starEach es X.env)).any (·.1)=false:=by rfl)
  (hn:∀ e s,X.xe e s->False:=by exact fun _ _ z=>z) (hsw:swapsWith (.Call (.Name x p) (a::es) [] cpos) none pos.line X.env=pure false:=by rfl):PDX X o G M L M (.Expr (.Call (.Name x p) (a::es) [] cpos) pos) (qaE n fs h) :=
 fun pins s σ H S ρ ρ' d I os e=>Ee (thn (qft F hr hk hg ha hdb he hpl hn I os e) fun _ _ z=>z.elim) I.quiet hsw
end
section
variable {P:Kx}{w:KG}{K:Kc}{mg:Str->Option Kb}{base:KA}
def xOut (w:Rho->Option (Ka×Rho))(n:Nat)(ds:List Ka):Option Ka:=ob (w (rho0 n ds)) fun r=>some r.1
theorem FunG.raises {x qual:Str}{st:KY}{f:Kd}{fd:Vi}{N ps:List Str}{k n:Nat}{wx:Rho->Option (Ka×Rho)}{Mx:List Nat}(F:FunG K x qual st f fd)(S:FnScope N ps (qt st))(hn:ps.length=n)
  (hbody:∀ (cdv:Kb) (A:KI) (outer:List Env) (s:Kf) (H:Hp) (E:XK),Room k (A.deeper (envOfC qual (qt st) s.heap.objs.size f cdv))->∀ G:Gm,
   PDXs (cxOf CX0 P w K mg base N qual (qt st) f cdv A outer s H E).nox false G [] [] Mx (zH st) wx) :
  FnOk P w K mg base (CX1 P w) (k+1) f fd ps (spX K n (xOut wx N.length)):=by
 obtain ⟨oc,dV,od,kV,doc,pm,an,cdv,ct,osl,rfl,lk,hcd⟩:=F.ex
 refine qdF lk hcd S (fun vs H Q E h=>?_) fun A outer s H vs Q E hr h=>?_
 ·obtain ⟨_,ds,_,_,h1,h2,_⟩:=h
  rw [h1.length,h2,hn]
 ·obtain ⟨Sv,ds,x,m,h1,h2,e,q⟩:=h
  obtain ⟨⟨d,ρ'⟩,e1,e⟩:=qe e
  cases e
  refine ⟨fun _ σ' H'=>σ'=start N vs/\H'=H,fun pins s1 σ' H' D I h=>?_,rfl,rfl⟩
  obtain ⟨rfl,rfl⟩:=h
  refine Vk (hbody cdv A outer s H' E hr (G0 H' Sv) pins s1 _ H' Sv _ ρ' _ (I.wish _) (OwnS.start m h1 N) e1) (fun _ _ z=>z.elim) fun ev s' hx=>?_
  obtain ⟨a,c',C',y,rfl,hd,hC',hx⟩:=hx
  show wpAny _ _ (leaving _ _) _ _ _
  rcases hx with ⟨_,σ2,H2,S2,od,t,I2,os2,dx,hHa,hs0,ha⟩|⟨σ2,H2,S2,s2,H3,B,t,dd,dx,I2,os2,g,os',bare,ok,fl⟩
  ·have I3:Inv (cxOf (CX1 P w) P w K mg base N qual (qt st) f cdv A outer s H' E) pins σ2 H2 s':=I2.unwish.wish _
   refine qaY I3 hHa (hs0 rfl) ha rfl rfl rfl fun h' ok fl=>?_
   exact ⟨a,H2,.ref C',t,_,od,rfl,I3.os,I3.bare,ok,fl,q c' C' y od H2 hd hC' dx os2.h0⟩
  ·have I3:Inv (cxOf (CX1 P w) P w K mg base N qual (qt st) f cdv A outer s H' E) pins σ2 H2 s2:=I2.unwish.wish _
   refine qaX I3 ok fl rfl rfl rfl fun h' ok' fl'=>?_
   exact ⟨a,H3,.ref C',t,B,dd,rfl,os'.trans I3.os,bare,ok',fl',q c' C' y dd H3 hd hC' dx (os2.h0.trans g)⟩
theorem Fun.raises {x qual:Str}{st:KY}{f:Kd}{fd:Vi}{N ps:List Str}{k n:Nat}{wx:Rho->Option (Ka×Rho)}{Mx:List Nat}(F:Fun K x qual st f fd)(S:FnScope N ps (qt st))(hn:ps.length=n)
  (hbody:∀ (cdv:Kb) (A:KI) (outer:List Env) (s:Kf) (H:Hp) (E:XK),Room k (A.deeper (envOfC qual (qt st) s.heap.objs.size f cdv))->∀ G:Gm,
   PDXs (cxOf CX0 P w K mg base N qual (qt st) f cdv A outer s H E).nox false G [] [] Mx (zH st) wx) :
  FnOk P w K mg base (CX1 P w) (k+1) f fd ps (spX K n (xOut wx N.length)):=F.g.raises S hn hbody
end
abbrev Cx.mk1 (X:Cx)(e:Kb):Cx:={ X with A:=X.A.mark (some e),calm:=false }
def caught (cs:List Str):Ka->Bool
 | .dict ((.str c,_)::_)=>cs.contains c
 | _=>false
def qd9 (i:Nat):Out->Out
 | .nx ρ=>.nx (ρ.set i none)
 | .rt d=>.rt d
 | .bk ρ=>.bk (ρ.set i none)
 | .ct ρ=>.ct (ρ.set i none)
def sTry (u:Rho->Option Out)(w:Rho->Option (Ka×Rho))(cs:List Str)(i:Nat)(uh:Rho->Option Out)(ρ:Rho):Option Out:=match w ρ with
 | some (x,ρ')=>if caught cs x=true then ob (uh (ρ'.set i (some x))) fun o=>some (qd9 i o) else none
 | none=>u ρ
section
variable {X:Cx}{pins:List (Kd×Obj)}{σ:St}{H H':Hp}{s s':Kf}{G:Gm}{S:Av}{M L:List Nat}{ρ:Rho}
theorem Inv.mk1 (I:Inv X pins σ H s)(e:Kb):Inv (X.mk1 e) pins σ H s :=
 ⟨⟨I.ok.mod,I.ok.kind,I.ok.glob,I.ok.blt,I.ok.above,I.ok.inj,I.ok.has,I.ok.cab,(fun z=>nomatch z),I.ok.frames,I.ok.stk,I.ok.exf,I.ok.bs,I.ok.bsz,I.ok.noex,I.ok.exfs,I.ok.funs,I.ok.frf⟩,I.os,I.bare,I.base,I.loc,I.cell,I.free,I.freeC,I.pin,I.hok,I.len⟩
theorem Inv.unmk1 {e:Kb}(ok:X.Ok)(I:Inv (X.mk1 e) pins σ H s):Inv X pins σ H s:=⟨ok,I.os,I.bare,I.base,I.loc,I.cell,I.free,I.freeC,I.pin,I.hok,I.len⟩
theorem OwnS.del {i:Nat}(h:OwnS X.K G M L H S σ ρ)(hM:Out0 M i):OwnS X.K G M L H S (σ.set i none) (ρ.set i none):=by
 have back:∀ {j:Nat} {d:Ka},(ρ.set i none)[j]?=some (some d)->j≠i/\ρ[j]?=some (some d):=fun {j d} e=>by
  by_cases hj:i=j
  ·subst hj
   rw [List.getElem?_set] at e
   split at e
   ·split at e<;>cases e
   ·exact absurd rfl ‹_›
  ·rw [Vw hj] at e
   exact ⟨VY hj,e⟩
 have fwd:∀ {j:Nat},j≠i->(σ.set i none)[j]?=σ[j]?:=fun {j} hj=>Vw (VY hj)
 have keep:∀ {j:Nat},j∈M->j≠i:=fun {j} hj z=>hM.1 (z ▸ hj)
 have has:∀ {j:Nat},Has (ρ.set i none) j->Has ρ j:=fun {j} ⟨d,e⟩=>⟨d,(back e).2⟩
 obtain ⟨ds,s0,h0,own,apart,bnd,lkd,F,⟨d1,d2,d3⟩⟩:=h
 refine ⟨⟨ds.1,by rw [Vs,Vs];exact ds.2.1,fun j d n e=>?_⟩,s0,h0,fun j hj d e=>?_,fun j hj k hk d e p e1 e2 e3 e4=>?_,bnd,fun j hj=>?_,F,fun j hj d e=>?_,fun j hj k hk a1 a2=>d2 j hj k hk (has a1) (has a2),fun j hj k hk a1 a2 p e=>?_⟩
 ·obtain ⟨nj,e⟩:=back e
  rw [fwd nj]
  exact ds.2.2 j d n e
 ·obtain ⟨nj,e⟩:=back e
  rw [fwd nj]
  exact own j hj d e
 ·obtain ⟨n1,e1⟩:=back e1
  obtain ⟨n2,e2⟩:=back e2
  rw [fwd n1] at e3
  rw [fwd n2] at e4
  exact apart j hj k hk d e p e1 e2 e3 e4
 ·obtain ⟨a1,a2⟩:=lkd j hj
  exact ⟨a1,by rw [Vw (VY (keep a1.1))];exact a2⟩
 ·obtain ⟨nj,e⟩:=back e
  rw [fwd nj]
  exact d1 j hj d e
 ·rw [fwd (keep hj.1)] at e
  exact d3 j hj k hk (has a1) (has a2) p e
theorem Inv.gone {i:Nat}{x:Str}{m:Str->Option Kb}{h':KA}{v:Option Kb}{t':Nat}(I:Inv X pins σ H s)(hN:X.N.Nodup)(hi:X.N[i]?=some x)(hn:s.heap.Ns X.env.locals m)
  (hl:∀ (j:Nat) (y:Str) (w:V),X.N[j]?=some y->σ[j]?=some (some w)->Vis X.env.scope y->∃ u,RelV w u/\Look X.env s.heap m y u) (hn':h'.Ns X.env.locals (fun y=>if y=x then v else m y)) (hs:NG X.env.locals s.heap h') :
  Inv X pins (σ.set i none) H { s with heap:=h',toks:=t' }:=by
 have cne:=I.cne
 obtain ⟨oL,_,_,hoL,_⟩:=id hn
 have nl:∀ {b:Kd} {o:Obj},X.s₀.heap.get? b=some o->b≠X.env.locals:=fun {b o} e=>K6 (KS (Ku e) I.ok.above)
 refine ⟨I.ok,I.os,I.bare,⟨fun b o e n hb hx=>(hs.2 b (nl e)).trans (I.base.keep b o e n hb hx),fun b o e n hb hx=>?_,I.base.free,fun b o e hx=>?_,I.base.tups,I.base.frzs,I.base.tbls⟩,⟨_,hn',fun j y v' e1 e2 e3=>?_⟩,fun y c e=>?_,I.free,I.freeC,fun p hp=>?_,fun b ob e=>?_,by rw [Vs];exact I.len⟩
 ·obtain ⟨sl,e1⟩:=I.base.slot b o e n hb hx
  exact ⟨sl,(hs.2 b (nl e)).trans e1⟩
 ·obtain ⟨o',e1⟩:=I.base.there b o e hx
  exact ⟨o',(hs.2 b (nl e)).trans e1⟩
 ·by_cases hj:i=j
  ·subst hj
   rw [List.getElem?_set] at e2
   split at e2
   ·split at e2<;>cases e2
   ·exact absurd rfl ‹_›
  ·rw [Vw hj] at e2
   obtain ⟨u',r',q⟩:=hl j y v' e1 e2 e3
   refine ⟨u',r',?_⟩
   rcases q with ⟨k,e⟩|⟨k,c,e,z⟩
   ·have ne:y≠x:=fun z=>hj (Yg hN (z ▸ hi) e1)
    exact .inl ⟨k,by show (if y=x then v else m y)=some u';rw [if_neg ne];exact e⟩
   ·exact .inr ⟨k,c,e,z.sameBut hs (cne y c e)⟩
 ·obtain ⟨w',z⟩:=I.cell y c e
  exact ⟨w',z.sameBut hs (cne y c e)⟩
 ·obtain ⟨e,n,ne,nf,d⟩:=I.pin p hp
  exact ⟨(hs.2 p.1 ne).trans e,n,ne,nf,d⟩
 ·refine (I.hok b ob e).stay (fun c w' hc q=>(hs.2 c ?_).trans q) (fun _ q=>q) fun _ _ q=>q
  rintro rfl
  rcases hc with rfl|hc
  ·rw [I.free] at e;cases e
  ·rw [I.free] at hc;cases hc
theorem Inv.trackO {a:Kd}{o:HO}(I:Inv X pins σ H s)(new:zK X.prog X.w (upd H a o) s.heap a o)(hH:H a=none)(h0:X.s₀.heap.get? a=none)(hL:a≠X.env.locals)(hc:∀ x c,X.env.cells.lookup x=some c->c≠a)(hp:∀ p∈X.pn++pins,p.1≠a) :
  Inv X pins σ (upd H a o) s:=by
 refine ⟨I.ok,I.os,I.bare,⟨I.base.keep,I.base.slot,fun b ob e n hx=>?_,I.base.there,fun b xs e=>?_,fun b ob u e=>?_,fun b ps e=>?_⟩,I.loc,I.cell,?_,fun x c e=>?_,fun p q=>?_,fun b u e=>?_,I.len⟩
 ·rw [qD (fun z=>by rw [z,h0] at e;cases e)]
  exact I.base.free b ob e n hx
 ·have:=I.base.tups b xs e
  rw [qD (qT this hH)];exact this
 ·have:=I.base.frzs b ob u e
  rw [qD (qT this hH)];exact this
 ·obtain ⟨more,this⟩:=I.base.tbls b ps e
  exact ⟨more,by rw [qD (qT this hH)];exact this⟩
 ·rw [qD (VY hL)];exact I.free
 ·rw [qD (hc x c e)];exact I.freeC x c e
 ·obtain ⟨e,n,r⟩:=I.pin p q
  exact ⟨e,by rw [qD (hp p q)];exact n,r⟩
 ·by_cases hb:b=a
  ·subst hb
   rw [qI] at e
   cases e
   exact new
  ·rw [qD hb] at e
   exact (I.hok b u e).stay (fun c v _ q=>q) (fun c q=>by rw [qD (qT q hH)];exact q) fun c xs q=>by rw [qD (qT q hH)];exact q
theorem Inv.trackX {a:Kd}{o:Obj}(I:Inv X pins σ H s)(ha:s.heap.get? a=some o)(hH:H a=none)(h0:X.s₀.heap.get? a=none)(hL:a≠X.env.locals)(hc:∀ x c,X.env.cells.lookup x=some c->c≠a)(hp:∀ p∈X.pn++pins,p.1≠a):Inv X pins σ (upd H a (.frz o (.own a))) s:=I.trackO ⟨ha,_,ha⟩ hH h0 hL hc hp
end
def catB (K:Kc)(Cc:Kd):Bool:=(US K (.ref Cc)==some (.type "type"))&&(V2 K Cc).isSome&&(VM K Cc (.type "BaseException")==some true)
theorem W7 {prog:Kx}{w:KG}{A:KI}{E:Kb->Kf->Prop}{K:Kc}{s:Kf}{a C Cc:Kd}{oe:Obj}{Q:Bool->Kf->Prop}(X:K.In s.heap)(hc:catB K Cc=true)(he:s.heap.get? a=some oe)(hcl:oe.cls=.ref C)(hm:VM K C (.ref Cc)=some true)(hq:Q true s) :
  wpAny (model prog w) A (excMatches (.ref a) (.ref Cc)) Q E s:=by
 obtain ⟨h,g,d,t,os⟩:=s
 unfold catB at hc
 simp only [Ko,beq_iff_eq] at hc
 obtain ⟨⟨h1,h2⟩,h3⟩:=hc
 have L1:=PySem.W.looks_typeIn (M:=model prog w) X h1
 have L3:=UR (M:=model prog w) X h3
 have L4:=UR (M:=model prog w) X hm
 have L5:UD (model prog w) h (typeOf (.ref a)) (.ref C):=hcl ▸ (Xx he).andThen .now
 have f:=tc_notTuple
 have L6:UD (model prog w) h (isType (.ref Cc)) true:=by
  unfold V2 at h2
  split at h2
  ·rename_i c' d' cd' sl' ho
   intro A' Q' E' s' k q
   unfold isType loadHead
   exact Kg (wpAny_loadPart (k _ _ (X _ _ ho)) (Ks q))
  ·cases h2
 unfold excMatches isExcClass
 unfold isInstance
 repeat (first|with_reducible refine PySem.W.Looks.at (by assumption) ?_|wp_step)
 exact hq
section
variable {X:Cx}{G:Gm}{M M' Mb L Mx:List Nat}{fr:Fr}{u uh:Rho->Option Out}{w:Rho->Option (Ka×Rho)}
theorem OwnS.setX {K:Kc}{H:Hp}{S:Av}{σ:St}{ρ:Rho}{i:Nat}{v:V}{d:Ka}(h:OwnS K G M L H S σ ρ)(q:Den K H S v d)(hM:Out0 M i):OwnS K G M L H S (σ.set i (some v)) (ρ.set i (some d)):=h.set q hM.1
theorem qgk {cn n:Str}{i:Nat}{Cc:Kd}{cs:List Str}{b0:KY}{body suite:List KY}{hpos np pos:Pos}(hb:PDSs X G M L M' Mb fr body u)(hx:PDXs X true G M L Mx body w)(hs:∀ e,PDSs (X.mk1 e) G Mx L M' Mb fr (b0::suite) uh)
  (hN:X.N.Nodup) (hloc:X.env.scope.names.lookup n=some .local) (hM:Out0 Mx i) (hM':Out0 M' i) (hMb:Out0 Mb i) (hg:Gl X cn) (hm:X.mg cn=some (.ref Cc)) (hcat:catB X.K Cc=true) (hcs:∀ c∈cs,∀ C,XCls X.K c C->VM X.K C (.ref Cc)=some true)
  (hst:X.stack=X.env::X.outer) (hfr:X.env.frame=some X.env.locals) (hex:X.ex=[]) (hi:X.N[i]?=some n:=by rfl) (hn:∀ e s,X.xe e s->False:=by exact fun _ _ z=>z) (hdb:(cn==("__debug__" : Str))=false:=by decide +kernel) :
  PDS X G M L M' Mb fr (.Try body [.ExceptHandler (some (.Name cn np)) (some n) (b0::suite) hpos] [] [] pos) (sTry u w cs i uh):=by
 intro pins s σ H D I ⟨S,ρ,out,os,e,q⟩
 unfold sTry at e
 cases ew:w ρ with
 | none =>
  rw [ew] at e
  refine wpAny_Try_except (Vk (hb pins s σ H D I ⟨S,ρ,out,os,e,q⟩) (fun f s1 hf=>?_) fun e s z=>(hn e s z).elim)
  cases f with
  | next=>exact U1 hf
  | ret v=>exact hf
  | brk=>exact hf
  | cont=>exact hf
 | some r =>
  obtain ⟨x,ρ'⟩:=r
  rw [ew] at e
  have e:(if caught cs x=true then ob (uh (ρ'.set i (some x))) fun o=>some (qd9 i o) else none)=some out:=e
  split at e
  case isFalse=>cases e
  rename_i hc
  obtain ⟨o2,e2,e⟩:=qe e
  cases e
  refine wpAny_Try_except (Vk (hx pins s σ H S ρ ρ' x I os ew) (fun _ _ z=>z.elim) fun ev s1 hx1=>?_)
  obtain ⟨a,c,C,y,rfl,rfl,hC,hx1⟩:=hx1
  obtain ⟨σ1,H1,S1,s0,H2,B,t,dd,hdx,I1,os1,g12,hos,bare,ok,fl⟩:qgN X pins G Mx L ρ' a C y s1:=by
   rcases hx1 with ⟨z,_⟩|z
   ·cases z
   ·exact z
  have hcm:c∈cs:=List.contains_iff_mem.mp hc
  have frm:X.A.frames=some (X.env::X.outer):=by rw [I1.ok.frames,hst]
  have fl0:FlyD B (X.env::X.outer) a (.ref C) (.ref t) dd s1.heap:=by have:=fl.fl;rw [hst] at this;exact this
  refine qfU frm hfr fl0 fun h4 held4 up4=>?_
  refine land held4 fun h5 fl5 up5=>?_
  have fl5':FlyD B X.stack a (.ref C) (.ref t) dd h5:=by rw [hst];exact fl5
  have fly5:=fl.step ok fl5' (up4.trans up5)
  have ok5:=fl.hok ok fl5
  have I5:Inv X pins σ1 H2 { s1 with heap:=h5 }:=I1.call' (s':={ s1 with heap:=h5 }) (ch:=[]) hos fly5.un ok5 bare (fun b z=>by cases z)
  obtain ⟨oc,_,hoc,hocc,_⟩:=fl5.first
  refine wpAny_handleBy_cons (codeAny_handlers_test (Zr (X:=X.mk1 (.ref a)) (I5.mk1 (.ref a)) hg hm ?_ hdb)) (by intro z;cases z)
  refine W7 (s:={ s1 with heap:=h5 }) I5.kIn hcat hoc hocc (hcs c hcm C hC) ?_
  refine codeAny_handlers_suite_as ?_
  refine qfP (s:={ s1 with heap:=h5 }) fl5 fun h6 fl6 up6=>?_
  have fl6':FlyD B X.stack a (.ref C) (.ref t) dd h6:=by rw [hst];exact fl6
  have fly6:=fly5.step ok5 fl6' up6
  have ok6:=fly5.hok ok5 fl6
  have I6:Inv X pins σ1 H2 { s1 with heap:=h6 }:=I1.call' (s':={ s1 with heap:=h6 }) (ch:=[]) hos fly6.un ok6 bare (fun b z=>by cases z)
  obtain ⟨oe,ws,hoe,hoec,hoed,hoedd⟩:=fl6.first
  have hBa:B.get? a=none:=fl6.2.1
  have hH2:H2 a=none:=by
   cases z:H2 a with
   | none=>rfl
   | some v=>have:=fly6.trk a v z oe hoe;rw [hBa] at this;cases this
  have hnew:s0.heap.get? a=none:=by
   cases z:s0.heap.get? a with
   | none=>rfl
   | some o =>
    by_cases hf:a∈frs X.stack
    ·obtain ⟨_,o',e',nf⟩:=fl6'.2.2.1.mem hf
     rw [hoe] at e'
     cases e'
     exact absurd hoed (nf _)
    ·obtain ⟨o',e'⟩:=fl.dom a o z hf
     rw [hBa] at e'
     cases e'
  have h0:X.s₀.heap.get? a=none:=by
   cases z:X.s₀.heap.get? a with
   | none=>rfl
   | some o =>
    obtain ⟨o',e'⟩:=I1.base.there a o z (by rw [hex];simp)
    rw [hnew] at e'
    cases e'
  have hL:a≠X.env.locals:=fun z=>by
   obtain ⟨m,⟨o,_,_,ho,_⟩,_⟩:=I1.loc
   rw [← z,hnew] at ho
   cases ho
  have hcl:∀ y c,X.env.cells.lookup y=some c->c≠a:=fun y c ec z=>by
   obtain ⟨v,o,ho,_⟩:=I1.cell y c ec
   rw [z,hnew] at ho
   cases ho
  have hpn:∀ p∈X.pn++pins,p.1≠a:=fun p hp z=>by
   have:=(I1.pin p hp).1
   rw [z,hnew] at this
   cases this
  have I7:=I6.trackX hoe hH2 h0 hL hcl hpn
  have g17:Same H1 (upd H2 a (.frz oe (.own a))):=g12.lay' hH2
  have os7:=os1.same g17
  have den:Den X.K (upd H2 a (.frz oe (.own a))) S1 (.ref a) (excD c y):=by
   rcases hdx with rfl|⟨n',d',dx,v',rfl,hfl,hdd,hxd,hden⟩
   ·exact .exc0 qI ⟨C,ws,hoec,hoed,hC.1,hC.2⟩
   ·exact .exc1 qI ⟨C,ws,hoec,hoed,hC.1,hC.2⟩ (hoedd.trans hdd) (by rw [qD (qT hxd hH2)];exact hxd) ((hden.same (Same.lay hH2)).flat hfl)
  refine Yt (X:=X.mk1 (.ref a)) (v:=.ref a) (I7.mk1 (.ref a)) hN hi (.inl hloc) rfl (fun s8 I8=>?_) (.inr hloc)
  have fin2:∀ (f:Flow) (σ9:St) (H9:Hp) (s9:Kf),Inv X pins σ9 H9 s9->(∀ s10,Inv X pins (σ9.set i none) H9 s10->SP X pins D f s10)->
    wpAny (model X.prog X.w) X.A (do bindName X.env n .none;unbindBehindTheSuite X.env n hpos) (fun _ s10=>SP X pins D f s10) X.xe s9:=fun f σ9 H9 s9 I9 k=>by
   obtain ⟨m,hn9,hl9⟩:=I9.loc
   exact wpAny_nameGoes_keeps hloc hn9 (by rw [I9.ok.kind];rfl) fun h' v hn' hsb=>k _ (I9.gone hN hi hn9 hl9 hn' hsb)
  let D2:Ends:=⟨fun σ9 H9=>∀ s10,Inv X pins (σ9.set i none) H9 s10->SP X pins D .next s10,D.rt,fun σ9 H9=>∀ s10,Inv X pins (σ9.set i none) H9 s10->SP X pins D .brk s10,fun σ9 H9=>∀ s10,Inv X pins (σ9.set i none) H9 s10->SP X pins D .cont s10⟩
  have q2:OutQ X.K G M' Mb L fr D2 o2:=by
   cases o2 with
   | nx ρ9=>exact fun σ9 H9 S9 os9 s10 I10=>⟨_,H9,I10,q _ H9 S9 (OwnS.del (X:=X) os9 hM')⟩
   | rt d=>exact q
   | bk ρ9=>exact fun σ9 H9 S9 os9 s10 I10=>⟨_,H9,I10,q _ H9 S9 (OwnS.del (X:=X) os9 hMb)⟩
   | ct ρ9=>exact fun σ9 H9 S9 os9 s10 I10=>⟨_,H9,I10,q _ H9 S9 (OwnS.del (X:=X) os9 hMb)⟩
  refine Vk (hs (.ref a) pins s8 _ _ D2 I8 ⟨S1,_,o2,os7.setX den hM,e2,q2⟩) (fun f s9 hf=>?_) fun e s z=>(hn e s z).elim
  cases f with
  | next =>
   obtain ⟨σ9,H9,I9,k⟩:=hf
   exact fin2 .next σ9 H9 s9 (I9.unmk1 I1.ok) k
  | brk =>
   obtain ⟨σ9,H9,I9,k⟩:=hf
   exact fin2 .brk σ9 H9 s9 (I9.unmk1 I1.ok) k
  | cont =>
   obtain ⟨σ9,H9,I9,k⟩:=hf
   exact fin2 .cont σ9 H9 s9 (I9.unmk1 I1.ok) k
  | ret v =>
   obtain ⟨y,σ9,H9,I9,r,k⟩:=hf
   exact fin2 (.ret v) σ9 H9 s9 (I9.unmk1 I1.ok) fun s10 I10=>⟨y,_,H9,I10,r,k⟩
end
def bTs:List String:=["ValueError"]
def xtB (K:Kc)(XS:List (Str×List Str)):Bool:=XS.all fun c=>match KF K mainGlobals c.1 with
 | some (some (.ref C))=>xcB K C&&catB K C&&(XS.all fun d=>match KF K mainGlobals d.1 with
   | some (some (.ref D))=>(Vb K (.ref C) (.ref D)==some (c.2.contains d.1))&&(VM K C (.ref D)==some (c.2.contains d.1))
   | _=>false)&&bTs.all fun T=>Vb K (.ref C) (.type T)==some (c.2.contains (Ke T))
 | _=>false
def adr (mg:Str->Option Kb)(c:Str):Kd:=match mg c with
 | some (.ref C)=>C
 | _=>0
structure XTab (K:Kc)(mg:Str->Option Kb)(XS:List (Str×List Str)):Prop where
 nm:∀ c∈XS,mg c.1=some (.ref (adr mg c.1))
 ns:∀ c∈XS,KF K mainGlobals c.1=some (some (.ref (adr mg c.1)))
 xc:∀ c∈XS,xcB K (adr mg c.1)=true
 cat:∀ c∈XS,catB K (adr mg c.1)=true
 kit:∀ c∈XS,∀ d∈XS,Vb K (.ref (adr mg c.1)) (.ref (adr mg d.1))=some (c.2.contains d.1)
 mro:∀ c∈XS,∀ d∈XS,VM K (adr mg c.1) (.ref (adr mg d.1))=some (c.2.contains d.1)
 blt:∀ c∈XS,∀ T∈bTs,Vb K (.ref (adr mg c.1)) (.type T)=some (c.2.contains (Ke T))
theorem qgL {K:Kc}{h:KA}{mg:Str->Option Kb}{XS:List (Str×List Str)}(X:K.In h)(G:h.Ns mainGlobals mg)(e:xtB K XS=true):XTab K mg XS:=by
 have at1:∀ c∈XS,∃ C,KF K mainGlobals c.1=some (some (.ref C))/\adr mg c.1=C/\mg c.1=some (.ref C)/\xcB K C=true/\catB K C=true/\(∀ d∈XS,∃ D,KF K mainGlobals d.1=some (some (.ref D))/\Vb K (.ref C) (.ref D)=some (c.2.contains d.1)/\VM K C (.ref D)=some (c.2.contains d.1))/\∀ T∈bTs,Vb K (.ref C) (.type T)=some (c.2.contains (Ke T)):=fun c hc=>by
  have:=KR.mp e c hc
  split at this
  ·rename_i C hC
   simp only [Ko] at this
   obtain ⟨⟨⟨h1,h2⟩,h3⟩,h4⟩:=this
   have hm:=Xn X G hC
   refine ⟨C,hC,by unfold adr;rw [hm],hm,h1,h2,fun d hd=>?_,fun T hT=>beq_iff_eq.mp (KR.mp h4 T hT)⟩
   have:=KR.mp h3 d hd
   split at this
   ·rename_i D hD
    rw [Ko] at this
    exact ⟨D,hD,beq_iff_eq.mp this.1,beq_iff_eq.mp this.2⟩
   ·cases this
  ·cases this
 refine ⟨fun c hc=>?_,fun c hc=>?_,fun c hc=>?_,fun c hc=>?_,fun c hc d hd=>?_,fun c hc d hd=>?_,fun c hc T hT=>?_⟩<;>obtain ⟨C,h1,h2,h3,h4,h5,h6,h7⟩:=at1 c hc
 ·rw [h2];exact h3
 ·rw [h2];exact h1
 ·rw [h2];exact h4
 ·rw [h2];exact h5
 ·obtain ⟨D,g1,g2,_⟩:=at1 d hd
  obtain ⟨D',k1,k2,k3⟩:=h6 d hd
  rw [h2,g2]
  rw [g1] at k1
  cases k1
  exact k2
 ·obtain ⟨D,g1,g2,_⟩:=at1 d hd
  obtain ⟨D',k1,k2,k3⟩:=h6 d hd
  rw [h2,g2]
  rw [g1] at k1
  cases k1
  exact k3
 ·rw [h2];exact h7 T hT
def isiN (XS:List (Str×List Str))(ns:List Str):Ka->Option Ka
 | .dict ((.str c,_)::(.int 0,.none)::[])=>ob (XS.find? fun p=>p.1==c) fun p=>some (.bool (ns.any fun n=>p.2.contains n))
 | _=>none
theorem qcB {XS:List (Str×List Str)}{ns:List Str}{d r:Ka}(e:isiN XS ns d=some r):∃ c x p,d=excD c x/\p∈XS/\p.1=c/\r=.bool (ns.any fun n=>p.2.contains n):=by
 unfold isiN at e
 split at e
 ·obtain ⟨p,h1,e⟩:=qe e
  cases e
  exact ⟨_,_,p,rfl,NC h1,beq_iff_eq.mp (List.find?_some (p:=fun p:Str×List Str=>p.1==_) h1),rfl⟩
 ·cases e
def CNm (X:Cx)(XS:List (Str×List Str))(n:Str)(v:V):Prop:=((∃ p∈XS,p.1=n)/\v=.ref (adr X.mg n))\/∃ T∈bTs,n=Ke T/\v=.ty T
def ClsV (X:Cx)(XS:List (Str×List Str))(ns:List Str)(v:V)(H:Hp):Prop:=(∃ n,ns=[n]/\CNm X XS n v)\/∃ p vs,v=.ref p/\SqT X.K H p vs/\Vo (CNm X XS) ns vs
def PCl (X:Cx)(XS:List (Str×List Str))(ns:List Str)(b:Kw):Prop:=PE X b (fun _ H Q=>∀ v H',Same H H'->ClsV X XS ns v H'->Q v H')
def PCls (X:Cx)(XS:List (Str×List Str))(ns:List Str)(es:List Kw):Prop:=PA X es (fun _ H Q=>∀ vs,Vo (CNm X XS) ns vs->Q vs H)
def rIsiN (X:Cx)(XS:List (Str×List Str)):List V->Hp->VK->Prop:=fun vs H Q=>∃ a c p ns v,vs=[.ref a,v]/\ExcH X.K H a c/\p∈XS/\p.1=c/\ClsV X XS ns v H/\Q (.bl (ns.any fun n=>p.2.contains n)) H
section
variable {X:Cx}{XS:List (Str×List Str)}{ns:List Str}{n:Str}{M:List Nat}{a b:Kw}{es:List Kw}{fa:Rho->Option Ka}{pos p1:Pos}
theorem Y6 {K:Kc}{t:Kb}{f:Str->Bool}:∀ {ns:List Str} {us:List Kb},Vo (fun n u=>Vb K t u=some (f n)) ns us->PySem.W.kitAny K t us=some (ns.any f)
 | _,_,.nil=>rfl
 | n::ns,u::us,.cons h r=>by
  rw [PySem.W.kitAny,h,Ue]
  cases hf:f n with
  | true=>rfl
  | false=>exact Y6 r
theorem qdS (T:XTab X.K X.mg XS){p:Str×List Str}(hp:p∈XS){v:V}{u:Kb}(h:CNm X XS n v)(r:RelV v u):Vb X.K (.ref (adr X.mg p.1)) u=some (p.2.contains n):=by
 rcases h with ⟨⟨d,hd,rfl⟩,rfl⟩|⟨t,ht,rfl,rfl⟩
 ·cases (show u=KW _ from r)
  exact T.kit p hp d hd
 ·cases (show u=VV _ from r)
  exact T.blt p hp t ht
theorem qbT (T:XTab X.K X.mg XS){p:Str×List Str}(hp:p∈XS):∀ {ns:List Str} {vs:List V} {us:List Kb},Vo (CNm X XS) ns vs->Vals vs us->Vo (fun n u=>Vb X.K (.ref (adr X.mg p.1)) u=some (p.2.contains n)) ns us
 | _,_,_,.nil,.nil=>.nil
 | _,_,_,.cons h t,.cons r q=>.cons (qdS T hp h r) (qbT T hp t q)
theorem qco (T:XTab X.K X.mg XS):QT X (.builtin "isinstance") (rIsiN X XS):=by
 intro pins s σ H xs us Q I r h
 obtain ⟨a,c,p,ns,v,rfl,hx,hp,hc,hv,q⟩:=h
 obtain ⟨u,u',rfl,ru,rv⟩:=r.two
 cases (show u=KW a from ru)
 obtain ⟨C,h3,h4,IA⟩:=I.excAt hx
 rw [← hc,T.ns p hp] at h3
 cases h3
 have fin:∀ tk,EP X pins σ Q (.bool (ns.any fun n=>p.2.contains n)) { s with toks:=tk }:=fun tk=>⟨.bl _,H,I.tok tk,rfl,q⟩
 rcases hv with ⟨n,rfl,hn⟩|⟨t,vs,rfl,ht,hvs⟩
 ·refine K7 (Yb (jO h4)) I.kIn IA ?_ (fun z=>nomatch z) fin
  rw [qdS T hp hn rv,Ue,List.any_nil,Bool.or_false]
 ·cases (show u'=KW t from rv)
  obtain ⟨its,r',⟨o,e1,e2,n',e3⟩,_⟩:=I.tuple ht
  obtain ⟨oc,od,oa,os⟩:=o
  dsimp only at e2 e3
  subst e2 e3
  exact PySem.W.kia_tup (Yb (jO h4)) I.kIn IA e1 (Y6 (qbT T hp hvs r')) (fun z=>nomatch z) fin
theorem qgd (T:XTab X.K X.mg XS)(hg:Gl X n)(hn:(XS.any fun p=>p.1==n)=true:=by decide +kernel)(hd:(n==("__debug__" : Str))=false:=by decide +kernel):PCl X XS [n] (.Name n pos):=by
 obtain ⟨p,hp,e⟩:=Xi.mp hn
 have e:=beq_iff_eq.mp e
 subst e
 exact (Ww (v:=.ref (adr X.mg p.1)) hg (T.nm p hp) rfl hd).weak fun σ H Q h=>h _ H (Same.refl H) (.inl ⟨_,rfl,.inl ⟨⟨p,hp,rfl⟩,rfl⟩⟩)
theorem qgc {T:String}(hT:T∈bTs)(hg:Gl X (Ke T))(hm:X.mg (Ke T)=none)(hv:bootBuiltins (Ke T)=some (.type T))(hn:Ke T ≠ "__name__" := by decide +kernel)(hd:(Ke T==("__debug__" : Str))=false:=by decide +kernel):PCl X XS [Ke T] (.Name (Ke T) pos) :=
 (qb2 (v:=.ty T) hg hm hv rfl hn hd).weak fun σ H Q h=>h _ H (Same.refl H) (.inl ⟨_,rfl,.inr ⟨T,hT,rfl,rfl⟩⟩)
theorem qao:PCls X XS [] []:=JM.weak fun σ H Q h=>h [] .nil
theorem zX (T:XTab X.K X.mg XS)(hg:Gl X n)(h:PCls X XS ns es)(hn:(XS.any fun p=>p.1==n)=true:=by decide +kernel)(hd:(n==("__debug__" : Str))=false:=by decide +kernel)(hs:starEach (.Name n pos::es) X.env=(false,eval (.Name n pos) X.env)::starEach es X.env:=by rfl):PCls X XS (n::ns) (.Name n pos::es):=by
 obtain ⟨p,hp,e⟩:=Xi.mp hn
 have e:=beq_iff_eq.mp e
 subst e
 exact (Q0 (Ww (v:=.ref (adr X.mg p.1)) hg (T.nm p hp) rfl hd) h hs).weak fun σ H Q h vs hv=>h _ (.cons (.inl ⟨⟨p,hp,rfl⟩,rfl⟩) hv)
theorem qb0 {k}(h:PCls X XS ns es)(hl:ns.length<=1000:=by decide):PCl X XS ns (.Tuple es k pos) :=
 (qem h).weak fun σ H Q q vs hv=>⟨VA (zj (by rw [← Paired.length hv];exact hl)),fun p hp=>q _ _ (Same.lay hp) (.inr ⟨p,vs,rfl,SqT.of qI,hv⟩)⟩
theorem ym (T:XTab X.K X.mg XS)(hg:Gl X "isinstance")(hm:X.mg "isinstance" = none)(hv:bootBuiltins "isinstance" = some (.builtin "isinstance"))(ha:PD X M a fa)(hb:PCl X XS ns b)
  (he:starEach [a,b] X.env=(false,eval a X.env)::starEach [b] X.env:=by rfl) (hpl:(backTo pos (starEach [b] X.env)).any (·.1)=false:=by rfl) (hs2:starEach [b] X.env=(false,eval b X.env)::starEach [] X.env:=by rfl) :
  PD X M (.Call (.Name "isinstance" p1) [a,b] [] pos) (ev1 fa (isiN XS ns)) :=
 (Jk (qco T) hg hm hv (Q0 ha (Q0 hb JM hs2) he) (by decide +kernel) (by decide +kernel) he hpl).weak fun σ H Q ⟨S,ρ,d,hs,e,q⟩=>by
  obtain ⟨x,e1,e⟩:=qe e
  obtain ⟨c,y,p,rfl,hp,hc,rfl⟩:=qcB e
  refine ⟨S,ρ,_,hs,e1,fun v H1 g1 d1 v2 H2 g2 hv2=>?_⟩
  obtain ⟨a',rfl,o,ho,hx⟩:=d1.exc
  exact ⟨a',c,p,ns,v2,rfl,⟨o,g2 _ _ ho,hx⟩,hp,hc,hv2,q _ H2 (g1.trans g2) (.bool _)⟩
end
structure RoomM (k:Nat)(A:KI):Prop where
 dp:A.depth+3*k+5<recursionLimit
 un:A.units+16*k+200<cLine
theorem Room.m {k:Nat}{A:KI}(r:Room k A)(e:Option Kb):RoomM k (A.mark e):=⟨r.dp,r.un⟩
theorem RoomM.mono {j k:Nat}{A:KI}(r:RoomM k A)(h:j<=k):RoomM j A:=⟨by have:=r.dp;omega,by have:=r.un;omega⟩
structure FnOkM (P:Kx)(w:KG)(K:Kc)(mg:Str->Option Kb)(base:KA)(k:Nat)(f:Kd)(fd:Vi)(ps:List Str)(sp:Sp):Prop where
 len:∀ vs H Q E,sp vs H Q E->vs.length=ps.length
 run:∀ (A:KI) (outer:List Env) (s:Kf) (H:Hp) (args:Args) (us:List Kb) (vs:List V) (Q:VK) (E:XK),RoomM k A->Env0 P w K mg base A outer s H->BindsTo s fd args (ps.zip us)->Vals vs us->sp vs H Q E->
  codeAny (model P w) A (.call (.ref f) args) (CR CX0 outer P w H s Q E) s
def cxM (P:Kx)(w:KG)(K:Kc)(mg:Str->Option Kb)(base:KA)(N:List Str)(qual:Str)(scope:Vq)(f:Kd)(cd:Kb)(A:KI)(outer:List Env)(s:Kf)(H:Hp)(E:XK):Cx :=
 { (cxOf CX0 P w K mg base N qual scope f cd A outer s H E).nox with calm:=false }
structure KnownM (P:Kx)(w:KG)(K:Kc)(mg:Str->Option Kb)(base:KA)(x:Str)(n k:Nat)(h:List Ka->Option Ka):Prop where
 ex:∃ (f:Kd) (fd:Vi) (ps:List Str),FnOkM P w K mg base k f fd ps (spF K n h)/\mg x=some (.ref f)/\VT K (.ref f)=true/\Binds K fd ps []
section
variable {P:Kx}{w:KG}{K:Kc}{mg:Str->Option Kb}{base:KA}
theorem Fun.pureM {x qual:Str}{st:KY}{f:Kd}{fd:Vi}{N ps:List Str}{k n:Nat}{u:Rho->Option Out}{M':List Nat}(F:Fun K x qual st f fd)(S:FnScope N ps (qt st))(hn:ps.length=n)
  (hbody:∀ (cdv:Kb) (A:KI) (outer:List Env) (s:Kf) (H:Hp) (E:XK),RoomM k (A.deeper (envOfC qual (qt st) s.heap.objs.size f cdv))->∀ G:Gm,
   PDSs (cxM P w K mg base N qual (qt st) f cdv A outer s H E) G [] [] M' [] .pl (zH st) u) :
  FnOkM P w K mg base (k+1) f fd ps (spF K n fun ds=>ob (u (rho0 N.length ds)) outD):=by
 obtain ⟨oc,dV,od,kV,doc,pm,an,cdv,ct,osl,rfl,lk,hcd⟩:=F.g.ex
 have len:∀ vs H Q E,spF K n (fun ds=>ob (u (rho0 N.length ds)) outD) vs H Q E->vs.length=ps.length:=fun vs H Q E h=>by
  obtain ⟨_,ds,d,_,h1,h2,_⟩:=h
  rw [h1.length,h2,hn]
 refine ⟨len,fun A outer s H args us vs Q E hr e0 hb r hsp=>?_⟩
 have hl:=len _ _ _ _ hsp
 have KX:K.In s.heap:=e0.mod.kin.keeps fun b o e=>(e0.bs b o e).1
 have lim:s.heap.NoLimit:=e0.mod.nolimit.keeps fun b o e=>(e0.bs b o e).1
 have hkind:∀ y∈ps.zip us,(qt st).names.lookup y.1=some .local\/((qt st).names.lookup y.1=some .cell/\((cellsFrom (s.heap.objs.size+1) (qt st).names []).lookup y.1).isSome=true):=fun ⟨n,v⟩ hy=>by
  rcases S.par n (XR hy).1 with q|q
  ·exact .inl q
  ·exact .inr ⟨q,XC _ _ _ (.inl q)⟩
 refine codeAny_call_function (by have:=hr.dp;omega) (KX _ _ lk) rfl S.co S.gen rfl (EA KX hcd) (hb _ _ _ _ ?_)
 refine Nj S.kind hkind fun env he s1 x=>?_
 subst he
 refine ⟨lim.keeps x.toInCall.keep,codeAny_func ?_⟩
 obtain ⟨Sv,ds,d,m,h1,h2,e,q⟩:=hsp
 obtain ⟨o,e1,e⟩:=qe e
 have hr':RoomM k (A.deeper (envOfC qual (qt st) s.heap.objs.size f cdv)):=⟨by have:=hr.dp;show A.depth+1+3*k+5<_;omega,by have:=hr.un;show A.units+3+16*k+200<_;omega⟩
 have I0:Inv (cxOf CX0 P w K mg base N qual (qt st) f cdv { A with handled:=none } outer s H E) [] (start N vs) H s1:=Y0 S rfl ⟨e0.frames,e0.mod,e0.bs,e0.bsz,e0.funs,e0.frf,e0.hok,e0.bare⟩ hl r x
 have I:Inv (cxM P w K mg base N qual (qt st) f cdv A outer s H E) [] (start N vs) H s1 :=
  ⟨⟨I0.ok.mod,I0.ok.kind,I0.ok.glob,I0.ok.blt,I0.ok.above,I0.ok.inj,I0.ok.has,I0.ok.cab,(fun z=>nomatch z),I0.ok.frames,I0.ok.stk,I0.ok.exf,I0.ok.bs,I0.ok.bsz,I0.ok.noex,I0.ok.exfs,I0.ok.funs,I0.ok.frf⟩,I0.os,I0.bare,I0.base,I0.loc,I0.cell,I0.free,I0.freeC,I0.pin,I0.hok,I0.len⟩
 have q':OutQ K (G0 H Sv) M' [] [] .pl { nx:=fun _ H'=>Q .non H',rt:=Q } o:=by
  cases o with
  | rt r=>cases e;exact q
  | nx ρ=>cases e;exact fun σ' H' S' hs=>q _ H' hs.h0 .none
  | bk ρ=>cases e
  | ct ρ=>cases e
 refine Vk (hbody cdv A outer s H E hr' (G0 H Sv) [] s1 (start N vs) H _ I ⟨Sv,rho0 N.length ds,o,OwnS.start m h1 N,e1,q'⟩) (fun fl s' hs=>?_) fun e s' hs=>hs.elim
 cases fl with
 | ret u=>obtain ⟨v,σ',H',J,rv,q⟩:=hs;exact ⟨v,H',J.os,J.bare,J.base,J.hok,rv,q⟩
 | next=>obtain ⟨σ',H',J,q⟩:=hs;exact ⟨V.non,H',J.os,J.bare,J.base,J.hok,rfl,q⟩
 | brk=>obtain ⟨_,_,_,q⟩:=hs;exact Vx q
 | cont=>obtain ⟨_,_,_,q⟩:=hs;exact Vx q
end
section
variable {X:Cx}{M:List Nat}{a:Kw}{es:List Kw}{pos:Pos}
theorem qcO {x:Str}{p:Pos}{n k k':Nat}{h:List Ka->Option Ka}{fs:Rho->Option (List Ka)}(F:KnownM X.prog X.w X.K X.mg X.base x n k h)(hr:RoomM k' X.A)(hk:k<=k')(hg:Gl X x)(ha:PDA X M (a::es) fs)(hl:(a::es).length=n)
  (hdb:(x==("__debug__" : Str))=false:=by decide +kernel) (he:starEach (a::es) X.env=(false,eval a X.env)::starEach es X.env:=by rfl) (hpl:(backTo pos (starEach es X.env)).any (·.1)=false:=by rfl) :
  PD X M (.Call (.Name x p) (a::es) [] pos) (evC n fs h):=by
 obtain ⟨f,fd,ps,F,hm,kp,hb⟩:=F.ex
 intro pins s σ H Q I ⟨S,ρ,d,hs,e,q⟩
 obtain ⟨ds,e1,e⟩:=qe e
 have e:(if ds.length=n then h ds else none)=some d:=e
 split at e
 case isFalse=>cases e
 rename_i hn
 refine Uh (Zr I hg hm ?_ hdb)
 refine U2 (h₀:=X.base) I.ok.mod.kin kp (thn (ha pos pins s σ H (fun vs H1=>Same H H1/\DenL X.K H1 S vs ds) I ⟨S,ρ,ds,hs,e1,fun vs H1 g1 d1=>⟨g1,d1⟩⟩) fun us s1 ⟨vs,H1,I1,r,g1,d1⟩=>⟨I1.kIn,?_⟩) he hpl
 have hsp:spF X.K n h vs H1 Q E0:=⟨S,ds,d,hs.1.same g1,d1,hn,e,fun v H' g2 dv=>q v H' (g1.trans g2) dv⟩
 have hlen:(us++[]).length=ps.length:=by rw [VN,← r.length];exact F.len _ _ _ _ hsp
 refine XQ (Xv (F.run X.A X.stack s1 H1 ⟨us,[]⟩ us vs Q E0 (hr.mono hk) I1.env0 (by have:=hb s1 us I1.kIn hlen;rwa [VN] at this) r hsp) fun r s' hq=>?_)
 cases r with
 | error e=>exact hq.elim
 | ok fl =>
  cases fl with
  | ret u=>exact I1.after hq
  | next=>exact Vx hq
  | brk=>exact Vx hq
  | cont=>exact Vx hq
end
def vBM:List Kb:=[.type "ValueError", .type "Exception", .type "BaseException", .type "object"]
section
variable {K:Kc}{mg:Str->Option Kb}{XS:List (Str×List Str)}{c cn:Str}{cs:List Str}
theorem XTab.has (h:(XS.any fun p=>p.1==c)=true):∃ p∈XS,p.1=c:=by
 obtain ⟨p,hp,e⟩:=Xi.mp h
 exact ⟨p,hp,beq_iff_eq.mp e⟩
theorem XTab.mg1 (T:XTab K mg XS)(h:(XS.any fun p=>p.1==c)=true):mg c=some (.ref (adr mg c)):=by
 obtain ⟨p,hp,rfl⟩:=XTab.has h
 exact T.nm p hp
theorem XTab.cat1 (T:XTab K mg XS)(h:(XS.any fun p=>p.1==c)=true):catB K (adr mg c)=true:=by
 obtain ⟨p,hp,rfl⟩:=XTab.has h
 exact T.cat p hp
theorem XTab.cs1 (T:XTab K mg XS)(h:(XS.any fun p=>p.1==cn)=true)(hc:(cs.all fun c=>XS.any fun p=>p.1==c&&p.2.contains cn)=true):∀ c∈cs,∀ C,XCls K c C->VM K C (.ref (adr mg cn))=some true:=by
 intro c hm C hC
 obtain ⟨p,hp,e⟩:=Xi.mp (KR.mp hc c hm)
 rw [Ko] at e
 have e1:=beq_iff_eq.mp e.1
 subst e1
 obtain ⟨d,hd,rfl⟩:=XTab.has h
 have:=(T.ns p hp).symm.trans hC.1
 cases this
 rw [T.mro p hp d hd,e.2]
end
def qg3 (f:Rho->Option Ka):Rho->Option Out:=fun ρ=>ob (f ρ) fun _=>some (.nx ρ)
section
variable {X:Cx}{G:Gm}{M Mb L:List Nat}{fr:Fr}{a:Kw}{f:Rho->Option Ka}{pos:Pos}
theorem qei (h:PD X M a f)(hs:swapsWith a none pos.line X.env=pure false:=by rfl):PDS X G M L M Mb fr (.Expr a pos) (qg3 f) :=
 (yt h hs).weak fun D σ H ⟨S,ρ,o,os,e,q⟩=>by
  obtain ⟨d,e1,e⟩:=qe e
  cases e
  exact ⟨S,ρ,d,os.ds,e1,fun v H1 g1 d1=>q σ H1 S (os.same g1)⟩
end
def catL:Ka->Ka->Option Ka
 | .list ds,.list es=>if ds.length+es.length<=1000 then some (.list (ds++es)) else none
 | _,_=>none
theorem qb4 {X:Cx}{M:List Nat}{a b:Kw}{fa fb:Rho->Option Ka}{pos:Pos}(ha:PD X M a fa)(hb:PD X M b fb):PF X M (.BinOp a .Add b pos) (ev2 fa fb catL) :=
 (qgY qbZ ha hb).weak fun σ H Q ⟨S,ρ,d,hs,e,q⟩=>by
  obtain ⟨x,e1,e⟩:=qe e
  obtain ⟨y,e2,e⟩:=qe e
  refine ⟨S,ρ,x,hs,e1,fun v H1 g1 d1=>⟨S,ρ,y,hs.same g1,e2,fun v2 H2 g2 d2=>?_⟩⟩
  unfold catL at e
  split at e
  ·split at e
   ·rename_i ds es hc
    cases e
    obtain ⟨l,xs,rfl,h1,t1⟩:=d1.list_inv
    obtain ⟨l2,ys,rfl,h2,t2⟩:=d2.list_inv
    have h1:=h1.imp (fun q=>(⟨q.1.off (S:=S) g2.off q.2,q.2⟩:_/\_)) id
    refine ⟨l,l2,xs,ys,rfl,rfl,SqLS.sq (S:=S) h1,h2.sq,by rw [t1.length,t2.length];exact VA (zj hc),fun p hp=>q p _ ((g1.trans g2).lay' hp) ((g1.trans g2).free hp) (OwnO.laid hp ((t1.same g2).append t2))⟩
   ·cases e
  ·cases e
theorem qio {u:Rho->Option Out}{w:Rho->Option (Ka×Rho)}{cs:List Str}{i:Nat}{uh:Rho->Option Out}{ρ ρ':Rho}{c:Str}{d:Ka}(h:w ρ=some (excD c d,ρ'))(hc:cs.contains c=true):sTry u w cs i uh ρ=ob (uh (ρ'.set i (some (excD c d)))) fun o=>some (qd9 i o):=by
 unfold sTry
 rw [h]
 show (if cs.contains c=true then _ else _)=_
 rw [if_pos hc]
def clsB:KY->List KY
 | .ClassDef _ _ _ body ..=>body
 | _=>[]
abbrev tuO (l:List Kb):Obj:={ cls:=.type "tuple", data:=.seq l.toArray }
abbrev mkH (h:KA)(C:Kd)(l:List Kb):KA:=(h.push (tuO l)).push (exO C none h.objs.size)
theorem jb {h:KA}{C:Kd}{l:List Kb}:∀ b o,h.get? b=some o->(mkH h C l).get? b=some o:=fun _ _ e=>Kk _ (Kk _ e)
theorem qgV {h:KA}{C:Kd}{l:List Kb}:(mkH h C l).get? (h.objs.size+1)=some (exO C none h.objs.size):=by
 have z:=K4 (h.push (tuO l)) (o:=exO C none h.objs.size) rfl
 rwa [Uy] at z
section
variable {prog:Kx}{w:KG}{A:KI}{E:Kb->Kf->Prop}{s:Kf}{K:Kc}{C:Kd}{env:Env}
theorem qcX {x:Sem Kb}{Q:Flow->Kf->Prop}(Z:XcK K C)(hct:US K (.ref C)=some (.type "type"))(hh:A.handled=none)
  (h:wpAny (model prog w) A x (fun v s₁=>∃ e od t,v=.ref e/\K.In s₁.heap/\s₁.heap.get? e=some (exO C od t)/\E (.ref e) s₁) E s):wpAny (model prog w) A (raiseStmt env (some x) none) Q E s:=by
 unfold raiseStmt
 refine Kg (Vk h (fun v s₁ ⟨e,od,t,ev,X,he,hE⟩=>?_) fun _ _ z=>z)
 subst ev
 obtain ⟨hp,g,d,tk,os⟩:=s₁
 have L1:=UR (M:=model prog w) X Z.mb
 obtain ⟨oc,hc,hcc⟩:∃ o,hp.get? C=some o/\o.cls=.type "type" := by
  unfold US at hct
  obtain ⟨o,ho,hcc⟩:=Eb.mp hct
  exact ⟨o,X _ _ ho,hcc⟩
 repeat (first|with_reducible refine UK he ?_|with_reducible refine PySem.W.Looks.at (by assumption) ?_|(with_reducible refine UK hc ?_;rw [hcc])|wp_step)
 exact wpAny_raiseNew_none hh hE
end
section
variable {prog:Kx}{w:KG}{A:KI}{E:Kb->Kf->Prop}{h:KA}{g:Array GenState}{d:Drawn}{t:Nat}{os:OsState}
variable {nm q:Str}{C N:Kd}{bs bm bmB:List Kb}{hdct:Bool}{sn:List Str}{sub:List Kb}{ab:Bool}{col:Option Bool}{dd:Option Kd}{k0 k1 k2 k3 k5:Option Kb}{B newId initId:String}
theorem qa1 (F:ExcBaseFacts B newId initId bmB)(T:OwnTail h bmB bm){mN:Str->Option Kb}{rest:List Kb}{fI:Kd}{oI:Obj}{Q:Fin->Kf->Prop}(hC:h.get? C=some (excClassObj nm q C N bs bm hdct sn sub ab col dd k0 k1 k2 k3 k5 newId))(hn:h.Ns N mN)(hi:mN "__init__" = some (.ref fI))(hf:h.get? fI=some oI)(hfc:oI.cls=.type "function")
  (hq:wpAny (model prog w) A (call (.ref fI) (.ref (h.objs.size+1)::rest)) (fun r s'=>r=.none/\Q (.done (.ret (.ref (h.objs.size+1)))) s') E ⟨mkH h C rest,g,d,t,os⟩) (hz:rest.length<=sizeLine) :
  wpAny (model prog w) A (UZ.«type.__call__» ⟨.ref C::rest,[]⟩) Q E ⟨h,g,d,t,os⟩:=by
 repeat (first|with_reducible refine UK hC ?_|with_reducible refine wpAny_madeBy_exc hC ?_|wp_step)
 refine codeAny_call_builtin_code (Code.quiet_builtin _ F.quiet) (wpAny_check_new_subT F T hC (codeAny_exc_new_subT F T hC ?_ hz))
 show wpAny _ _ _ _ _ ⟨mkH h C rest,g,d,t,os⟩
 have c1:=jb (C:=C) (l:=rest) _ _ hC
 have f1:=jb (C:=C) (l:=rest) _ _ hf
 have n1:(mkH h C rest).Ns N mN:=hn.keeps jb
 have e1:=qgV (h:=h) (C:=C) (l:=rest)
 have t1:=T.keeps (h':=mkH h C rest) jb
 have cc:(KW C::bm).contains (.ref C)=true:=by simp
 unfold isInstance
 repeat (first|with_reducible refine UK e1 ?_|(with_reducible refine wpAny_isSubtype_exc c1 ?_;rw [cc])|wp_step)
 show wpAny _ _ (typeLookup (.ref C) _) _ _ _
 refine wpAny_typeLookup_tail c1 n1 t1 F.mroIs F.init.lookup ?_
 rw [hi]
 unfold bindSpecial
 refine V8 (Kg (Kg (wpAny_typeOf (T := "function") ⟨_,f1,hfc⟩ ?_)))
 rw [if_pos (by decide)]
 refine Ks (Kg (Vk hq (fun r s' ⟨hr,z⟩=>?_) fun _ _ z=>z))
 subst hr
 wp_walk
 exact z
theorem qcM (F:ExcBaseFacts B newId initId bmB)(T:OwnTail h bmB bm){mN:Str->Option Kb}{rest:List Kb}{fI:Kd}{oI:Obj}{Q:Kb->Kf->Prop}(hC:h.get? C=some (excClassObj nm q C N bs bm hdct sn sub ab col dd k0 k1 k2 k3 k5 newId))(hn:h.Ns N mN)(hi:mN "__init__" = some (.ref fI))(hf:h.get? fI=some oI)(hfc:oI.cls=.type "function")
  (hq:wpAny (model prog w) (A.under (.builtin "type.__call__" ⟨.ref C::rest,[]⟩)) (call (.ref fI) (.ref (h.objs.size+1)::rest)) (fun r s'=>r=.none/\Q (.ref (h.objs.size+1)) s') E ⟨mkH h C rest,g,d,t,os⟩) (hz:rest.length<=sizeLine) :
  wpAny (model prog w) A (call (.ref C) rest) Q E ⟨h,g,d,t,os⟩:=by
 have f1:=tc_lookup
 have f2:=tc_bind (.ref C)
 have hT:Shared.TypeIs ⟨h,g,d,t,os⟩ (.ref C) "type" := ⟨_,hC,rfl⟩
 refine XQ (codeAny_of_tree ?_)
 show wpAny _ _ (callAny (.ref C) _) _ _ _
 repeat (any_goals (first|assumption|with_reducible refine UK hC ?_|wp_step))
 exact ⟨rfl,codeAny_call_builtin_at (Code.quiet_builtin _ (by decide +kernel)) entry_typeCall (wpAny_check_type_call_sub hC (qa1 F T hC hn hi hf hfc hq hz))⟩
end
def wL:List Kb->Bool
 | .ref _::r=>wL r
 | l=>l==[.type "ValueError", .type "Exception", .type "BaseException", .type "object"]
theorem Jr (self:Kb):∀ {l:List Kb},wL l=true->refuseLoop self "__setattr__" l=pure ()
 | .ref c::r,e=>by rw [refuseLoop_ref];exact Jr self (l:=r) e
 | [],e=>by cases e
 | .none::_,e | .bool _::_,e | .int _ _::_,e | .str _ _::_,e | .type _::_,e=>by
  rw [beq_iff_eq.mp (show (_==_)=true from e)]
  exact NV.passes self
 | .float _ _::_,e=>by cases e
 | .builtin _::_,e=>by cases e
section
variable {prog:Kx}{w:KG}{A:KI}{E:Kb->Kf->Prop}{h:KA}{g:Array GenState}{d:Drawn}{tk0:Nat}{os:OsState}{K:Kc}{C x t:Kd}{name:Str}{v:Kb}{cd:ClassData}
theorem Yz {tk:Tok}{Q:Fin->Kf->Prop}(X:K.In h)(hcd:V2 K C=some cd)(htl:wL cd.mro=true)(hhd:cd.hasDict=true)(hnn:KZ K (.ref C) name=some none)(hx:h.get? x=some (exO C none t))
  (hq:∀ h' tk',h'.get? x=some (exO C (some h.objs.size) t)->h'.Ns1 h.objs.size (fun y=>if y=name then some v else none)->(∀ b o,b≠x->h.get? b=some o->h'.get? b=some o)->Q (.done (.ret .none)) ⟨h',g,d,tk',os⟩) :
  wpAny (model prog w) A (UZ.«object.__setattr__» ⟨[.ref x,.str name tk,v],[]⟩) Q E ⟨h,g,d,tk0,os⟩:=by
 have L1:UD (model prog w) h (typeOf (.ref x)) (.ref C):=(Xx hx).andThen .now
 have L2:UD (model prog w) h (mroOf (.ref C)) cd.mro:=(PySem.W.looks_clsIn X hcd).andThen .now
 have L3:=Uz (M:=model prog w) X hnn
 rw [PySem.W.osa_eq,refuse_eq]
 refine Kg (Kg (L1.here (Kg (L2.here ?_))))
 rw [Jr _ htl]
 refine Ks (Kg (L1.here (Kg (L3.here ?_))))
 repeat (first|with_reducible refine UK hx ?_|wp_step)
 obtain ⟨oc,od,sl,hC⟩:∃ oc od sl,h.get? C=some ⟨oc,od,.cls cd,sl⟩:=by
  unfold V2 at hcd
  split at hcd
  ·rename_i c' d' cd' sl' ho
   cases hcd
   exact ⟨_,_,_,X _ _ ho⟩
  ·cases hcd
 refine wpAny_load hC (Ks ?_)
 rw [hhd,if_neg (by decide)]
 show wpAny _ _ (alloc _ >>= _) _ _ _
 refine Kg (wpAny_alloc' ?_)
 have hx1:(h.push Nz).get? x=some (exO C none t):=Kk _ hx
 have nx:x≠h.objs.size:=K6 (Ku hx)
 refine Kg (wpAny_update' hx1 (Ks ?_))
 generalize hU:((h.push Nz).update x fun o=>{ cls:=o.cls,dict:=some h.objs.size,data:=o.data,slots:=o.slots })=U
 have u1:U.get? h.objs.size=some Nz:=by rw [← hU];exact (Uu _ _ _ _ nx.symm).trans (Heap.get?_push_at rfl rfl)
 have u2:U.get? x=some (exO C (some h.objs.size) t):=by rw [← hU];exact Ui _ hx1 rfl
 have u3:∀ b o,b≠x->h.get? b=some o->U.get? b=some o:=fun b o hb e=>by rw [← hU];exact (Uu _ _ _ _ hb).trans (Kk _ e)
 have hnd:U.Ns h.objs.size (fun _=>none):=⟨_,#[],_,u1,rfl,fun e he=>absurd he (by simp),fun _=>rfl⟩
 show wpAny _ _ (Builtin.ObjectAttr.storeInDict h.objs.size (.str name tk) name v) _ _ _
 unfold Builtin.ObjectAttr.storeInDict Builtin.ObjectAttr.newKeyGuard
 refine Kg (Ks (Kg (wpAny_nsSet1 (Heap.Ns1.of_empty hnd) fun h' hn' hs=>?_)))
 obtain ⟨oD,esD,epD,hoD,hdD,hcD⟩:=hn'.count (Within.cons name v Within.nil)
 refine Kg (wpAny_lookBehind hoD (by rw [hdD];exact pastItsLine_dict (Vg hcD (by rw [KM,Xs,Uj];omega))) ?_)
 wp_walk
 exact hq h' _ ((hs.2 x nx).trans u2) hn' fun b o hb e=>(hs.2 b (K6 (Ku e))).trans (u3 b o hb e)
theorem qcv {Q:Unit->Kf->Prop}(X:K.In h)(hsa:KZ K (.ref C) "__setattr__" = some (some (.builtin "object.__setattr__")))(hmo:VM K C (.type "object")=some true)(hcd:V2 K C=some cd)(htl:wL cd.mro=true)(hhd:cd.hasDict=true)(hnn:KZ K (.ref C) name=some none)(hx:h.get? x=some (exO C none t))
  (hq:∀ h' tk',h'.get? x=some (exO C (some h.objs.size) t)->h'.Ns1 h.objs.size (fun y=>if y=name then some v else none)->(∀ b o,b≠x->h.get? b=some o->h'.get? b=some o)->Q () ⟨h',g,d,tk',os⟩) :
  wpAny (model prog w) A (setAttr (.ref x) name v) Q E ⟨h,g,d,tk0,os⟩:=by
 have L1:UD (model prog w) h (typeOf (.ref x)) (.ref C):=(Xx hx).andThen .now
 have L2:=Uz (M:=model prog w) X hsa
 have SV:=NV
 have f3:=SV.slot.bind (.ref x)
 have sub:UD (model prog w) h (isInstance (.ref x) (.type "object")) true:=L1.andThen (UR X hmo)
 unfold setAttr callSpecial? specialOf
 repeat (any_goals (first|assumption|with_reducible refine PySem.W.Looks.at (by assumption) ?_|wp_step))
 refine UM SV.slot.plain SV.entry (@PySem.W.check_slot (model prog w) _ _ _ "object.__setattr__" "object" "__setattr__" (.ref x) [_,v] [] _ SV.kind SV.split sub (SV.args _ _ v) ?_)
 refine Yz X hcd htl hhd hnn hx fun h' tk' a b c=>?_
 repeat (any_goals (first|assumption|wp_step))
 exact hq h' tk' a b c
end
section
variable {prog:Kx}{w:KG}{A:KI}{E:Kb->Kf->Prop}{h:KA}{g:Array GenState}{d:Drawn}{tk0:Nat}{os:OsState}{C x t:Kd}{v:Kb}
variable {nm q:Str}{N:Kd}{bs bm bmB:List Kb}{hdct:Bool}{sn:List Str}{sub:List Kb}{ab:Bool}{col:Option Bool}{dd:Option Kd}{k0 k1 k2 k3 k5:Option Kb}{B newId initId:String}
theorem qct (F:ExcBaseFacts B newId initId bmB)(T:OwnTail h bmB bm){Q:Kb->Kf->Prop}(hC:h.get? C=some (excClassObj nm q C N bs bm hdct sn sub ab col dd k0 k1 k2 k3 k5 newId))(hx:h.get? x=some (exO C none t))
  (hq:∀ h',h'.get? x=some (exO C none h.objs.size)->h'.get? h.objs.size=some (tuO [v])->(∀ b o,b≠x->h.get? b=some o->h'.get? b=some o)->Q .none ⟨h',g,d,tk0,os⟩) :
  wpAny (model prog w) A (call (.builtin initId) [.ref x,v]) Q E ⟨h,g,d,tk0,os⟩:=by
 have nx:x≠h.objs.size:=K6 (Ku hx)
 refine XQ (UM F.init.plain F.initEntry (wpAny_check_init_subT F T hC hx rfl ?_))
 wp_walk
 refine hq _ ?_ ?_ fun b o hb e=>?_
 ·exact Ui _ (Kk _ hx) rfl
 ·exact (Uu _ _ _ _ nx.symm).trans (Heap.get?_push_at rfl rfl)
 ·exact (Uu _ _ _ _ hb).trans (Kk _ e)
end
def qbI (K:Kc)(D f:Kd):Bool:=match K.lookup D with
 | some ⟨.type "type", _,.cls k,z⟩=>(match k.mro,z.toList with
  | .ref D'::l,[_,_,_,_,some (.builtin i),_]=>D'==D&&(i == "ValueError.__new__" && (!k.hasDel&&(PySem.W.tailIn K vBM l&&(PySem.W.nsOkIn K k.ns&&KF K k.ns "__init__" == some (some (.ref f))))))
  | _,_=>false)
 | _=>false
theorem qf1 {K:Kc}{h:KA}{N:Kd}{m:Str->Option Kb}{n:Str}{v:Kb}(X:K.In h)(G:h.Ns N m)(e:KF K N n=some (some v)):m n=some v:=by
 obtain ⟨o,es,ep,h1,h2,_,h3⟩:=G
 unfold KF at e
 split at e
 case h_2=>cases e
 rename_i q
 have z:=(X _ _ q).symm.trans h1
 cases z;cases h2
 split at e
 ·rename_i en he
  cases e;rw [← h3]
  unfold nsFind findBy;rw [← Array.find?_toList,he];rfl
 ·split at e<;>cases e
theorem qbJ {K:Kc}{h:KA}{C fI:Kd}(X:K.In h)(q:qbI K C fI=true) :
  ∃ bm N nm qn bs hd sn sub ab col dd k0 k1 k2 k3 k5 mN,h.get? C=some (excClassObj nm qn C N bs bm hd sn sub ab col dd k0 k1 k2 k3 k5 "ValueError.__new__")/\h.Ns N mN/\mN "__init__" = some (.ref fI)/\OwnTail h vBM bm:=by
 unfold qbI at q
 split at q
 case h_2=>cases q
 rename_i dd cd sl lk;split at q
 case h_2=>cases q
 rename_i C' bm k0 k1 k2 k3 n k5 em es
 simp only [Ko,beq_iff_eq,Ny] at q
 obtain ⟨c1,c2,hdel,c4,c5,c6⟩:=q
 obtain ⟨nm,bs,mro,ns,qn,hd,sn,sub,ab,col,del⟩:=cd
 obtain ⟨l⟩:=sl
 subst c1 c2
 dsimp only at em es c5 c6 hdel;subst em es hdel
 exact ⟨bm,ns,nm,qn,bs,hd,sn,sub,ab,col,dd,k0,k1,k2,k3,k5,_,X _ _ lk,.of_isNs (EC X c5),qf1 X (.of_isNs (EC X c5)) c6,PySem.W.tail_of_in X c4⟩
def shOk (d:Ka):Bool:=(match d with | .int _=>true | .tuple _=>true | .list _=>true|_=>false)&&(d.showable&&(d.canLay0&&(!d.hasDict&&(decide (d.depth<=63)&&decide (d.shown.length<=100000)))))
section
variable {X:Cx}{pins:List (Kd×Obj)}{σ:St}{H:Hp}{s:Kf}{S:Av}{k:Nat}{E:Kb->Kf->Prop}
theorem qeF {v:V}{u:Kb}{d:Ka}{Q:Kb->Kf->Prop}(hr:Room k X.A)(I:Inv X pins σ H s)(dv:Den X.K H S v d)(rv:RelV v u)(hs:shOk d=true)(h:∀ y tk s',Inv X pins σ H s'->y.length<=100000->Q (.str y tk) s') :
  wpAny (model X.prog X.w) X.A (pyReprObj u) Q E s:=by
 unfold shOk at hs
 simp only [Ko,Ny,decide_eq_true_eq] at hs
 obtain ⟨h0,h1,h2,h3,h4,h5⟩:=hs
 have big:d.shown.length<=sizeLine:=by rw [Uj];omega
 have ref:∀ a,u=.ref a->wpAny (model X.prog X.w) X.A (pyReprObj u) Q E s:=fun a e=>by
  subst e
  obtain ⟨as,rd⟩:=dv.reads I h2 rv
  exact pyReprObj_of_reads rd h1 (fun z=>by rw [h3] at z;cases z) hr.gd (by have:=hr.units;omega) (fun _ _ e=>e) (fun h' u' tk hk=>h _ _ _ (I.kept hk) h5) big
 cases dv with
 | int i =>
  obtain ⟨t,e⟩:=(show ∃ t,u=Xu i t from rv)
  subst e
  refine pyReprObj_int ?_ (h _ _ _ (I.tok _) h5)
  rw [XZ] at h1
  exact of_decide_eq_true h1
 | list a b=>exact ref _ rv
 | tuple a b=>exact ref _ rv
 | _=>cases h0
theorem qfs {c x:Str}{i j:Nat}{p1 p2 p3 pos:Pos}{v:V}{d:Ka}{Q:Kb->Kf->Prop}(hr:Room k X.A)(I:Inv X pins σ H s)(hi:X.N[i]?=some x)(hv:Vis X.env.scope x)(e:σ[i]?=some (some v))(dv:Den X.K H S v d)(hs:shOk d=true)(hc:c.length<=1000)
  (hd:(x==("__debug__" : Str))=false) (hcd:(x==("__classdict__" : Str))=false) (h:∀ y tk s',Inv X pins σ H s'->Q (.str y tk) s') :
  wpAny (model X.prog X.w) X.A (eval (.JoinedStr [.Constant (.str c) j p1,.FormattedValue (.Name x p2) 114 none p3] pos) X.env) Q X.xe s:=by
 refine wpAny_JoinedStr ?_
 show wpAny _ _ (eval (.Constant (.str c) j p1) X.env) _ _ _
 have l0:(Ey++c).length=c.length:=by rw [UI];show 0+_=_;omega
 refine Calls.Constant_str ⟨c,_,rfl,by rw [l0,Uj];omega,?_⟩
 show wpAny _ _ (eval (.FormattedValue (.Name x p2) 114 none p3) X.env) _ _ _
 refine wpAny_FormattedValue_repr (thn (JS hi hv hd hcd pins _ σ H (fun y H1=>y=v/\H1=H) (I.tok _) ⟨v,e,rfl,rfl⟩) fun u s1 ⟨v',H1,I1,rv,e1,e2⟩=>?_)
 subst e1 e2
 refine qeF hr I1 dv rv hs fun y tk s2 I2 hy=>?_
 have l1:(Ey++c++y).length<=sizeLine:=by rw [UI,l0,Uj];omega
 exact wpAny_formatField_str ⟨y,_,rfl,l1,l1,h _ _ _ (I2.tok _)⟩ ⟨y,_,rfl,l1,l1,h _ _ _ ((I2.tok _).tok _)⟩ (by rw [Uj];omega)
end
structure IniK (K:Kc)(mg:Str->Option Kb)(n bn:Str)(C SE f:Kd):Prop where
 exi:qbI K C f=true
 sa:KZ K (.ref C) "__setattr__" = some (some (.builtin "object.__setattr__"))
 cd:∃ cd,V2 K C=some cd/\wL cd.mro=true/\cd.hasDict=true
 nn:KZ K (.ref C) n=some none
 xc:xcB K C=true
 seM:mg bn=some (.ref SE)
 seR:PySem.W.readsIn K SE (.type "type")=true
 seG:U9 K (.ref SE) "__getattribute__" = some (some (.builtin "type.__getattribute__"))
 seF:PySem.W.findCls K (.ref SE) (.type "type") "__init__" = some (.val (.builtin "ValueError.__init__"))
abbrev exH (e C:Kd)(od:Option Kd)(t:Kd):HO:=.ext fun h=>h.get? e=some (exO C od t)
theorem qaM {P:Kx}{w:KG}{H:Hp}{h:KA}{e C t:Kd}{od:Option Kd}(a:h.get? e=some (exO C od t)):zK P w H h e (exH e C od t):=⟨a,⟨_,a⟩,fun _ _ x k=>k _ x⟩
section
variable {X:Cx}{pins:List (Kd×Obj)}{σ:St}{H:Hp}{s:Kf}{S:Av}{k:Nat}{n bn c:Str}{C SE f e t:Kd}{j:Nat}{p1 p2 ap q1 q2 q3 q4 cp ep r1 r2 r3 r4:Pos}{v:V}{d:Ka}
theorem qfD {Q:Flow->Kf->Prop}{pl:Sem Bool}(Z:IniK X.K X.mg n bn C SE f)(hr:Room k X.A)(I:Inv X pins σ H s)(h0:X.N[0]?=some ("self" : Str))(h1:X.N[1]?=some n)(v0:Vis X.env.scope "self")(v1:Vis X.env.scope n)(hg:Gl X bn)(e0:σ[0]?=some (some (.ref e)))(e1:σ[1]?=some (some v))(he:H e=some (exH e C none t))(dv:Den X.K H S v d)(hs:shOk d=true)(hc:c.length<=1000)
  (hd:(n==("__debug__" : Str))=false) (hcd:(n==("__classdict__" : Str))=false) (hbd:(bn==("__debug__" : Str))=false)
  (h:∀ t' s',Inv X pins σ (upd H e (exH e C none t')) s'->Q .next s')
  (ht:eval (.Call (.Attribute (.Name bn p1) "__init__" ap) [.Name "self" p2,.JoinedStr [.Constant (.str c) j q1,.FormattedValue (.Name n q2) 114 none q3] q4] [] cp) X.env=(do
   let ov ← eval (.Name bn p1) X.env
   standAt ap.atName
   let (f,first) ← holding [ov] (getMethod ov "__init__" pl)
   callWith cp f first (backTo cp (starEach [.Name "self" p2,.JoinedStr [.Constant (.str c) j q1,.FormattedValue (.Name n q2) 114 none q3] q4] X.env)) (backToKw cp (keywordEach [] X.env))):=by rfl)
  (hsw:swapsWith (.Call (.Attribute (.Name bn p1) "__init__" ap) [.Name "self" p2,.JoinedStr [.Constant (.str c) j q1,.FormattedValue (.Name n q2) 114 none q3] q4] [] cp) none ep.line X.env=pure false:=by rfl) :
  wpAny (model X.prog X.w) X.A (exec (.Expr (.Call (.Attribute (.Name bn p1) "__init__" ap) [.Name "self" p2,.JoinedStr [.Constant (.str c) j q1,.FormattedValue (.Name n q2) 114 none q3] q4] [] cp) ep) X.env) Q X.xe s:=by
 refine Ee ?_ I.quiet hsw
 refine PySem.W.methodCall_KW (pl:=pl) (Zr I hg Z.seM ?_ hbd) ht
 refine PySem.W.method_cls I.kIn Z.seG (PySem.W.cls_value I.kIn Z.seR Z.seF rfl ?_)
 refine XU ?_ rfl rfl
 have ha:PA X [.Name "self" p2,.JoinedStr [.Constant (.str c) j q1,.FormattedValue (.Name n q2) 114 none q3] q4] (fun σ' H' Q'=>σ'=σ/\H'=H/\∀ y,Q' [.ref e,.str y] H):=by
  refine (Q0 (te:=fun σ' H' Q'=>σ'=σ/\H'=H/\Q' (.ref e) H) (fun pins' s' σ' H' Q' I' hq=>?_) (Q0 (te:=fun σ' H' Q'=>σ'=σ/\H'=H/\∀ y,Q' (.str y) H) (fun pins' s' σ' H' Q' I' hq=>?_) JM rfl) rfl).weak fun σ' H' Q' hq=>?_
  ·obtain ⟨rfl,rfl,hq⟩:=hq
   exact JS h0 v0 (by decide +kernel) (by decide +kernel) pins' s' _ _ Q' I' ⟨_,e0,hq⟩
  ·obtain ⟨rfl,rfl,hq⟩:=hq
   exact qfs hr I' h1 v1 e1 dv hs hc hd hcd fun y tk s2 I2=>⟨.str y,_,I2,⟨_,rfl⟩,hq y⟩
  ·obtain ⟨rfl,rfl,hq⟩:=hq
   exact ⟨rfl,rfl,rfl,rfl,fun y=>hq y⟩
 refine thn (ha cp pins _ σ H (fun vs H1=>∃ y,vs=[.ref e,.str y]/\H1=H) (I.tok _) ⟨rfl,rfl,fun y=>⟨y,rfl,rfl⟩⟩) fun us s1 ⟨vs,H1,I1,r,y,ev,eh⟩=>?_
 subst ev eh
 obtain ⟨u1,u2,rfl,ru1,ru2⟩:=r.two
 cases (show u1=KW e from ru1)
 obtain ⟨bm,N,nm,qn,bs,hd',sn,sub,ab,col,dd,k0,k1,k2,k3,k5,mN,hC,hN,hni,TL⟩:=qbJ I1.mod.kin Z.exi
 obtain ⟨hh,g,dr,tk,os⟩:=s1
 have hx:hh.get? e=some (exO C none t):=(I1.hok e _ he).1
 refine qct Nt (TL.keeps I1.bk) (I1.bk _ _ hC) hx fun h' a1 a2 a3=>h hh.objs.size _ ?_
 exact I1.write (t':=tk) (by rw [he];exact V0) (.inl rfl) (fun b u hb q=>a3 b u hb q) ⟨_,a1⟩ (qaM a1)
theorem qfC {Q:Flow->Kf->Prop}(Z:IniK X.K X.mg n bn C SE f)(I:Inv X pins σ H s)(h0:X.N[0]?=some ("self" : Str))(h1:X.N[1]?=some n)(v0:Vis X.env.scope "self")(v1:Vis X.env.scope n)(e0:σ[0]?=some (some (.ref e)))(e1:σ[1]?=some (some v))(he:H e=some (exH e C none t))
  (hd:(n==("__debug__" : Str))=false) (hcd:(n==("__classdict__" : Str))=false) (hex:X.ex=[]) (h:∀ dx s',H dx=none->Inv X pins σ (upd (upd H e (exH e C (some dx) t)) dx (.xd [(n,v)])) s'->Q .next s')
  (hsw:swapsWith (.Name n r3) (some (.Attribute (.Name "self" r1) n r2)) r4.line X.env=pure false:=by rfl) :
  wpAny (model X.prog X.w) X.A (exec (.Assign [.Attribute (.Name "self" r1) n r2] (.Name n r3) r4) X.env) Q X.xe s:=by
 refine plainObj_wpAny_Assign_Attribute (thn (JS h1 v1 hd hcd pins s σ H (fun y H1=>y=v/\H1=H) I ⟨v,e1,rfl,rfl⟩) fun u s1 ⟨v',H1,I1,rv,ev,eh⟩=>thn (JS h0 v0 (by decide +kernel) (by decide +kernel) pins s1 σ H1 (fun y H2=>y=.ref e/\H2=H1) I1 ⟨_,e0,rfl,rfl⟩) fun ov s2 ⟨x,H2,I2,rx,ex,eh2⟩=>?_) hsw
 subst ev eh ex eh2
 cases (show ov=KW e from rx)
 obtain ⟨hh,g,dr,tk,os⟩:=s2
 obtain ⟨cd,c1,c2,c3⟩:=Z.cd
 have hx:hh.get? e=some (exO C none t):=(I2.hok e _ he).1
 have hd0:H2 hh.objs.size=none:=I2.hok.fresh (Km _)
 have nd:hh.objs.size≠e:=Uo (Ku hx)
 refine qcv I2.kIn Z.sa (jO Z.xc).mo c1 c2 c3 Z.nn hx fun h' tk' a1 a2 a3=>h hh.objs.size _ hd0 ?_
 have I3:Inv X pins σ (upd H2 e (exH e C (some hh.objs.size) t)) ⟨h',g,dr,tk',os⟩:=I2.write (t':=tk') (by rw [he];exact V0) (.inl rfl) (fun b u hb q=>a3 b u hb q) ⟨_,a1⟩ (qaM a1)
 refine I3.trackO ⟨_,a2,fun y=>?_⟩ (by rw [qD nd];exact hd0) ?_ (Uo I2.lt) (fun y c' ec z=>?_) fun p hp z=>?_
 ·by_cases q:y=n
  ·subst q
   rw [if_pos rfl,show Ul y [(y,v')]=some v' from by simp [Ul]]
   exact rv
  ·rw [if_neg q,show Ul y [(n,v')]=none from by simp [Ul,beq_eq_false_iff_ne.mpr q]]
   exact V0
 ·cases z:X.s₀.heap.get? hh.objs.size with
  | none=>rfl
  | some o =>
   obtain ⟨o',y⟩:=I2.base.there _ o z (by rw [hex];simp)
   exact absurd (Ku y) (VS _)
 ·obtain ⟨w',o',ho',_⟩:=I2.cell y c' ec
  rw [z] at ho'
  exact absurd (Ku ho') (VS _)
 ·have y:=(I2.pin p hp).1
  rw [z] at y
  exact absurd (Ku y) (VS _)
end
def spI (K:Kc)(n:Str)(C:Kd):Sp:=fun vs H Q _=>∃ e t v S d,vs=[.ref e,v]/\H e=some (exH e C none t)/\Den K H S v d/\shOk d=true/\∀ H' dx t',(∀ b o,b≠e->H b=some o->H' b=some o)->H' e=some (exH e C (some dx) t')->H' dx=some (.xd [(n,v)])->Q .non H'
section
variable {P:Kx}{w:KG}{K:Kc}{mg:Str->Option Kb}{base:KA}
theorem qho {pl:Env->Sem Bool}{qual n bn c:Str}{st:KY}{f C SE:Kd}{fd:Vi}{j:Nat}{p1 p2 ap q1 q2 q3 q4 cp ep r1 r2 r3 r4:Pos}(F:Fun K "__init__" qual st f fd)(S:FnScope ["self", n] ["self", n] (qt st))(Z:IniK K mg n bn C SE f)(hvs:visB (qt st) "self" = true)(hvn:visB (qt st) n=true)(hgl:glB (qt st) bn=true)(hc:c.length<=1000)
  (hd:(n==("__debug__" : Str))=false) (hcd:(n==("__classdict__" : Str))=false) (hbd:(bn==("__debug__" : Str))=false)
  (hb:zH st=[.Expr (.Call (.Attribute (.Name bn p1) "__init__" ap) [.Name "self" p2,.JoinedStr [.Constant (.str c) j q1,.FormattedValue (.Name n q2) 114 none q3] q4] [] cp) ep,.Assign [.Attribute (.Name "self" r1) n r2] (.Name n r3) r4])
  (ht:∀ env:Env,eval (.Call (.Attribute (.Name bn p1) "__init__" ap) [.Name "self" p2,.JoinedStr [.Constant (.str c) j q1,.FormattedValue (.Name n q2) 114 none q3] q4] [] cp) env=(do
   let ov ← eval (.Name bn p1) env
   standAt ap.atName
   let (f,first) ← holding [ov] (getMethod ov "__init__" (pl env))
   callWith cp f first (backTo cp (starEach [.Name "self" p2,.JoinedStr [.Constant (.str c) j q1,.FormattedValue (.Name n q2) 114 none q3] q4] env)) (backToKw cp (keywordEach [] env)))) :
  FnOk P w K mg base CX0 1 f fd ["self", n] (spI K n C):=by
 refine F.ok (k:=0) S (fun vs H Q E h=>?_) fun cdv A outer s H vs Q E hr h=>?_
 ·obtain ⟨_,_,_,_,_,rfl,_⟩:=h
  rfl
 obtain ⟨e,t,v,Sv,d,rfl,he,dv,hs,q⟩:=h
 refine ⟨fun D σ' H'=>σ'=start ["self", n] [.ref e,v]/\H'=H/\∀ H2,Q .non H2->D.nx σ' H2,fun pins s1 σ1 H1 D I ht=>?_,rfl,rfl,fun H2 z=>z⟩
 obtain ⟨rfl,rfl,hq⟩:=ht
 rw [hb]
 have e0:(start ["self", n] [.ref e,v])[0]?=some (some (.ref e)):=rfl
 have e1:(start ["self", n] [.ref e,v])[1]?=some (some v):=rfl
 refine Uw (qfD (Q:=fun f s'=>_) Z hr I rfl rfl (J2 hvs) (J2 hvn) (qgS _ rfl hgl) e0 e1 he dv hs hc hd hcd hbd (fun t' s2 I2=>?_) (ht _))
 refine Uw (qfC (Q:=fun f s'=>_) Z I2 rfl rfl (J2 hvs) (J2 hvn) e0 e1 qI hd hcd rfl fun dx s3 hdx I3=>?_)
 have nd:e≠dx:=fun z=>by rw [← z,qI] at hdx;cases hdx
 have hdx0:H1 dx=none:=by rw [qD nd.symm] at hdx;exact hdx
 refine U1 ⟨_,_,I3,hq _ (q _ dx t' (fun b o nb z=>?_) (by rw [qD nd];exact qI) qI)⟩
 rw [qD (qT z hdx0),qD nb,qD nb]
 exact z
end
def rem (H:Hp)(a:Kd):Hp:=fun b=>if b=a then none else H b
theorem ZS {H:Hp}{a b:Kd}(h:b≠a):rem H a b=H b:=if_neg h
theorem Yo {H:Hp}{a:Kd}:rem H a a=none:=if_pos rfl
theorem Inv.untrack {X:Cx}{pins:List (Kd×Obj)}{σ:St}{H:Hp}{s:Kf}{a:Kd}{φ:KA->Prop}(I:Inv X pins σ H s)(ha:H a=some (.ext φ)):Inv X pins σ (rem H a) s:=by
 have no:∀ {b:Kd},H b=none->rem H a b=none:=fun {b} e=>by
  by_cases h:b=a
  ·rw [h];exact Yo
  ·rw [ZS h];exact e
 have ne:∀ {b:Kd} {o:HO},H b=some o->(∀ ψ,o≠.ext ψ)->b≠a:=fun e n z=>by
  rw [z,ha] at e
  cases e
  exact n _ rfl
 refine ⟨I.ok,I.os,I.bare,⟨I.base.keep,I.base.slot,fun b o e n hx=>no (I.base.free b o e n hx),I.base.there,fun b xs e=>?_,fun b o u e=>?_,fun b ps e=>?_⟩,I.loc,I.cell,no I.free,fun x c e=>no (I.freeC x c e),fun p q=>?_,fun b u e=>?_,I.len⟩
 ·have:=I.base.tups b xs e
  rw [ZS (ne this fun _ z=>nomatch z)];exact this
 ·have:=I.base.frzs b o u e
  rw [ZS (ne this fun _ z=>nomatch z)];exact this
 ·obtain ⟨m,this⟩:=I.base.tbls b ps e
  exact ⟨m,by rw [ZS (ne this fun _ z=>nomatch z)];exact this⟩
 ·obtain ⟨e,n,r⟩:=I.pin p q
  exact ⟨e,no n,r⟩
 ·have nb:b≠a:=fun z=>by rw [z,Yo] at e;cases e
  rw [ZS nb] at e
  exact (I.hok b u e).stay (fun c v _ q=>q) (fun c q=>by rw [ZS (ne q fun _ z=>nomatch z)];exact q) fun c xs q=>by rw [ZS (ne q fun _ z=>nomatch z)];exact q
structure KnownI (P:Kx)(w:KG)(K:Kc)(mg:Str->Option Kb)(base:KA)(x n:Str)(k:Nat):Prop where
 ex:∃ (bn:Str) (C SE f:Kd) (fd:Vi),IniK K mg n bn C SE f/\mg x=some (.ref C)/\XCls K x C/\VT K (.ref C)=true/\US K (.ref C)=some (.type "type")/\ED K (.ref f)=true/\FnOk P w K mg base CX0 k f fd ["self", n] (spI K n C)/\Binds K fd ["self", n] []
def Z0 (x n:Str)(f:Rho->Option Ka)(ρ:Rho):Option (Ka×Rho):=ob (f ρ) fun d=>if (shOk d&&flat d)=true then some (excD x (.tuple [.str n,d]),ρ) else none
section
variable {X:Cx}{G:Gm}{M L:List Nat}{a:Kw}{fa:Rho->Option Ka}{x n:Str}{pos np cpos:Pos}{k k':Nat}
theorem qba {prog:Kx}{w:KG}{A:KI}{E:Kb->Kf->Prop}{s:Kf}{K:Kc}{C:Kd}{env:Env}{e:Kw}{Q:Flow->Kf->Prop}(Z:XcK K C)(hct:US K (.ref C)=some (.type "type"))(hh:A.handled=none)
  (h:wpAny (model prog w) A (eval e env) (fun v s₁=>∃ b od t,v=.ref b/\K.In s₁.heap/\s₁.heap.get? b=some (exO C od t)/\E (.ref b) s₁) E s):wpAny (model prog w) A (exec (.Raise (some e) none pos) env) Q E s:=by
 rw [arm_exec_Raise]
 have y:=qcX (Q:=Q) (env:=env) Z hct hh (x:=do let v ← eval e env;standAt pos;pure v) (Kg (Vk h (fun v s₃ h₃=>Kg (Xk (Ks h₃))) fun _ _ z=>z))
 first
  | exact Kg (Xk y)
  | (simp only [evalOpt,Option.map];exact Kg (Xk y))
theorem qal {pins:List (Kd×Obj)}{s1:Kf}{σ:St}{H1:Hp}{S:Av}{v:V}{u:Kb}{d:Ka}{bn:Str}{C SE f:Kd}{fd:Vi}{Q:Kb->Kf->Prop}{E:Kb->Kf->Prop}(Z:IniK X.K X.mg n bn C SE f)(hfn:ED X.K (.ref f)=true)(F:FnOk X.prog X.w X.K X.mg X.base CX0 k f fd ["self", n] (spI X.K n C))(hb:Binds X.K fd ["self", n] [])(hr:Room (k+1) X.A)(I1:Inv X pins σ H1 s1)(dv:Den X.K H1 S v d)(ru:RelV v u)(hs:shOk d=true)
  (kq:∀ a H' s' dx t',s1.heap.objs.size<=a->Inv X pins σ H' s'->Same H1 H'->H' a=none->(X.ex=[]->X.s₀.heap.get? a=none)->s'.heap.get? a=some (exO C (some dx) t')->H' dx=some (.xd [(n,v)])->Q (.ref a) s'):wpAny (model X.prog X.w) X.A (call (.ref C) [u]) Q E s1:=by
 obtain ⟨bm,N,nm,qn,bs,hd',sn,sub,ab,col,dd,k0,k1,k2,k3,k5,mN,hCo,hN,hni,TL⟩:=qbJ I1.mod.kin Z.exi
 obtain ⟨oI,hfo,hfc⟩:∃ o,X.base.get? f=some o/\o.cls=.type "function" := by
  have:=beq_iff_eq.mp hfn
  unfold US at this
  obtain ⟨o,ho,hcc⟩:=Eb.mp this
  exact ⟨o,I1.mod.kin _ _ ho,hcc⟩
 obtain ⟨hh,g,dr,tk,oo⟩:=s1
 have fe:H1 (hh.objs.size+1)=none:=I1.hok.fresh (Uk _)
 refine qcM Nt (TL.keeps I1.bk) (I1.bk _ _ hCo) (hN.keeps I1.bk) hni (I1.bk _ _ hfo) hfc ?_ (show 1<=sizeLine by decide)
 have I2:Inv X pins σ (upd H1 (hh.objs.size+1) (exH (hh.objs.size+1) C none hh.objs.size)) ⟨mkH hh C [u],g,dr,tk,oo⟩:=I1.laid (t':=tk) (fun b o q=>jb b o q) (Uk _) (qaM qgV)
 have s0:X.ex=[]->X.s₀.heap.get? (hh.objs.size+1)=none:=fun hex=>by
  cases z:X.s₀.heap.get? (hh.objs.size+1) with
  | none=>rfl
  | some o =>
   obtain ⟨o',y⟩:=I1.base.there _ o z (by rw [hex];simp)
   exact absurd (Ku y) (by show ¬ (hh.objs.size+1<hh.objs.size);omega)
 have dv2:Den X.K (upd H1 (hh.objs.size+1) (exH (hh.objs.size+1) C none hh.objs.size)) S v d:=dv.same (Same.lay fe)
 have hsp:spI X.K n C [.ref (hh.objs.size+1),v] (upd H1 (hh.objs.size+1) (exH (hh.objs.size+1) C none hh.objs.size)) (fun y H3=>y=.non/\(∀ b o,b≠hh.objs.size+1->H1 b=some o->H3 b=some o)/\∃ dx t',H3 (hh.objs.size+1)=some (exH (hh.objs.size+1) C (some dx) t')/\H3 dx=some (.xd [(n,v)])) (fun _ _ _=>False) :=
  ⟨_,_,v,S,d,rfl,qI,dv2,hs,fun H3 dx t' z1 z2 z3=>⟨rfl,fun b o nb z=>z1 b o nb (by rw [qD nb];exact z),dx,t',z2,z3⟩⟩
 have hbd:=hb ⟨mkH hh C [u],g,dr,tk,oo⟩ [.ref (hh.objs.size+1),u] I2.kIn rfl
 rw [VN] at hbd
 refine XQ (Xv (F.run _ X.stack _ _ ⟨[.ref (hh.objs.size+1),u],[]⟩ [.ref (hh.objs.size+1),u] [.ref (hh.objs.size+1),v] _ _ (hr.make C [u] []) (I2.env0.make C [u] []) hbd (.cons rfl (.cons ru .nil)) hsp) fun r s' hq=>?_)
 cases r with
 | error e=>exact Vx hq
 | ok fl =>
  cases fl with
  | next=>exact Vx hq
  | brk=>exact Vx hq
  | cont=>exact Vx hq
  | ret u' =>
   obtain ⟨v',H3,I3,rv,ev,g3,dx,t',e3,e4⟩:=I2.after hq
   subst ev
   have g4:Same H1 (rem H3 (hh.objs.size+1)):=fun b o z=>by
    have nb:b≠hh.objs.size+1:=fun y=>by rw [y,fe] at z;cases z
    rw [ZS nb]
    exact g3 b o nb z
   have nd:dx≠hh.objs.size+1:=ne_of e4 e3 fun z=>nomatch z
   exact ⟨rv,kq _ _ _ dx t' (Uk _) (I3.untrack e3) g4 Yo s0 (I3.hok _ _ e3).1 (by rw [ZS nd];exact e4)⟩
theorem jE (F:KnownI X.prog X.w X.K X.mg X.base x n k)(hr:Room k' X.A)(hk:k+1<=k')(hg:Gl X x)(ha:PDA X M [a] (aC fa aN))(hdb:(x==("__debug__" : Str))=false:=by decide +kernel)(he:starEach [a] X.env=(false,eval a X.env)::starEach [] X.env:=by rfl)(hpl:(backTo cpos (starEach [] X.env)).any (·.1)=false:=by rfl)
  (hn:∀ e s,X.xe e s->False:=by exact fun _ _ z=>z):PDX X false G M L M (.Raise (some (.Call (.Name x np) [a] [] cpos)) none pos) (Z0 x n fa):=by
 intro pins s σ H S ρ ρ' d0 I os e
 obtain ⟨d,e1,e⟩:=qe e
 split at e
 case isFalse=>cases e
 rename_i hs
 cases e
 rw [Ko] at hs
 obtain ⟨hs,hfl⟩:=hs
 obtain ⟨bn,C,SE,f,fd,Z,hm,hC,kp,hct,hfn,F,hb⟩:=F.ex
 refine qba (jO Z.xc) hct hr.hd ?_
 refine Uh (Zr I hg hm ?_ hdb)
 have ha':=ha cpos pins s σ H (fun vs H1=>Same H H1/\DenL X.K H1 S vs [d]) I ⟨S,ρ,[d],os.ds,by show ob (fa ρ) _=_;rw [e1];rfl,fun vs H1 g1 d1=>⟨g1,d1⟩⟩
 refine U2 (h₀:=X.base) I.ok.mod.kin kp (Vk ha' (fun us s1 ⟨vs,H1,I1,r,g1,d1⟩=>⟨I1.kIn,?_⟩) fun e s z=>(hn e s z).elim) he hpl
 obtain ⟨v,rfl,dv⟩:=d1.inv1
 obtain ⟨u,rfl,ru⟩:=r.one
 exact qal Z hfn F hb (hr.mono hk) I1 dv ru hs fun b H' s' dx t' _ I' g4 z1 z2 z3 z4=>⟨b,some dx,t',rfl,I'.kIn,z3,b,x,C,_,rfl,rfl,hC,.inl ⟨rfl,σ,H',S,some dx,t',I',(os.same g1).same g4,.inr ⟨n,d,dx,v,rfl,hfl,rfl,z4,(dv.same g4).flat hfl⟩,z1,z2,z3⟩⟩
def mkI (x n:Str)(d:Ka):Option Ka:=if (shOk d&&flat d)=true then some (excD x (.tuple [.str n,d])) else none
theorem qed (F:KnownI X.prog X.w X.K X.mg X.base x n k)(hr:Room k' X.A)(hk:k+1<=k')(hg:Gl X x)(hex:X.ex=[])(ha:PD X M a fa)(hdb:(x==("__debug__" : Str))=false:=by decide +kernel)(he:starEach [a] X.env=(false,eval a X.env)::starEach [] X.env:=by rfl)(hpl:(backTo cpos (starEach [] X.env)).any (·.1)=false:=by rfl) :
  PD X M (.Call (.Name x np) [a] [] cpos) (ev1 fa (mkI x n)):=by
 intro pins s σ H Q I ⟨S,ρ,r,hs0,e,q⟩
 obtain ⟨d,e1,e⟩:=qe e
 unfold mkI at e
 split at e
 case isFalse=>cases e
 rename_i hs
 cases e
 rw [Ko] at hs
 obtain ⟨hs,hfl⟩:=hs
 obtain ⟨bn,C,SE,f,fd,Z,hm,hC,kp,hct,hfn,F,hb⟩:=F.ex
 refine Uh (Zr I hg hm ?_ hdb)
 refine U2 (h₀:=X.base) I.ok.mod.kin kp (thn (Q0 ha JM he cpos pins s σ H (fun vs H1=>∃ v,vs=[v]/\Same H H1/\Den X.K H1 S v d) I ⟨S,ρ,d,hs0,e1,fun v H1 g1 d1=>⟨v,rfl,g1,d1⟩⟩) fun us s1 ⟨vs,H1,I1,r,v,ev,g1,dv⟩=>⟨I1.kIn,?_⟩) he hpl
 subst ev
 obtain ⟨u,rfl,ru⟩:=r.one
 refine qal Z hfn F hb (hr.mono hk) I1 dv ru hs fun b H' s' dx t' hb' I' g4 z1 z2 z3 z4=>?_
 have old:∀ {y:Kd} {o:Obj},s1.heap.get? y=some o->y≠b:=fun {y o} e z=>absurd (Ku e) (by rw [z];exact Nat.not_lt.mpr hb')
 have hL:b≠X.env.locals:=fun z=>by have:=I1.lt;rw [← z] at this;exact absurd this (Nat.not_lt.mpr hb')
 have I4:=I'.trackX z3 z1 (z2 hex) hL (fun y c ec=>by obtain ⟨w',o',ho',_⟩:=I1.cell y c ec;exact old ho') fun p hp=>old (I1.pin p hp).1
 have g5:Same H1 (upd H' b (.frz (exO C (some dx) t') (.own b))):=g4.lay' z1
 exact ⟨.ref b,_,I4,rfl,q _ _ (g1.trans g5) (.exc1 qI ⟨C,_,rfl,rfl,hC.1,hC.2⟩ rfl (by rw [qD (qT z4 z1)];exact z4) (dv.same g5))⟩
end
section
variable {prog:Kx}{w:KG}{A:KI}{E:Kb->Kf->Prop}{s:Kf}{K:Kc}{x C dx:Kd}{o:Obj}{fs:Array Kb}{mA:Str->Option Kb}{n:Str}{v:Kb}{cd:ClassData}
open PySem.W in
theorem Yy {tk:Tok}{Q:Fin->Kf->Prop}(hcd:V2 K C=some cd)(hhd:cd.hasDict=true)(hn:KZ K (.ref C) n=some none)(X:K.In s.heap)(hx:s.heap.get? x=some o)(hc:o.cls=.ref C)(hf:o.data=.fields fs)(hd:o.dict=some dx)(hA:s.heap.Ns1 dx mA)(hv:mA n=some v)(hq:Q (.done (.ret v)) s) :
  wpAny (model prog w) A (UZ.«object.__getattribute__» ⟨[.ref x,.str n tk],[]⟩) Q E s:=by
 obtain ⟨hh,g,d,t,os⟩:=s
 obtain ⟨oc,od,oda,osl⟩:=o
 dsimp only at hc hf hd
 subst hc hf hd
 have I:OfC hh x C:=⟨_,hx,rfl⟩
 have L0:=I.ty (M:=model prog w)
 have L1:=Uz (M:=model prog w) X hn
 have L2:=looks_clsIn (M:=model prog w) X hcd
 have L3:UD (model prog w) hh (nsGet dx n) (some v):=fun A' Q' E' s' k q=>wpAny_nsGet (hA.ns.keeps k) (by rw [hv];exact q)
 repeat (any_goals (first|assumption|with_reducible refine Looks.at (by assumption) ?_|wp_step))
open PySem.W in
theorem qfu {b:Bool}{Q:Kb->Kf->Prop}(Z:XcK K C)(hcd:V2 K C=some cd)(hhd:cd.hasDict=true)(hn:KZ K (.ref C) n=some none)(X:K.In s.heap)(hx:s.heap.get? x=some o)(hc:o.cls=.ref C)(hf:o.data=.fields fs)(hd:o.dict=some dx)(hA:s.heap.Ns1 dx mA)(hv:mA n=some v)(hh:PySem.W.handedIn v=true)
  (hq:Q v { s with toks:=s.toks+1 }):wpAny (model prog w) A (getAttr (.ref x) n b) Q E s:=by
 obtain ⟨h0,g,d,t,os⟩:=s
 have I:OfC h0 x C:=⟨_,hx,hc⟩
 have L0:=I.ty (M:=model prog w)
 have L1:=Uz (M:=model prog w) X Z.ga
 have L2:=Uz (M:=model prog w) X Z.gt
 have f3:=Xh.ga.bind (.ref x)
 have hx2:(KU "BaseException.__getattribute__" == KU "object.__getattribute__")=false:=by decide +kernel
 have hx1:(onTheHeap (KW C)&&KU "BaseException.__getattribute__" == KU "object.__getattribute__")=false:=by rw [hx2];exact Ei _
 refine Kg (wpAny_mkText ?_)
 repeat (any_goals (first|assumption|with_reducible refine Looks.at (by assumption) ?_|wp_step))
 rw [if_neg (by rw [show onTheHeap (KU "BaseException.__getattribute__")=false from rfl,Ei];decide)]
 unfold boundAndCalled
 repeat (any_goals (first|assumption|with_reducible refine Looks.at (by assumption) ?_|wp_step))
 refine UM Xh.ga.plain F.entry_bexc_ga (j8 (s:=⟨h0,g,d,t+1,os⟩) Z X I (Yy (s:=⟨h0,g,d,t+1,os⟩) hcd hhd hn X hx hc hf hd hA hv ?_))
 show wpAny _ _ (handedOut v) _ _ _
 rw [handedOut_of hh]
 exact Ks hq
end
def exFD (XS:List (Str×List Str))(F:Str):Ka->Option Ka
 | .dict ((.str c,.tuple [.str n,d])::(.int 0,.none)::[])=>if (n==F&&XS.any fun p=>p.1==c)=true then some d else none
 | _=>none
theorem qcs {XS:List (Str×List Str)}{F:Str}{x r:Ka}(e:exFD XS F x=some r):∃ c,x=excD c (.tuple [.str F,r])/\(XS.any fun p=>p.1==c)=true:=by
 unfold exFD at e
 split at e
 ·split at e
  ·rename_i h
   cases e
   rw [Ko] at h
   rw [← beq_iff_eq.mp h.1]
   exact ⟨_,rfl,h.2⟩
  ·cases e
 ·cases e
def xfB (K:Kc)(XS:List (Str×List Str))(F:Str):Bool:=XS.all fun p=>match KF K mainGlobals p.1 with
 | some (some (.ref C))=>(V2 K C).any (·.hasDict)&&KZ K (.ref C) F==some none
 | _=>false
theorem Den.exc1_inv {K:Kc}{H:Hp}{S:Av}{v:V}{c n:Str}{d:Ka}(h:Den K H S v (excD c (.tuple [.str n,d]))):∃ a dx o w,v=.ref a/\H a=some (.frz o (.own a))/\ExcO K o c/\o.dict=some dx/\H dx=some (.xd [(n,w)])/\Den K H S w d:=by
 generalize hd:excD c (.tuple [.str n,d])=x at h
 cases h with
 | @dict a kvs ep ds h k t =>
  have:excK (dkv kvs ds)=true:=by
   have:=PyData.dict.inj hd
   rw [← this];rfl
  rw [W6] at this
  cases this
 | exc1 h o x y t=>cases hd;exact ⟨_,_,_,_,rfl,h,o,x,y,t⟩
 | _=>cases hd
theorem qb1 {X:Cx}{XS:List (Str×List Str)}{M:List Nat}{e:Kw}{fe:Rho->Option Ka}{F:Str}{pos:Pos}(T:XTab X.K X.mg XS)(hf:xfB X.K XS F=true)(he:PD X M e fe)(hb:attributeBase e F X.env (eval e X.env)=eval e X.env:=by rfl):PD X M (.Attribute e F pos) (ev1 fe (exFD XS F)):=by
 intro pins s σ H Q I ⟨S,ρ,d,hs,ee,q⟩
 obtain ⟨x,e1,ee⟩:=qe ee
 obtain ⟨c,rfl,hc⟩:=qcs ee
 refine qe8 hb (thn (he pins s σ H (fun v H1=>Same H H1/\Den X.K H1 S v (excD c (.tuple [.str F,d]))) I ⟨S,ρ,_,hs,e1,fun v H1 g1 d1=>⟨g1,d1⟩⟩) fun u s1 ⟨v,H1,I1,rv,g1,d1⟩=>?_)
 obtain ⟨a,dx,o,w,rfl,ha,⟨C,ws,h1,h2,h3,h4⟩,hd,hx,dw⟩:=d1.exc1_inv
 cases (show u=KW a from rv)
 obtain ⟨p,hp,rfl⟩:=XTab.has hc
 have:=KR.mp hf p hp
 rw [h3] at this
 obtain ⟨y1,y2⟩:=X0.mp this
 obtain ⟨cd,c1,c2⟩:=PySem.W.any_some y1
 obtain ⟨mA,hA,hr⟩:=(show zK X.prog X.w H1 s1.heap dx (.xd [(F,w)]) from I1.hok dx _ hx)
 obtain ⟨u',hu,ru⟩:=RelO.some_of (v:=w) (o:=mA F) (by have:=hr F;rwa [show Ul F [(F,w)]=some w from by simp [Ul]] at this)
 exact qfu (jO h4) c1 c2 (beq_iff_eq.mp y2) I1.kIn (I1.hok a _ ha).1 h1 h2 hd hA hu (qcw ru) ⟨w,H1,I1.tok _,ru,q w H1 g1 dw⟩
def iniB (K:Kc)(n:Str)(C SE f:Kd):Bool :=
 qbI K C f&&((KZ K (.ref C) "__setattr__" == some (some (.builtin "object.__setattr__")))&&(((V2 K C).any fun cd=>wL cd.mro&&cd.hasDict)&&((KZ K (.ref C) n==some none)&&(xcB K C&&(PySem.W.readsIn K SE (.type "type")&&((U9 K (.ref SE) "__getattribute__" == some (some (.builtin "type.__getattribute__"))) &&
 ((match PySem.W.findCls K (.ref SE) (.type "type") "__init__" with | some (.val (.builtin i))=>i == "ValueError.__init__" | _=>false)&&(VT K (.ref C)&&((US K (.ref C)==some (.type "type"))&&ED K (.ref f))))))))))
def IniF (K:Kc)(x n bn qual:Str)(st:KY):Prop:=∃ (C SE f:Kd) (fd:Vi),KF K mainGlobals x=some (some (.ref C))/\KF K mainGlobals bn=some (some (.ref SE))/\iniB K n C SE f=true/\Fun K "__init__" qual st f fd
theorem IniF.of {K:Kc}{x n bn qual:Str}{st:KY}{C SE f:Kd}{oc:Kb}{od an:Option Kd}{osl:Array (Option Kb)}{kV doc pm cdv ct:Kb}(a:KF K mainGlobals x=some (some (.ref C)))(b:KF K mainGlobals bn=some (some (.ref SE)))(_g:KZ K (.ref C) "__init__" = some (some (.ref f)))
  (l:K.lookup f=some ⟨oc,od,.func (Uc "__init__" qual (QW st) (zH st) (qt st) .none kV doc pm an cdv ct),osl⟩) (d:UQ K cdv qual=true) (k:VT K (.ref f)=true) (i:iniB K n C SE f=true):IniF K x n bn qual st:=⟨C,SE,f,_,a,b,i,qaP l d k⟩
theorem IniF.known {P:Kx}{w:KG}{K:Kc}{mg:Str->Option Kb}{base h:KA}{pl:Env->Sem Bool}{x n bn qual c:Str}{st:KY}{j:Nat}{p1 p2 ap q1 q2 q3 q4 cp ep r1 r2 r3 r4:Pos}(X:K.In h)(G:h.Ns mainGlobals mg)(A:ScOk ["self", n] ["self", n] [bn] (qt st))
  (hc:c.length<=1000) (hd:(n==("__debug__" : Str))=false) (hcd:(n==("__classdict__" : Str))=false) (hbd:(bn==("__debug__" : Str))=false)
  (hb:zH st=[.Expr (.Call (.Attribute (.Name bn p1) "__init__" ap) [.Name "self" p2,.JoinedStr [.Constant (.str c) j q1,.FormattedValue (.Name n q2) 114 none q3] q4] [] cp) ep,.Assign [.Attribute (.Name "self" r1) n r2] (.Name n r3) r4])
  (ht:∀ env:Env,eval (.Call (.Attribute (.Name bn p1) "__init__" ap) [.Name "self" p2,.JoinedStr [.Constant (.str c) j q1,.FormattedValue (.Name n q2) 114 none q3] q4] [] cp) env=(do
   let ov ← eval (.Name bn p1) env
   standAt ap.atName
   let (f,first) ← holding [ov] (getMethod ov "__init__" (pl env))
   callWith cp f first (backTo cp (starEach [.Name "self" p2,.JoinedStr [.Constant (.str c) j q1,.FormattedValue (.Name n q2) 114 none q3] q4] env)) (backToKw cp (keywordEach [] env))))
  (hbi:∀ {f:Kd} {fd:Vi},Fun K "__init__" qual st f fd->Binds K fd ["self", n] []) (F:IniF K x n bn qual st):KnownI P w K mg base x n 1:=by
 obtain ⟨C,SE,f,fd,a,b,i,F⟩:=F
 unfold iniB at i
 simp only [Ko,beq_iff_eq] at i
 obtain ⟨i1,i2,i3,i4,i5,i6,i7,i8,i9,i10,i11⟩:=i
 obtain ⟨cd,c1,c2⟩:=PySem.W.any_some i3
 rw [Ko] at c2
 have Z:IniK K mg n bn C SE f:=⟨i1,i2,⟨cd,c1,c2.1,c2.2⟩,i4,i5,Xn X G b,i6,i7,by
  split at i8
  ·rename_i y hy
   rw [hy,beq_iff_eq.mp i8]
  ·cases i8⟩
 exact ⟨bn,C,SE,f,fd,Z,Xn X G a,⟨a,i5⟩,i9,i10,i11,qho F A.fs Z (A.nm _ (.head _)).1 (A.nm _ (.tail _ (.head _))).1 (A.gb _ (.head _)) hc hd hcd hbd hb ht,hbi F⟩
theorem Wt {X:Cx}{M:List Nat}{a:Kw}{fa:Rho->Option Ka}(h:PD X M a fa)(hs:starEach [a] X.env=(false,eval a X.env)::starEach [] X.env:=by rfl):PDA X M [a] (aC fa aN):=qb h qj hs
theorem sh3 {x y z:Int}(hx:x.natAbs.log2<1920)(hy:y.natAbs.log2<1920)(hz:z.natAbs.log2<1920):shOk (.tuple [.int x,.int y,.int z])=true:=by
 have lx:(Ke (toString x)).length<=1921:=Vn hx
 have ly:(Ke (toString y)).length<=1921:=Vn hy
 have lz:(Ke (toString z)).length<=1921:=Vn hz
 have e:(Vh [.int x,.int y,.int z]).shown=tupleText [Ke (toString x),Ke (toString y),Ke (toString z)]:=by
  simp only [UV,N6]
 have l:(Vh [.int x,.int y,.int z]).shown.length<=100000:=by
  rw [e]
  have j:=N7 [Ke (toString x),Ke (toString y),Ke (toString z)] (by simp)
  have p:∀ a b c:Str,piled [a,b,c]=a.length+2+(b.length+2+(c.length+2+0)):=fun _ _ _=>rfl
  rw [p] at j
  show ((("(" : Str)++Str.join ", " [Ke (toString x),Ke (toString y),Ke (toString z)])++Ke ")").length<=100000
  rw [UI,UI]
  have o1:(("(" : String):Str).length=1:=rfl
  have o2:(Ke ")").length=1:=rfl
  omega
 have s1:(Vh [.int x,.int y,.int z]).showable=true:=by simp only [XZ,EE,hx,hy,hz,decide_true,Uq]
 have s2:(Vh [.int x,.int y,.int z]).canLay0=true:=by simp only [KJ,Kn,Uq]
 have s3:(Vh [.int x,.int y,.int z]).hasDict=false:=rfl
 have s4:(Vh [.int x,.int y,.int z]).depth<=63:=by simp only [VQ,KB];decide
 unfold shOk
 rw [s1,s2,s3,decide_eq_true s4,decide_eq_true l]
 rfl
theorem sh1 {x:Int}(hx:x.natAbs.log2<1920):shOk (.int x)=true:=by
 have lx:(Ke (toString x)).length<=1921:=Vn hx
 have l:(Ky x).shown.length<=100000:=by
  rw [show (Ky x).shown=Ke (toString x) from by simp only [UV]]
  omega
 have s1:(Ky x).showable=true:=by simp only [XZ,hx,decide_true]
 have s4:(Ky x).depth<=63:=by simp only [VQ];decide
 unfold shOk
 rw [s1,decide_eq_true s4,decide_eq_true l]
 rfl
theorem RoomM.u64 {k:Nat}{A:KI}(r:RoomM k A):A.units+64<cLine:=by have:=r.un;omega
theorem d_eqM {X:Cx}{k:Nat}(hr:RoomM k X.A):OpD X (compareOp .Eq) eqD:=by
 intro pins s σ H x y v u Q I rx ry ⟨S,dx,dy,d,m,h1,h2,e,q⟩
 unfold eqD at e
 split at e
 ·rename_i c
  cases e
  obtain ⟨as,q1⟩:=h1.reads I (K0 c.1) rx
  obtain ⟨bs,q2⟩:=h2.reads I (K0 c.2) ry
  exact eq_dataH q1 q2 c.1 c.2 hr.u64 (Zt I (q _ H (Same.refl H) (.bool _)) rfl)
 ·cases e
def jy (l x:Ka):Option Ka:=match l with
 | .list ds=>if inOk ds x=true then some (.int (ds.countP fun y=>Kz y x:Nat)) else none
 | _=>none
section
variable {X:Cx}{M:List Nat}{a b:Kw}{f g:Rho->Option Ka}{pos:Pos}
def qgz (K:Kc):V->List V->Hp->VK->Prop:=fun x vs H Q=>∃ S dx y dy d,vs=[y]/\Den K H S x dx/\Den K H S y dy/\jy dx dy=some d/\Dm S H/\∀ v H',Same H H'->Den K H' S v d->Q v H'
theorem qd4 {k:Nat}(hr:Room k X.A):MtR X "list.count" (qgz X.K):=by
 intro pins s σ H x vs v us Q I rx rv ⟨S,dx,y,dy,d,hvs,h1,h2,e,m,q⟩
 subst hvs
 obtain ⟨u,rfl,ru⟩:=rv.one
 unfold jy at e
 split at e
 case h_2=>cases e
 rename_i ds
 split at e
 case isFalse=>cases e
 rename_i hc
 obtain ⟨c1,c2,c3⟩:=Q8 hc
 cases e
 obtain ⟨bs,q2⟩:=h2.reads I c2 ru
 obtain ⟨as,q1⟩:=h1.reads I (by rw [KJ];exact c1) rx
 obtain ⟨a,xs,rfl,_,_⟩:=h1.list_inv
 cases (show v=KW a from rx)
 cases q1 with
 | @list _ o items n _ _ g1 g2 g3 g4 =>
  obtain ⟨cls,dd,data,sl⟩:=o
  dsimp only at g2 g3;subst g2 g3
  have hm:=SeqAt.readsAll_map _ _ _ c1 g4
  have hcn:items.toList.countP (fun y=>Kz (SeqAt.readOf s.heap y) dy)=ds.countP fun y=>Kz y dy:=by
   rw [← hm,List.countP_map]
   rfl
  refine call_meets NX ⟨_,g1,rfl⟩ PySem.F.entry_list_count (PySem.F.args_list_count_2 _ _) (SeqAt.list_countAt a items n dd sl u (fun y=>Kz (SeqAt.readOf s.heap y) dy)) ⟨g1,SeqAt.items_eqAt g4 q2 c1 c2 (Jc c3 hr.units),?_⟩
  rw [hcn]
  exact ⟨.int _,H,I.tok _,⟨_,rfl⟩,q _ H (Same.refl H) (.int _)⟩
theorem qec {k:Nat}{o:Kw}{apos cpos:Pos}(hr:Room k X.A)(ho:PD X M o f)(he:PD X M a g)
  (hbase:attributeBase o "count" X.env (eval o X.env)=eval o X.env:=by rfl)
  (hfew:((backTo cpos (starEach [a] X.env)).all (fun x=>!x.1)&&(backToKw cpos (keywordEach [] X.env)).all (fun x=>x.1.isSome)
   && decide ([a].length+([]:List Xc).length+(if ([]:List Xc).isEmpty then 0 else 1)<30))=true:=by rfl)
  (hline:(apos.endLine==cpos.line)=true:=by rfl) (hs:starEach [a] X.env=(false,eval a X.env)::starEach [] X.env:=by rfl) (hplain:(backTo cpos (starEach [] X.env)).any (·.1)=false:=by rfl) :
  PD X M (.Call (.Attribute o "count" apos) [a] [] cpos) (ev2 f g jy) :=
 (qas Ut NX PySem.F.type_list_count (qd4 hr) ho (qb he qj hs) hbase hfew hline hs hplain).weak fun σ H Q ⟨S,ρ,d,hs,e,q⟩=>by
  obtain ⟨dx,e1,e⟩:=qe e
  obtain ⟨dy,e2,e⟩:=qe e
  refine ⟨S,ρ,dx,hs,e1,fun v H1 g1 d1=>?_⟩
  have:∃ ds,dx=.list ds:=by
   unfold jy at e
   split at e
   ·exact ⟨_,rfl⟩
   ·cases e
  obtain ⟨ds,rfl⟩:=this
  obtain ⟨p,xs,rfl,hsq,ht⟩:=d1.list_inv
  refine ⟨.inl ⟨rfl,_,hsq.sq⟩,S,ρ,[dy],hs.same g1,by show ob (g ρ) _=_;rw [e2];rfl,fun vs H2 g2 dl=>?_⟩
  obtain ⟨w,rfl,dw⟩:=dl.inv1
  exact ⟨S,_,w,dy,d,rfl,d1.same g2,dw,e,hs.1.same (g1.trans g2),fun v3 H3 g3 d3=>q v3 H3 (g1.trans (g2.trans g3)) d3⟩
def cutL (x:Ka)(lo hi:Option Int):Option Ka:=match x with
 | .list ds=>some (.list (cutD ds lo hi))
 | _=>none
def evSL (fa:Rho->Option Ka)(fl fh:Rho->Option (Option Int)):Rho->Option Ka:=fun ρ=>ob (fa ρ) fun x=>ob (fl ρ) fun l=>ob (fh ρ) fun h=>cutL x l h
theorem qep {lo hi:Option Kw}{fl fh:Rho->Option (Option Int)}{p2:Pos}(ha:PD X M a f)(hl:PDO X M lo fl)(hh:PDO X M hi fh):PF X M (.Subscript a (.Slice lo hi none p2) pos) (evSL f fl fh) :=
 (qat (r:=rSlL X.K) qcc ha hl hh).weak fun σ H Q ⟨S,ρ,d,hs,e,q⟩=>by
  obtain ⟨x,e1,e⟩:=qe e
  obtain ⟨l,e2,e⟩:=qe e
  obtain ⟨h,e3,e⟩:=qe e
  refine ⟨S,ρ,x,hs,e1,fun v H1 g1 d1=>⟨S,ρ,l,hs.same g1,e2,fun H2 g2=>⟨S,ρ,h,hs.same (g1.trans g2),e3,fun H3 g3=>?_⟩⟩⟩
  have g13:=g1.trans (g2.trans g3)
  have d3:=d1.same (g2.trans g3)
  cases d3 with
  | list hq t =>
   cases e
   exact ⟨_,_,rfl,hq.sq,fun p hp=>q p _ (g13.lay' hp) (g13.free hp) (OwnO.laid hp (yI t l h))⟩
  | _=>cases e
end
theorem qhh (fa:Rho->Option Ka)(fl fh:Rho->Option (Option Int))(ρ:Rho)(ds:List Ka)(l h:Option Int)(h1:fa ρ=some (.list ds))(h2:fl ρ=some l)(h3:fh ρ=some h):evSL fa fl fh ρ=sliD (.list ds) l h:=by
 unfold evSL ob
 rw [h1,h2,h3]
 rfl
end L2
namespace L2
open PySem PySem.W PyProof.Rows
theorem Q6 {α β:Type}{lt:Nat->Nat->Option Bool}{f:α->KasT β}:∀ (t:KasT α),runC lt (t.bind f)=ob (runC lt t) fun a=>runC lt (f a)
 | .ret _=>rfl
 | .ask i j k=>by
  show ob (lt i j) (fun b=>runC lt ((k b).bind f))=ob (ob (lt i j) fun b=>runC lt (k b)) _
  cases lt i j with
  | none=>rfl
  | some b=>exact Q6 (k b)
structure IOrd (n:Nat)(lt:Nat->Nat->Option Bool)(blt:Nat->Nat->Bool):Prop where
 ask:∀ i j,i<n->j<n->lt i j=some (blt i j)
 irr:∀ i,blt i i=false
 tr:∀ i j k,blt i j=true->blt j k=true->blt i k=true
 neg:∀ i j k,blt i k=true->blt i j=true\/blt j k=true
def gp (p:Array Nat)(i:Nat):Nat:=p.getD i 0
def zY (n:Nat)(p:Array Nat):Prop:=p.toList.Perm (KE n)
def UpTo (blt:Nat->Nat->Bool)(p:Array Nat)(m:Nat):Prop:=∀ i j,i<=j->j<m->blt (gp p j) (gp p i)=false
section
variable {n:Nat}{lt:Nat->Nat->Option Bool}{blt:Nat->Nat->Bool}{p:Array Nat}
theorem zY.size (h:zY n p):p.size=n:=by
 have:=h.length_eq
 rw [K3,Vj] at this
 exact this
theorem zY.inb (h:zY n p){i:Nat}(hi:i<n):gp p i<n:=by
 have hs:=h.size
 have e:gp p i=p[i]'(by omega):=by simp [gp,Array.getD,hs,hi]
 have hm:p[i]'(by omega)∈p.toList:=by simp
 have:=h.mem_iff.mp hm
 rw [e]
 exact VL.mp this
theorem qab {q:Array Nat}{i j:Nat}(h:q[i]?=p[j]?):gp q i=gp p j:=by
 unfold gp
 simp only [Array.getD_eq_getD_getElem?,h]
theorem IOrd.le_tr (O:IOrd n lt blt){a b c:Nat}(h1:blt b a=false)(h2:blt c b=false):blt c a=false:=by
 cases h:blt c a with
 | false=>rfl
 | true =>
  rcases O.neg c b a h with z|z
  ·rw [h2] at z;cases z
  ·rw [h1] at z;cases z
theorem IOrd.asym (O:IOrd n lt blt){a b:Nat}(h:blt a b=true):blt b a=false:=by
 cases z:blt b a with
 | false=>rfl
 | true =>
  have:=O.tr a b a h z
  rw [O.irr] at this
  cases this
theorem qcV (O:IOrd n lt blt)(hp:zY n p){k:Nat}(hk:k<n)(hs:UpTo blt p k):∀ (f l r:Nat),r-l<=f->l<=r->r<=k->(∀ i,i<l->blt (gp p k) (gp p i)=false)->(∀ i,r<=i->i<k->blt (gp p k) (gp p i)=true)->
  ∃ m,runC lt (kas_place p k f l r)=some m/\m<=k/\(∀ i,i<m->blt (gp p k) (gp p i)=false)/\(∀ i,m<=i->i<k->blt (gp p k) (gp p i)=true):=by
 intro f
 induction f with
 | zero =>
  intro l r h1 h2 h3 h4 h5
  exact ⟨l,rfl,by omega,h4,fun i hi hi2=>h5 i (by omega) hi2⟩
 | succ f ih =>
  intro l r h1 h2 h3 h4 h5
  unfold kas_place
  by_cases hlr:l >= r
  ·rw [if_pos hlr]
   exact ⟨l,rfl,by omega,h4,fun i hi hi2=>h5 i (by omega) hi2⟩
  ·rw [if_neg hlr]
   have hm:(l+r) / 2<k:=by omega
   have ea:=O.ask (gp p k) (gp p ((l+r) / 2)) (hp.inb hk) (hp.inb (by omega))
   show ∃ m,ob (lt (gp p k) (gp p ((l+r) / 2))) (fun c=>runC lt (if c=true then kas_place p k f l ((l+r) / 2) else kas_place p k f ((l+r) / 2+1) r))=some m/\_
   rw [ea]
   cases hb:blt (gp p k) (gp p ((l+r) / 2)) with
   | true =>
    refine ih l ((l+r) / 2) (by omega) (by omega) (by omega) h4 fun i hi hi2=>?_
    cases z:blt (gp p k) (gp p i) with
    | true=>rfl
    | false =>
     have:=hs ((l+r) / 2) i hi hi2
     have q:=O.le_tr this z
     rw [hb] at q
     cases q
   | false =>
    refine ih ((l+r) / 2+1) r (by omega) (by omega) h3 (fun i hi=>?_) h5
    exact O.le_tr (hs i ((l+r) / 2) (by omega) hm) hb
theorem qau {q:Array Nat}(h:zY n p)(hq:q.Perm p):zY n q:=(Array.perm_iff_toList_perm.mp hq).trans h
theorem YX {k m:Nat}(hk:k<p.size)(hm:m<=k)(i:Nat):gp (bubble p k (k-m)) i=if i=m then gp p k else if m<i/\i<=k then gp p (i-1) else gp p i:=by
 have e:=getElem?_bubble hk (k-m) (by omega) i
 have hkm:k-(k-m)=m:=by omega
 rw [hkm] at e
 by_cases h1:i=m
 ·rw [if_pos h1] at e ⊢;exact qab e
 ·rw [if_neg h1] at e ⊢
  by_cases h2:m<i/\i<=k
  ·rw [if_pos h2] at e ⊢;exact qab e
  ·rw [if_neg h2] at e ⊢;exact qab e
theorem Zu {i j:Nat}(hj:j<=p.size)(k:Nat):gp (U0 p i j) k=if i<=k/\k<j then gp p (i+j-1-k) else gp p k:=by
 have e:=getElem?_mirror_all (i:=i) hj k
 unfold U0
 by_cases h1:i<=k/\k<j
 ·rw [if_pos h1] at e ⊢;exact qab e
 ·rw [if_neg h1] at e ⊢;exact qab e
theorem ZG (h:zY n p)(i j:Nat):zY n (U0 p i j):=qau h (mirror_perm _ _ _ _)
theorem qfb (O:IOrd n lt blt):∀ (f:Nat) (p:Array Nat) (k:Nat),zY n p->UpTo blt p k->k+f=n->∃ p',runC lt (kas_bin f p k)=some p'/\zY n p'/\UpTo blt p' n:=by
 intro f
 induction f with
 | zero=>exact fun p k hp hs e=>⟨p,rfl,hp,by rw [← e];exact hs⟩
 | succ f ih =>
  intro p k hp hs e
  have hk:k<n:=by omega
  obtain ⟨m,e1,h1,h2,h3⟩:=qcV O hp hk hs k 0 k (by omega) (by omega) (by omega) (fun i hi=>by omega) (fun i hi hi2=>by omega)
  have hz:=hp.size
  obtain ⟨p',e2,h4,h5⟩:=ih (bubble p k (k-m)) (k+1) (qau hp (bubble_perm _ _ _)) (fun i j hij hj=>by
   rw [YX (by omega) h1,YX (by omega) h1]
   by_cases a1:j=m
   ·rw [if_pos a1]
    by_cases a2:i=m
    ·rw [if_pos a2];exact O.irr _
    ·rw [if_neg a2,if_neg (by omega)]
     exact h2 i (by omega)
   ·rw [if_neg a1]
    by_cases a3:m<j/\j<=k
    ·rw [if_pos a3]
     by_cases a2:i=m
     ·rw [if_pos a2]
      exact O.asym (h3 (j-1) (by omega) (by omega))
     ·rw [if_neg a2]
      by_cases a4:m<i/\i<=k
      ·rw [if_pos a4]
       exact hs (i-1) (j-1) (by omega) (by omega)
      ·rw [if_neg a4]
       exact hs i (j-1) (by omega) (by omega)
    ·rw [if_neg a3,if_neg (by omega),if_neg (by omega)]
     exact hs i j hij (by omega)) (by omega)
  refine ⟨p',?_,h4,h5⟩
  unfold kas_bin
  rw [Q6,e1]
  exact e2
theorem qbo (O:IOrd n lt blt)(hp:zY n p):∀ (f m:Nat),1<=m->m+f<=n->UpTo blt p m->∃ m',runC lt (kas_asc p f m)=some m'/\m<=m'/\m'<=m+f/\UpTo blt p m'/\(m'<m+f->blt (gp p m') (gp p (m'-1))=true):=by
 intro f
 induction f with
 | zero=>exact fun m h1 h2 hs=>⟨m,rfl,by omega,by omega,hs,fun z=>by omega⟩
 | succ f ih =>
  intro m h1 h2 hs
  have ea:=O.ask (gp p m) (gp p (m-1)) (hp.inb (by omega)) (hp.inb (by omega))
  unfold kas_asc
  show ∃ m',ob (lt (gp p m) (gp p (m-1))) (fun c=>runC lt (if c=true then .ret m else kas_asc p f (m+1)))=some m'/\_
  rw [ea]
  cases hb:blt (gp p m) (gp p (m-1)) with
  | true=>exact ⟨m,rfl,by omega,by omega,hs,fun _=>hb⟩
  | false =>
   obtain ⟨m',e1,h3,h4,h5,h6⟩:=ih (m+1) (by omega) (by omega) (fun i j hij hj=>by
    by_cases hjm:j=m
    ·subst hjm
     by_cases hi:i=j
     ·subst hi;exact O.irr _
     ·exact O.le_tr (hs i (j-1) (by omega) (by omega)) hb
    ·exact hs i j hij (by omega))
   exact ⟨m',e1,by omega,by omega,h5,fun z=>h6 (by omega)⟩
def Jy (blt:Nat->Nat->Bool)(p:Array Nat)(m:Nat):Prop:=∀ i j,i<=j->j<m->blt (gp p i) (gp p j)=false
def qc7 (blt:Nat->Nat->Bool)(p:Array Nat)(a b:Nat):Prop:=∀ i j,a<=i->i<b->a<=j->j<b->blt (gp p i) (gp p j)=false
theorem W4 (hp:zY n p){m a:Nat}(hm:m<=n)(ha:a<=m)(hd:Jy blt p m)(hs:qc7 blt p a m):Jy blt (U0 p a m) m/\∀ i,i<m->∃ i',i'<m/\gp (U0 p a m) i=gp p i':=by
 have hz:=hp.size
 refine ⟨fun i j hij hj=>?_,fun i hi=>?_⟩
 ·rw [Zu (by omega),Zu (by omega)]
  by_cases h1:a<=i/\i<m
  ·rw [if_pos h1,if_pos (by omega)]
   exact hs _ _ (by omega) (by omega) (by omega) (by omega)
  ·rw [if_neg h1]
   by_cases h2:a<=j/\j<m
   ·rw [if_pos h2];exact hd _ _ (by omega) (by omega)
   ·rw [if_neg h2];exact hd _ _ hij hj
 ·rw [Zu (by omega)]
  by_cases h1:a<=i/\i<m
  ·rw [if_pos h1];exact ⟨_,by omega,rfl⟩
  ·rw [if_neg h1];exact ⟨i,hi,rfl⟩
theorem qdx (O:IOrd n lt blt):∀ (f:Nat) (p:Array Nat) (m q:Nat),zY n p->m+f<=n->q+1<=m->Jy blt p m->qc7 blt p (m-(q+1)) m->
  ∃ p' m' q',runC lt (XN f p m q)=some (p',m',q')/\zY n p'/\m<=m'/\m'<=m+f/\q'+1<=m'/\Jy blt p' m'/\qc7 blt p' (m'-(q'+1)) m':=by
 intro f
 induction f with
 | zero=>exact fun p m q hp _ hq hd hs=>⟨p,m,q,rfl,hp,by omega,by omega,hq,hd,hs⟩
 | succ f ih =>
  intro p m q hp hm hq hd hs
  have hz:=hp.size
  have e1:=O.ask (gp p m) (gp p (m-1)) (hp.inb (by omega)) (hp.inb (by omega))
  have e2:=O.ask (gp p (m-1)) (gp p m) (hp.inb (by omega)) (hp.inb (by omega))
  unfold XN
  show ∃ p' m' q',ob (lt (gp p m) (gp p (m-1))) (fun c=>runC lt (if c=true then (if q > 0 then XN f (U0 p (m-(q+1)) m) (m+1) 0 else XN f p (m+1) 0)
   else .ask (p.getD (m-1) 0) (p.getD m 0) fun d=>if d=true then .ret (p,m,q) else XN f p (m+1) (q+1)))=some (p',m',q')/\_
  rw [e1]
  cases hb:blt (gp p m) (gp p (m-1)) with
  | true =>
   have below:∀ i,i<m->blt (gp p i) (gp p m)=false:=fun i hi=>O.le_tr (O.asym hb) (hd i (m-1) (by omega) (by omega))
   show ∃ p' m' q',runC lt (if q > 0 then XN f (U0 p (m-(q+1)) m) (m+1) 0 else XN f p (m+1) 0)=some (p',m',q')/\_
   by_cases hq0:q > 0
   ·rw [if_pos hq0]
    obtain ⟨d1,d2⟩:=W4 (blt:=blt) hp (m:=m) (a:=m-(q+1)) (by omega) (by omega) hd hs
    have gm:gp (U0 p (m-(q+1)) m) m=gp p m:=by rw [Zu (by omega),if_neg (by omega)]
    obtain ⟨p',m',q',r1,r2,r3,r4,r5,r6,r7⟩:=ih (U0 p (m-(q+1)) m) (m+1) 0 (ZG hp _ _) (by omega) (by omega) (fun i j hij hj=>by
     by_cases hjm:j=m
     ·subst hjm
      by_cases hi:i=j
      ·subst hi;exact O.irr _
      ·obtain ⟨i',hi',ei⟩:=d2 i (by omega)
       rw [ei,gm]
       exact below i' hi'
     ·exact d1 i j hij (by omega)) (fun i j h1 h2 h3 h4=>by
      have:i=m:=by omega
      have:j=m:=by omega
      subst i;subst j;exact O.irr _)
    exact ⟨p',m',q',r1,r2,by omega,by omega,r5,r6,r7⟩
   ·rw [if_neg hq0]
    obtain ⟨p',m',q',r1,r2,r3,r4,r5,r6,r7⟩:=ih p (m+1) 0 hp (by omega) (by omega) (fun i j hij hj=>by
     by_cases hjm:j=m
     ·subst hjm
      by_cases hi:i=j
      ·subst hi;exact O.irr _
      ·exact below i (by omega)
     ·exact hd i j hij (by omega)) (fun i j h1 h2 h3 h4=>by
      have:i=m:=by omega
      have:j=m:=by omega
      subst i;subst j;exact O.irr _)
    exact ⟨p',m',q',r1,r2,by omega,by omega,r5,r6,r7⟩
  | false =>
   show ∃ p' m' q',ob (lt (gp p (m-1)) (gp p m)) (fun d=>runC lt (if d=true then .ret (p,m,q) else XN f p (m+1) (q+1)))=some (p',m',q')/\_
   rw [e2]
   cases hd2:blt (gp p (m-1)) (gp p m) with
   | true=>exact ⟨p,m,q,rfl,hp,by omega,by omega,hq,hd,hs⟩
   | false =>
    obtain ⟨p',m',q',r1,r2,r3,r4,r5,r6,r7⟩:=ih p (m+1) (q+1) hp (by omega) (by omega) (fun i j hij hj=>by
     by_cases hjm:j=m
     ·subst hjm
      by_cases hi:i=j
      ·subst hi;exact O.irr _
      ·exact O.le_tr hd2 (hd i (j-1) (by omega) (by omega))
     ·exact hd i j hij (by omega)) (fun i j h1 h2 h3 h4=>by
      have s1:∀ i,m-(q+1)<=i->i<m->blt (gp p i) (gp p m)=false/\blt (gp p m) (gp p i)=false:=fun i a b =>
       ⟨O.le_tr hd2 (hs i (m-1) a b (by omega) (by omega)),O.le_tr (hs (m-1) i (by omega) (by omega) a b) hb⟩
      by_cases hi:i=m
      ·subst hi
       by_cases hj:j=i
       ·subst hj;exact O.irr _
       ·exact (s1 j (by omega) (by omega)).2
      ·by_cases hj:j=m
       ·subst hj;exact (s1 i (by omega) (by omega)).1
       ·exact hs i j (by omega) (by omega) (by omega) (by omega))
    exact ⟨p',m',q',r1,r2,by omega,by omega,r5,r6,r7⟩
theorem wK (O:IOrd n lt blt)(hp:zY n p){m:Nat}(h1:1<=m)(h2:m<=n)(hd:Jy blt p m):∃ m' p',runC lt (kas_tail3 m n p)=some (m',p')/\zY n p'/\1<=m'/\m'<=n/\UpTo blt p' m':=by
 have hz:=hp.size
 obtain ⟨m',e1,h3,h4,h5,_⟩:=qbo O (ZG hp 0 m) (n-m) m h1 (by omega) (fun i j hij hj=>by
  rw [Zu (by omega),Zu (by omega),if_pos (by omega),if_pos (by omega)]
  exact hd _ _ (by omega) (by omega))
 refine ⟨m',U0 p 0 m,?_,ZG hp 0 m,by omega,by omega,h5⟩
 unfold kas_tail3
 rw [Q6,e1]
 rfl
theorem j6 (O:IOrd n lt blt)(hp:zY n p){k:Nat}(h2:k+1<=n)(hd:Jy blt p (k+1)):∃ m' p',runC lt (X1 k n p)=some (m',p')/\zY n p'/\1<=m'/\m'<=n/\UpTo blt p' m':=by
 obtain ⟨p1,m1,q1,e1,r2,r3,r4,r5,r6,r7⟩:=qdx O (n-(k+1)) p (k+1) 0 hp (by omega) (by omega) hd (fun i j a1 a2 a3 a4=>by
  have:i=k:=by omega
  have:j=k:=by omega
  subst i;subst j;exact O.irr _)
 unfold X1
 rw [Q6,e1]
 show ∃ m' p',runC lt (if q1 > 0 then kas_tail3 m1 n (U0 p1 (m1-(q1+1)) m1) else kas_tail3 m1 n p1)=some (m',p')/\_
 by_cases hq:q1 > 0
 ·rw [if_pos hq]
  exact wK O (ZG r2 _ _) (by omega) (by omega) (W4 r2 (by omega) (by omega) r6 r7).1
 ·rw [if_neg hq]
  exact wK O r2 (by omega) (by omega) r6
theorem qcr (O:IOrd n lt blt)(hp:zY n p)(hn:1<=n):∃ m' p',runC lt (kas_count n p)=some (m',p')/\zY n p'/\1<=m'/\m'<=n/\UpTo blt p' m':=by
 have hz:=hp.size
 obtain ⟨m,e1,h3,h4,h5,h6⟩:=qbo O hp (n-1) 1 (by omega) (by omega) (fun i j hij hj=>by
  have:i=0:=by omega
  have:j=0:=by omega
  subst i;subst j;exact O.irr _)
 unfold kas_count
 rw [Q6,e1]
 show ∃ m' p',runC lt (if (m==n)=true then .ret (m,p) else if m > 1 then .ask (p.getD 0 0) (p.getD (m-1) 0) fun c=>if c=true then .ret (m,p) else X1 m n (U0 p 0 m) else X1 m n p)=some (m',p')/\_
 by_cases hmn:m=n
 ·rw [if_pos (by simpa using hmn)]
  exact ⟨m,p,rfl,hp,by omega,by omega,h5⟩
 ·rw [if_neg (by simpa using hmn)]
  have hb:=h6 (by omega)
  by_cases hm1:m > 1
  ·rw [if_pos hm1]
   have ea:=O.ask (gp p 0) (gp p (m-1)) (hp.inb (by omega)) (hp.inb (by omega))
   show ∃ m' p',ob (lt (gp p 0) (gp p (m-1))) (fun c=>runC lt (if c=true then .ret (m,p) else X1 m n (U0 p 0 m)))=some (m',p')/\_
   rw [ea]
   cases hc:blt (gp p 0) (gp p (m-1)) with
   | true=>exact ⟨m,p,rfl,hp,by omega,by omega,h5⟩
   | false =>
    refine j6 O (ZG hp 0 m) (by omega) (fun i j hij hj=>?_)
    by_cases hjm:j=m
    ·by_cases hi:i=j
     ·rw [hi];exact O.irr _
     ·rw [Zu (by omega),Zu (by omega),if_pos (by omega),if_neg (by omega),hjm]
      exact O.le_tr (O.asym hb) (O.le_tr hc (h5 0 (0+m-1-i) (by omega) (by omega)))
    ·rw [Zu (by omega),Zu (by omega),if_pos (by omega),if_pos (by omega)]
     exact h5 _ _ (by omega) (by omega)
  ·rw [if_neg hm1]
   have hm:m=1:=by omega
   subst hm
   refine j6 O hp (by omega) (fun i j hij hj=>?_)
   by_cases hi:i=j
   ·rw [hi];exact O.irr _
   ·have e0:i=0:=by omega
    have ej:j=1:=by omega
    rw [e0,ej]
    exact O.asym hb
theorem qeO (O:IOrd n lt blt)(hn:1<=n):∃ p',runC lt (NS n)=some p'/\zY n p'/\UpTo blt p' n:=by
 obtain ⟨m,p,e1,h1,h2,h3,h4⟩:=qcr O (p:=(KE n).toArray) (show zY n _ from by unfold zY;exact List.Perm.refl _) hn
 unfold NS
 rw [Q6,e1]
 show ∃ p',runC lt (if m<n then kas_bin (n-max m 1) p (max m 1) else .ret p)=some p'/\_
 have hmax:max m 1=m:=by omega
 by_cases hm:m<n
 ·rw [if_pos hm,hmax]
  exact qfb O (n-m) p m h1 h4 (by omega)
 ·rw [if_neg hm]
  have:m=n:=by omega
  subst this
  exact ⟨p,rfl,h1,h4⟩
end
def tI (ns:List Int):Ka:=.tuple (ns.map .int)
theorem Y9:∀ xs:List Int,HT.lexLt xs xs=false
 | []=>rfl
 | x::xs=>by rw [HT.QH,if_pos rfl];exact Y9 xs
theorem qai:∀ xs ys zs:List Int,HT.lexLt xs ys=true->HT.lexLt ys zs=true->HT.lexLt xs zs=true
 | [],[],_,h,_=>by cases h
 | [],_::_,[],_,h=>by cases h
 | [],_::_,_::_,_,_=>rfl
 | _::_,[],_,h,_=>by cases h
 | _::_,_::_,[],_,h=>by cases h
 | x::xs,y::ys,z::zs,h1,h2=>by
  rw [HT.QH] at h1 h2 ⊢
  by_cases e1:x=y
  ·rw [if_pos e1] at h1
   by_cases e2:y=z
   ·rw [if_pos e2] at h2
    rw [if_pos (e1.trans e2)]
    exact qai xs ys zs h1 h2
   ·rw [if_neg e2] at h2
    rw [if_neg (by rw [e1];exact e2),e1]
    exact h2
  ·rw [if_neg e1] at h1
   have h1':=of_decide_eq_true h1
   by_cases e2:y=z
   ·rw [if_neg (by rw [← e2];exact e1),← e2]
    exact h1
   ·rw [if_neg e2] at h2
    have h2':=of_decide_eq_true h2
    rw [if_neg (by omega)]
    exact decide_eq_true (by omega)
theorem wj:∀ xs ys zs:List Int,HT.lexLt xs zs=true->HT.lexLt xs ys=true\/HT.lexLt ys zs=true
 | [],[],zs,h=>.inr h
 | [],_::_,_,_=>.inl rfl
 | _::_,_,[],h=>by cases h
 | _::_,[],_::_,_=>.inr rfl
 | x::xs,y::ys,z::zs,h=>by
  rw [HT.QH] at h ⊢
  rw [HT.QH]
  by_cases e1:x=z
  ·rw [if_pos e1] at h
   subst e1
   by_cases e2:x=y
   ·subst e2
    rw [if_pos rfl,if_pos rfl]
    exact wj xs ys zs h
   ·rw [if_neg e2,if_neg (fun z=>e2 z.symm)]
    by_cases hl:x<y
    ·exact .inl (decide_eq_true hl)
    ·exact .inr (decide_eq_true (by omega))
  ·rw [if_neg e1] at h
   have h':=of_decide_eq_true h
   by_cases e2:x=y
   ·subst e2
    rw [if_neg e1]
    exact .inr h
   ·rw [if_neg e2]
    by_cases hl:x<y
    ·exact .inl (decide_eq_true hl)
    ·right
     rw [if_neg (by omega)]
     exact decide_eq_true (by omega)
theorem ww:∀ xs ys:List Int,ltXs (xs.map .int) (ys.map .int)=some (HT.lexLt xs ys)
 | [],[]=>by rw [VF,ltXs];rfl
 | [],_::_=>by rw [VF,Kr,ltXs];rfl
 | _::_,[]=>by rw [VF,Kr,ltXs];rfl
 | x::xs,y::ys=>by
  rw [Kr,Kr,ltXs,HT.QH]
  have e:Kz (.int x) (.int y)=(x==y):=rfl
  rw [e]
  by_cases h:x=y
  ·rw [if_pos (by simpa using h),if_pos h]
   exact ww xs ys
  ·rw [if_neg (by simpa using h),if_neg h,ltX]
theorem qd1 (xs ys:List Int):ltX (tI xs) (tI ys)=some (HT.lexLt xs ys):=by
 unfold tI
 rw [ltX]
 exact ww xs ys
theorem Yk {α:Type}(xs:List α)(d:α):(KE xs.length).map (fun i=>xs.getD i d)=xs:=by
 apply List.ext_getElem
 ·simp
 ·intro i h1 h2
  simp [VE,h2]
theorem WF {nss:List (List Int)}(hok:Zx 0 (nss.map tI)=true):∃ mss:List (List Int),zA [.list (nss.map tI)]=some (.list (mss.map tI))/\mss.Perm nss/\mss.Pairwise (fun a b=>HT.lexLt b a=false):=by
 have hn:2<=nss.length/\nss.length<64:=by
  unfold Zx at hok
  simp only [Ko,decide_eq_true_eq,Kh] at hok
  exact ⟨hok.2.1,hok.2.2.1⟩
 have O:IOrd nss.length (qak (nss.map tI)) (fun i j=>HT.lexLt (nss.getD i []) (nss.getD j [])):=by
  refine ⟨fun i j hi hj=>?_,fun i=>Y9 _,fun i j k=>qai _ _ _,fun i j k=>wj _ _ _⟩
  unfold qak
  rw [Vv,Vv,Kj hi,Kj hj]
  show ltX (tI nss[i]) (tI nss[j])=_
  rw [qd1,getD_some (Kj hi),getD_some (Kj hj)]
 obtain ⟨p,e1,hp,hs⟩:=qeO O (by omega)
 have hin:∀ i∈p.toList,i<nss.length:=fun i hi=>VL.mp (hp.mem_iff.mp hi)
 refine ⟨p.toList.map fun i=>nss.getD i [],?_,?_,?_⟩
 ·show (if (nss.map tI).length<2 then some (Um (nss.map tI)) else if Zx 0 (nss.map tI)=true\/Zx 1 (nss.map tI)=true then ob (runC (qak (nss.map tI)) (NS (nss.map tI).length)) fun p=>qav (nss.map tI) p else none)=_
  rw [if_neg (by rw [Kh];omega),if_pos (.inl hok),Kh,e1]
  show qav (nss.map tI) p=_
  unfold qav
  rw [if_pos ⟨KR.mpr fun i hi=>by rw [Kh];exact decide_eq_true (hin i hi),by rw [K3,hp.size];omega⟩]
  congr 2
  rw [VG]
  refine Ub fun i hi=>?_
  have hi':=hin i hi
  show (nss.map tI).getD i .none=tI (nss.getD i [])
  rw [getD_some (show (nss.map tI)[i]?=some (tI nss[i]) from by rw [Vv,Kj hi'];rfl),getD_some (Kj hi')]
 ·have:=hp.map (fun i=>nss.getD i [])
  rw [Yk] at this
  exact this
 ·rw [List.pairwise_map,ND]
  intro i j hi hj hij
  have hsz:=hp.size
  rw [K3] at hi hj
  have:=hs i j (by omega) (by omega)
  have g1:gp p i=p.toList[i]'(by rw [K3];exact hi):=by simp [gp,Array.getD,hi]
  have g2:gp p j=p.toList[j]'(by rw [K3];exact hj):=by simp [gp,Array.getD,hj]
  rw [g1,g2] at this
  exact this
theorem WX:∀ ns:List Int,Kn (ns.map .int)=true/\KB (ns.map .int)=0
 | []=>⟨rfl,rfl⟩
 | n::ns=>by
  obtain ⟨h1,h2⟩:=WX ns
  rw [Kr]
  exact ⟨by simp [Kn,KJ,h1],by simp [KB,VQ,h2]⟩
theorem yE:∀ nss:List (List Int),Kn (nss.map tI)=true/\KB (nss.map tI)<=1
 | []=>⟨rfl,Vz _⟩
 | ns::nss=>by
  obtain ⟨h1,h2⟩:=yE nss
  obtain ⟨h3,h4⟩:=WX ns
  rw [Kr]
  refine ⟨by simp [Kn,tI,KJ,h1,h3],?_⟩
  rw [KB,show (tI ns).depth=1 from by simp [tI,VQ,h4]]
  omega
theorem qaC {nss:List (List Int)}(h2:2<=nss.length)(h64:nss.length<64)(hne:∀ ns∈nss,ns≠[]):Zx 0 (nss.map tI)=true:=by
 obtain ⟨h3,h4⟩:=yE nss
 unfold Zx
 simp only [Ko,decide_eq_true_eq,Kh]
 refine ⟨KR.mpr fun d hd=>?_,h2,h64,h3,by omega⟩
 obtain ⟨ns,hn,rfl⟩:=VB.mp hd
 cases ns with
 | nil=>exact absurd rfl (hne [] hn)
 | cons n ns=>rfl
theorem Jt {nss:List (List Int)}(h64:nss.length<64)(hne:∀ ns∈nss,ns≠[]):∃ mss:List (List Int),zA [.list (nss.map tI)]=some (.list (mss.map tI))/\mss.Perm nss/\mss.Pairwise (fun a b=>HT.lexLt b a=false):=by
 by_cases h2:2<=nss.length
 ·exact WF (qaC h2 h64 hne)
 ·refine ⟨nss,?_,List.Perm.refl _,?_⟩
  ·show (if (nss.map tI).length<2 then some (Um (nss.map tI)) else _)=_
   rw [if_pos (by rw [Kh];omega)]
  ·match nss,h2 with
   | [],_=>exact .nil
   | [a],_=>exact .cons (fun _ z=>nomatch z) .nil
   | _::_::_,h2=>exact absurd (by simp) h2
end L2
namespace SF
open PySem L2
variable (P:Kx)(w:KG){K:Kc}{mg:Str->Option Kb}(base:KA){f:Kd}{fd:Vi}
def top (i:Nat):KY:=PySem.Challenge.pw_sheetfold_k21_a_solid_made.main.body.getD i (.Pass ⟨0,0,0,0⟩)
def Zo:Ka:=(.tuple [(.tuple [(.int (-1)),(.int (0)),(.int (0))]),(.tuple [(.int (0)),(.int (-1)),(.int (0))]),(.tuple [(.int (0)),(.int (0)),(.int (-1))]),(.tuple [(.int (0)),(.int (0)),(.int (1))]),(.tuple [(.int (0)),(.int (1)),(.int (0))]),(.tuple [(.int (1)),(.int (0)),(.int (0))])])
def zV:Ka:=(.int (6))
def XS:List (Str×List Str):=[("SheetError", ["SheetError", "ValueError"]),("NoDrawing", ["NoDrawing", "SheetError", "ValueError"]),("NoBend", ["NoBend", "SheetError", "ValueError"]),("NoSquare", ["NoSquare", "SheetError", "ValueError"]),("TooMany", ["TooMany", "SheetError", "ValueError"]),("NoTurn", ["NoTurn", "SheetError", "ValueError"]),("NoRow", ["NoRow", "SheetError", "ValueError"]),("NoName", ["NoName", "SheetError", "ValueError"]),("NotClosed", ["NotClosed", "SheetError", "ValueError"]),("NoSheet", ["NoSheet", "SheetError", "ValueError"]),("NoSolid", ["NoSolid", "SheetError", "ValueError"]),("NoTree", ["NoTree", "SheetError", "ValueError"]),("NoWay", ["NoWay", "SheetError", "ValueError"]),("Crowded", ["Crowded", "SheetError", "ValueError"])]
abbrev jH:KY:=(clsB (top 11)).getD 0 (.Pass ⟨0,0,0,0⟩)
theorem qaH:ScOk ["self", "why"] ["self", "why"] ["SheetError"] (qt jH):=scmk (by kernel_rfl)
theorem qcz {h:KA}(X:K.In h)(G:h.Ns mainGlobals mg)(F:IniF K "NoSolid" "why" "SheetError" "NoSolid.__init__" jH):KnownI P w K mg base "NoSolid" "why" 1 :=
 IniF.known X G qaH (by decide) (by decide +kernel) (by decide +kernel) (by decide +kernel) rfl (fun _=>rfl) (fun F=>F.binds (ps:=["self", "why"]) fun _ _ _ _ _ _ us hl=>match us,hl with | [_,_],_=>rfl) F
abbrev Tq3:KY:=top 16
abbrev jq:List Str:=["things", "ordered", "one", "other"]
theorem qN:ScOk jq ["things"] ["sorted", "zip"] (qt Tq3):=scmk (by kernel_rfl)
def ZC:Rho->Option Out:=(seqO (sSet 1 (evA (aC (vr 0) aN) zA)) (seqO (sFor (evI2 (vr 1) (evS (vr 1) (oS (kd (.int 1))) oN) zipD) (unpD 2 (gsC (gNm 2) (gsC (gNm 3) gsN))) (sIf (tV (ev2 (vr 2) (vr 3) eqD)) (sRet (vr 2)) sN)) (sRet (kd .none))))
def zf (ds:List Ka):Option Ka:=ob (ZC (rho0 jq.length ds)) outD
theorem YD (F:Fun K "least_twice" "least_twice" Tq3 f fd)(m:mg "least_twice" = some (.ref f))(b:Binds K fd ["things"] [])(z_sorted:mg "sorted" = none)(z_zip:mg "zip" = none):Known P w K mg base "least_twice" 1 1 zf:=by
 refine ⟨f,fd,["things"],F.pure (k:=0) (u:=ZC) (M':=[]) qN.fs rfl (fun cdv A outer s H E hr G=>?_),m,F.kp,b⟩
 refine qu (M1:=[]) ?_ ?_
 refine qQ 1 ?_ ?_ ?_ ?_ ?_ ?_ ?_
 ·exact qN.fs.nd
 ·exact (qN.loc 1 rfl)
 ·rfl
 ·rfl
 ·exact .inl rfl
 ·decide
 refine Zb ?_
 refine Zg (Q9 hr) (qN.gl 0 rfl rfl) z_sorted zU ?_
 refine qb ?_ ?_
 exact qd 0 (qN.vis 0 rfl) (by decide)
 exact qj
 refine qu (M1:=[]) ?_ ?_
 refine Qq K8 rfl ?_ (fun _=>?_) (fun _=>?_)
 refine qgi (qN.gl 1 rfl rfl) z_zip ?_ ?_
 exact qd 1 (qN.vis 1 rfl) (by decide)
 refine Zc ?_ ?_ ?_
 exact qd 1 (qN.vis 1 rfl) (by decide)
 refine Qz ?_
 exact ql
 exact Zd
 refine qgh rfl ?_
 refine wA ?_ ?_
 exact za 2 qN.fs.nd (qN.loc 2 rfl) (by decide)
 refine wA ?_ ?_
 exact za 3 qN.fs.nd (qN.loc 3 rfl) (by decide)
 exact qef
 refine qx ?_
 refine zb ?_ ?_ ?_
 refine qM (d_eq hr) ?_ ?_ (qX _)
 exact qd 2 (qN.vis 2 rfl) (by decide)
 exact qd 3 (qN.vis 3 rfl) (by decide)
 refine qx ?_
 refine qO ?_
 exact qd 2 (qN.vis 2 rfl) (by decide)
 exact qU
 refine qx ?_
 refine qO ?_
 exact QR
abbrev Tq15:KY:=top 17
abbrev ZM:List Str:=["count", "pairs", "links", "pair"]
theorem zq:ScOk ZM ["count", "pairs"] ["range"] (qt Tq15):=scmk (by kernel_rfl)
def jL:Rho->Option Out:=(seqO (Yr 2 (qbB 4 1 (evR (aC (vr 0) aN) Qp) (gNm 4) tT (evA aN lstD))) (seqO (sFor (evI (vr 1) seqD) (gNm 3) (seqO (Yq 2 (ev2 (vr 3) (kd (.int 0)) ixD) (ev2 (vr 3) (kd (.int 1)) ixD)) (Yq 2 (ev2 (vr 3) (kd (.int 1)) ixD) (ev2 (vr 3) (kd (.int 0)) ixD)))) (sRet (vr 2))))
def Q7 (ds:List Ka):Option Ka:=ob (jL (rho0 ZM.length ds)) outD
theorem qaV (F:Fun K "links_of" "links_of" Tq15 f fd)(m:mg "links_of" = some (.ref f))(b:Binds K fd ["count", "pairs"] [])(z_range:mg "range" = none):Known P w K mg base "links_of" 2 1 Q7:=by
 refine ⟨f,fd,["count", "pairs"],F.pure (k:=0) (u:=jL) (M':=[]) zq.fs rfl (fun cdv A outer s H E hr G=>?_),m,F.kp,b⟩
 refine qu (M1:=[2,1002]) ?_ ?_
 refine qcR 2 (CompOk.of (k:=1) ZM ["count", "pairs", "links", "pair", "k"] (qt Tq15) rfl rfl rfl (by decide +kernel)) (Z8 (by decide)) (qt Tq15) rfl (by decide +kernel) (by decide) (by decide) ?_ (fun _ _ _ _ _ _=>Jl (i:=4) (CompOk.of (k:=1) ZM ["count", "pairs", "links", "pair", "k"] (qt Tq15) rfl rfl rfl (by decide +kernel)) rfl (by decide +kernel) _ _ _ _ _ _) (fun _ _ _ _ _ _=>?_) (fun _ _ _ _ _ _=>?_)
 refine Yi (zq.gl 0 rfl rfl) z_range ?_
 refine qb ?_ ?_
 exact qd 0 (zq.vis 0 rfl) (by decide)
 exact qj
 exact jd
 refine jF ?_
 exact qj
 refine qu (M1:=[2,1002]) ?_ ?_
 refine Qq K8 rfl ?_ (fun _=>?_) (fun _=>?_)
 refine zZ ?_
 exact qd 1 (zq.vis 1 rfl) (by decide)
 exact za 3 zq.fs.nd (zq.loc 3 rfl) (by decide)
 refine qu (M1:=[2,1002]) ?_ ?_
 refine qaq 2 (zq.vis 2 rfl) (by decide) ?_ ?_
 refine zc ?_ ?_
 exact qd 3 (zq.vis 3 rfl) (by decide)
 exact ql
 refine zc ?_ ?_
 exact qd 3 (zq.vis 3 rfl) (by decide)
 exact ql
 refine qx ?_
 refine qaq 2 (zq.vis 2 rfl) (by decide) ?_ ?_
 refine zc ?_ ?_
 exact qd 3 (zq.vis 3 rfl) (by decide)
 exact ql
 refine zc ?_ ?_
 exact qd 3 (zq.vis 3 rfl) (by decide)
 exact ql
 refine qx ?_
 refine qO ?_
 exact qd 2 (zq.vis 2 rfl) (by decide)
abbrev Tq0:KY:=top 18
abbrev Z5:List Str:=["start", "links", "origins", "waiting", "k", "j"]
theorem qC:ScOk Z5 ["start", "links"] [] (qt Tq0):=scmk (by kernel_rfl)
def Zk:Rho->Option Out:=(seqO (zg 2 (ev2 (vr 0) (kd .none) W3)) (seqO (zg 3 (evA (aC (vr 0) aN) lstD)) (seqO (qbb (tW (vr 3)) (seqO (JW 3 4 (kd (.int 0))) (sFor (evI (ev2 (vr 1) (vr 4) ixD) seqD) (gNm 5) (sIf (tV (ev2 (vr 5) (vr 2) ye)) (seqO (Yp 2 (vr 5) (vr 4)) (sApp 3 (vr 5))) sN)))) (sRet (vr 2)))))
def Qc (ds:List Ka):Option Ka:=ob (Zk (rho0 Z5.length ds)) outD
theorem yX (F:Fun K "reached_from" "reached_from" Tq0 f fd)(m:mg "reached_from" = some (.ref f))(b:Binds K fd ["start", "links"] []):Known P w K mg base "reached_from" 2 1 Qc:=by
 refine ⟨f,fd,["start", "links"],F.pure (k:=0) (u:=Zk) (M':=[]) qC.fs rfl (fun cdv A outer s H E hr G=>?_),m,F.kp,b⟩
 refine qu (M1:=[2]) ?_ ?_
 refine Qf 2 ?_ ?_ ?_ ?_ ?_ ?_ ?_ ?_
 ·exact qC.fs.nd
 ·exact (qC.loc 2 rfl)
 ·rfl
 ·rfl
 ·exact .inl rfl
 ·decide
 ·decide
 refine qeo ?_ ?_
 exact qd 0 (qC.vis 0 rfl) (by decide)
 exact QR
 refine qu (M1:=[3,2]) ?_ ?_
 refine Qf 3 ?_ ?_ ?_ ?_ ?_ ?_ ?_ ?_
 ·exact qC.fs.nd
 ·exact (qC.loc 3 rfl)
 ·rfl
 ·rfl
 ·exact .inl rfl
 ·decide
 ·decide
 refine jF ?_
 refine qb ?_ ?_
 exact qd 0 (qC.vis 0 rfl) (by decide)
 exact qj
 refine qu (M1:=[3,2]) ?_ ?_
 refine qcU K8 ?_ ?_
 refine qgl ?_
 exact qd 3 (qC.vis 3 rfl) (by decide)
 refine qu (M1:=[3,2]) ?_ ?_
 refine qcT 3 4 (qC.vis 3 rfl) (by decide) (by decide) (by decide) qC.fs.nd (qC.loc 4 rfl) ?_
 exact ql
 refine qx ?_
 refine Qq K8 rfl ?_ (fun _=>?_) (fun _=>?_)
 refine zZ ?_
 refine zc ?_ ?_
 exact qd 1 (qC.vis 1 rfl) (by decide)
 exact qd 4 (qC.vis 4 rfl) (by decide)
 exact za 5 qC.fs.nd (qC.loc 5 rfl) (by decide)
 refine qx ?_
 refine zb ?_ ?_ ?_
 refine qM (W2 hr) ?_ ?_ rfl
 exact qd 5 (qC.vis 5 rfl) (by decide)
 exact qd 2 (qC.vis 2 rfl) (by decide)
 refine qu (M1:=[3,2]) ?_ ?_
 refine qeh hr 2 (qC.vis 2 rfl) (by decide) (by decide) ?_ ?_
 exact qd 5 (qC.vis 5 rfl) (by decide)
 exact qd 4 (qC.vis 4 rfl) (by decide)
 refine qx ?_
 refine jk 3 (qC.vis 3 rfl) (by decide) (by decide) ?_
 exact qd 5 (qC.vis 5 rfl) (by decide)
 exact qU
 refine qx ?_
 refine qO ?_
 exact qd 2 (qC.vis 2 rfl) (by decide)
abbrev Tq4:KY:=top 19
abbrev jo:List Str:=["count", "pairs", "reached", "k"]
theorem qP:ScOk jo ["count", "pairs"] ["links_of", "reached_from", "range"] (qt Tq4):=scmk (by kernel_rfl)
def Zz:Rho->Option Out:=(seqO (sSet 2 (evC 2 (aC (kd (.int 0)) (aC (evC 2 (aC (vr 0) (aC (vr 1) aN)) Q7) aN)) Qc)) (seqO (sFor (evR (aC (vr 0) aN) Qp) (gNm 3) (sIf (tV (ev2 (vr 3) (vr 2) ye)) (sRet (vr 3)) sN)) (sRet (kd .none))))
def q8 (ds:List Ka):Option Ka:=ob (Zz (rho0 jo.length ds)) outD
theorem YC (F:Fun K "least_apart" "least_apart" Tq4 f fd)(m:mg "least_apart" = some (.ref f))(b:Binds K fd ["count", "pairs"] [])(K_reached_from:Known P w K mg base "reached_from" 2 1 Qc)(K_links_of:Known P w K mg base "links_of" 2 1 Q7)(z_range:mg "range" = none):Known P w K mg base "least_apart" 2 2 q8:=by
 refine ⟨f,fd,["count", "pairs"],F.pure (k:=1) (u:=Zz) (M':=[]) qP.fs rfl (fun cdv A outer s H E hr G=>?_),m,F.kp,b⟩
 refine qu (M1:=[]) ?_ ?_
 refine qQ 2 ?_ ?_ ?_ ?_ ?_ ?_ ?_
 ·exact qP.fs.nd
 ·exact (qP.loc 2 rfl)
 ·rfl
 ·rfl
 ·exact .inl rfl
 ·decide
 refine qK K_reached_from hr (by decide) (qP.gl 1 rfl rfl) ?_ rfl
 refine qb ?_ ?_
 exact ql
 refine qb ?_ ?_
 refine qK K_links_of hr (by decide) (qP.gl 0 rfl rfl) ?_ rfl
 refine qb ?_ ?_
 exact qd 0 (qP.vis 0 rfl) (by decide)
 refine qb ?_ ?_
 exact qd 1 (qP.vis 1 rfl) (by decide)
 exact qj
 exact qj
 refine qu (M1:=[]) ?_ ?_
 refine Ze K8 rfl ?_ ?_ ?_
 refine Qv (qP.gl 2 rfl rfl) z_range ?_
 refine qb ?_ ?_
 exact qd 0 (qP.vis 0 rfl) (by decide)
 exact qj
 exact za 3 qP.fs.nd (qP.loc 3 rfl) (by decide)
 refine qx ?_
 refine zb ?_ ?_ ?_
 refine qM (W2 hr) ?_ ?_ rfl
 exact qd 3 (qP.vis 3 rfl) (by decide)
 exact qd 2 (qP.vis 2 rfl) (by decide)
 refine qx ?_
 refine qO ?_
 exact qd 3 (qP.vis 3 rfl) (by decide)
 exact qU
 refine qx ?_
 refine qO ?_
 exact QR
abbrev Tq19:KY:=top 22
abbrev qbl:List Str:=["one", "other"]
theorem ZK:ScOk qbl ["one", "other"] [] (qt Tq19):=scmk (by kernel_rfl)
def WN:Rho->Option Out:=(sRet (evA (aC (ev2 (ev2 (vr 0) (kd (.int 0)) ixD) (ev2 (vr 1) (kd (.int 0)) ixD) qR) (aC (ev2 (ev2 (vr 0) (kd (.int 1)) ixD) (ev2 (vr 1) (kd (.int 1)) ixD) qR) (aC (ev2 (ev2 (vr 0) (kd (.int 2)) ixD) (ev2 (vr 1) (kd (.int 2)) ixD) qR) aN))) tupD))
def ZQ (ds:List Ka):Option Ka:=ob (WN (rho0 qbl.length ds)) outD
theorem qfK (F:Fun K "added" "added" Tq19 f fd)(m:mg "added" = some (.ref f))(b:Binds K fd ["one", "other"] []):Known P w K mg base "added" 2 1 ZQ:=by
 refine ⟨f,fd,["one", "other"],F.pure (k:=0) (u:=WN) (M':=[]) ZK.fs rfl (fun cdv A outer s H E hr G=>?_),m,F.kp,b⟩
 refine qx ?_
 refine qO ?_
 refine zF ?_
 refine qb ?_ ?_
 refine qF zJ ?_ ?_
 refine zc ?_ ?_
 exact qd 0 (ZK.vis 0 rfl) (by decide)
 exact ql
 refine zc ?_ ?_
 exact qd 1 (ZK.vis 1 rfl) (by decide)
 exact ql
 refine qb ?_ ?_
 refine qF zJ ?_ ?_
 refine zc ?_ ?_
 exact qd 0 (ZK.vis 0 rfl) (by decide)
 exact ql
 refine zc ?_ ?_
 exact qd 1 (ZK.vis 1 rfl) (by decide)
 exact ql
 refine qb ?_ ?_
 refine qF zJ ?_ ?_
 refine zc ?_ ?_
 exact qd 0 (ZK.vis 0 rfl) (by decide)
 exact ql
 refine zc ?_ ?_
 exact qd 1 (ZK.vis 1 rfl) (by decide)
 exact ql
 exact qj
abbrev Tq18:KY:=top 23
abbrev YH:List Str:=["spot"]
theorem jg:ScOk YH ["spot"] [] (qt Tq18):=scmk (by kernel_rfl)
def JZ:Rho->Option Out:=(sRet (evA (aC (ev1 (ev2 (vr 0) (kd (.int 0)) ixD) negD) (aC (ev1 (ev2 (vr 0) (kd (.int 1)) ixD) negD) (aC (ev1 (ev2 (vr 0) (kd (.int 2)) ixD) negD) aN))) tupD))
def QG (ds:List Ka):Option Ka:=ob (JZ (rho0 YH.length ds)) outD
theorem qcF (F:Fun K "negated" "negated" Tq18 f fd)(m:mg "negated" = some (.ref f))(b:Binds K fd ["spot"] []):Known P w K mg base "negated" 1 1 QG:=by
 refine ⟨f,fd,["spot"],F.pure (k:=0) (u:=JZ) (M':=[]) jg.fs rfl (fun cdv A outer s H E hr G=>?_),m,F.kp,b⟩
 refine qx ?_
 refine qO ?_
 refine zF ?_
 refine qb ?_ ?_
 refine qee qdw ?_
 refine zc ?_ ?_
 exact qd 0 (jg.vis 0 rfl) (by decide)
 exact ql
 refine qb ?_ ?_
 refine qee qdw ?_
 refine zc ?_ ?_
 exact qd 0 (jg.vis 0 rfl) (by decide)
 exact ql
 refine qb ?_ ?_
 refine qee qdw ?_
 refine zc ?_ ?_
 exact qd 0 (jg.vis 0 rfl) (by decide)
 exact ql
 exact qj
abbrev Tq6:KY:=top 27
abbrev jW:List Str:=["cubes", "pairs", "j", "i"]
theorem qH:ScOk jW ["cubes"] ["negated", "added", "UNITS", "range", "len"] (qt Tq6):=scmk (by kernel_rfl)
def ZZ:Rho->Option Out:=(seqO (zg 1 (evA aN lstD)) (seqO (sFor (evR (aC (evA (aC (vr 0) aN) lenD) aN) Qp) (gNm 2) (sFor (evR (aC (vr 2) aN) Qp) (gNm 3) (sIf (tV (ev2 (evC 2 (aC (ev2 (vr 0) (vr 2) ixD) (aC (evC 1 (aC (ev2 (vr 0) (vr 3) ixD) aN) QG) aN)) ZQ) (kd Zo) inD)) (sApp 1 (evA (aC (vr 3) (aC (vr 2) aN)) tupD)) sN))) (sRet (vr 1))))
def zu (ds:List Ka):Option Ka:=ob (ZZ (rho0 jW.length ds)) outD
theorem Wj (F:Fun K "side_pairs" "side_pairs" Tq6 f fd)(m:mg "side_pairs" = some (.ref f))(b:Binds K fd ["cubes"] [])(K_added:Known P w K mg base "added" 2 1 ZQ)(K_negated:Known P w K mg base "negated" 1 1 QG)(z_range:mg "range" = none)(z_len:mg "len" = none)(C_UNITS:Jx K mg "UNITS" Zo):Known P w K mg base "side_pairs" 1 2 zu:=by
 refine ⟨f,fd,["cubes"],F.pure (k:=1) (u:=ZZ) (M':=[]) qH.fs rfl (fun cdv A outer s H E hr G=>?_),m,F.kp,b⟩
 refine qu (M1:=[1]) ?_ ?_
 refine Qf 1 ?_ ?_ ?_ ?_ ?_ ?_ ?_ ?_
 ·exact qH.fs.nd
 ·exact (qH.loc 1 rfl)
 ·rfl
 ·rfl
 ·exact .inl rfl
 ·decide
 ·decide
 refine jF ?_
 exact qj
 refine qu (M1:=[1]) ?_ ?_
 refine Ze K8 rfl ?_ ?_ ?_
 refine Qv (qH.gl 3 rfl rfl) z_range ?_
 refine qb ?_ ?_
 refine zp QV (qH.gl 4 rfl rfl) z_len Vu ?_
 refine qb ?_ ?_
 exact qd 0 (qH.vis 0 rfl) (by decide)
 exact qj
 exact qj
 exact za 2 qH.fs.nd (qH.loc 2 rfl) (by decide)
 refine qx ?_
 refine Ze K8 rfl ?_ ?_ ?_
 refine Qv (qH.gl 3 rfl rfl) z_range ?_
 refine qb ?_ ?_
 exact qd 2 (qH.vis 2 rfl) (by decide)
 exact qj
 exact za 3 qH.fs.nd (qH.loc 3 rfl) (by decide)
 refine qx ?_
 refine zb ?_ ?_ ?_
 refine qM (d_in hr) ?_ ?_ rfl
 refine qK K_added hr (by decide) (qH.gl 1 rfl rfl) ?_ rfl
 refine qb ?_ ?_
 refine zc ?_ ?_
 exact qd 0 (qH.vis 0 rfl) (by decide)
 exact qd 2 (qH.vis 2 rfl) (by decide)
 refine qb ?_ ?_
 refine qK K_negated hr (by decide) (qH.gl 0 rfl rfl) ?_ rfl
 refine qb ?_ ?_
 refine zc ?_ ?_
 exact qd 0 (qH.vis 0 rfl) (by decide)
 exact qd 3 (qH.vis 3 rfl) (by decide)
 exact qj
 exact qj
 exact Jh C_UNITS (qH.gl 2 rfl rfl)
 refine qx ?_
 refine jk 1 (qH.vis 1 rfl) (by decide) (by decide) ?_
 refine zF ?_
 refine qb ?_ ?_
 exact qd 3 (qH.vis 3 rfl) (by decide)
 refine qb ?_ ?_
 exact qd 2 (qH.vis 2 rfl) (by decide)
 exact qj
 exact qU
 refine qx ?_
 refine qO ?_
 exact qd 1 (qH.vis 1 rfl) (by decide)
abbrev Tq1:KY:=top 29
abbrev Z3:List Str:=["_law_script", "_law_k"]
theorem zQ:ScOk Z3 ["_law_script", "_law_k"] ["len"] (qt Tq1):=scmk (by kernel_rfl)
def Zj:Rho->Option Out:=(seqO (sIf (tV (ev2 (vr 1) (evA (aC (vr 0) aN) lenD) ltD2)) (sRet (ev2 (vr 0) (vr 1) ixD)) sN) (sRet (kd (.int 0))))
def zx (ds:List Ka):Option Ka:=ob (Zj (rho0 Z3.length ds)) outD
theorem yV (F:Fun K "_law_cell_at" "_law_cell_at" Tq1 f fd)(m:mg "_law_cell_at" = some (.ref f))(b:Binds K fd ["_law_script", "_law_k"] [])(z_len:mg "len" = none):Known P w K mg base "_law_cell_at" 2 1 zx:=by
 refine ⟨f,fd,["_law_script", "_law_k"],F.pure (k:=0) (u:=Zj) (M':=[]) zQ.fs rfl (fun cdv A outer s H E hr G=>?_),m,F.kp,b⟩
 refine qu (M1:=[]) ?_ ?_
 refine zb ?_ ?_ ?_
 refine qM (qdv hr) ?_ ?_ (qX _)
 exact qd 1 (zQ.vis 1 rfl) (by decide)
 refine zp QV (zQ.gl 0 rfl rfl) z_len Vu ?_
 refine qb ?_ ?_
 exact qd 0 (zQ.vis 0 rfl) (by decide)
 exact qj
 refine qx ?_
 refine qO ?_
 refine zc ?_ ?_
 exact qd 0 (zQ.vis 0 rfl) (by decide)
 exact qd 1 (zQ.vis 1 rfl) (by decide)
 exact qU
 refine qx ?_
 refine qO ?_
 exact ql
abbrev Tq7:KY:=top 30
abbrev jV:List Str:=["_law_found"]
theorem zT:ScOk jV ["_law_found"] ["isinstance", "int", "bool"] (qt Tq7):=scmk (by kernel_rfl)
def Jw:Rho->Option Out:=(sRet (vA (ev1 (vr 0) (isiD "int")) (vN (ev1 (vr 0) (isiD "bool")))))
def zN (ds:List Ka):Option Ka:=ob (Jw (rho0 jV.length ds)) outD
theorem Wi (F:Fun K "_law_whole" "_law_whole" Tq7 f fd)(m:mg "_law_whole" = some (.ref f))(b:Binds K fd ["_law_found"] [])(z_isinstance:mg "isinstance" = none)(z_int:mg "int" = none)(z_bool:mg "bool" = none):Known P w K mg base "_law_whole" 1 1 zN:=by
 refine ⟨f,fd,["_law_found"],F.pure (k:=0) (u:=Jw) (M':=[]) zT.fs rfl (fun cdv A outer s H E hr G=>?_),m,F.kp,b⟩
 refine qx ?_
 refine qO ?_
 refine jD ?_ ?_
 refine Yh (T := "int") (qfO _) (zT.gl 0 rfl rfl) z_isinstance (zT.gl 1 rfl rfl) z_int rfl rfl ?_
 exact qd 0 (zT.vis 0 rfl) (by decide)
 refine JP ?_
 refine qhT ?_
 refine Yh (T := "bool") (qdQ _) (zT.gl 0 rfl rfl) z_isinstance (zT.gl 2 rfl rfl) z_bool rfl rfl ?_
 exact qd 0 (zT.vis 0 rfl) (by decide)
abbrev Tq8:KY:=top 31
abbrev jU:List Str:=["_law_found", "_law_spot", "_law_number"]
theorem qL:ScOk jU ["_law_found"] ["isinstance", "list", "tuple", "len", "_law_whole"] (qt Tq8):=scmk (by kernel_rfl)
def ZX:Rho->Option Out:=(seqO (sIf (tN (tV (ev1 (vr 0) (isiD "list")))) (sRet (kd (.bool false))) sN) (seqO (sFor (evI (vr 0) seqD) (gNm 1) (seqO (sIf (tO (tN (tV (ev1 (vr 1) (isiD "tuple")))) (tV (ev2 (evA (aC (vr 1) aN) lenD) (kd (.int 3)) neD))) (sRet (kd (.bool false))) sN) (sFor (evI (vr 1) seqD) (gNm 2) (sIf (tN (tV (evC 1 (aC (vr 2) aN) zN))) (sRet (kd (.bool false))) sN)))) (sRet (kd (.bool true)))))
def zr (ds:List Ka):Option Ka:=ob (ZX (rho0 jU.length ds)) outD
theorem Wh (F:Fun K "_law_spots" "_law_spots" Tq8 f fd)(m:mg "_law_spots" = some (.ref f))(b:Binds K fd ["_law_found"] [])(K__law_whole:Known P w K mg base "_law_whole" 1 1 zN)(z_isinstance:mg "isinstance" = none)(z_list:mg "list" = none)(z_tuple:mg "tuple" = none)(z_len:mg "len" = none):Known P w K mg base "_law_spots" 1 2 zr:=by
 refine ⟨f,fd,["_law_found"],F.pure (k:=1) (u:=ZX) (M':=[]) qL.fs rfl (fun cdv A outer s H E hr G=>?_),m,F.kp,b⟩
 refine qu (M1:=[]) ?_ ?_
 refine zb ?_ ?_ ?_
 refine ZR ?_
 refine yo ?_
 refine Yh (T := "list") (qdR _) (qL.gl 0 rfl rfl) z_isinstance (qL.gl 1 rfl rfl) z_list rfl rfl ?_
 exact qd 0 (qL.vis 0 rfl) (by decide)
 refine qx ?_
 refine qO ?_
 exact Za
 exact qU
 refine qu (M1:=[]) ?_ ?_
 refine Qq K8 rfl ?_ (fun _=>?_) (fun _=>?_)
 refine zZ ?_
 exact qd 0 (qL.vis 0 rfl) (by decide)
 exact za 1 qL.fs.nd (qL.loc 1 rfl) (by decide)
 refine qu (M1:=[]) ?_ ?_
 refine zb ?_ ?_ ?_
 refine PDW.pdt ?_
 refine Yj ?_ ?_
 refine ZR ?_
 refine yo ?_
 refine Yh (T := "tuple") (kit_tuple _) (qL.gl 0 rfl rfl) z_isinstance (qL.gl 2 rfl rfl) z_tuple rfl rfl ?_
 exact qd 1 (qL.vis 1 rfl) (by decide)
 refine Wu ?_
 refine qM (d_ne hr) ?_ ?_ (qX _)
 refine zp QV (qL.gl 3 rfl rfl) z_len Vu ?_
 refine qb ?_ ?_
 exact qd 1 (qL.vis 1 rfl) (by decide)
 exact qj
 exact ql
 refine qx ?_
 refine qO ?_
 exact Za
 exact qU
 refine qx ?_
 refine Qq K8 rfl ?_ (fun _=>?_) (fun _=>?_)
 refine zZ ?_
 exact qd 1 (qL.vis 1 rfl) (by decide)
 exact za 2 qL.fs.nd (qL.loc 2 rfl) (by decide)
 refine qx ?_
 refine zb ?_ ?_ ?_
 refine ZR ?_
 refine yo ?_
 refine qK K__law_whole hr (by decide) (qL.gl 4 rfl rfl) ?_ rfl
 refine qb ?_ ?_
 exact qd 2 (qL.vis 2 rfl) (by decide)
 exact qj
 refine qx ?_
 refine qO ?_
 exact Za
 exact qU
 refine qx ?_
 refine qO ?_
 exact Za
abbrev Tq14:KY:=top 32
abbrev J5:List Str:=["_law_cells", "_law_base_here", "_law_cell"]
theorem zm:ScOk J5 ["_law_cells"] [] (qt Tq14):=scmk (by kernel_rfl)
def jf:Rho->Option Out:=(seqO (zg 1 (evA aN lstD)) (seqO (sFor (evI (vr 0) seqD) (gNm 2) (sIf (tV (ev2 (ev2 (vr 2) (kd (.int 5)) modD) (kd (.int 0)) eqD)) (sApp 1 (ev2 (ev2 (ev2 (vr 2) (kd (.int 5)) qY) (ev2 (ev2 (kd (.int 2)) (ev2 (kd (.int 10)) (kd (.int 19)) powD) mulD) (kd (.int 1)) qR) modD) (ev2 (kd (.int 10)) (kd (.int 19)) powD) subD)) (sApp 1 (ev2 (ev2 (ev2 (vr 2) (kd (.int 5)) qY) (kd (.int 9)) modD) (kd (.int 4)) subD)))) (sRet (vr 1))))
def Qw (ds:List Ka):Option Ka:=ob (jf (rho0 J5.length ds)) outD
theorem qag (F:Fun K "_law_base" "_law_base" Tq14 f fd)(m:mg "_law_base" = some (.ref f))(b:Binds K fd ["_law_cells"] []):Known P w K mg base "_law_base" 1 1 Qw:=by
 refine ⟨f,fd,["_law_cells"],F.pure (k:=0) (u:=jf) (M':=[]) zm.fs rfl (fun cdv A outer s H E hr G=>?_),m,F.kp,b⟩
 refine qu (M1:=[1]) ?_ ?_
 refine Qf 1 ?_ ?_ ?_ ?_ ?_ ?_ ?_ ?_
 ·exact zm.fs.nd
 ·exact (zm.loc 1 rfl)
 ·rfl
 ·rfl
 ·exact .inl rfl
 ·decide
 ·decide
 refine jF ?_
 exact qj
 refine qu (M1:=[1]) ?_ ?_
 refine Qq K8 rfl ?_ (fun _=>?_) (fun _=>?_)
 refine zZ ?_
 exact qd 0 (zm.vis 0 rfl) (by decide)
 exact za 2 zm.fs.nd (zm.loc 2 rfl) (by decide)
 refine qx ?_
 refine zb ?_ ?_ ?_
 refine qM (d_eq hr) ?_ ?_ (qX _)
 refine qF zW ?_ ?_
 exact qd 2 (zm.vis 2 rfl) (by decide)
 exact ql
 exact ql
 refine qx ?_
 refine jk 1 (zm.vis 1 rfl) (by decide) (by decide) ?_
 refine qF j5 ?_ ?_
 refine qF zW ?_ ?_
 refine qF Qk ?_ ?_
 exact qd 2 (zm.vis 2 rfl) (by decide)
 exact ql
 refine qF zJ ?_ ?_
 refine qF jZ ?_ ?_
 exact ql
 refine qF qgQ ?_ ?_
 exact ql
 exact ql
 exact ql
 refine qF qgQ ?_ ?_
 exact ql
 exact ql
 refine qx ?_
 refine jk 1 (zm.vis 1 rfl) (by decide) (by decide) ?_
 refine qF j5 ?_ ?_
 refine qF zW ?_ ?_
 refine qF Qk ?_ ?_
 exact qd 2 (zm.vis 2 rfl) (by decide)
 exact ql
 exact ql
 exact ql
 refine qx ?_
 refine qO ?_
 exact qd 1 (zm.vis 1 rfl) (by decide)
abbrev Tq9:KY:=top 33
abbrev jQ:List Str:=["_law_cell", "_law_k"]
theorem Qx:ScOk jQ ["_law_cell", "_law_k"] [] (qt Tq9):=scmk (by kernel_rfl)
def ZW:Rho->Option Out:=(sRet (ev2 (ev2 (ev2 (ev2 (ev2 (vr 0) (kd (.int 1000000007)) modD) (ev2 (vr 1) (kd (.int 3)) qR) mulD) (kd (.int 48271)) mulD) (ev2 (ev2 (ev2 (vr 1) (kd (.int 1)) qR) (ev2 (vr 1) (kd (.int 5)) qR) mulD) (kd (.int 69621)) mulD) qR) (kd (.int 2147483647)) modD))
def zL (ds:List Ka):Option Ka:=ob (ZW (rho0 jQ.length ds)) outD
theorem We (F:Fun K "_law_mixed" "_law_mixed" Tq9 f fd)(m:mg "_law_mixed" = some (.ref f))(b:Binds K fd ["_law_cell", "_law_k"] []):Known P w K mg base "_law_mixed" 2 1 zL:=by
 refine ⟨f,fd,["_law_cell", "_law_k"],F.pure (k:=0) (u:=ZW) (M':=[]) Qx.fs rfl (fun cdv A outer s H E hr G=>?_),m,F.kp,b⟩
 refine qx ?_
 refine qO ?_
 refine qF zW ?_ ?_
 refine qF zJ ?_ ?_
 refine qF jZ ?_ ?_
 refine qF jZ ?_ ?_
 refine qF zW ?_ ?_
 exact qd 0 (Qx.vis 0 rfl) (by decide)
 exact ql
 refine qF zJ ?_ ?_
 exact qd 1 (Qx.vis 1 rfl) (by decide)
 exact ql
 exact ql
 refine qF jZ ?_ ?_
 refine qF jZ ?_ ?_
 refine qF zJ ?_ ?_
 exact qd 1 (Qx.vis 1 rfl) (by decide)
 exact ql
 refine qF zJ ?_ ?_
 exact qd 1 (Qx.vis 1 rfl) (by decide)
 exact ql
 exact ql
 exact ql
abbrev Tq10:KY:=top 34
abbrev jT:List Str:=["_law_cells", "_law_base_here", "_law_kind", "_law_cubes", "_law_corner", "_law_spot", "_law_k", "_law_cell", "_law_cube", "_law_axis"]
theorem qi:ScOk jT ["_law_cells", "_law_base_here", "_law_kind"] ["tuple", "range", "len", "list", "sorted"] (qt Tq10):=scmk (by kernel_rfl)
def Qi:Rho->Option Out:=(seqO (zg 3 (evA (aC (evA (aC (vr 1) aN) zR) aN) lstD)) (seqO (sIf (tV (ev2 (vr 2) (kd (.int 0)) gtD)) (seqO (zg 3 (evA aN lstD)) (sFor (evI (evA (aC (evA (aC (kd (.int 0)) (aC (kd (.int 0)) (aC (kd (.int 0)) aN))) tupD) (aC (evA (aC (kd (.int 0)) (aC (kd (.int 0)) (aC (kd (.int 1)) aN))) tupD) (aC (evA (aC (kd (.int 1)) (aC (kd (.int 0)) (aC (kd (.int 1)) aN))) tupD) (aC (evA (aC (kd (.int 1)) (aC (kd (.int 1)) (aC (kd (.int 1)) aN))) tupD) (aC (evA (aC (kd (.int 1)) (aC (kd (.int 1)) (aC (kd (.int 0)) aN))) tupD) aN))))) tupD) seqD) (gNm 4) (seqO (zg 5 (evA (aC (ev2 (vr 4) (ev2 (vr 2) (kd (.int 3)) modD) ixD) (aC (ev2 (vr 4) (ev2 (ev2 (vr 2) (kd (.int 1)) qR) (kd (.int 3)) modD) ixD) (aC (ev2 (vr 4) (ev2 (ev2 (vr 2) (kd (.int 2)) qR) (kd (.int 3)) modD) ixD) aN))) lstD)) (seqO (sFor (evR (aC (kd (.int 3)) aN) Qp) (gNm 6) (sPut 5 (vr 6) (Qo (ev2 (ev2 (vr 1) (vr 6) ixD) (ev2 (ev2 (vr 5) (vr 6) ixD) (ev2 (kd (.int 1)) (ev2 (kd (.int 2)) (ev2 (ev2 (vr 2) (ev2 (evA (aC (kd (.int 3)) (aC (kd (.int 6)) (aC (kd (.int 12)) aN))) tupD) (vr 6) ixD) qY) (kd (.int 2)) modD) mulD) subD) mulD) qR)))) (sApp 3 (Qo (evA (aC (vr 5) aN) zR))))))) sN) (seqO (sFor (evI (vr 0) seqD) (gNm 7) (seqO (zg 8 (QM (evA (aC (ev2 (vr 3) (ev2 (vr 7) (evA (aC (vr 3) aN) lenD) modD) ixD) aN) Z2))) (seqO (sSet 9 (ev2 (ev2 (vr 7) (kd (.int 60)) qY) (kd (.int 3)) modD)) (seqO (sPut 8 (vr 9) (Qo (ev2 (ev2 (ev2 (vr 8) (vr 9) ixD) (ev2 (kd (.int 2)) (ev2 (ev2 (vr 7) (kd (.int 180)) qY) (kd (.int 2)) modD) mulD) qR) (kd (.int 1)) subD))) (sIf (tA (tV (ev2 (evA (aC (vr 3) aN) lenD) (kd (.int 6)) ltD2)) (tV (ev2 (evA (aC (vr 8) aN) zR) (vr 3) ninD))) (sApp 3 (Qo (evA (aC (vr 8) aN) zR))) sN))))) (sRet (evA (aC (vr 3) aN) zA)))))
def zM (ds:List Ka):Option Ka:=ob (Qi (rho0 jT.length ds)) outD
theorem Wg (F:Fun K "_law_solid" "_law_solid" Tq10 f fd)(m:mg "_law_solid" = some (.ref f))(b:Binds K fd ["_law_cells", "_law_base_here", "_law_kind"] [])(z_tuple:mg "tuple" = none)(z_range:mg "range" = none)(z_list:mg "list" = none)(z_len:mg "len" = none)(z_sorted:mg "sorted" = none):Known P w K mg base "_law_solid" 3 1 zM:=by
 refine ⟨f,fd,["_law_cells", "_law_base_here", "_law_kind"],F.pure (k:=0) (u:=Qi) (M':=[]) qi.fs rfl (fun cdv A outer s H E hr G=>?_),m,F.kp,b⟩
 refine qu (M1:=[3]) ?_ ?_
 refine Qf 3 ?_ ?_ ?_ ?_ ?_ ?_ ?_ ?_
 ·exact qi.fs.nd
 ·exact (qi.loc 3 rfl)
 ·rfl
 ·rfl
 ·exact .inl rfl
 ·decide
 ·decide
 refine jF ?_
 refine qb ?_ ?_
 refine QK jX (qi.gl 0 rfl rfl) z_tuple rfl ?_
 refine qb ?_ ?_
 exact qd 1 (qi.vis 1 rfl) (by decide)
 exact qj
 exact qj
 refine qu (M1:=[3]) ?_ ?_
 refine zb ?_ ?_ ?_
 refine qM d_gt ?_ ?_ (qX _)
 exact qd 2 (qi.vis 2 rfl) (by decide)
 exact ql
 refine qu (M1:=[3]) ?_ ?_
 refine jl [] ?_ ?_ ?_
 ·rfl
 ·rfl
 refine Qf 3 ?_ ?_ ?_ ?_ ?_ ?_ ?_ ?_
 ·exact qi.fs.nd
 ·exact (qi.loc 3 rfl)
 ·rfl
 ·rfl
 ·exact .inl rfl
 ·decide
 ·decide
 refine jF ?_
 exact qj
 refine qx ?_
 refine Qq K8 rfl ?_ (fun _=>?_) (fun _=>?_)
 refine zZ ?_
 refine zF ?_
 refine qb ?_ ?_
 refine zF ?_
 refine qb ?_ ?_
 exact ql
 refine qb ?_ ?_
 exact ql
 refine qb ?_ ?_
 exact ql
 exact qj
 refine qb ?_ ?_
 refine zF ?_
 refine qb ?_ ?_
 exact ql
 refine qb ?_ ?_
 exact ql
 refine qb ?_ ?_
 exact ql
 exact qj
 refine qb ?_ ?_
 refine zF ?_
 refine qb ?_ ?_
 exact ql
 refine qb ?_ ?_
 exact ql
 refine qb ?_ ?_
 exact ql
 exact qj
 refine qb ?_ ?_
 refine zF ?_
 refine qb ?_ ?_
 exact ql
 refine qb ?_ ?_
 exact ql
 refine qb ?_ ?_
 exact ql
 exact qj
 refine qb ?_ ?_
 refine zF ?_
 refine qb ?_ ?_
 exact ql
 refine qb ?_ ?_
 exact ql
 refine qb ?_ ?_
 exact ql
 exact qj
 exact qj
 exact za 4 qi.fs.nd (qi.loc 4 rfl) (by decide)
 refine Ji (M':=[5,3]) [3] ?_ ?_ ?_
 refine qu (M1:=[5,3]) ?_ ?_
 refine Qf 5 ?_ ?_ ?_ ?_ ?_ ?_ ?_ ?_
 ·exact qi.fs.nd
 ·exact (qi.loc 5 rfl)
 ·rfl
 ·rfl
 ·exact .inl rfl
 ·decide
 ·decide
 refine jF ?_
 refine qb ?_ ?_
 refine zc ?_ ?_
 exact qd 4 (qi.vis 4 rfl) (by decide)
 refine qF zW ?_ ?_
 exact qd 2 (qi.vis 2 rfl) (by decide)
 exact ql
 refine qb ?_ ?_
 refine zc ?_ ?_
 exact qd 4 (qi.vis 4 rfl) (by decide)
 refine qF zW ?_ ?_
 refine qF zJ ?_ ?_
 exact qd 2 (qi.vis 2 rfl) (by decide)
 exact ql
 exact ql
 refine qb ?_ ?_
 refine zc ?_ ?_
 exact qd 4 (qi.vis 4 rfl) (by decide)
 refine qF zW ?_ ?_
 refine qF zJ ?_ ?_
 exact qd 2 (qi.vis 2 rfl) (by decide)
 exact ql
 exact ql
 exact qj
 refine qu (M1:=[5,3]) ?_ ?_
 refine Ze K8 rfl ?_ ?_ ?_
 refine Qv (qi.gl 1 rfl rfl) z_range ?_
 refine qb ?_ ?_
 exact ql
 exact qj
 exact za 6 qi.fs.nd (qi.loc 6 rfl) (by decide)
 refine qx ?_
 refine qar 5 (qi.vis 5 rfl) (by decide) (by decide) ?_ ?_
 exact qd 6 (qi.vis 6 rfl) (by decide)
 refine qF zJ ?_ ?_
 refine zc ?_ ?_
 exact qd 1 (qi.vis 1 rfl) (by decide)
 exact qd 6 (qi.vis 6 rfl) (by decide)
 refine qF jZ ?_ ?_
 refine zc ?_ ?_
 exact qd 5 (qi.vis 5 rfl) (by decide)
 exact qd 6 (qi.vis 6 rfl) (by decide)
 refine qF j5 ?_ ?_
 exact ql
 refine qF jZ ?_ ?_
 exact ql
 refine qF zW ?_ ?_
 refine qF Qk ?_ ?_
 exact qd 2 (qi.vis 2 rfl) (by decide)
 refine zc ?_ ?_
 refine zF ?_
 refine qb ?_ ?_
 exact ql
 refine qb ?_ ?_
 exact ql
 refine qb ?_ ?_
 exact ql
 exact qj
 exact qd 6 (qi.vis 6 rfl) (by decide)
 exact ql
 refine qx ?_
 refine qap 3 (qi.vis 3 rfl) (by decide) (by decide) ?_
 refine QK jX (qi.gl 0 rfl rfl) z_tuple rfl ?_
 refine qb ?_ ?_
 exact qd 5 (qi.vis 5 rfl) (by decide)
 exact qj
 ·rfl
 ·rfl
 exact qU
 refine qu (M1:=[3]) ?_ ?_
 refine Qq K8 rfl ?_ (fun _=>?_) (fun _=>?_)
 refine zZ ?_
 exact qd 0 (qi.vis 0 rfl) (by decide)
 exact za 7 qi.fs.nd (qi.loc 7 rfl) (by decide)
 refine Ji (M':=[8,3]) [3] ?_ ?_ ?_
 refine qu (M1:=[8,3]) ?_ ?_
 refine wB 8 ?_ ?_ ?_ ?_ ?_ ?_ ?_ ?_
 ·exact qi.fs.nd
 ·exact (qi.loc 8 rfl)
 ·rfl
 ·rfl
 ·exact .inl rfl
 ·decide
 ·decide
 refine wD qd6 (qi.gl 3 rfl rfl) z_list rfl ?_
 refine qb ?_ ?_
 refine zc ?_ ?_
 exact qd 3 (qi.vis 3 rfl) (by decide)
 refine qF zW ?_ ?_
 exact qd 7 (qi.vis 7 rfl) (by decide)
 refine zp QV (qi.gl 2 rfl rfl) z_len Vu ?_
 refine qb ?_ ?_
 exact qd 3 (qi.vis 3 rfl) (by decide)
 exact qj
 exact qj
 refine qu (M1:=[8,3]) ?_ ?_
 refine qQ 9 ?_ ?_ ?_ ?_ ?_ ?_ ?_
 ·exact qi.fs.nd
 ·exact (qi.loc 9 rfl)
 ·rfl
 ·rfl
 ·exact .inl rfl
 ·decide
 refine qF zW ?_ ?_
 refine qF Qk ?_ ?_
 exact qd 7 (qi.vis 7 rfl) (by decide)
 exact ql
 exact ql
 refine qu (M1:=[8,3]) ?_ ?_
 refine qar 8 (qi.vis 8 rfl) (by decide) (by decide) ?_ ?_
 exact qd 9 (qi.vis 9 rfl) (by decide)
 refine qF j5 ?_ ?_
 refine qF zJ ?_ ?_
 refine zc ?_ ?_
 exact qd 8 (qi.vis 8 rfl) (by decide)
 exact qd 9 (qi.vis 9 rfl) (by decide)
 refine qF jZ ?_ ?_
 exact ql
 refine qF zW ?_ ?_
 refine qF Qk ?_ ?_
 exact qd 7 (qi.vis 7 rfl) (by decide)
 exact ql
 exact ql
 exact ql
 refine qx ?_
 refine zb ?_ ?_ ?_
 refine PDW.pdt ?_
 refine yp ?_ ?_
 refine qM (qdv hr) ?_ ?_ (qX _)
 refine zp QV (qi.gl 2 rfl rfl) z_len Vu ?_
 refine qb ?_ ?_
 exact qd 3 (qi.vis 3 rfl) (by decide)
 exact qj
 exact ql
 refine Jj ?_
 refine qM (j4 hr) ?_ ?_ rfl
 refine QK jX (qi.gl 0 rfl rfl) z_tuple rfl ?_
 refine qb ?_ ?_
 exact qd 8 (qi.vis 8 rfl) (by decide)
 exact qj
 exact qd 3 (qi.vis 3 rfl) (by decide)
 refine qx ?_
 refine qap 3 (qi.vis 3 rfl) (by decide) (by decide) ?_
 refine QK jX (qi.gl 0 rfl rfl) z_tuple rfl ?_
 refine qb ?_ ?_
 exact qd 8 (qi.vis 8 rfl) (by decide)
 exact qj
 exact qU
 ·rfl
 ·rfl
 refine qx ?_
 refine qO ?_
 refine Zb ?_
 refine Zg (Q9 hr) (qi.gl 4 rfl rfl) z_sorted zU ?_
 refine qb ?_ ?_
 exact qd 3 (qi.vis 3 rfl) (by decide)
 exact qj
abbrev Tq11:KY:=top 35
abbrev jP:List Str:=["_law_e", "_law_one", "_law_two"]
theorem qz:ScOk jP ["_law_e"] ["NoRow", "NoTurn", "TooMany", "NoSquare", "NoBend", "NoDrawing", "isinstance", "Crowded", "NoWay", "NoTree", "NoSheet", "NotClosed", "NoName", "NoSolid", "ValueError"] (qt Tq11):=scmk (by kernel_rfl)
def Jv:Rho->Option Out:=(seqO (sSet 1 (ev1 (vr 0) (isiN XS ["NoDrawing", "NoBend", "NoSquare", "TooMany", "NoTurn", "NoRow"]))) (seqO (sSet 2 (ev1 (vr 0) (isiN XS ["NoName", "NotClosed", "NoSheet", "NoTree", "NoWay", "Crowded"]))) (sRet (evA (aC (ev1 (vr 0) (isiN XS ["ValueError"])) (aC (ev1 (vr 0) (isiN XS ["NoSolid"])) (aC (vO (vr 1) (vr 2)) aN))) tupD))))
def QX (ds:List Ka):Option Ka:=ob (Jv (rho0 jP.length ds)) outD
theorem Wd (F:Fun K "_law_kinds" "_law_kinds" Tq11 f fd)(m:mg "_law_kinds" = some (.ref f))(b:Binds K fd ["_law_e"] [])(z_isinstance:mg "isinstance" = none)(z_ValueError:mg "ValueError" = none)(XT:XTab K mg XS):KnownM P w K mg base "_law_kinds" 1 1 QX:=by
 refine ⟨f,fd,["_law_e"],F.pureM (k:=0) (u:=Jv) (M':=[]) qz.fs rfl (fun cdv A outer s H E hr G=>?_),m,F.kp,b⟩
 refine qu (M1:=[]) ?_ ?_
 refine qQ 1 ?_ ?_ ?_ ?_ ?_ ?_ ?_
 ·exact qz.fs.nd
 ·exact (qz.loc 1 rfl)
 ·rfl
 ·rfl
 ·exact .inl rfl
 ·decide
 refine ym XT (qz.gl 6 rfl rfl) z_isinstance rfl ?_ (qb0 (zX XT (qz.gl 5 rfl rfl) (zX XT (qz.gl 4 rfl rfl) (zX XT (qz.gl 3 rfl rfl) (zX XT (qz.gl 2 rfl rfl) (zX XT (qz.gl 1 rfl rfl) (zX XT (qz.gl 0 rfl rfl) qao)))))))
 exact qd 0 (qz.vis 0 rfl) (by decide)
 refine qu (M1:=[]) ?_ ?_
 refine qQ 2 ?_ ?_ ?_ ?_ ?_ ?_ ?_
 ·exact qz.fs.nd
 ·exact (qz.loc 2 rfl)
 ·rfl
 ·rfl
 ·exact .inl rfl
 ·decide
 refine ym XT (qz.gl 6 rfl rfl) z_isinstance rfl ?_ (qb0 (zX XT (qz.gl 12 rfl rfl) (zX XT (qz.gl 11 rfl rfl) (zX XT (qz.gl 10 rfl rfl) (zX XT (qz.gl 9 rfl rfl) (zX XT (qz.gl 8 rfl rfl) (zX XT (qz.gl 7 rfl rfl) qao)))))))
 exact qd 0 (qz.vis 0 rfl) (by decide)
 refine qx ?_
 refine qO ?_
 refine zF ?_
 refine qb ?_ ?_
 refine ym XT (qz.gl 6 rfl rfl) z_isinstance rfl ?_ (qgc (T := "ValueError") (by decide) (qz.gl 14 rfl rfl) z_ValueError rfl)
 exact qd 0 (qz.vis 0 rfl) (by decide)
 refine qb ?_ ?_
 refine ym XT (qz.gl 6 rfl rfl) z_isinstance rfl ?_ (qgd XT (qz.gl 13 rfl rfl))
 exact qd 0 (qz.vis 0 rfl) (by decide)
 refine qb ?_ ?_
 refine pd_or ?_ ?_
 exact qd 1 (qz.vis 1 rfl) (by decide)
 refine JP ?_
 exact qd 2 (qz.vis 2 rfl) (by decide)
 exact qj
abbrev Tq16:KY:=top 36
abbrev yz:List Str:=["_law_cube", "_law_one", "_law_far_here", "_law_k"]
theorem q9:ScOk yz ["_law_cube", "_law_one"] ["abs", "range"] (qt Tq16):=scmk (by kernel_rfl)
def jK:Rho->Option Out:=(seqO (sSet 2 (kd (.int 0))) (seqO (sFor (evR (aC (kd (.int 3)) aN) Qp) (gNm 3) (sSet 2 (ev2 (vr 2) (evA (aC (ev2 (ev2 (vr 0) (vr 3) ixD) (ev2 (vr 1) (vr 3) ixD) subD) aN) absD) qR))) (sRet (vr 2))))
def zP (ds:List Ka):Option Ka:=ob (jK (rho0 yz.length ds)) outD
theorem qaU (F:Fun K "_law_far" "_law_far" Tq16 f fd)(m:mg "_law_far" = some (.ref f))(b:Binds K fd ["_law_cube", "_law_one"] [])(z_abs:mg "abs" = none)(z_range:mg "range" = none):Known P w K mg base "_law_far" 2 1 zP:=by
 refine ⟨f,fd,["_law_cube", "_law_one"],F.pure (k:=0) (u:=jK) (M':=[]) q9.fs rfl (fun cdv A outer s H E hr G=>?_),m,F.kp,b⟩
 refine qu (M1:=[]) ?_ ?_
 refine qQ 2 ?_ ?_ ?_ ?_ ?_ ?_ ?_
 ·exact q9.fs.nd
 ·exact (q9.loc 2 rfl)
 ·rfl
 ·rfl
 ·exact .inl rfl
 ·decide
 exact ql
 refine qu (M1:=[]) ?_ ?_
 refine Ze K8 rfl ?_ ?_ ?_
 refine Qv (q9.gl 1 rfl rfl) z_range ?_
 refine qb ?_ ?_
 exact ql
 exact qj
 exact za 3 q9.fs.nd (q9.loc 3 rfl) (by decide)
 refine qx ?_
 refine qQ 2 ?_ ?_ ?_ ?_ ?_ ?_ ?_
 ·exact q9.fs.nd
 ·exact (q9.loc 2 rfl)
 ·rfl
 ·rfl
 ·exact .inl rfl
 ·decide
 refine qF zJ ?_ ?_
 exact qd 2 (q9.vis 2 rfl) (by decide)
 refine zp b_abs (q9.gl 0 rfl rfl) z_abs qck ?_
 refine qb ?_ ?_
 refine qF j5 ?_ ?_
 refine zc ?_ ?_
 exact qd 0 (q9.vis 0 rfl) (by decide)
 exact qd 3 (q9.vis 3 rfl) (by decide)
 refine zc ?_ ?_
 exact qd 1 (q9.vis 1 rfl) (by decide)
 exact qd 3 (q9.vis 3 rfl) (by decide)
 exact qj
 refine qx ?_
 refine qO ?_
 exact qd 2 (q9.vis 2 rfl) (by decide)
abbrev Tq12:KY:=top 37
abbrev ZL:List Str:=["_law_cubes", "_law_rising", "_law_cube", "_law_lot", "_law_turn", "_law_apart"]
theorem qw:ScOk ZL ["_law_cubes"] ["len", "sorted", "min", "range"] (qt Tq12):=scmk (by kernel_rfl)
def Q3:Rho->Option Out:=(seqO (sIf (tO (tV (ev2 (evA (aC (vr 0) aN) lenD) (kd (.int 1)) ltD2)) (tV (ev2 (evA (aC (vr 0) aN) lenD) (kd (.int 6)) gtD))) (sRet (evA (aC (kd (.str "count")) (aC (evA (aC (vr 0) aN) lenD) aN)) tupD)) sN) (seqO (sSet 1 (evA (aC (vr 0) aN) zA)) (seqO (sFor (evI (vr 1) seqD) (gNm 2) (sIf (tV (ev2 (ev2 (vr 0) (vr 2) jy) (kd (.int 1)) gtD)) (sRet (evA (aC (kd (.str "twice")) (aC (vr 2) aN)) tupD)) sN)) (seqO (zg 3 (evSL (vr 1) oN (oS (kd (.int 1))))) (seqO (sFor (evR (aC (evA (aC (vr 1) aN) lenD) aN) Qp) (gNm 4) (sFor (evI (vr 1) seqD) (gNm 2) (seqO (zg 5 (QM (QF 6 (evI (vr 3) seqD) tT (evC 2 (aC (vr 2) (aC (vr 6) aN)) zP)))) (sIf (tA (tV (ev2 (vr 2) (vr 3) ninD)) (tV (ev2 (evA (aC (vr 5) aN) Jf) (kd (.int 1)) eqD))) (sApp 3 (vr 2)) sN)))) (seqO (sFor (evI (vr 1) seqD) (gNm 2) (sIf (tV (ev2 (vr 2) (vr 3) ninD)) (sRet (evA (aC (kd (.str "apart")) (aC (vr 2) aN)) tupD)) sN)) (sRet (kd .none))))))))
def zB (ds:List Ka):Option Ka:=ob (Q3 (rho0 ZL.length ds)) outD
theorem Wc (F:Fun K "_law_fault" "_law_fault" Tq12 f fd)(m:mg "_law_fault" = some (.ref f))(b:Binds K fd ["_law_cubes"] [])(K__law_far:Known P w K mg base "_law_far" 2 1 zP)(z_len:mg "len" = none)(z_sorted:mg "sorted" = none)(z_min:mg "min" = none)(z_range:mg "range" = none):Known P w K mg base "_law_fault" 1 2 zB:=by
 refine ⟨f,fd,["_law_cubes"],F.pure (k:=1) (u:=Q3) (M':=[]) qw.fs rfl (fun cdv A outer s H E hr G=>?_),m,F.kp,b⟩
 refine qu (M1:=[]) ?_ ?_
 refine zb ?_ ?_ ?_
 refine PDW.pdt ?_
 refine Yj ?_ ?_
 refine qM (qdv hr) ?_ ?_ (qX _)
 refine zp QV (qw.gl 0 rfl rfl) z_len Vu ?_
 refine qb ?_ ?_
 exact qd 0 (qw.vis 0 rfl) (by decide)
 exact qj
 exact ql
 refine Wu ?_
 refine qM d_gt ?_ ?_ (qX _)
 refine zp QV (qw.gl 0 rfl rfl) z_len Vu ?_
 refine qb ?_ ?_
 exact qd 0 (qw.vis 0 rfl) (by decide)
 exact qj
 exact ql
 refine qx ?_
 refine qO ?_
 refine zF ?_
 refine qb ?_ ?_
 exact jc
 refine qb ?_ ?_
 refine zp QV (qw.gl 0 rfl rfl) z_len Vu ?_
 refine qb ?_ ?_
 exact qd 0 (qw.vis 0 rfl) (by decide)
 exact qj
 exact qj
 exact qU
 refine qu (M1:=[]) ?_ ?_
 refine qQ 1 ?_ ?_ ?_ ?_ ?_ ?_ ?_
 ·exact qw.fs.nd
 ·exact (qw.loc 1 rfl)
 ·rfl
 ·rfl
 ·exact .inl rfl
 ·decide
 refine Zb ?_
 refine Zg (Q9 hr) (qw.gl 1 rfl rfl) z_sorted zU ?_
 refine qb ?_ ?_
 exact qd 0 (qw.vis 0 rfl) (by decide)
 exact qj
 refine qu (M1:=[]) ?_ ?_
 refine Qq K8 rfl ?_ (fun _=>?_) (fun _=>?_)
 refine zZ ?_
 exact qd 1 (qw.vis 1 rfl) (by decide)
 exact za 2 qw.fs.nd (qw.loc 2 rfl) (by decide)
 refine qx ?_
 refine zb ?_ ?_ ?_
 refine qM d_gt ?_ ?_ (qX _)
 refine qec hr ?_ ?_
 exact qd 0 (qw.vis 0 rfl) (by decide)
 exact qd 2 (qw.vis 2 rfl) (by decide)
 exact ql
 refine qx ?_
 refine qO ?_
 refine zF ?_
 refine qb ?_ ?_
 exact jc
 refine qb ?_ ?_
 exact qd 2 (qw.vis 2 rfl) (by decide)
 exact qj
 exact qU
 refine qu (M1:=[3]) ?_ ?_
 refine Qf 3 ?_ ?_ ?_ ?_ ?_ ?_ ?_ ?_
 ·exact qw.fs.nd
 ·exact (qw.loc 3 rfl)
 ·rfl
 ·rfl
 ·exact .inl rfl
 ·decide
 ·decide
 refine qep ?_ ?_ ?_
 exact qd 1 (qw.vis 1 rfl) (by decide)
 exact Zd
 refine Qz ?_
 exact ql
 refine qu (M1:=[3]) ?_ ?_
 refine Ze K8 rfl ?_ ?_ ?_
 refine Qv (qw.gl 3 rfl rfl) z_range ?_
 refine qb ?_ ?_
 refine zp QV (qw.gl 0 rfl rfl) z_len Vu ?_
 refine qb ?_ ?_
 exact qd 1 (qw.vis 1 rfl) (by decide)
 exact qj
 exact qj
 exact za 4 qw.fs.nd (qw.loc 4 rfl) (by decide)
 refine qx ?_
 refine Qq K8 rfl ?_ (fun _=>?_) (fun _=>?_)
 refine zZ ?_
 exact qd 1 (qw.vis 1 rfl) (by decide)
 exact za 2 qw.fs.nd (qw.loc 2 rfl) (by decide)
 refine Ji (M':=[5,3]) [3] ?_ ?_ ?_
 refine qu (M1:=[5,3]) ?_ ?_
 refine qcP 5 (CompOk.of (k:=1) ZL ["_law_cubes", "_law_rising", "_law_cube", "_law_lot", "_law_turn", "_law_apart", "_law_one"] (qt Tq12) rfl rfl rfl (by decide +kernel)) rfl (by decide +kernel) (qt Tq12) rfl (by decide +kernel) (by decide) (by decide) ?_ (fun _ _ _ _ _ _=>?_) (fun _ _ _ _ _ _=>?_)
 refine zZ ?_
 exact qd 3 (qw.vis 3 rfl) (by decide)
 exact jd
 refine qK K__law_far hr (by decide) (Wa (by decide +kernel)) ?_ rfl
 refine qb ?_ ?_
 exact qd 2 (QC (by decide +kernel)) (by decide)
 refine qb ?_ ?_
 exact qd 6 (QC (by decide +kernel)) (by decide)
 exact qj
 refine qx ?_
 refine zb ?_ ?_ ?_
 refine PDW.pdt ?_
 refine yp ?_ ?_
 refine qM (j4 hr) ?_ ?_ rfl
 exact qd 2 (qw.vis 2 rfl) (by decide)
 exact qd 3 (qw.vis 3 rfl) (by decide)
 refine Jj ?_
 refine qM (d_eq hr) ?_ ?_ (qX _)
 refine zp (qg9 hr) (qw.gl 2 rfl rfl) z_min qcl ?_
 refine qb ?_ ?_
 exact qd 5 (qw.vis 5 rfl) (by decide)
 exact qj
 exact ql
 refine qx ?_
 refine jk 3 (qw.vis 3 rfl) (by decide) (by decide) ?_
 exact qd 2 (qw.vis 2 rfl) (by decide)
 exact qU
 ·rfl
 ·rfl
 refine qu (M1:=[3]) ?_ ?_
 refine Qq K8 rfl ?_ (fun _=>?_) (fun _=>?_)
 refine zZ ?_
 exact qd 1 (qw.vis 1 rfl) (by decide)
 exact za 2 qw.fs.nd (qw.loc 2 rfl) (by decide)
 refine qx ?_
 refine zb ?_ ?_ ?_
 refine qM (j4 hr) ?_ ?_ rfl
 exact qd 2 (qw.vis 2 rfl) (by decide)
 exact qd 3 (qw.vis 3 rfl) (by decide)
 refine qx ?_
 refine qO ?_
 refine zF ?_
 refine qb ?_ ?_
 exact jc
 refine qb ?_ ?_
 exact qd 2 (qw.vis 2 rfl) (by decide)
 exact qj
 exact qU
 refine qx ?_
 refine qO ?_
 exact QR
abbrev Tq5:KY:=top 40
abbrev jn:List Str:=["_law_cubes", "_law_cells", "_law_base_here", "_law_made", "_law_cell", "_law_way", "_law_at", "_law_far_here", "_law_k"]
theorem qg:ScOk jn ["_law_cubes", "_law_cells", "_law_base_here"] ["list", "len", "tuple", "range"] (qt Tq5):=scmk (by kernel_rfl)
def Zy:Rho->Option Out:=(seqO (zg 3 (evA (aC (vr 0) aN) Z2)) (seqO (sFor (evI (vr 1) seqD) (gNm 4) (seqO (sSet 5 (ev2 (vr 4) (kd (.int 4)) modD)) (seqO (sSet 6 (Qo (ev2 (ev2 (vr 4) (kd (.int 4)) qY) (ev2 (evA (aC (vr 3) aN) lenD) (kd (.int 1)) qR) modD))) (seqO (sIf (tA (tV (ev2 (vr 5) (kd (.int 1)) eqD)) (tV (ev2 (evA (aC (vr 3) aN) lenD) (kd (.int 0)) gtD))) (zg 3 (ev2 (ev2 (evS (vr 3) oN (oS (vr 6))) (evA (aC (ev2 (vr 3) (ev2 (ev2 (vr 4) (kd (.int 28)) qY) (evA (aC (vr 3) aN) lenD) modD) ixD) aN) lstD) qR) (evS (vr 3) (oS (vr 6)) oN) catL)) sN) (seqO (sIf (tV (ev2 (vr 5) (kd (.int 2)) eqD)) (seqO (sSet 7 (evA (aC (ev2 (ev2 (ev2 (vr 2) (kd (.int 0)) ixD) (ev2 (ev2 (vr 4) (kd (.int 28)) qY) (kd (.int 9)) modD) qR) (kd (.int 4)) subD) (aC (ev2 (ev2 (ev2 (vr 2) (kd (.int 1)) ixD) (ev2 (ev2 (vr 4) (kd (.int 252)) qY) (kd (.int 9)) modD) qR) (kd (.int 4)) subD) (aC (ev2 (ev2 (ev2 (vr 2) (kd (.int 2)) ixD) (ev2 (ev2 (vr 4) (kd (.int 2268)) qY) (kd (.int 9)) modD) qR) (kd (.int 4)) subD) aN))) lstD)) (zg 3 (ev2 (ev2 (evS (vr 3) oN (oS (vr 6))) (evA (aC (evA (aC (vr 7) aN) zR) aN) lstD) qR) (evS (vr 3) (oS (vr 6)) oN) catL))) sN) (sIf (tA (tV (ev2 (vr 5) (kd (.int 3)) eqD)) (tV (ev2 (ev2 (ev2 (vr 4) (kd (.int 4)) qY) (kd (.int 3)) modD) (kd (.int 0)) eqD))) (sFor (evR (aC (ev2 (kd (.int 1)) (ev2 (ev2 (vr 4) (kd (.int 28)) qY) (kd (.int 54)) modD) qR) aN) Qp) (gNm 8) (sApp 3 (evA (aC (ev2 (ev2 (vr 2) (kd (.int 0)) ixD) (ev2 (vr 8) (kd (.int 7)) qY) qR) (aC (ev2 (ev2 (vr 2) (kd (.int 1)) ixD) (ev2 (vr 8) (kd (.int 7)) modD) qR) (aC (ev2 (ev2 (vr 2) (kd (.int 2)) ixD) (kd (.int 2)) subD) aN))) tupD))) sN)))))) (sRet (evS (vr 3) oN (oS (kd (.int 60)))))))
def Qn (ds:List Ka):Option Ka:=ob (Zy (rho0 jn.length ds)) outD
theorem YB (F:Fun K "_law_spoilt" "_law_spoilt" Tq5 f fd)(m:mg "_law_spoilt" = some (.ref f))(b:Binds K fd ["_law_cubes", "_law_cells", "_law_base_here"] [])(z_list:mg "list" = none)(z_len:mg "len" = none)(z_tuple:mg "tuple" = none)(z_range:mg "range" = none):Known P w K mg base "_law_spoilt" 3 1 Qn:=by
 refine ⟨f,fd,["_law_cubes", "_law_cells", "_law_base_here"],F.pure (k:=0) (u:=Zy) (M':=[]) qg.fs rfl (fun cdv A outer s H E hr G=>?_),m,F.kp,b⟩
 refine qu (M1:=[3]) ?_ ?_
 refine Qf 3 ?_ ?_ ?_ ?_ ?_ ?_ ?_ ?_
 ·exact qg.fs.nd
 ·exact (qg.loc 3 rfl)
 ·rfl
 ·rfl
 ·exact .inl rfl
 ·decide
 ·decide
 refine wD qd6 (qg.gl 0 rfl rfl) z_list rfl ?_
 refine qb ?_ ?_
 exact qd 0 (qg.vis 0 rfl) (by decide)
 exact qj
 refine qu (M1:=[3]) ?_ ?_
 refine Qq K8 rfl ?_ (fun _=>?_) (fun _=>?_)
 refine zZ ?_
 exact qd 1 (qg.vis 1 rfl) (by decide)
 exact za 4 qg.fs.nd (qg.loc 4 rfl) (by decide)
 refine qu (M1:=[3]) ?_ ?_
 refine qQ 5 ?_ ?_ ?_ ?_ ?_ ?_ ?_
 ·exact qg.fs.nd
 ·exact (qg.loc 5 rfl)
 ·rfl
 ·rfl
 ·exact .inl rfl
 ·decide
 refine qF zW ?_ ?_
 exact qd 4 (qg.vis 4 rfl) (by decide)
 exact ql
 refine qu (M1:=[3]) ?_ ?_
 refine qej 6 ?_ ?_ ?_ ?_ ?_ ?_ ?_
 ·exact qg.fs.nd
 ·exact (qg.loc 6 rfl)
 ·rfl
 ·rfl
 ·exact .inl rfl
 ·decide
 refine qF zW ?_ ?_
 refine qF Qk ?_ ?_
 exact qd 4 (qg.vis 4 rfl) (by decide)
 exact ql
 refine qF zJ ?_ ?_
 refine zp QV (qg.gl 1 rfl rfl) z_len Vu ?_
 refine qb ?_ ?_
 exact qd 3 (qg.vis 3 rfl) (by decide)
 exact qj
 exact ql
 refine qu (M1:=[3]) ?_ ?_
 refine zb ?_ ?_ ?_
 refine PDW.pdt ?_
 refine yp ?_ ?_
 refine qM (d_eq hr) ?_ ?_ (qX _)
 exact qd 5 (qg.vis 5 rfl) (by decide)
 exact ql
 refine Jj ?_
 refine qM d_gt ?_ ?_ (qX _)
 refine zp QV (qg.gl 1 rfl rfl) z_len Vu ?_
 refine qb ?_ ?_
 exact qd 3 (qg.vis 3 rfl) (by decide)
 exact qj
 exact ql
 refine qx ?_
 refine jl [] ?_ ?_ ?_
 ·rfl
 ·rfl
 refine Qf 3 ?_ ?_ ?_ ?_ ?_ ?_ ?_ ?_
 ·exact qg.fs.nd
 ·exact (qg.loc 3 rfl)
 ·rfl
 ·rfl
 ·exact .inl rfl
 ·decide
 ·decide
 refine qb4 ?_ ?_
 refine qF zJ ?_ ?_
 refine Zc ?_ ?_ ?_
 exact qd 3 (qg.vis 3 rfl) (by decide)
 exact Zd
 refine Qz ?_
 exact qd 6 (qg.vis 6 rfl) (by decide)
 refine JN ?_
 refine qb ?_ ?_
 refine zc ?_ ?_
 exact qd 3 (qg.vis 3 rfl) (by decide)
 refine qF zW ?_ ?_
 refine qF Qk ?_ ?_
 exact qd 4 (qg.vis 4 rfl) (by decide)
 exact ql
 refine zp QV (qg.gl 1 rfl rfl) z_len Vu ?_
 refine qb ?_ ?_
 exact qd 3 (qg.vis 3 rfl) (by decide)
 exact qj
 exact qj
 refine Zc ?_ ?_ ?_
 exact qd 3 (qg.vis 3 rfl) (by decide)
 refine Qz ?_
 exact qd 6 (qg.vis 6 rfl) (by decide)
 exact Zd
 exact qU
 refine qu (M1:=[3]) ?_ ?_
 refine zb ?_ ?_ ?_
 refine qM (d_eq hr) ?_ ?_ (qX _)
 exact qd 5 (qg.vis 5 rfl) (by decide)
 exact ql
 refine qu (M1:=[3]) ?_ ?_
 refine qQ 7 ?_ ?_ ?_ ?_ ?_ ?_ ?_
 ·exact qg.fs.nd
 ·exact (qg.loc 7 rfl)
 ·rfl
 ·rfl
 ·exact .inl rfl
 ·decide
 refine JN ?_
 refine qb ?_ ?_
 refine qF j5 ?_ ?_
 refine qF zJ ?_ ?_
 refine zc ?_ ?_
 exact qd 2 (qg.vis 2 rfl) (by decide)
 exact ql
 refine qF zW ?_ ?_
 refine qF Qk ?_ ?_
 exact qd 4 (qg.vis 4 rfl) (by decide)
 exact ql
 exact ql
 exact ql
 refine qb ?_ ?_
 refine qF j5 ?_ ?_
 refine qF zJ ?_ ?_
 refine zc ?_ ?_
 exact qd 2 (qg.vis 2 rfl) (by decide)
 exact ql
 refine qF zW ?_ ?_
 refine qF Qk ?_ ?_
 exact qd 4 (qg.vis 4 rfl) (by decide)
 exact ql
 exact ql
 exact ql
 refine qb ?_ ?_
 refine qF j5 ?_ ?_
 refine qF zJ ?_ ?_
 refine zc ?_ ?_
 exact qd 2 (qg.vis 2 rfl) (by decide)
 exact ql
 refine qF zW ?_ ?_
 refine qF Qk ?_ ?_
 exact qd 4 (qg.vis 4 rfl) (by decide)
 exact ql
 exact ql
 exact ql
 exact qj
 refine qx ?_
 refine jl [] ?_ ?_ ?_
 ·rfl
 ·rfl
 refine Qf 3 ?_ ?_ ?_ ?_ ?_ ?_ ?_ ?_
 ·exact qg.fs.nd
 ·exact (qg.loc 3 rfl)
 ·rfl
 ·rfl
 ·exact .inl rfl
 ·decide
 ·decide
 refine qb4 ?_ ?_
 refine qF zJ ?_ ?_
 refine Zc ?_ ?_ ?_
 exact qd 3 (qg.vis 3 rfl) (by decide)
 exact Zd
 refine Qz ?_
 exact qd 6 (qg.vis 6 rfl) (by decide)
 refine JN ?_
 refine qb ?_ ?_
 refine QK jX (qg.gl 2 rfl rfl) z_tuple rfl ?_
 refine qb ?_ ?_
 exact qd 7 (qg.vis 7 rfl) (by decide)
 exact qj
 exact qj
 refine Zc ?_ ?_ ?_
 exact qd 3 (qg.vis 3 rfl) (by decide)
 refine Qz ?_
 exact qd 6 (qg.vis 6 rfl) (by decide)
 exact Zd
 exact qU
 refine qx ?_
 refine zb ?_ ?_ ?_
 refine PDW.pdt ?_
 refine yp ?_ ?_
 refine qM (d_eq hr) ?_ ?_ (qX _)
 exact qd 5 (qg.vis 5 rfl) (by decide)
 exact ql
 refine Jj ?_
 refine qM (d_eq hr) ?_ ?_ (qX _)
 refine qF zW ?_ ?_
 refine qF Qk ?_ ?_
 exact qd 4 (qg.vis 4 rfl) (by decide)
 exact ql
 exact ql
 exact ql
 refine qx ?_
 refine Ze K8 rfl ?_ ?_ ?_
 refine Qv (qg.gl 3 rfl rfl) z_range ?_
 refine qb ?_ ?_
 refine qF zJ ?_ ?_
 exact ql
 refine qF zW ?_ ?_
 refine qF Qk ?_ ?_
 exact qd 4 (qg.vis 4 rfl) (by decide)
 exact ql
 exact ql
 exact qj
 exact za 8 qg.fs.nd (qg.loc 8 rfl) (by decide)
 refine qx ?_
 refine jk 3 (qg.vis 3 rfl) (by decide) (by decide) ?_
 refine zF ?_
 refine qb ?_ ?_
 refine qF zJ ?_ ?_
 refine zc ?_ ?_
 exact qd 2 (qg.vis 2 rfl) (by decide)
 exact ql
 refine qF Qk ?_ ?_
 exact qd 8 (qg.vis 8 rfl) (by decide)
 exact ql
 refine qb ?_ ?_
 refine qF zJ ?_ ?_
 refine zc ?_ ?_
 exact qd 2 (qg.vis 2 rfl) (by decide)
 exact ql
 refine qF zW ?_ ?_
 exact qd 8 (qg.vis 8 rfl) (by decide)
 exact ql
 refine qb ?_ ?_
 refine qF j5 ?_ ?_
 refine zc ?_ ?_
 exact qd 2 (qg.vis 2 rfl) (by decide)
 exact ql
 exact ql
 exact qj
 exact qU
 refine qx ?_
 refine qO ?_
 refine Zc ?_ ?_ ?_
 exact qd 3 (qg.vis 3 rfl) (by decide)
 exact Zd
 refine Qz ?_
 exact ql
abbrev Tq17:KY:=top 26
abbrev jt:List Str:=["cubes", "count", "twice", "ordered", "apart"]
theorem qp:ScOk jt ["cubes"] ["len", "MOST_CUBES", "least_twice", "sorted", "side_pairs", "least_apart", "NoSolid"] (qt Tq17):=scmk (by kernel_rfl)
def jM:Rho->Option Out:=(seqO (sSet 1 (evA (aC (vr 0) aN) lenD)) (seqO (sIf (tN (tV (evCh (kd (.int 1)) (vr 1) (kd zV) leD leD))) sNo sN) (seqO (sSet 2 (evC 1 (aC (vr 0) aN) zf)) (seqO (sIf (tV (ev2 (vr 2) (kd .none) isnD)) sNo sN) (seqO (sSet 3 (evA (aC (vr 0) aN) zA)) (seqO (sSet 4 (evC 2 (aC (vr 1) (aC (evC 1 (aC (vr 3) aN) zu) aN)) q8)) (seqO (sIf (tV (ev2 (vr 4) (kd .none) isnD)) sNo sN) (sRet (vr 3)))))))))
def Qu (ds:List Ka):Option Ka:=ob (jM (rho0 jt.length ds)) outD
theorem qaW (F:Fun K "solid_of" "solid_of" Tq17 f fd)(m:mg "solid_of" = some (.ref f))(b:Binds K fd ["cubes"] [])(K_least_twice:Known P w K mg base "least_twice" 1 1 zf)(K_least_apart:Known P w K mg base "least_apart" 2 2 q8)(K_side_pairs:Known P w K mg base "side_pairs" 1 2 zu)(z_len:mg "len" = none)(z_sorted:mg "sorted" = none)(C_MOST_CUBES:Jx K mg "MOST_CUBES" zV)(I_NoSolid:KnownI P w K mg base "NoSolid" "why" 1):Known P w K mg base "solid_of" 1 3 Qu:=by
 refine ⟨f,fd,["cubes"],F.pure (k:=2) (u:=jM) (M':=[]) qp.fs rfl (fun cdv A outer s H E hr G=>?_),m,F.kp,b⟩
 refine qu (M1:=[]) ?_ ?_
 refine qQ 1 ?_ ?_ ?_ ?_ ?_ ?_ ?_
 ·exact qp.fs.nd
 ·exact (qp.loc 1 rfl)
 ·rfl
 ·rfl
 ·exact .inl rfl
 ·decide
 refine zp QV (qp.gl 0 rfl rfl) z_len Vu ?_
 refine qb ?_ ?_
 exact qd 0 (qp.vis 0 rfl) (by decide)
 exact qj
 refine qu (M1:=[]) ?_ ?_
 refine zb ?_ ?_ ?_
 refine ZR ?_
 refine JQ d_le d_le ?_ ?_ ?_
 exact ql
 exact qd 1 (qp.vis 1 rfl) (by decide)
 exact Jh C_MOST_CUBES (qp.gl 1 rfl rfl)
 refine qx ?_
 exact Q5
 exact qU
 refine qu (M1:=[]) ?_ ?_
 refine qQ 2 ?_ ?_ ?_ ?_ ?_ ?_ ?_
 ·exact qp.fs.nd
 ·exact (qp.loc 2 rfl)
 ·rfl
 ·rfl
 ·exact .inl rfl
 ·decide
 refine qK K_least_twice hr (by decide) (qp.gl 2 rfl rfl) ?_ rfl
 refine qb ?_ ?_
 exact qd 0 (qp.vis 0 rfl) (by decide)
 exact qj
 refine qu (M1:=[]) ?_ ?_
 refine zb ?_ ?_ ?_
 refine qM yJ ?_ ?_ (qX _)
 exact qd 2 (qp.vis 2 rfl) (by decide)
 exact QR
 refine qx ?_
 exact Q5
 exact qU
 refine qu (M1:=[]) ?_ ?_
 refine qQ 3 ?_ ?_ ?_ ?_ ?_ ?_ ?_
 ·exact qp.fs.nd
 ·exact (qp.loc 3 rfl)
 ·rfl
 ·rfl
 ·exact .inl rfl
 ·decide
 refine Zb ?_
 refine Zg (Q9 hr) (qp.gl 3 rfl rfl) z_sorted zU ?_
 refine qb ?_ ?_
 exact qd 0 (qp.vis 0 rfl) (by decide)
 exact qj
 refine qu (M1:=[]) ?_ ?_
 refine qQ 4 ?_ ?_ ?_ ?_ ?_ ?_ ?_
 ·exact qp.fs.nd
 ·exact (qp.loc 4 rfl)
 ·rfl
 ·rfl
 ·exact .inl rfl
 ·decide
 refine qK K_least_apart hr (by decide) (qp.gl 5 rfl rfl) ?_ rfl
 refine qb ?_ ?_
 exact qd 1 (qp.vis 1 rfl) (by decide)
 refine qb ?_ ?_
 refine qK K_side_pairs hr (by decide) (qp.gl 4 rfl rfl) ?_ rfl
 refine qb ?_ ?_
 exact qd 3 (qp.vis 3 rfl) (by decide)
 exact qj
 exact qj
 refine qu (M1:=[]) ?_ ?_
 refine zb ?_ ?_ ?_
 refine qM yJ ?_ ?_ (qX _)
 exact qd 4 (qp.vis 4 rfl) (by decide)
 exact QR
 refine qx ?_
 exact Q5
 exact qU
 refine qx ?_
 refine qO ?_
 exact qd 3 (qp.vis 3 rfl) (by decide)
def zG:Rho->Option (Ka×Rho):=(xSeq (sSet 1 (evA (aC (vr 0) aN) lenD)) xNo (xSeq (sIf (tN (tV (evCh (kd (.int 1)) (vr 1) (kd zV) leD leD))) sNo sN) (xIf (tN (tV (evCh (kd (.int 1)) (vr 1) (kd zV) leD leD))) (Z0 "NoSolid" "why" (evA (aC (kd (.str "count")) (aC (vr 1) aN)) tupD)) xNo) (xSeq (sSet 2 (evC 1 (aC (vr 0) aN) zf)) xNo (xSeq (sIf (tV (ev2 (vr 2) (kd .none) isnD)) sNo sN) (xIf (tV (ev2 (vr 2) (kd .none) isnD)) (Z0 "NoSolid" "why" (evA (aC (kd (.str "twice")) (aC (vr 2) aN)) tupD)) xNo) (xSeq (sSet 3 (evA (aC (vr 0) aN) zA)) xNo (xSeq (sSet 4 (evC 2 (aC (vr 1) (aC (evC 1 (aC (vr 3) aN) zu) aN)) q8)) xNo (xSeq (sIf (tV (ev2 (vr 4) (kd .none) isnD)) sNo sN) (xIf (tV (ev2 (vr 4) (kd .none) isnD)) (Z0 "NoSolid" "why" (evA (aC (kd (.str "apart")) (aC (ev2 (vr 3) (vr 4) ixD) aN)) tupD)) xNo) xNo)))))))
def Qh (ds:List Ka):Option Ka:=xOut zG jt.length ds
theorem qa9 (F:Fun K "solid_of" "solid_of" Tq17 f fd)(m:mg "solid_of" = some (.ref f))(b:Binds K fd ["cubes"] [])(K_least_twice:Known P w K mg base "least_twice" 1 1 zf)(K_least_apart:Known P w K mg base "least_apart" 2 2 q8)(K_side_pairs:Known P w K mg base "side_pairs" 1 2 zu)(z_len:mg "len" = none)(z_sorted:mg "sorted" = none)(C_MOST_CUBES:Jx K mg "MOST_CUBES" zV)(I_NoSolid:KnownI P w K mg base "NoSolid" "why" 1):KnownR P w K mg base "solid_of" 1 3 Qh:=by
 refine ⟨f,fd,["cubes"],F.raises (k:=2) (wx:=zG) (Mx:=[]) qp.fs rfl (fun cdv A outer s H E hr G=>?_),m,F.kp,b⟩
 refine Zf (M1:=[]) (fr:=.pl) (Mb:=[]) ?_ ?_ ?_
 refine qQ 1 ?_ ?_ ?_ ?_ ?_ ?_ ?_
 ·exact qp.fs.nd
 ·exact (qp.loc 1 rfl)
 ·rfl
 ·rfl
 ·exact .inl rfl
 ·decide
 refine zp QV (qp.gl 0 rfl rfl) z_len Vu ?_
 refine qb ?_ ?_
 exact qd 0 (qp.vis 0 rfl) (by decide)
 exact qj
 exact Wv
 refine Zf (M1:=[]) (fr:=.pl) (Mb:=[]) ?_ ?_ ?_
 refine zb ?_ ?_ ?_
 refine ZR ?_
 refine JQ d_le d_le ?_ ?_ ?_
 exact ql
 exact qd 1 (qp.vis 1 rfl) (by decide)
 exact Jh C_MOST_CUBES (qp.gl 1 rfl rfl)
 refine qx ?_
 exact Q5
 exact qU
 refine qa7 ?_ ?_ ?_
 refine ZR ?_
 refine JQ d_le d_le ?_ ?_ ?_
 exact ql
 exact qd 1 (qp.vis 1 rfl) (by decide)
 exact Jh C_MOST_CUBES (qp.gl 1 rfl rfl)
 refine yq ?_
 refine jE I_NoSolid hr (by decide) (qp.gl 6 rfl rfl) (Wt ?_)
 refine zF ?_
 refine qb ?_ ?_
 exact jc
 refine qb ?_ ?_
 exact qd 1 (qp.vis 1 rfl) (by decide)
 exact qj
 exact yr
 refine Zf (M1:=[]) (fr:=.pl) (Mb:=[]) ?_ ?_ ?_
 refine qQ 2 ?_ ?_ ?_ ?_ ?_ ?_ ?_
 ·exact qp.fs.nd
 ·exact (qp.loc 2 rfl)
 ·rfl
 ·rfl
 ·exact .inl rfl
 ·decide
 refine qK K_least_twice hr (by decide) (qp.gl 2 rfl rfl) ?_ rfl
 refine qb ?_ ?_
 exact qd 0 (qp.vis 0 rfl) (by decide)
 exact qj
 exact Wv
 refine Zf (M1:=[]) (fr:=.pl) (Mb:=[]) ?_ ?_ ?_
 refine zb ?_ ?_ ?_
 refine qM yJ ?_ ?_ (qX _)
 exact qd 2 (qp.vis 2 rfl) (by decide)
 exact QR
 refine qx ?_
 exact Q5
 exact qU
 refine qa7 ?_ ?_ ?_
 refine qM yJ ?_ ?_ (qX _)
 exact qd 2 (qp.vis 2 rfl) (by decide)
 exact QR
 refine yq ?_
 refine jE I_NoSolid hr (by decide) (qp.gl 6 rfl rfl) (Wt ?_)
 refine zF ?_
 refine qb ?_ ?_
 exact jc
 refine qb ?_ ?_
 exact qd 2 (qp.vis 2 rfl) (by decide)
 exact qj
 exact yr
 refine Zf (M1:=[]) (fr:=.pl) (Mb:=[]) ?_ ?_ ?_
 refine qQ 3 ?_ ?_ ?_ ?_ ?_ ?_ ?_
 ·exact qp.fs.nd
 ·exact (qp.loc 3 rfl)
 ·rfl
 ·rfl
 ·exact .inl rfl
 ·decide
 refine Zb ?_
 refine Zg (Q9 hr) (qp.gl 3 rfl rfl) z_sorted zU ?_
 refine qb ?_ ?_
 exact qd 0 (qp.vis 0 rfl) (by decide)
 exact qj
 exact Wv
 refine Zf (M1:=[]) (fr:=.pl) (Mb:=[]) ?_ ?_ ?_
 refine qQ 4 ?_ ?_ ?_ ?_ ?_ ?_ ?_
 ·exact qp.fs.nd
 ·exact (qp.loc 4 rfl)
 ·rfl
 ·rfl
 ·exact .inl rfl
 ·decide
 refine qK K_least_apart hr (by decide) (qp.gl 5 rfl rfl) ?_ rfl
 refine qb ?_ ?_
 exact qd 1 (qp.vis 1 rfl) (by decide)
 refine qb ?_ ?_
 refine qK K_side_pairs hr (by decide) (qp.gl 4 rfl rfl) ?_ rfl
 refine qb ?_ ?_
 exact qd 3 (qp.vis 3 rfl) (by decide)
 exact qj
 exact qj
 exact Wv
 refine Zf (M1:=[]) (fr:=.pl) (Mb:=[]) ?_ ?_ ?_
 refine zb ?_ ?_ ?_
 refine qM yJ ?_ ?_ (qX _)
 exact qd 4 (qp.vis 4 rfl) (by decide)
 exact QR
 refine qx ?_
 exact Q5
 exact qU
 refine qa7 ?_ ?_ ?_
 refine qM yJ ?_ ?_ (qX _)
 exact qd 4 (qp.vis 4 rfl) (by decide)
 exact QR
 refine yq ?_
 refine jE I_NoSolid hr (by decide) (qp.gl 6 rfl rfl) (Wt ?_)
 refine zF ?_
 refine qb ?_ ?_
 exact jc
 refine qb ?_ ?_
 refine zc ?_ ?_
 exact qd 3 (qp.vis 3 rfl) (by decide)
 exact qd 4 (qp.vis 4 rfl) (by decide)
 exact qj
 exact yr
 exact yr
abbrev Tq2:KY:=top 38
abbrev Z4:List Str:=["_law_cubes", "_law_due", "_law_told", "_law_kinds_here", "_law_mine", "_law_e"]
theorem qm:ScOk Z4 ["_law_cubes", "_law_due"] ["list", "solid_of", "_law_kinds", "SheetError", "isinstance", "tuple", "len", "_law_whole", "_law_spots"] (qt Tq2):=scmk (by kernel_rfl)
theorem Je:(qt Tq2).names.lookup ("_law_e" : Str)=some NameKind.local:=by decide +kernel
def Qg:Rho->Option Out:=(seqO (sSet 2 (kd .none)) (seqO (sSet 3 (evA (aC (kd (.bool false)) (aC (kd (.bool false)) (aC (kd (.bool true)) aN))) tupD)) (seqO (sSet 4 (evA (aC (vr 0) aN) Z2)) (seqO (sTry (qg3 (evC 1 (aC (vr 4) aN) Qu)) (qaE 1 (aC (vr 4) aN) Qh) ["SheetError", "NoDrawing", "NoBend", "NoSquare", "TooMany", "NoTurn", "NoRow", "NoName", "NotClosed", "NoSheet", "NoSolid", "NoTree", "NoWay", "Crowded"] 5 (seqO (sSet 3 (evC 1 (aC (vr 5) aN) QX)) (sIf (tV (ev2 (vr 3) (evA (aC (kd (.bool true)) (aC (kd (.bool true)) (aC (kd (.bool false)) aN))) tupD) eqD)) (sSet 2 (ev1 (vr 5) (exFD XS "why"))) sN))) (seqO (sIf (tO (tV (ev2 (vr 3) (evA (aC (kd (.bool true)) (aC (kd (.bool true)) (aC (kd (.bool false)) aN))) tupD) neD)) (tO (tN (tV (ev1 (vr 2) (isiD "tuple")))) (tO (tV (ev2 (evA (aC (vr 2) aN) lenD) (kd (.int 2)) neD)) (tV (ev2 (vr 4) (vr 0) neD))))) (sRet (kd (.bool false))) sN) (seqO (sIf (tV (ev2 (ev2 (vr 1) (kd (.int 0)) ixD) (kd (.str "count")) eqD)) (sRet (vA (ev2 (vr 2) (vr 1) eqD) (evC 1 (aC (ev2 (vr 2) (kd (.int 1)) ixD) aN) zN))) sN) (sRet (vA (ev2 (vr 2) (vr 1) eqD) (evC 1 (aC (evA (aC (ev2 (vr 2) (kd (.int 1)) ixD) aN) lstD) aN) zr)))))))))
def Qa (ds:List Ka):Option Ka:=ob (Qg (rho0 Z4.length ds)) outD
theorem yW (F:Fun K "_law_refused" "_law_refused" Tq2 f fd)(m:mg "_law_refused" = some (.ref f))(b:Binds K fd ["_law_cubes", "_law_due"] [])(K_solid_of:Known P w K mg base "solid_of" 1 3 Qu)(K__law_kinds:KnownM P w K mg base "_law_kinds" 1 1 QX)(K__law_whole:Known P w K mg base "_law_whole" 1 1 zN)(K__law_spots:Known P w K mg base "_law_spots" 1 2 zr)(z_list:mg "list" = none)(z_isinstance:mg "isinstance" = none)(z_tuple:mg "tuple" = none)(z_len:mg "len" = none)(xf_why:xfB K XS "why" = true)(XT:XTab K mg XS)(R_solid_of:KnownR P w K mg base "solid_of" 1 3 Qh):Known P w K mg base "_law_refused" 2 4 Qa:=by
 refine ⟨f,fd,["_law_cubes", "_law_due"],F.pure (k:=3) (u:=Qg) (M':=[]) qm.fs rfl (fun cdv A outer s H E hr G=>?_),m,F.kp,b⟩
 refine qu (M1:=[]) ?_ ?_
 refine qQ 2 ?_ ?_ ?_ ?_ ?_ ?_ ?_
 ·exact qm.fs.nd
 ·exact (qm.loc 2 rfl)
 ·rfl
 ·rfl
 ·exact .inl rfl
 ·decide
 exact QR
 refine qu (M1:=[]) ?_ ?_
 refine qQ 3 ?_ ?_ ?_ ?_ ?_ ?_ ?_
 ·exact qm.fs.nd
 ·exact (qm.loc 3 rfl)
 ·rfl
 ·rfl
 ·exact .inl rfl
 ·decide
 refine zF ?_
 refine qb ?_ ?_
 exact Za
 refine qb ?_ ?_
 exact Za
 refine qb ?_ ?_
 exact Za
 exact qj
 refine qu (M1:=[]) ?_ ?_
 refine qQ 4 ?_ ?_ ?_ ?_ ?_ ?_ ?_
 ·exact qm.fs.nd
 ·exact (qm.loc 4 rfl)
 ·rfl
 ·rfl
 ·exact .inl rfl
 ·decide
 refine QK qdc (qm.gl 0 rfl rfl) z_list rfl ?_
 refine qb ?_ ?_
 exact qd 0 (qm.vis 0 rfl) (by decide)
 exact qj
 refine qu (M1:=[]) ?_ ?_
 refine qgk (Mx:=[]) (cs:=["SheetError", "NoDrawing", "NoBend", "NoSquare", "TooMany", "NoTurn", "NoRow", "NoName", "NotClosed", "NoSheet", "NoSolid", "NoTree", "NoWay", "Crowded"]) ?_ ?_ (fun _=>?_) qm.fs.nd Je (by decide) (by decide) (by decide) (qm.gl 3 rfl rfl) (XT.mg1 (by decide +kernel)) (XT.cat1 (by decide +kernel)) (XT.cs1 (by decide +kernel) (by decide +kernel)) rfl rfl rfl
 refine qx ?_
 refine qei ?_
 refine qK K_solid_of hr (by decide) (qm.gl 1 rfl rfl) ?_ rfl
 refine qb ?_ ?_
 exact qd 4 (qm.vis 4 rfl) (by decide)
 exact qj
 refine yq ?_
 refine qek R_solid_of hr (by decide) (qm.gl 1 rfl rfl) ?_
 refine qb ?_ ?_
 exact qd 4 (qm.vis 4 rfl) (by decide)
 exact qj
 refine qu (M1:=[]) ?_ ?_
 refine qQ 3 ?_ ?_ ?_ ?_ ?_ ?_ ?_
 ·exact qm.fs.nd
 ·exact (qm.loc 3 rfl)
 ·rfl
 ·rfl
 ·exact .inl rfl
 ·decide
 refine qcO K__law_kinds (hr.m _) (by decide) (qm.gl 2 rfl rfl) ?_ rfl
 refine qb ?_ ?_
 exact qd 5 (qm.vis 5 rfl) (by decide)
 exact qj
 refine qx ?_
 refine zb ?_ ?_ ?_
 refine qM (d_eqM (hr.m _)) ?_ ?_ (qX _)
 exact qd 3 (qm.vis 3 rfl) (by decide)
 refine zF ?_
 refine qb ?_ ?_
 exact Za
 refine qb ?_ ?_
 exact Za
 refine qb ?_ ?_
 exact Za
 exact qj
 refine qx ?_
 refine qQ 2 ?_ ?_ ?_ ?_ ?_ ?_ ?_
 ·exact qm.fs.nd
 ·exact (qm.loc 2 rfl)
 ·rfl
 ·rfl
 ·exact .inl rfl
 ·decide
 refine qb1 XT xf_why ?_
 exact qd 5 (qm.vis 5 rfl) (by decide)
 exact qU
 refine qu (M1:=[]) ?_ ?_
 refine zb ?_ ?_ ?_
 refine PDW.pdt ?_
 refine Yj ?_ ?_
 refine qM (d_ne hr) ?_ ?_ (qX _)
 exact qd 3 (qm.vis 3 rfl) (by decide)
 refine zF ?_
 refine qb ?_ ?_
 exact Za
 refine qb ?_ ?_
 exact Za
 refine qb ?_ ?_
 exact Za
 exact qj
 refine Yj ?_ ?_
 refine ZR ?_
 refine yo ?_
 refine Yh (T := "tuple") (kit_tuple _) (qm.gl 4 rfl rfl) z_isinstance (qm.gl 5 rfl rfl) z_tuple rfl rfl ?_
 exact qd 2 (qm.vis 2 rfl) (by decide)
 refine Yj ?_ ?_
 refine qM (d_ne hr) ?_ ?_ (qX _)
 refine zp QV (qm.gl 6 rfl rfl) z_len Vu ?_
 refine qb ?_ ?_
 exact qd 2 (qm.vis 2 rfl) (by decide)
 exact qj
 exact ql
 refine Wu ?_
 refine qM (d_ne hr) ?_ ?_ (qX _)
 exact qd 4 (qm.vis 4 rfl) (by decide)
 exact qd 0 (qm.vis 0 rfl) (by decide)
 refine qx ?_
 refine qO ?_
 exact Za
 exact qU
 refine qu (M1:=[]) ?_ ?_
 refine zb ?_ ?_ ?_
 refine qM (d_eq hr) ?_ ?_ (qX _)
 refine zc ?_ ?_
 exact qd 1 (qm.vis 1 rfl) (by decide)
 exact ql
 exact jc
 refine qx ?_
 refine qO ?_
 refine jD ?_ ?_
 refine Ws (d_eq hr) ?_ ?_ (qX _)
 exact qd 2 (qm.vis 2 rfl) (by decide)
 exact qd 1 (qm.vis 1 rfl) (by decide)
 refine JP ?_
 refine qK K__law_whole hr (by decide) (qm.gl 7 rfl rfl) ?_ rfl
 refine qb ?_ ?_
 refine zc ?_ ?_
 exact qd 2 (qm.vis 2 rfl) (by decide)
 exact ql
 exact qj
 exact qU
 refine qx ?_
 refine qO ?_
 refine jD ?_ ?_
 refine Ws (d_eq hr) ?_ ?_ (qX _)
 exact qd 2 (qm.vis 2 rfl) (by decide)
 exact qd 1 (qm.vis 1 rfl) (by decide)
 refine JP ?_
 refine qK K__law_spots hr (by decide) (qm.gl 8 rfl rfl) ?_ rfl
 refine qb ?_ ?_
 refine JN ?_
 refine qb ?_ ?_
 refine zc ?_ ?_
 exact qd 2 (qm.vis 2 rfl) (by decide)
 exact ql
 exact qj
 exact qj
abbrev Tq13:KY:=top 39
abbrev jR:List Str:=["_law_cubes", "_law_due", "_law_mine", "_law_found"]
theorem qG:ScOk jR ["_law_cubes"] ["_law_fault", "_law_refused", "list", "solid_of", "_law_spots", "sorted"] (qt Tq13):=scmk (by kernel_rfl)
def Q4:Rho->Option Out:=(seqO (sSet 1 (evC 1 (aC (vr 0) aN) zB)) (seqO (sIf (tV (ev2 (vr 1) (kd .none) isnD)) (sRet (evC 2 (aC (vr 0) (aC (vr 1) aN)) Qa)) sN) (seqO (sSet 2 (evA (aC (vr 0) aN) Z2)) (seqO (sSet 3 (evC 1 (aC (vr 2) aN) Qu)) (sRet (vA (evC 1 (aC (vr 3) aN) zr) (vA (ev2 (vr 3) (evA (aC (vr 0) aN) zA) eqD) (ev2 (vr 2) (vr 0) eqD))))))))
def zE (ds:List Ka):Option Ka:=ob (Q4 (rho0 jR.length ds)) outD
theorem Wf (F:Fun K "_law_right" "_law_right" Tq13 f fd)(m:mg "_law_right" = some (.ref f))(b:Binds K fd ["_law_cubes"] [])(K__law_fault:Known P w K mg base "_law_fault" 1 2 zB)(K__law_refused:Known P w K mg base "_law_refused" 2 4 Qa)(K_solid_of:Known P w K mg base "solid_of" 1 3 Qu)(K__law_spots:Known P w K mg base "_law_spots" 1 2 zr)(z_list:mg "list" = none)(z_sorted:mg "sorted" = none):Known P w K mg base "_law_right" 1 5 zE:=by
 refine ⟨f,fd,["_law_cubes"],F.pure (k:=4) (u:=Q4) (M':=[]) qG.fs rfl (fun cdv A outer s H E hr G=>?_),m,F.kp,b⟩
 refine qu (M1:=[]) ?_ ?_
 refine qQ 1 ?_ ?_ ?_ ?_ ?_ ?_ ?_
 ·exact qG.fs.nd
 ·exact (qG.loc 1 rfl)
 ·rfl
 ·rfl
 ·exact .inl rfl
 ·decide
 refine qK K__law_fault hr (by decide) (qG.gl 0 rfl rfl) ?_ rfl
 refine qb ?_ ?_
 exact qd 0 (qG.vis 0 rfl) (by decide)
 exact qj
 refine qu (M1:=[]) ?_ ?_
 refine zb ?_ ?_ ?_
 refine qM yJ ?_ ?_ (qX _)
 exact qd 1 (qG.vis 1 rfl) (by decide)
 exact QR
 refine qx ?_
 refine qO ?_
 refine qK K__law_refused hr (by decide) (qG.gl 1 rfl rfl) ?_ rfl
 refine qb ?_ ?_
 exact qd 0 (qG.vis 0 rfl) (by decide)
 refine qb ?_ ?_
 exact qd 1 (qG.vis 1 rfl) (by decide)
 exact qj
 exact qU
 refine qu (M1:=[]) ?_ ?_
 refine qQ 2 ?_ ?_ ?_ ?_ ?_ ?_ ?_
 ·exact qG.fs.nd
 ·exact (qG.loc 2 rfl)
 ·rfl
 ·rfl
 ·exact .inl rfl
 ·decide
 refine QK qdc (qG.gl 2 rfl rfl) z_list rfl ?_
 refine qb ?_ ?_
 exact qd 0 (qG.vis 0 rfl) (by decide)
 exact qj
 refine qu (M1:=[]) ?_ ?_
 refine qQ 3 ?_ ?_ ?_ ?_ ?_ ?_ ?_
 ·exact qG.fs.nd
 ·exact (qG.loc 3 rfl)
 ·rfl
 ·rfl
 ·exact .inl rfl
 ·decide
 refine qK K_solid_of hr (by decide) (qG.gl 3 rfl rfl) ?_ rfl
 refine qb ?_ ?_
 exact qd 2 (qG.vis 2 rfl) (by decide)
 exact qj
 refine qx ?_
 refine qO ?_
 refine jD ?_ ?_
 refine qK K__law_spots hr (by decide) (qG.gl 4 rfl rfl) ?_ rfl
 refine qb ?_ ?_
 exact qd 3 (qG.vis 3 rfl) (by decide)
 exact qj
 refine jD ?_ ?_
 refine Ws (d_eq hr) ?_ ?_ (qX _)
 exact qd 3 (qG.vis 3 rfl) (by decide)
 refine Zb ?_
 refine Zg (Q9 hr) (qG.gl 5 rfl rfl) z_sorted zU ?_
 refine qb ?_ ?_
 exact qd 0 (qG.vis 0 rfl) (by decide)
 exact qj
 refine JP ?_
 refine Ws (d_eq hr) ?_ ?_ (qX _)
 exact qd 2 (qG.vis 2 rfl) (by decide)
 exact qd 0 (qG.vis 0 rfl) (by decide)
abbrev Tq20:KY:=top 41
abbrev WR:List Str:=["_law_script", "_law_base_here", "_law_first", "_law_cubes", "_law_ranks", "_law_spoilt_here", "_law_why"]
theorem qW:ScOk WR ["_law_script"] ["_law_base", "_law_cell_at", "_law_solid", "len", "range", "sorted", "_law_spoilt", "NoSolid", "_law_right"] (qt Tq20):=scmk (by kernel_rfl)
def qaD:Rho->Option Out:=(seqO (sSet 1 (evC 1 (aC (QF 7 (evI (evA (aC (kd (.int 1)) (aC (kd (.int 2)) (aC (kd (.int 3)) aN))) tupD) seqD) tT (evC 2 (aC (vr 0) (aC (vr 7) aN)) zx)) aN) Qw)) (seqO (sSet 2 (evC 2 (aC (vr 0) (aC (kd (.int 0)) aN)) zx)) (seqO (sSet 3 (evC 3 (aC (evS (vr 0) (oS (kd (.int 6))) (oS (kd (.int 12)))) (aC (vr 1) (aC (ev2 (ev2 (ev2 (vr 2) (kd (.int 5)) modD) (kd (.int 4)) qY) (ev2 (ev2 (vr 2) (kd (.int 5)) qY) (kd (.int 24)) modD) mulD) aN))) zM)) (seqO (zg 4 (QF 7 (evR (aC (evA (aC (vr 3) aN) lenD) aN) Qp) tT (evA (aC (evC 2 (aC (vr 2) (aC (vr 7) aN)) zL) (aC (vr 7) aN)) tupD))) (seqO (zg 3 (QM (QF 7 (evI (evA (aC (vr 4) aN) zA) seqD) tT (ev2 (vr 3) (ev2 (vr 7) (kd (.int 1)) ixD) ixD)))) (seqO (sIf (tV (ev2 (ev2 (ev2 (vr 2) (kd (.int 120)) qY) (kd (.int 9)) modD) (kd (.int 4)) eqD)) (sSet 3 (evA aN lstD)) sN) (seqO (sSet 5 (evC 3 (aC (vr 3) (aC (evA (aC (evC 2 (aC (vr 0) (aC (kd (.int 4)) aN)) zx) (aC (evC 2 (aC (vr 0) (aC (kd (.int 5)) aN)) zx) aN)) lstD) (aC (vr 1) aN))) Qn)) (seqO (sSet 6 (evA (aC (kd (.str "count")) (aC (ev2 (vr 2) (kd (.int 100)) modD) aN)) tupD)) (seqO (sIf (tV (ev2 (ev1 (ev1 (vr 6) (mkI "NoSolid" "why")) (exFD XS "why")) (vr 6) neD)) (sRet (kd (.bool false))) sN) (sRet (vA (evC 1 (aC (vr 3) aN) zE) (vA (evC 1 (aC (vr 5) aN) zE) (evC 1 (aC (vr 3) aN) zE)))))))))))))
def qdC (ds:List Ka):Option Ka:=ob (qaD (rho0 WR.length ds)) outD
theorem qhK (F:Fun K "law" "law" Tq20 f fd)(K__law_base:Known P w K mg base "_law_base" 1 1 Qw)(K__law_cell_at:Known P w K mg base "_law_cell_at" 2 1 zx)(K__law_solid:Known P w K mg base "_law_solid" 3 1 zM)(K__law_mixed:Known P w K mg base "_law_mixed" 2 1 zL)(K__law_spoilt:Known P w K mg base "_law_spoilt" 3 1 Qn)(K__law_right:Known P w K mg base "_law_right" 1 5 zE)(z_range:mg "range" = none)(z_len:mg "len" = none)(z_sorted:mg "sorted" = none)(I_NoSolid:KnownI P w K mg base "NoSolid" "why" 1)(xf_why:xfB K XS "why" = true)(XT:XTab K mg XS):FnOk P w K mg base CX0 6 f fd ["_law_script"] (spF K 1 qdC):=by
 refine F.pure (k:=5) (u:=qaD) (M':=[]) qW.fs rfl (fun cdv A outer s H E hr G=>?_)
 refine qu (M1:=[]) ?_ ?_
 refine qQ 1 ?_ ?_ ?_ ?_ ?_ ?_ ?_
 ·exact qW.fs.nd
 ·exact (qW.loc 1 rfl)
 ·rfl
 ·rfl
 ·exact .inl rfl
 ·decide
 refine qK K__law_base hr (by decide) (qW.gl 0 rfl rfl) ?_ rfl
 refine qb ?_ ?_
 refine qgf (CompOk.of (k:=1) WR ["_law_script", "_law_base_here", "_law_first", "_law_cubes", "_law_ranks", "_law_spoilt_here", "_law_why", "_law_k"] (qt Tq20) rfl rfl rfl (by decide +kernel)) rfl (by decide +kernel) ?_ (fun _ _ _ _ _ _=>?_) (fun _ _ _ _ _ _=>?_)
 refine zZ ?_
 refine zF ?_
 refine qb ?_ ?_
 exact ql
 refine qb ?_ ?_
 exact ql
 refine qb ?_ ?_
 exact ql
 exact qj
 exact jd
 refine qK K__law_cell_at hr (by decide) (Wa (by decide +kernel)) ?_ rfl
 refine qb ?_ ?_
 exact qd 0 (QC (by decide +kernel)) (by decide)
 refine qb ?_ ?_
 exact qd 7 (QC (by decide +kernel)) (by decide)
 exact qj
 exact qj
 refine qu (M1:=[]) ?_ ?_
 refine qQ 2 ?_ ?_ ?_ ?_ ?_ ?_ ?_
 ·exact qW.fs.nd
 ·exact (qW.loc 2 rfl)
 ·rfl
 ·rfl
 ·exact .inl rfl
 ·decide
 refine qK K__law_cell_at hr (by decide) (qW.gl 1 rfl rfl) ?_ rfl
 refine qb ?_ ?_
 exact qd 0 (qW.vis 0 rfl) (by decide)
 refine qb ?_ ?_
 exact ql
 exact qj
 refine qu (M1:=[]) ?_ ?_
 refine qQ 3 ?_ ?_ ?_ ?_ ?_ ?_ ?_
 ·exact qW.fs.nd
 ·exact (qW.loc 3 rfl)
 ·rfl
 ·rfl
 ·exact .inl rfl
 ·decide
 refine qK K__law_solid hr (by decide) (qW.gl 2 rfl rfl) ?_ rfl
 refine qb ?_ ?_
 refine Zc ?_ ?_ ?_
 exact qd 0 (qW.vis 0 rfl) (by decide)
 refine Qz ?_
 exact ql
 refine Qz ?_
 exact ql
 refine qb ?_ ?_
 exact qd 1 (qW.vis 1 rfl) (by decide)
 refine qb ?_ ?_
 refine qF jZ ?_ ?_
 refine qF Qk ?_ ?_
 refine qF zW ?_ ?_
 exact qd 2 (qW.vis 2 rfl) (by decide)
 exact ql
 exact ql
 refine qF zW ?_ ?_
 refine qF Qk ?_ ?_
 exact qd 2 (qW.vis 2 rfl) (by decide)
 exact ql
 exact ql
 exact qj
 refine qu (M1:=[4]) ?_ ?_
 refine qeg 4 (CompOk.of (k:=1) WR ["_law_script", "_law_base_here", "_law_first", "_law_cubes", "_law_ranks", "_law_spoilt_here", "_law_why", "_law_k"] (qt Tq20) rfl rfl rfl (by decide +kernel)) rfl (by decide +kernel) (qt Tq20) rfl (by decide +kernel) (by decide) (by decide) ?_ (fun _ _ _ _ _ _=>?_) (fun _ _ _ _ _ _=>?_)
 refine Yi (qW.gl 4 rfl rfl) z_range ?_
 refine qb ?_ ?_
 refine zp QV (qW.gl 3 rfl rfl) z_len Vu ?_
 refine qb ?_ ?_
 exact qd 3 (qW.vis 3 rfl) (by decide)
 exact qj
 exact qj
 exact jd
 refine zF ?_
 refine qb ?_ ?_
 refine qK K__law_mixed hr (by decide) (Wa (by decide +kernel)) ?_ rfl
 refine qb ?_ ?_
 exact qd 2 (QC (by decide +kernel)) (by decide)
 refine qb ?_ ?_
 exact qd 7 (QC (by decide +kernel)) (by decide)
 exact qj
 refine qb ?_ ?_
 exact qd 7 (QC (by decide +kernel)) (by decide)
 exact qj
 refine qu (M1:=[3,4]) ?_ ?_
 refine wB 3 ?_ ?_ ?_ ?_ ?_ ?_ ?_ ?_
 ·exact qW.fs.nd
 ·exact (qW.loc 3 rfl)
 ·rfl
 ·rfl
 ·exact .inl rfl
 ·decide
 ·decide
 refine qgo (CompOk.of (k:=1) WR ["_law_script", "_law_base_here", "_law_first", "_law_cubes", "_law_ranks", "_law_spoilt_here", "_law_why", "_law_rank"] (qt Tq20) rfl rfl rfl (by decide +kernel)) rfl (by decide +kernel) ?_ (fun _ _ _ _ _ _=>?_) (fun _ _ _ _ _ _=>?_)
 refine zZ ?_
 refine Zb ?_
 refine Zg (Q9 hr) (qW.gl 5 rfl rfl) z_sorted zU ?_
 refine qb ?_ ?_
 exact qd 4 (qW.vis 4 rfl) (by decide)
 exact qj
 exact jd
 refine zc ?_ ?_
 exact qd 3 (QC (by decide +kernel)) (by decide)
 refine zc ?_ ?_
 exact qd 7 (QC (by decide +kernel)) (by decide)
 exact ql
 refine qu (M1:=[4]) ?_ ?_
 refine zb ?_ ?_ ?_
 refine qM (d_eq hr) ?_ ?_ (qX _)
 refine qF zW ?_ ?_
 refine qF Qk ?_ ?_
 exact qd 2 (qW.vis 2 rfl) (by decide)
 exact ql
 exact ql
 exact ql
 refine qx ?_
 refine jl [4] ?_ ?_ ?_
 ·rfl
 ·rfl
 refine qQ 3 ?_ ?_ ?_ ?_ ?_ ?_ ?_
 ·exact qW.fs.nd
 ·exact (qW.loc 3 rfl)
 ·rfl
 ·rfl
 ·exact .inl rfl
 ·decide
 refine JN ?_
 exact qj
 refine Ji (M':=[3,4]) [4] ?_ ?_ ?_
 exact qU
 ·rfl
 ·rfl
 refine qu (M1:=[4]) ?_ ?_
 refine qQ 5 ?_ ?_ ?_ ?_ ?_ ?_ ?_
 ·exact qW.fs.nd
 ·exact (qW.loc 5 rfl)
 ·rfl
 ·rfl
 ·exact .inl rfl
 ·decide
 refine qK K__law_spoilt hr (by decide) (qW.gl 6 rfl rfl) ?_ rfl
 refine qb ?_ ?_
 exact qd 3 (qW.vis 3 rfl) (by decide)
 refine qb ?_ ?_
 refine JN ?_
 refine qb ?_ ?_
 refine qK K__law_cell_at hr (by decide) (qW.gl 1 rfl rfl) ?_ rfl
 refine qb ?_ ?_
 exact qd 0 (qW.vis 0 rfl) (by decide)
 refine qb ?_ ?_
 exact ql
 exact qj
 refine qb ?_ ?_
 refine qK K__law_cell_at hr (by decide) (qW.gl 1 rfl rfl) ?_ rfl
 refine qb ?_ ?_
 exact qd 0 (qW.vis 0 rfl) (by decide)
 refine qb ?_ ?_
 exact ql
 exact qj
 exact qj
 refine qb ?_ ?_
 exact qd 1 (qW.vis 1 rfl) (by decide)
 exact qj
 refine qu (M1:=[4]) ?_ ?_
 refine qQ 6 ?_ ?_ ?_ ?_ ?_ ?_ ?_
 ·exact qW.fs.nd
 ·exact (qW.loc 6 rfl)
 ·rfl
 ·rfl
 ·exact .inl rfl
 ·decide
 refine zF ?_
 refine qb ?_ ?_
 exact jc
 refine qb ?_ ?_
 refine qF zW ?_ ?_
 exact qd 2 (qW.vis 2 rfl) (by decide)
 exact ql
 exact qj
 refine qu (M1:=[4]) ?_ ?_
 refine zb ?_ ?_ ?_
 refine qM (d_ne hr) ?_ ?_ (qX _)
 refine qb1 XT xf_why ?_
 refine qed I_NoSolid hr (by decide) (qW.gl 7 rfl rfl) rfl ?_
 exact qd 6 (qW.vis 6 rfl) (by decide)
 exact qd 6 (qW.vis 6 rfl) (by decide)
 refine qx ?_
 refine qO ?_
 exact Za
 exact qU
 refine qx ?_
 refine qO ?_
 refine jD ?_ ?_
 refine qK K__law_right hr (by decide) (qW.gl 8 rfl rfl) ?_ rfl
 refine qb ?_ ?_
 exact qd 3 (qW.vis 3 rfl) (by decide)
 exact qj
 refine jD ?_ ?_
 refine qK K__law_right hr (by decide) (qW.gl 8 rfl rfl) ?_ rfl
 refine qb ?_ ?_
 exact qd 5 (qW.vis 5 rfl) (by decide)
 exact qj
 refine JP ?_
 refine qK K__law_right hr (by decide) (qW.gl 8 rfl rfl) ?_ rfl
 refine qb ?_ ?_
 exact qd 3 (qW.vis 3 rfl) (by decide)
 exact qj
end SF
local macro_rules
 | `(tactic| simp_arith [$ts,*] $[$loc]?)=>`(tactic| simp only [L2.rho0,Kr,VF,KM,Xs,Nat.reduceAdd,Nat.reduceSub,Nat.zero_add,Nat.sub_self,List.replicate_succ,List.replicate_zero,List.cons_append,List.nil_append,VN,L2.qeM,L2.WW,L2.qdg,L2.qde,L2.qdf,L2.ifO_t,L2.ifO_f,L2.sIf_b,L2.tA_b,L2.tO_b,L2.vA_b,L2.vO_b,L2.vN,L2.qin,L2.qit,L2.qim,L2.qig,L2.sN,L2.sBk,L2.sCt,L2.tV,L2.tN,L2.tT,L2.ev2_b,L2.qhb,L2.ev1,L2.vr_z,L2.vr_s,L2.kd,L2.evA,L2.evC_b,L2.qfd,L2.evC0,L2.aC_b,L2.qfo,L2.aN,L2.qhD,L2.qhE,L2.tupD,L2.lstD,L2.qeY,L2.qeZ,L2.qfR,L2.qfS,L2.qg6,L2.qiw,L2.qhH,L2.qdD,L2.jj,L2.pow_a,L2.pow_b,L2.qfq,L2.qfZ,L2.qhF,L2.leD_i,L2.gtD_i,L2.qfc,L2.ixD_l,L2.ixD_t,L2.atI0,L2.atI1,L2.atI2,L2.atI3,L2.atI4,L2.atI5,L2.qhS,L2.qhR,L2.ob_s,L2.gNm,L2.gsN_n,L2.gsC_c,L2.qiH,List.set_cons_zero,List.set_cons_succ,List.set_nil,L2.evI,L2.evR,L2.qiq,L2.qir,L2.qgB,L2.rngL,L2.qfm,L2.qfi,L2.qbv,L2.qfk,L2.qby,L2.qbx,L2.qfT,L2.qij,L2.qhm,L2.JH,L2.qhl,L2.Ja,L2.qfB,L2.qfA,L2.qbL,if_true,if_false,VZ,Et,Bool.not_false,Nat.reduceLeDiff,and_self,and_true,true_and,Int.reduceToNat,Int.reduceAdd,Int.reduceSub,Int.reduceLE,Int.reduceLT,Int.reduceNeg,reduceIte,L2.isiD,L2.qhu,L2.qhr,L2.qhq,L2.qhp,L2.qht,L2.qhs,String.reduceBEq,L2.natLit,Int.reduceBEq,NT,Bool.or_true,XI,Bool.or_false,L2.Wz,L2.qiz,L2.qfx,L2.qhi,L2.qfy,L2.qhj,L2.qii,L2.qg8,L2.qaI,L2.qhw,L2.qhv,L2.evS_b,L2.qiv,L2.oN,L2.oS_b,L2.qh5,Nat.reduceLT,decide_true,decide_false,L2.qil,L2.qh9,L2.qis,L2.qeK,L2.qh4,L2.qh3,L2.qaF,L2.qeL,L2.qhg,L2.qha,L2.qgM,L2.qg5,L2.qe3,L2.qe4,L2.qgD,L2.qfL,L2.qfM,L2.qhf,L2.chO_t,L2.chO_f,L2.qe5,L2.qbA,L2.qfn,L2.qbu,L2.qbs,L2.qfj,L2.qfl,L2.qfh,L2.qgC,L2.dpO_s,L2.qhJ,$ts,*] $[$loc]?)
namespace SF
open PySem L2
def qZ (ns:List Int)(k:Int):Int:=ns.getD k.toNat 0
theorem cell_bd {ns:List Int}(h:∀ k∈ns,V6 k<=2 ^ 20)(k:Int):Bd 1048576 (qZ ns k):=by
 unfold qZ
 by_cases hk:k.toNat<ns.length
 ·rw [VE,Kj hk]
  exact h _ (UW hk)
 ·rw [VE,Em (by omega)]
  show V6 0<=1048576
  decide
theorem cell_eq (ns:List Int)(k:Int)(hk:0<=k):zx [.list (ns.map .int),.int k]=some (.int (qZ ns k)):=by
 simp only [zx,Zj]
 simp_arith []
 by_cases h:k<((ns.map Ky).length:Int)
 ·have h':k.toNat<ns.length:=by rw [Kh] at h;omega
  have e:atI (ns.map Ky) k=some (.int (qZ ns k)):=by
   have e1:((k.toNat:Nat):Int)=k:=by omega
   have:=qbq (xs:=ns.map Ky) (j:=k.toNat) (v:=.int (qZ ns k)) (by
    rw [Vv,Kj h']
    unfold qZ
    rw [VE,Kj h']
    rfl)
   rw [e1] at this
   exact this
  simp_arith [decide_eq_true h,e]
 ·have h':¬ k.toNat<ns.length:=by rw [Kh] at h;omega
  have e:qZ ns k=0:=by
   unfold qZ
   rw [VE,Em (by omega)]
   rfl
  simp_arith [decide_eq_false h,e]
abbrev Sp:=Int×Int×Int
def eS (s:Sp):Ka:=.tuple [.int s.1,.int s.2.1,.int s.2.2]
def l3 (s:Sp):List Int:=[s.1,s.2.1,s.2.2]
def b3:List Int->Sp
 | [a,b,c]=>(a,b,c)
 | _=>(0,0,0)
theorem qgP (s:Sp):b3 (l3 s)=s:=rfl
theorem qhC {a b:Sp}(h:l3 a=l3 b):a=b:=by rw [← qgP a,h,qgP]
theorem qa4 (xs:List Sp):xs.map eS=(xs.map l3).map tI:=by rw [VG];rfl
theorem wH {xs:List Sp}(h:xs.length<64):∃ ys:List Sp,zA [.list (xs.map eS)]=some (.list (ys.map eS))/\ys.Perm xs/\(ys.map l3).Pairwise (fun a b=>HT.lexLt b a=false):=by
 obtain ⟨mss,e,p,o⟩:=Jt (nss:=xs.map l3) (by rw [Kh];exact h) (by
  intro ns hn
  obtain ⟨x,_,rfl⟩:=VB.mp hn
  exact fun z=>by cases z)
 have back:∀ m∈mss,(l3 ∘ b3) m=id m:=fun m hm=>by
  obtain ⟨x,_,rfl⟩:=VB.mp (p.mem_iff.mp hm)
  rfl
 have hm:(mss.map b3).map l3=mss:=by
  rw [VG]
  exact (Ub back).trans (Ec mss)
 refine ⟨mss.map b3,?_,?_,?_⟩
 ·rw [qa4,e,qa4,hm]
 ·have:=p.map b3
  rw [VG] at this
  have e2:xs.map (b3 ∘ l3)=xs:=(Ub (fun x _=>rfl)).trans (Ec xs)
  rwa [e2] at this
 ·rw [hm];exact o
theorem yN (a b:Sp):Kz (eS a) (eS b)=decide (a=b):=by
 have:Kz (eS a) (eS b)=((a.1==b.1)&&((a.2.1==b.2.1)&&((a.2.2==b.2.2)&&true))):=rfl
 rw [this]
 obtain ⟨a1,a2,a3⟩:=a
 obtain ⟨b1,b2,b3⟩:=b
 by_cases h1:a1=b1<;>by_cases h2:a2=b2<;>by_cases h3:a3=b3<;>simp [h1,h2,h3]
theorem qdk (xs:List Sp):Kn (xs.map eS)=true/\KB (xs.map eS)<=1:=by rw [qa4];exact yE _
theorem Wb (xs:List Sp)(q:Sp):inOk (xs.map eS) (eS q)=true:=by
 unfold inOk
 rw [(qdk xs).1,Bool.true_and,Ko]
 exact ⟨rfl,rfl⟩
theorem qdJ (xs:List Sp)(q:Sp):inL (xs.map eS) (eS q)=decide (q∈xs):=by
 unfold inL
 rw [List.any_map]
 induction xs with
 | nil=>rfl
 | cons x xs ih =>
  rw [Ue,ih]
  show (Kz (eS x) (eS q)||_)=_
  rw [yN]
  by_cases h:x=q
  ·subst h;rw [decide_eq_true rfl,NT,decide_eq_true VJ]
  ·rw [decide_eq_false h,XI]
   by_cases h2:q∈xs
   ·rw [decide_eq_true h2,decide_eq_true (Vl _ h2)]
   ·rw [decide_eq_false h2,decide_eq_false (by rw [Kq];rintro (rfl|z);exact h rfl;exact h2 z)]
theorem Wr (xs:List Sp)(q:Sp):ninD (eS q) (.list (xs.map eS))=some (.bool (!decide (q∈xs))):=by
 show (if inOk (xs.map eS) (eS q)=true then some (N9 (!inL (xs.map eS) (eS q))) else none)=_
 rw [Wb,qdJ];rfl
theorem jm (xs:List Sp):Vp (.list (xs.map eS))=true:=by
 have h:=qdk xs
 have h2:VQ (.list (xs.map eS))=KB (xs.map eS)+1:=rfl
 unfold Vp
 rw [h2,Ko]
 exact ⟨h.1,decide_eq_true (by omega)⟩
theorem wW:∀ xs ys:List Sp,Kz (.list (xs.map eS)) (.list (ys.map eS))=decide (xs=ys)
 | [],[]=>rfl
 | [],_::_=>rfl
 | _::_,[]=>rfl
 | x::xs,y::ys=>by
  have:Kz (.list ((x::xs).map eS)) (.list ((y::ys).map eS))=(Kz (eS x) (eS y)&&Kz (.list (xs.map eS)) (.list (ys.map eS))):=rfl
  rw [this,yN,wW,UG]
  simp
theorem qhG (xs ys:List Sp):neD (.list (xs.map eS)) (.list (ys.map eS))=some (.bool (!decide (xs=ys))):=by
 unfold neD
 rw [if_pos ⟨jm _,jm _⟩,wW]
theorem qdB (xs ys:List Sp):eqD (.list (xs.map eS)) (.list (ys.map eS))=some (.bool (decide (xs=ys))):=by
 unfold eqD
 rw [if_pos ⟨jm _,jm _⟩,wW]
theorem qaa {α:Type}(enc:α->Ka){g:Ka->Rho->Option Rho}{u:Rho->Option Out}(I:List α->Rho->Prop)(all:List α)(step:∀ a∈all,∀ done ρ,done.length<all.length->I done ρ->∃ ρ',ob (g (enc a) ρ) u=some (.nx ρ')/\I (done++[a]) ρ') :
  ∀ (as done:List α) (ρ:Rho),(∀ a∈as,a∈all)->done.length+as.length=all.length->I done ρ->∃ ρ',forD g u (as.map enc) ρ=some (.nx ρ')/\I (done++as) ρ'
 | [],done,ρ,_,_,h=>⟨ρ,rfl,by rw [VN];exact h⟩
 | a::as,done,ρ,hm,hl,h=>by
  rw [KM] at hl
  obtain ⟨ρ1,e1,h1⟩:=step a (hm a (.head _)) done ρ (by omega) h
  obtain ⟨ρ2,e2,h2⟩:=qaa enc I all step as (done++[a]) ρ1 (fun x hx=>hm x (.tail _ hx)) (by rw [Kp,Kv];omega) h1
  refine ⟨ρ2,?_,by rw [List.append_assoc] at h2;exact h2⟩
  rw [Kr,JH,e1,Ja]
  exact e2
theorem Qy {α:Type}(enc:α->Ka){g:Ka->Rho->Option Rho}{u:Rho->Option Out}(I:List α->Rho->Prop)(as:List α)(ρ:Rho)(h:I [] ρ)(step:∀ a∈as,∀ done ρ,done.length<as.length->I done ρ->∃ ρ',ob (g (enc a) ρ) u=some (.nx ρ')/\I (done++[a]) ρ') :
  ∃ ρ',forD g u (as.map enc) ρ=some (.nx ρ')/\I as ρ':=by
 obtain ⟨ρ',e,i⟩:=qaa enc I as step as [] ρ (fun _ h=>h) (by simp) h
 exact ⟨ρ',e,by rwa [List.nil_append] at i⟩
theorem YQ {α:Type}(enc:α->Ka){tt:Rho->Option Bool}{te:Rho->Option Ka}{ρ:Rho}(p:α->Bool)(f:α->Ka):∀ (as:List α),(∀ a∈as,tt (ρ++[some (enc a)])=some (p a))->(∀ a∈as,p a=true->te (ρ++[some (enc a)])=some (f a))->Ql tt te ρ (as.map enc)=some ((as.filter p).map f)
 | [],_,_=>rfl
 | a::as,h1,h2=>by
  have ih:=YQ enc p f as (fun x hx=>h1 x (.tail _ hx)) (fun x hx=>h2 x (.tail _ hx))
  rw [Kr,qbv,h1 a (.head _),List.filter_cons]
  cases e:p a with
  | true=>rw [qby,h2 a (.head _) e,ih];rfl
  | false=>rw [qbx,ih];rfl
theorem jw {α:Type}(enc:α->Ka){te:Rho->Option Ka}{ρ:Rho}(f:α->Ka)(as:List α)(h2:∀ a∈as,te (ρ++[some (enc a)])=some (f a)):Ql tT te ρ (as.map enc)=some (as.map f):=by
 have:=YQ enc (tt:=tT) (te:=te) (ρ:=ρ) (fun _=>true) f as (fun _ _=>rfl) (fun a ha _=>h2 a ha)
 rwa [List.filter_eq_self.mpr (fun _ _=>rfl)] at this
def cr (a:Nat)(q s:Sp):Bool:=match a with
 | 0=>decide (s.1 % 2=0/\s.1 > q.1/\s.2.1=q.2.1/\s.2.2=q.2.2)
 | 1=>decide (s.2.1 % 2=0/\s.2.1 > q.2.1/\s.1=q.1/\s.2.2=q.2.2)
 | _=>decide (s.2.2 % 2=0/\s.2.2 > q.2.2/\s.1=q.1/\s.2.1=q.2.1)
theorem qbG (a b:Sp):eqD (eS a) (eS b)=some (.bool (decide (a=b))):=by
 unfold eqD
 rw [if_pos ⟨rfl,rfl⟩,yN]
theorem Zm {α β:Type}{f:α->β}{xs:List α}{k:Int}{x:α}(h0:0<=k)(h:xs[k.toNat]?=some x):atI (xs.map f) k=some (f x):=by
 have e1:((k.toNat:Nat):Int)=k:=by omega
 have:=qbq (xs:=xs.map f) (j:=k.toNat) (v:=f x) (by rw [Vv,h];rfl)
 rwa [e1] at this
theorem seqIx {i:Int}{n:Nat}(h0:0<=i)(h1:i<(n:Int)):seqIndex? i n=some i.toNat:=by
 show (if (decide (0<=(if i<0 then i+(n:Int) else i))&&decide ((if i<0 then i+(n:Int) else i)<(n:Int)))=true then some (if i<0 then i+(n:Int) else i).toNat else none)=_
 have h:(if i<0 then i+(n:Int) else i)=i:=if_neg (by omega)
 rw [h,if_pos (by simp;omega)]
theorem Zw {u w:Rho->Option Out}{ρ ρ':Rho}{r:Option Out}(h:u ρ=some (.nx ρ'))(h2:w ρ'=r):seqO u w ρ=r:=by rw [qeM,h,WW];exact h2
theorem ixe0 (s:Sp):ixD (eS s) (.int 0)=some (.int s.1):=rfl
theorem ixe1 (s:Sp):ixD (eS s) (.int 1)=some (.int s.2.1):=rfl
theorem ixe2 (s:Sp):ixD (eS s) (.int 2)=some (.int s.2.2):=rfl
theorem ix0:ixN 3 0=some 0:=rfl
theorem ix1:ixN 3 1=some 1:=rfl
theorem ix2:ixN 3 2=some 2:=rfl
theorem QQ (i:Int):flat (.int i)=true:=rfl
theorem yl (a b c:Int):flat (.tuple [.int a,.int b,.int c])=true:=rfl
theorem yQ (a b c:Int):yO (.list [.int a,.int b,.int c])=true:=rfl
theorem W9:∀ xs:List Sp,yO (.list (xs.map eS))=true
 | []=>rfl
 | _::xs=>W9 xs
theorem bd2:Bd 2 2:=Bd.of (by decide)
theorem Zi (n:Nat):rngL 0 n=(KE n).map fun k=>Ky (k:Nat):=by
 have:∀ (n m:Nat),rngL (m:Nat) n=(List.range' m n).map fun k=>Ky (k:Nat):=by
  intro n
  induction n with
  | zero=>intro m;rfl
  | succ n ih =>
   intro m
   rw [rngL,List.range'_succ,Kr,← ih (m+1)]
   rfl
 rw [List.range_eq_range']
 exact this n 0
theorem qhc (ns:List Int){a b:Nat}:∃ ms:List Int,sliD (.list (ns.map .int)) (some (a:Int)) (some (b:Int))=some (.list (ms.map .int))/\ms.length<=b-a:=by
 refine ⟨(ns.drop (HT.sIx (ns.map Ky).length 0 (some (a:Int)))).take (HT.sIx (ns.map Ky).length (ns.map Ky).length (some (b:Int))-HT.sIx (ns.map Ky).length 0 (some (a:Int))),?_,?_⟩
 ·show some (Um (cutD (ns.map .int) (some (a:Int)) (some (b:Int))))=_
  unfold cutD
  rw [← List.map_drop,← List.map_take]
 ·rw [Ux,UT,HT.yu,HT.yu,Kh]
  omega
def qbX (n:Nat)(c:Sp):Prop:=c.1.natAbs<=n/\c.2.1.natAbs<=n/\c.2.2.natAbs<=n
theorem qgR (x:Int):x % 3=0\/x % 3=1\/x % 3=2:=by omega
theorem qbF {α:Type}{xs:List α}(x:Int)(h:0<xs.length):∃ y∈xs,xs[(x % (xs.length:Int)).toNat]?=some y:=by
 have a1:=U7 x (b:=(xs.length:Int)) (by omega)
 have a2:=Nf x (b:=(xs.length:Int)) (by omega)
 have hlt:(x % (xs.length:Int)).toNat<xs.length:=by omega
 exact ⟨xs[(x % (xs.length:Int)).toNat],UW hlt,Kj hlt⟩
theorem qdb {α β:Type}(f:α->β){xs:List α}{k:Nat}(h:k∈KE xs.length):∃ x∈xs,atI (xs.map f) (k:Int)=some (f x):=by
 have hk:=VL.mp h
 exact ⟨xs[k],UW hk,Zm (by omega) (by simp [Kj hk])⟩
abbrev Ce:=Int×Int
def eC (c:Ce):Ka:=.tuple [.int c.1,.int c.2]
def l2 (c:Ce):List Int:=[c.1,c.2]
def b2:List Int->Ce
 | [a,b]=>(a,b)
 | _=>(0,0)
theorem qc2 {xs:List Ce}(h:xs.length<64):∃ ys:List Ce,zA [.list (xs.map eC)]=some (.list (ys.map eC))/\ys.Perm xs/\(ys.map l2).Pairwise (fun a b=>HT.lexLt b a=false):=by
 obtain ⟨mss,e,p,o⟩:=Jt (nss:=xs.map l2) (by rw [Kh];exact h) (by
  intro ns hn
  obtain ⟨x,_,rfl⟩:=VB.mp hn
  exact fun z=>by cases z)
 have me:∀ zs:List Ce,zs.map eC=(zs.map l2).map tI:=fun zs=>by rw [VG];rfl
 have hm:(mss.map b2).map l2=mss:=by
  rw [VG]
  refine (Ub fun m hm=>?_).trans (Ec mss)
  obtain ⟨x,_,rfl⟩:=VB.mp (p.mem_iff.mp hm)
  rfl
 refine ⟨mss.map b2,?_,?_,?_⟩
 ·rw [me,e,me,hm]
 ·have:=p.map b2
  rw [VG] at this
  have e2:xs.map (b2 ∘ l2)=xs:=(Ub (fun x _=>rfl)).trans (Ec xs)
  rwa [e2] at this
 ·rw [hm];exact o
theorem ixc0 (s:Ce):ixD (eC s) (.int 0)=some (.int s.1):=rfl
theorem ixc1 (s:Ce):ixD (eC s) (.int 1)=some (.int s.2):=rfl
theorem YS {α:Type}(enc:α->Ka){k:Nat}{g:Ka->Rho->Option Rho}{te:Rho->Option Ka}{ρ:Rho}(f:α->Ka):∀ (as:List α),(∀ a∈as,ob (g (enc a) (ρ++Vc k none)) te=some (f a))->Qm k g tT te ρ (as.map enc)=some (as.map f)
 | [],_=>rfl
 | a::as,h=>by
  have ih:=YS enc f as fun x hx=>h x (.tail _ hx)
  obtain ⟨ρ1,e1,e2⟩:=qe (h a (.head _))
  rw [Kr,qbA,e1,qbu]
  show W0 (some true) _ _=_
  rw [qbs,e2,ih]
  rfl
theorem qci {α β:Type}(f:α->Ka)(g:β->Ka):∀ (as:List α) (bs:List β),zpL (as.map f) (bs.map g)=(as.zip bs).map fun p=>.tuple [f p.1,g p.2]
 | [],bs=>by rw [VF,qe3];rfl
 | _::_,[]=>by rw [VF,qe4];rfl
 | a::as,b::bs=>by rw [Kr,Kr,qg5,qci f g as bs];rfl
def qc9 (d:Ka):Prop:=Kz d d=true
theorem qc0 {α:Type}{f:α->Ka}(h:∀ a,qc9 (f a)):∀ xs:List α,qc9 (.list (xs.map f))
 | []=>rfl
 | x::xs=>by
  have:Kz (.list ((x::xs).map f)) (.list ((x::xs).map f))=(Kz (f x) (f x)&&Kz (.list (xs.map f)) (.list (xs.map f))):=rfl
  unfold qc9
  rw [this,h x,qc0 h xs]
  rfl
theorem yP:∀ xs:List Int,yO (.list (xs.map .int))=true
 | []=>rfl
 | _::xs=>yP xs
theorem qgK (n:Int):zN [.int n]=some (.bool true):=rfl
theorem qce (xs:List Sp):zr [.list (xs.map eS)]=some (.bool true):=by
 obtain ⟨ρ',e,o1,o2,rfl⟩:=Qy eS (g:=gNm 1) (u:=(seqO (sIf (tO (tN (tV (ev1 (vr 1) (isiD "tuple")))) (tV (ev2 (evA (aC (vr 1) aN) lenD) (kd (.int 3)) neD))) (sRet (kd (.bool false))) sN) (sFor (evI (vr 1) seqD) (gNm 2) (sIf (tN (tV (evC 1 (aC (vr 2) aN) zN))) (sRet (kd (.bool false))) sN))))
  (fun done ρ=>∃ o1 o2:Option Ka,ρ=[some (.list (xs.map eS)),o1,o2]) xs [some (.list (xs.map eS)),none,none] ⟨none,none,rfl⟩ (by
   rintro a ha done ρ hdl ⟨o1,o2,rfl⟩
   refine ⟨[some (.list (xs.map eS)),some (eS a),some (.int a.2.2)],?_,_,_,rfl⟩
   simp only [eS]
   simp_arith [qgK])
 simp only [zr,ZX]
 simp_arith []
 have:=congrArg (fun o=>ob (yC o (sRet (kd (.bool true)))) outD) e
 simp_arith [] at this
 exact this
def hi (A:Nat)(s:Sp):Sp:=match A with
 | 0=>(s.1+1,s.2.1,s.2.2)
 | 1=>(s.1,s.2.1+1,s.2.2)
 | _=>(s.1,s.2.1,s.2.2+1)
def cnt (kvs:List (Sp×Nat))(s:Sp):Nat:=((kvs.find? fun p=>decide (p.1=s)).map (·.2)).getD 0
def bump (kvs:List (Sp×Nat))(s:Sp):List (Sp×Nat):=if s∈kvs.map (·.1) then kvs.map fun p=>if p.1=s then (p.1,cnt kvs s+1) else p else kvs++[(s,1)]
def oth (a:Nat)(b:Int)(c:Sp):Sp:=match a with
 | 0=>(c.1+b,c.2.1,c.2.2)
 | 1=>(c.1,c.2.1+b,c.2.2)
 | _=>(c.1,c.2.1,c.2.2+b)
theorem qfg (J:List Sp->Prop)(hne:∀ cs,J cs->cs≠[])(hadd:∀ (cs:List Sp) (c:Sp) (a:Nat) (s:Int),J cs->c∈cs->(a=0\/a=1\/a=2)->(s=-1\/s=1)->oth a s c∉cs->J (cs++[oth a s c]))(ms:List Int)(o0 o1 o2 o4 o5 o6:Option Ka){cs0:List Sp}(hJ:J cs0)(hl0:cs0.length<=6) :
  ∃ (gs:List Sp) (o7 o8 o9:Option Ka),forD (gNm 7) (seqO (zg 8 (QM (evA (aC (ev2 (vr 3) (ev2 (vr 7) (evA (aC (vr 3) aN) lenD) modD) ixD) aN) Z2))) (seqO (sSet 9 (ev2 (ev2 (vr 7) (kd (.int 60)) qY) (kd (.int 3)) modD)) (seqO (sPut 8 (vr 9) (Qo (ev2 (ev2 (ev2 (vr 8) (vr 9) ixD) (ev2 (kd (.int 2)) (ev2 (ev2 (vr 7) (kd (.int 180)) qY) (kd (.int 2)) modD) mulD) qR) (kd (.int 1)) subD))) (sIf (tA (tV (ev2 (evA (aC (vr 3) aN) lenD) (kd (.int 6)) ltD2)) (tV (ev2 (evA (aC (vr 8) aN) zR) (vr 3) ninD))) (sApp 3 (Qo (evA (aC (vr 8) aN) zR))) sN)))) (ms.map .int) [o0,o1,o2,some (.list (cs0.map eS)),o4,o5,o6,none,none,none]=some (.nx [o0,o1,o2,some (.list (gs.map eS)),o4,o5,o6,o7,o8,o9])/\J gs/\gs.length<=6:=by
 obtain ⟨ρ',e,gs,o7,o8,o9,rfl,h1,h2⟩:=Qy Ky (g:=gNm 7) (u:=(seqO (zg 8 (QM (evA (aC (ev2 (vr 3) (ev2 (vr 7) (evA (aC (vr 3) aN) lenD) modD) ixD) aN) Z2))) (seqO (sSet 9 (ev2 (ev2 (vr 7) (kd (.int 60)) qY) (kd (.int 3)) modD)) (seqO (sPut 8 (vr 9) (Qo (ev2 (ev2 (ev2 (vr 8) (vr 9) ixD) (ev2 (kd (.int 2)) (ev2 (ev2 (vr 7) (kd (.int 180)) qY) (kd (.int 2)) modD) mulD) qR) (kd (.int 1)) subD))) (sIf (tA (tV (ev2 (evA (aC (vr 3) aN) lenD) (kd (.int 6)) ltD2)) (tV (ev2 (evA (aC (vr 8) aN) zR) (vr 3) ninD))) (sApp 3 (Qo (evA (aC (vr 8) aN) zR))) sN)))))
  (fun done ρ=>∃ (cs:List Sp) (o7 o8 o9:Option Ka),ρ=[o0,o1,o2,some (.list (cs.map eS)),o4,o5,o6,o7,o8,o9]/\J cs/\cs.length<=6) ms [o0,o1,o2,some (.list (cs0.map eS)),o4,o5,o6,none,none,none] ⟨cs0,none,none,none,rfl,hJ,hl0⟩ (by
   rintro x hx done ρ hdl ⟨cs,o7,o8,o9,rfl,h1,h2⟩
   have fin:∀ (d:Sp),(∃ a s c,c∈cs/\(a=0\/a=1\/a=2)/\(s=-1\/s=1)/\d=oth a s c)->∀ o7 o9:Option Ka,∃ ρ',(sIf (tA (tV (ev2 (evA (aC (vr 3) aN) lenD) (kd (.int 6)) ltD2)) (tV (ev2 (evA (aC (vr 8) aN) zR) (vr 3) ninD))) (sApp 3 (Qo (evA (aC (vr 8) aN) zR))) sN) [o0,o1,o2,some (.list (cs.map eS)),o4,o5,o6,o7,some (.list [.int d.1,.int d.2.1,.int d.2.2]),o9]=some (.nx ρ')/\
     ∃ (cs:List Sp) (o7 o8 o9:Option Ka),ρ'=[o0,o1,o2,some (.list (cs.map eS)),o4,o5,o6,o7,o8,o9]/\J cs/\cs.length<=6:=by
    rintro d ⟨a,s,c,hc,ha,hs,hd⟩ o7 o9
    have hn:ninD (.tuple [.int d.1,.int d.2.1,.int d.2.2]) (.list (cs.map eS))=some (.bool (!decide (d∈cs))):=Wr cs d
    by_cases h6:cs.length<6
    ·have e6:decide ((((cs.map eS).length:Nat):Int)<6)=true:=decide_eq_true (by rw [Kh];omega)
     by_cases hm:d∈cs
     ·refine ⟨[o0,o1,o2,some (.list (cs.map eS)),o4,o5,o6,o7,some (.list [.int d.1,.int d.2.1,.int d.2.2]),o9],?_,cs,o7,_,o9,rfl,h1,h2⟩
      simp_arith [hn,decide_eq_true hm,e6]
     ·refine ⟨[o0,o1,o2,some (.list ((cs++[d]).map eS)),o4,o5,o6,o7,some (.list [.int d.1,.int d.2.1,.int d.2.2]),o9],?_,cs++[d],o7,_,o9,rfl,?_,by rw [Kp,Kv];omega⟩
      ·have hz:(cs.map eS).length<1000:=by rw [Kh];omega
       simp_arith [hn,decide_eq_false hm,e6,yl,hz]
       simp only [VD,Kr,VF,eS]
      ·rw [hd] at hm ⊢
       exact hadd cs c a s h1 hc ha hs hm
    ·have e6:decide ((((cs.map eS).length:Nat):Int)<6)=false:=decide_eq_false (by rw [Kh];omega)
     refine ⟨[o0,o1,o2,some (.list (cs.map eS)),o4,o5,o6,o7,some (.list [.int d.1,.int d.2.1,.int d.2.2]),o9],?_,cs,o7,_,o9,rfl,h1,h2⟩
     simp_arith [e6]
   have h0:0<cs.length:=List.length_pos_iff.mpr (hne cs h1)
   obtain ⟨c,hc,ec⟩:=qbF x h0
   have e3:modD (.int x) (.int (((cs.map eS).length:Nat):Int))=some (.int (x % (cs.length:Int))):=by rw [Kh];exact jj _ (by omega)
   have e4:atI (cs.map eS) (x % (cs.length:Int))=some (.tuple [.int c.1,.int c.2.1,.int c.2.2]):=Zm (U7 _ (by omega)) ec
   have e5:mulD (.int 2) (.int (x / 180 % 2))=some (.int (2*(x / 180 % 2))):=QZ (bd2.ok (Bd.of (n:=2) (by omega)))
   have hs:2*(x / 180 % 2)-1=-1\/2*(x / 180 % 2)-1=1:=by omega
   rcases qgR (x / 60) with h|h|h
   ·obtain ⟨ρ',k1,k2⟩:=fin (c.1+2*(x / 180 % 2)-1,c.2.1,c.2.2) ⟨0,_,c,hc,.inl rfl,hs,by simp only [oth,Prod.mk.injEq,and_true];omega⟩ (some (.int x)) (some (.int 0))
    refine ⟨ρ',?_,k2⟩
    simp_arith [e3,e4,yQ,h,e5,QQ,ix0,ix1,ix2]
    simp_arith [] at k1
    exact k1
   ·obtain ⟨ρ',k1,k2⟩:=fin (c.1,c.2.1+2*(x / 180 % 2)-1,c.2.2) ⟨1,_,c,hc,.inr (.inl rfl),hs,by simp only [oth,Prod.mk.injEq,and_true,true_and];omega⟩ (some (.int x)) (some (.int 1))
    refine ⟨ρ',?_,k2⟩
    simp_arith [e3,e4,yQ,h,e5,QQ,ix0,ix1,ix2]
    simp_arith [] at k1
    exact k1
   ·obtain ⟨ρ',k1,k2⟩:=fin (c.1,c.2.1,c.2.2+2*(x / 180 % 2)-1) ⟨2,_,c,hc,.inr (.inr rfl),hs,by simp only [oth,Prod.mk.injEq,true_and];omega⟩ (some (.int x)) (some (.int 2))
    refine ⟨ρ',?_,k2⟩
    simp_arith [e3,e4,yQ,h,e5,QQ,ix0,ix1,ix2]
    simp_arith [] at k1
    exact k1)
 exact ⟨gs,o7,o8,o9,e,h1,h2⟩
def bsV (c:Int):Int:=if (c % 5==0)=true then c / 5 % (2*10 ^ 19+1)-10 ^ 19 else c / 5 % 9-4
theorem qaJ (c:Int):(bsV c).natAbs<=10 ^ 19:=by
 unfold bsV
 split
 ·have a1:=U7 (c / 5) (b:=2*10 ^ 19+1) (by decide)
  have a2:=Nf (c / 5) (b:=2*10 ^ 19+1) (by decide)
  generalize c / 5 % (2*10 ^ 19+1)=z at a1 a2 ⊢
  omega
 ·omega
theorem qe9 (a b c:Int):Qw [.list [.int a,.int b,.int c]]=some (.list [.int (bsV a),.int (bsV b),.int (bsV c)]):=by
 have p19:powD (.int 10) (.int 19)=some (.int (10 ^ 19)):=rfl
 have m19:mulD (.int 2) (.int (10 ^ 19))=some (.int (2*10 ^ 19)):=rfl
 have md:∀ x:Int,modD (.int x) (.int (2*10 ^ 19+1))=some (.int (x % (2*10 ^ 19+1))):=fun x=>rfl
 simp only [Qw,jf,bsV]
 cases ha:a % 5==0<;>cases hb:b % 5==0<;>cases hc:c % 5==0<;>simp_arith [ha,hb,hc,p19,m19,md]
def eLn (l:List Int):Ka:=.list (l.map .int)
def eL (LL:List (List Int)):Ka:=.list (LL.map eLn)
def In (LL:List (List Int))(i x:Int):Prop:=∃ l,LL[i.toNat]?=some l/\x∈l
structure Lk (n m:Nat)(LL:List (List Int)):Prop where
 len:LL.length=n
 bd:∀ l∈LL,l.length<=m/\∀ x∈l,0<=x/\x<(n:Int)
theorem Lk.at {n m:Nat}{LL:List (List Int)}(h:Lk n m LL){i:Int}(h0:0<=i)(h1:i<(n:Int)):∃ l,LL[i.toNat]?=some l/\l∈LL:=by
 have hlt:i.toNat<LL.length:=by rw [h.len];omega
 exact ⟨LL[i.toNat],Kj hlt,UW hlt⟩
theorem Lk.add {n m:Nat}{LL:List (List Int)}(h:Lk n m LL){i x:Int}{l:List Int}(h0:0<=i)(e:LL[i.toNat]?=some l)(x0:0<=x)(x1:x<(n:Int)) :
  Lk n (m+1) (LL.set i.toNat (l++[x]))/\In (LL.set i.toNat (l++[x])) i x/\∀ j y,In LL j y->In (LL.set i.toNat (l++[x])) j y:=by
 obtain ⟨hlt,hl⟩:=KL.mp e
 refine ⟨⟨by rw [Vs];exact h.len,fun q hq=>?_⟩,⟨l++[x],by rw [Va hlt],by simp⟩,fun j y ⟨q,hq,hy⟩=>?_⟩
 ·rcases List.mem_or_eq_of_mem_set hq with z|rfl
  ·exact ⟨Nat.le_succ_of_le (h.bd q z).1,(h.bd q z).2⟩
  ·have hb:=h.bd l (by rw [← hl];exact UW hlt)
   refine ⟨by rw [Kp,Kv];omega,fun y hy=>?_⟩
   rcases KQ.mp hy with z|z
   ·exact hb.2 y z
   ·rw [KC.mp z];exact ⟨x0,x1⟩
 ·by_cases hj:i.toNat=j.toNat
  ·rw [← hj,e] at hq
   cases hq
   exact ⟨l++[x],by rw [← hj,Va hlt],Vm _ hy⟩
  ·exact ⟨q,by rw [Vw hj];exact hq,hy⟩
theorem qdO {LL:List (List Int)}{i x:Int}{l:List Int}(h0:0<=i)(e:LL[i.toNat]?=some l)(hl:l.length<1000)(ρ:Rho):kapO (some (eL LL)) (some (.int i)) (some (.int x)) 2 ρ=some (.nx (ρ.set 2 (some (eL (LL.set i.toNat (l++[x])))))):=by
 obtain ⟨hlt,he⟩:=KL.mp e
 have h1:Jd (eL LL) (.int i)=some i.toNat:=by
  show ixN (LL.map eLn).length i=_
  unfold ixN
  rw [if_pos h0,if_pos (by rw [Kh];omega)]
 have h2:Y5 (eL LL) i.toNat=some (eLn l):=by
  show (LL.map eLn)[i.toNat]?=_
  rw [Vv,e];rfl
 have h3:appD (eLn l) (.int x)=some (eLn (l++[x])):=by
  show (if (l.map Ky).length<1000 then some (Um (l.map Ky++[.int x])) else none)=_
  rw [if_pos (by rw [Kh];exact hl)]
  unfold eLn
  rw [VD]
  rfl
 have h4:Wm (eL LL) i.toNat (eLn (l++[x]))=eL (LL.set i.toNat (l++[x])):=by
  show Um ((LL.map eLn).set i.toNat (eLn (l++[x])))=_
  unfold eL
  rw [List.map_set]
 show ob (Jd (eL LL) (.int i)) _=_
 rw [h1,ob_s,h2,ob_s,h3,ob_s,h4]
theorem Yv {t:Rho->Option Bool}{body:Rho->Option Out}(I:Nat->Rho->Prop)(step:∀ m ρ,I m ρ->t ρ=some false\/(t ρ=some true/\∃ ρ' m',body ρ=some (.nx ρ')/\m'<m/\I m' ρ')) :
  ∀ (fuel m:Nat) (ρ:Rho),m<fuel->I m ρ->∃ ρ' m',jN t body fuel ρ=some (.nx ρ')/\I m' ρ'/\t ρ'=some false
 | 0,_,_,h,_=>absurd h (Nat.not_lt_zero _)
 | fuel+1,m,ρ,h,i=>by
  rcases step m ρ i with e|⟨e,ρ1,m1,e1,hm,i1⟩
  ·refine ⟨ρ,m,?_,i,e⟩
   show ob (t ρ) _=_
   rw [e];rfl
  ·obtain ⟨ρ2,m2,e2,i2,e3⟩:=Yv I step fuel m1 ρ1 (by omega) i1
   refine ⟨ρ2,m2,?_,i2,e3⟩
   show ob (t ρ) _=_
   rw [e,ob_s,if_pos rfl,e1,ob_s]
   exact e2
abbrev Og:=Int×PyData
abbrev ky (os:List Og):List Int:=os.map fun p=>p.1
def eO (os:List Og):List (Ka×PyData):=os.map fun p=>(.int p.1,p.2)
theorem qdN (os:List Og)(i:Int):kOk (eO os) (.inl i)=true:=by
 unfold kOk eO
 rw [NW]
 exact KR.mpr fun p _=>rfl
theorem w5 (i:Int):∀ os:List Og,(Qj (eO os) (.inl i)).isSome=decide (i∈ky os)
 | []=>rfl
 | p::os=>by
  have ih:=w5 i os
  have e:Qj (eO (p::os)) (.inl i)=if p.1=i then some p.2 else Qj (eO os) (.inl i):=by
   unfold Qj eO
   rw [Kr,VP]
   have:Kz (.int p.1) (kxD (.inl i))=(p.1==i):=rfl
   rw [this]
   by_cases h:p.1=i
   ·rw [if_pos h];simp [h]
   ·rw [if_neg h]
    have:(p.1==i)=false:=beq_eq_false_iff_ne.mpr h
    rw [this]
  rw [e]
  by_cases h:p.1=i
  ·rw [if_pos h];simp [h]
  ·rw [if_neg h,ih]
   by_cases h2:i∈ky os
   ·rw [decide_eq_true h2,decide_eq_true (show i∈ky (p::os) from .tail _ h2)]
   ·rw [decide_eq_false h2,decide_eq_false (show ¬ i∈ky (p::os) from fun z=>(Kq.mp z).elim (fun z=>h z.symm) h2)]
theorem qd7 (os:List Og)(i:Int):ye (.int i) (.dict (eO os))=some (.bool (!decide (i∈ky os))):=by
 show ob (kxOf (.int i)) (fun ks=>if kOk (eO os) ks=true then some (N9 (!(Qj (eO os) ks).isSome)) else none)=_
 have:kxOf (.int i)=some (.inl i):=rfl
 rw [this,ob_s,if_pos (qdN _ _),w5]
theorem qia {os:List Og}{i:Int}(d:Ka)(hl:os.length<900)(h:i∉ky os):yL (.dict (eO os)) (.int i) d=some (.dict (eO (os++[(i,d)]))):=by
 show ob (kxOf (.int i)) (fun ks=>if kOk (eO os) ks=true/\(eO os).length<1000 then some (PyData.dict (putD (eO os) ks d)) else none)=_
 have:kxOf (.int i)=some (.inl i):=rfl
 rw [this,ob_s,if_pos ⟨qdN _ _,by unfold eO;rw [Kh];omega⟩]
 unfold putD
 rw [w5,decide_eq_false h,if_neg (by decide)]
 unfold eO
 rw [VD]
 rfl
def un (n:Nat)(os:List Og):Nat:=(KE n).countP fun k=>!decide (((k:Nat):Int)∈ky os)
theorem qdp {p q:Nat->Bool}:∀ {l:List Nat},(∀ x∈l,p x=true->q x=true)->(∃ x∈l,q x=true/\p x=false)->l.countP p<l.countP q
 | [],_,⟨_,h,_⟩=>by cases h
 | y::l,h1,⟨x,hx,h2,h3⟩=>by
  rw [List.countP_cons,List.countP_cons]
  have h1':∀ x∈l,p x=true->q x=true:=fun x hx=>h1 x (.tail _ hx)
  rcases Kq.mp hx with rfl|hx
  ·have:=List.countP_mono_left h1'
   rw [if_pos h2,if_neg (by rw [h3];decide)]
   omega
  ·have:=qdp h1' ⟨x,hx,h2,h3⟩
   have hy:=h1 y (.head _)
   cases hp:p y with
   | true=>rw [if_pos rfl,if_pos (hy hp)];omega
   | false=>rw [if_neg (by decide)];omega
theorem qiE {n:Nat}{os:List Og}{i:Int}(d:Ka)(h0:0<=i)(h1:i<(n:Int))(h:i∉ky os):un n (os++[(i,d)])<un n os:=by
 refine qdp (fun x _ hx=>?_) ⟨i.toNat,VL.mpr (by omega),?_,?_⟩
 ·simp at hx ⊢
  exact fun a b=>hx.1 a b
 ·have:((i.toNat:Nat):Int)=i:=by omega
  rw [this,decide_eq_false h];rfl
 ·have:((i.toNat:Nat):Int)=i:=by omega
  rw [this,decide_eq_true (by simp)];rfl
structure Bf (n:Nat)(os:List Og)(ws:List Int):Prop where
 kr:∀ k∈ky os,0<=k/\k<(n:Int)
 wk:∀ w∈ws,w∈ky os
 zero:(0:Int)∈ky os
 size:os.length+un n os<=n+1
 wsz:ws.length<=os.length
theorem pop0 (d:Ka)(ds:List Ka):jG (.list (d::ds)) (.int 0)=some (d,.list ds):=by
 show ob (if (-1000:Int)<=0/\(0:Int)<=1000 then seqIndex? 0 (d::ds).length else none) _=_
 rw [if_pos ⟨by decide,by decide⟩,seqIx (Int.le_refl 0) (by rw [KM];omega),ob_s]
 rfl
def Mn (n:Nat)(LL:List (List Int))(os:List Og):Prop:=∀ P:Int->Prop,P 0->(∀ k x,0<=k->k<(n:Int)->P k->In LL k x->P x)->∀ k∈ky os,P k
theorem qif {n:Nat}(hn0:0<n)(hn:n<=100){LL:List (List Int)}(lk:Lk n 900 LL):∃ os:List Og,Qc [.int 0,eL LL]=some (.dict (eO os))/\(0:Int)∈ky os/\(∀ k∈ky os,∀ x,In LL k x->x∈ky os)/\Mn n LL os:=by
 obtain ⟨ρ',m',ew,⟨os,ws,o4,o5,rfl,bf,cl,mn,-⟩,et⟩:=Yv (t:=tW (vr 3)) (body:=(seqO (JW 3 4 (kd (.int 0))) (sFor (evI (ev2 (vr 1) (vr 4) ixD) seqD) (gNm 5) (sIf (tV (ev2 (vr 5) (vr 2) ye)) (seqO (Yp 2 (vr 5) (vr 4)) (sApp 3 (vr 5))) sN))))
  (fun m ρ=>∃ (os:List Og) (ws:List Int) (o4 o5:Option Ka),ρ=[some (.int 0),some (eL LL),some (.dict (eO os)),some (.list (ws.map .int)),o4,o5]/\Bf n os ws/\(∀ k∈ky os,k∉ws->∀ x,In LL k x->x∈ky os)/\Mn n LL os/\m=2*un n os+ws.length) (by
   rintro m ρ ⟨os,ws,o4,o5,rfl,bf,cl,mn,rfl⟩
   cases ws with
   | nil=>exact .inl (by simp_arith [VF,tW_b,qiA])
   | cons w ws =>
    refine .inr ⟨by simp_arith [Kr,tW_b,qeX],?_⟩
    obtain ⟨w0,w1⟩:=bf.kr w (bf.wk w (.head _))
    obtain ⟨l,e1,ml⟩:=lk.at w0 w1
    have hlb:=(lk.bd l ml).2
    have hix:ixD (eL LL) (.int w)=some (eLn l):=by
     show atI (LL.map eLn) w=_
     exact Zm w0 e1
    obtain ⟨ρ1,el,os1,ws1,o5',rfl,b1,g1,g2,g3,g4,mn1,g5⟩:=Qy Ky (g:=gNm 5) (u:=(sIf (tV (ev2 (vr 5) (vr 2) ye)) (seqO (Yp 2 (vr 5) (vr 4)) (sApp 3 (vr 5))) sN))
     (fun done ρ=>∃ (os1:List Og) (ws1:List Int) (o5:Option Ka),ρ=[some (.int 0),some (eL LL),some (.dict (eO os1)),some (.list (ws1.map .int)),some (.int w),o5]/\Bf n os1 ws1/\(∀ x∈done,x∈ky os1)/\(∀ k∈ky os,k∈ky os1)/\(∀ k∈ws,k∈ws1)/\(∀ k∈ky os1,k∉ws1->k∈ky os)/\Mn n LL os1/\2*un n os1+ws1.length<=2*un n os+ws.length) l [some (.int 0),some (eL LL),some (.dict (eO os)),some (.list (ws.map .int)),some (.int w),o5] ⟨os,ws,o5,rfl,⟨bf.kr,fun k hk=>bf.wk k (.tail _ hk),bf.zero,bf.size,by have:=bf.wsz;rw [KM] at this;omega⟩,(fun x hx=>by cases hx),fun k h=>h,fun k h=>h,fun k h _=>h,mn,Km _⟩ (by
      rintro j hj done ρ hdl ⟨os1,ws1,o5,rfl,b1,g1,g2,g3,g4,mn1,g5⟩
      obtain ⟨j0,j1⟩:=hlb j hj
      have hni:=qd7 os1 j
      have hol:os1.length<900:=by have:=b1.size;omega
      by_cases hin:j∈ky os1
      ·refine ⟨_,?_,os1,ws1,some (.int j),rfl,b1,fun x hx=>?_,g2,g3,g4,mn1,g5⟩
       ·simp_arith [hni,decide_eq_true hin]
       ·rcases KQ.mp hx with z|z
        ·exact g1 x z
        ·rw [KC.mp z];exact hin
      ·have hp:=qia (.int w) hol hin
       have hu:=qiE (.int w) j0 j1 hin
       have hz:(ws1.map Ky).length<1000:=by rw [Kh];have:=b1.wsz;omega
       have mk:∀ k,k∈ky (os1++[(j,Ky w)])↔k∈ky os1\/k=j:=fun k=>by unfold ky;rw [VD,KQ];simp
       refine ⟨_,?_,os1++[(j,.int w)],ws1++[j],some (.int j),rfl,⟨fun k hk=>?_,fun k hk=>?_,(mk 0).mpr (.inl b1.zero),?_,?_⟩,fun x hx=>?_,fun k hk=>(mk k).mpr (.inl (g2 k hk)),fun k hk=>Vm _ (g3 k hk),fun k hk hw=>?_,fun P h0 hc k hk=>?_,?_⟩
       ·simp_arith [hni,decide_eq_false hin,hp,hz]
        simp only [VD,Kr,VF]
       ·rcases (mk k).mp hk with z|rfl
        ·exact b1.kr k z
        ·exact ⟨j0,j1⟩
       ·rcases KQ.mp hk with z|z
        ·exact (mk k).mpr (.inl (b1.wk k z))
        ·exact (mk k).mpr (.inr (KC.mp z))
       ·have:=b1.size
        rw [Kp,Kv];omega
       ·have:=b1.wsz
        rw [Kp,Kp,Kv,Kv];omega
       ·rcases KQ.mp hx with z|z
        ·exact (mk x).mpr (.inl (g1 x z))
        ·exact (mk x).mpr (.inr (KC.mp z))
       ·rcases (mk k).mp hk with z|rfl
        ·exact g4 k z fun y=>hw (Vm _ y)
        ·exact absurd (KP _ (KC.mpr rfl)) hw
       ·rcases (mk k).mp hk with z|rfl
        ·exact mn1 P h0 hc k z
        ·exact hc w k w0 w1 (mn P h0 hc w (bf.wk w (.head _))) ⟨l,e1,hj⟩
       ·rw [Kp,Kv];omega)
    refine ⟨_,_,?_,?_,os1,ws1,some (.int w),o5',rfl,b1,fun k hk hkw x hx=>?_,mn1,rfl⟩
    ·have hp0:=pop0 (.int w) (ws.map .int)
     have sq:seqD (eLn l)=some (l.map .int):=rfl
     simp_arith [Kr,hp0,hix,sq,el]
    ·rw [KM];omega
    ·by_cases hkk:k=w
     ·subst hkk
      obtain ⟨l',el',hx'⟩:=hx
      rw [e1] at el'
      cases el'
      exact g1 x hx'
     ·exact g2 x (cl k (g4 k hk hkw) (fun z=>(Kq.mp z).elim hkk fun z=>hkw (g3 k z)) x hx)) 1000000 (2*un n [(0,.none)]+1) [some (.int 0),some (eL LL),some (.dict (eO [(0,.none)])),some (.list ([(0:Int)].map .int)),none,none] (by
   have:un n [(0,.none)]<=n:=by
    unfold un
    exact Vg En (by rw [Vj];exact Km _)
   omega) ⟨[(0,.none)],[0],none,none,rfl,⟨fun k hk=>by rw [KC.mp hk];exact ⟨Int.le_refl 0,by show (0:Int)<(n:Int);omega⟩,fun w hw=>hw,.head _,by
    have:un n [(0,.none)]<=n:=by
     unfold un
     exact Vg En (by rw [Vj];exact Km _)
    rw [Kv];omega,Km _⟩,fun k hk hw=>absurd hk hw,fun P h0 _ k hk=>by rw [KC.mp hk];exact h0,rfl⟩
 have hws:ws=[]:=by
  cases ws with
  | nil=>rfl
  | cons w ws =>
   simp_arith [Kr,tW_b,qeX] at et
   cases et
 subst hws
 refine ⟨os,?_,bf.zero,fun k hk x hx=>cl k hk (fun z=>by cases z) x hx,mn⟩
 have hw:qbb (tW (vr 3)) (seqO (JW 3 4 (kd (.int 0))) (sFor (evI (ev2 (vr 1) (vr 4) ixD) seqD) (gNm 5) (sIf (tV (ev2 (vr 5) (vr 2) ye)) (seqO (Yp 2 (vr 5) (vr 4)) (sApp 3 (vr 5))) sN))) [some (.int 0),some (eL LL),some (.dict [(.int 0,.none)]),some (.list [.int 0]),none,none]=some (.nx [some (.int 0),some (eL LL),some (.dict (eO os)),some (.list []),o4,o5]):=ew
 have d1:W3 (.int 0) .none=some (.dict [(.int 0,.none)]):=rfl
 simp only [Qc,Zk]
 simp_arith [d1,hw]
structure Slo {α:Type}(lt:α->α->Bool):Prop where
 irr:∀ a,lt a a=false
 tr:∀ a b c,lt a b=true->lt b c=true->lt a c=true
 tri:∀ a b,lt a b=false->lt b a=false->a=b
theorem Slo.le {α:Type}{lt:α->α->Bool}(S:Slo lt){a b c:α}(h1:lt b a=false)(h2:lt c b=false):lt c a=false:=by
 cases h:lt c a with
 | false=>rfl
 | true =>
  cases k:lt a b with
  | true=>rw [S.tr c a b h k] at h2;cases h2
  | false=>rw [S.tri a b k h1] at h;rw [h] at h2;cases h2
def ltI (a b:Int):Bool:=decide (a<b)
theorem qcd:Slo ltI:=by
 refine ⟨fun a=>decide_eq_false (by omega),fun a b c h1 h2=>?_,fun a b h1 h2=>?_⟩
 ·have h1:=of_decide_eq_true h1
  have h2:=of_decide_eq_true h2
  exact decide_eq_true (by omega)
 ·have h1:=of_decide_eq_false h1
  have h2:=of_decide_eq_false h2
  omega
def lexB {α:Type}[DecidableEq α](lt:α->α->Bool):List α->List α->Bool
 | [],[]=>false
 | [],_::_=>true
 | _::_,[]=>false
 | x::xs,y::ys=>if x=y then lexB lt xs ys else lt x y
section
variable {α:Type}[DecidableEq α]{lt:α->α->Bool}
theorem qbV (S:Slo lt):∀ a:List α,lexB lt a a=false
 | []=>rfl
 | x::xs=>by rw [lexB,if_pos rfl];exact qbV S xs
theorem qdW (S:Slo lt):∀ a b c:List α,lexB lt a b=true->lexB lt b c=true->lexB lt a c=true
 | [],[],_,h,_=>by cases h
 | [],_::_,[],_,h=>by cases h
 | [],_::_,_::_,_,_=>rfl
 | _::_,[],_,h,_=>by cases h
 | _::_,_::_,[],_,h=>by cases h
 | x::xs,y::ys,z::zs,h1,h2=>by
  rw [lexB] at h1 h2 ⊢
  by_cases e1:x=y
  ·subst e1
   rw [if_pos rfl] at h1
   by_cases e2:x=z
   ·rw [if_pos e2] at h2 ⊢;exact qdW S xs ys zs h1 h2
   ·rw [if_neg e2] at h2 ⊢;exact h2
  ·rw [if_neg e1] at h1
   by_cases e2:y=z
   ·subst e2
    rw [if_neg e1];exact h1
   ·rw [if_neg e2] at h2
    have:=S.tr x y z h1 h2
    rw [if_neg (fun e=>by subst e;rw [S.irr] at this;cases this)]
    exact this
theorem qbW (S:Slo lt):∀ a b:List α,lexB lt a b=false->lexB lt b a=false->a=b
 | [],[],_,_=>rfl
 | [],_::_,h,_=>by cases h
 | _::_,[],_,h=>by cases h
 | x::xs,y::ys,h1,h2=>by
  rw [lexB] at h1 h2
  by_cases e:x=y
  ·subst e
   rw [if_pos rfl] at h1 h2
   rw [qbW S xs ys h1 h2]
  ·rw [if_neg e] at h1
   rw [if_neg (VY e)] at h2
   exact absurd (S.tri x y h1 h2) e
theorem qgE (S:Slo lt):Slo (lexB lt):=⟨qbV S,qdW S,qbW S⟩
end
theorem qfW (a b:Int):ltX (.int a) (.int b)=some (ltI a b):=by rw [ltX];rfl
def IsL {α:Type}(lt:α->α->Bool)(xs:List α)(m:α):Prop:=m∈xs/\∀ x∈xs,lt x m=false
theorem qcN {α:Type}{e:α->Ka}{lt:α->α->Bool}(S:Slo lt)(hlt:∀ a b,ltX (e a) (e b)=some (lt a b))(hs:∀ a,Vp (e a)=true)(hd:∀ a,(e a).depth<=50){xs:List α}(h0:0<xs.length)(hz:xs.length<=900) :
  ∃ m,IsL lt xs m/\Jf [.list (xs.map e)]=some (e m):=by
 have ok:ji (xs.map e)=true:=by
  unfold ji
  rw [NW,KR]
  intro a _
  show (Vp (e a)&&decide ((e a).depth<=50)&&(xs.map e).all fun d=>(ltX (e a) d).isSome)=true
  rw [hs,decide_eq_true (hd a),NW]
  exact KR.mpr fun b _=>by show (ltX (e a) (e b)).isSome=true;rw [hlt];rfl
 have hb:∀ i j:Nat,(hi:i<xs.length)->(hj:j<xs.length)->zy (xs.map e) i j=lt xs[i] xs[j]:=fun i j hi hj=>by
  unfold zy
  rw [Vv,Vv,Kj hi,Kj hj]
  show (ltX (e xs[i]) (e xs[j])).getD false=_
  rw [hlt];rfl
 have key:∀ k,k<xs.length->∀ j,j<=k->(hj:j<xs.length)->(hi:bestOf (zy (xs.map e)) k<xs.length)->lt xs[j] xs[bestOf (zy (xs.map e)) k]=false:=by
  intro k
  induction k with
  | zero =>
   intro _ j hj hj' hi
   have:j=0:=by omega
   subst this
   exact S.irr _
  | succ k ih =>
   intro hk j hj hj' hi
   have hle:=jh (zy (xs.map e)) k
   have hkk:bestOf (zy (xs.map e)) k<xs.length:=by omega
   have ih:=fun j hj hj'=>ih (by omega) j hj hj' hkk
   by_cases hc:zy (xs.map e) (k+1) (bestOf (zy (xs.map e)) k)=true
   ·have e1:bestOf (zy (xs.map e)) (k+1)=k+1:=by rw [bestOf,if_pos hc]
    rw [hb _ _ hk hkk] at hc
    simp only [e1]
    by_cases hj2:j=k+1
    ·subst hj2;exact S.irr _
    ·refine S.le ?_ (ih j (by omega) hj')
     cases q:lt xs[bestOf (zy (xs.map e)) k] xs[k+1] with
     | false=>rfl
     | true=>rw [← S.irr xs[k+1]];exact (S.tr _ _ _ hc q).symm
   ·have e1:bestOf (zy (xs.map e)) (k+1)=bestOf (zy (xs.map e)) k:=by rw [bestOf,if_neg hc]
    rw [hb _ _ hk hkk] at hc
    simp only [e1]
    by_cases hj2:j=k+1
    ·subst hj2;exact XB.mpr hc
    ·exact ih j (by omega) hj'
 have hle:=jh (zy (xs.map e)) (xs.length-1)
 have hi:bestOf (zy (xs.map e)) (xs.length-1)<xs.length:=by omega
 refine ⟨xs[bestOf (zy (xs.map e)) (xs.length-1)],⟨UW hi,fun x hx=>?_⟩,?_⟩
 ·obtain ⟨j,hj,rfl⟩:=X4 hx
  exact key _ (by omega) j (by omega) hj hi
 ·show (if ji (xs.map e)=true/\(xs.map e).length<=1000 then (xs.map e)[bestOf (zy (xs.map e)) ((xs.map e).length-1)]? else none)=_
  rw [if_pos ⟨ok,by rw [Kh];omega⟩,Kh,Vv,Kj hi]
  rfl
theorem qd3 {xs:List Int}(h0:0<xs.length)(hz:xs.length<=900):∃ m,IsL ltI xs m/\Jf [.list (xs.map .int)]=some (.int m) :=
 qcN qcd qfW (fun _=>rfl) (fun _=>by show (0:Nat)<=50;decide) h0 hz
def rot3 (r:Nat)(p:Sp):Sp:=match r with
 | 0=>p
 | 1=>(p.2.1,p.2.2,p.1)
 | _=>(p.2.2,p.1,p.2.1)
def QL:List Sp:=[(0,0,0),(0,0,1),(1,0,1),(1,1,1),(1,1,0)]
def sgn (k d:Int):Int:=1-2*(k / d % 2)
theorem ZV (k d:Int):sgn k d=1\/sgn k d=-1:=by unfold sgn;omega
def plc (b:Sp)(k:Int)(p:Sp):Sp:=(b.1+p.1*sgn k 3,b.2.1+p.2.1*sgn k 6,b.2.2+p.2.2*sgn k 12)
theorem wy {a s:Int}(ha:a=0\/a=1)(hs:s=1\/s=-1):mulD (.int a) (.int s)=some (.int (a*s)):=by
 rcases ha with rfl|rfl<;>rcases hs with rfl|rfl<;>rfl
theorem qbU:∀ xs ys:List Int,HT.lexLt xs ys=lexB ltI xs ys
 | [],[]=>rfl
 | [],_::_=>rfl
 | _::_,[]=>rfl
 | x::xs,y::ys=>by
  rw [HT.QH,lexB,qbU xs ys]
  rfl
def Nr (b:Sp)(n:Nat)(c:Sp):Prop:=(c.1-b.1).natAbs<=n/\(c.2.1-b.2.1).natAbs<=n/\(c.2.2-b.2.2).natAbs<=n
theorem Nr.up {b c:Sp}{n m:Nat}(h:Nr b n c)(hm:n<=m):Nr b m c:=⟨Vg h.1 hm,Vg h.2.1 hm,Vg h.2.2 hm⟩
theorem nr_s {a b s:Int}{n:Nat}(h:(a-b).natAbs<=n)(hs:s=-1\/s=1):(a+s-b).natAbs<=n+1:=by omega
theorem Nr.oth {b c:Sp}{n:Nat}{a:Nat}{s:Int}(h:Nr b n c)(ha:a=0\/a=1\/a=2)(hs:s=-1\/s=1):Nr b (n+1) (oth a s c):=by
 have k:=h.up (Uk n)
 rcases ha with rfl|rfl|rfl
 ·exact ⟨nr_s h.1 hs,k.2.1,k.2.2⟩
 ·exact ⟨k.1,nr_s h.2.1 hs,k.2.2⟩
 ·exact ⟨k.1,k.2.1,nr_s h.2.2 hs⟩
def NrL (b:Sp)(cs:List Sp):Prop:=cs≠[]/\∀ c∈cs,Nr b cs.length c
theorem NrL.add {b:Sp}{cs:List Sp}{c:Sp}{a:Nat}{s:Int}(h:NrL b cs)(hc:c∈cs)(ha:a=0\/a=1\/a=2)(hs:s=-1\/s=1):NrL b (cs++[oth a s c]):=by
 refine ⟨by simp,fun d hd=>?_⟩
 rw [Kp,Kv]
 rcases KQ.mp hd with q|q
 ·exact (h.2 d q).up (Uk _)
 ·rw [KC.mp q];exact (h.2 c hc).oth ha hs
theorem qeN {s:Int}(hs:s=1\/s=-1)(b:Int):(b+0*s-b).natAbs<=5/\(b+1*s-b).natAbs<=5:=by omega
theorem NrL.five (b:Sp)(k:Int)(r:Nat):NrL b ((QL.map (rot3 r)).map (plc b k)):=by
 refine ⟨by simp [QL],fun c hc=>?_⟩
 have hx:=qeN (ZV k 3) b.1
 have hy:=qeN (ZV k 6) b.2.1
 have hz:=qeN (ZV k 12) b.2.2
 have hl:((QL.map (rot3 r)).map (plc b k)).length=5:=by simp [QL]
 rw [hl]
 rcases r with _|_|r<;>simp only [QL,rot3,plc,Kr,VF,Kq,V1,or_false] at hc<;>rcases hc with rfl|rfl|rfl|rfl|rfl<;>exact ⟨by first|exact hx.1|exact hx.2,by first|exact hy.1|exact hy.2,by first|exact hz.1|exact hz.2⟩
theorem qgF (ms:List Int)(b:Sp){k:Int}(hk:0<=k):∃ cs gs:List Sp,zM [.list (ms.map .int),.list [.int b.1,.int b.2.1,.int b.2.2],.int k]=some (.list (cs.map eS))/\NrL b gs/\gs.length<=6/\cs.Perm gs:=by
 have fin:∀ gs:List Sp,gs.length<=6->∃ cs:List Sp,zA [.list (gs.map eS)]=some (.list (cs.map eS))/\cs.Perm gs:=fun gs h1=>by
  obtain ⟨cs,es,p,_⟩:=wH (xs:=gs) (by omega)
  exact ⟨cs,es,p⟩
 have grow:∀ (o0 o1 o2 o4 o5 o6:Option Ka) {cs0:List Sp},NrL b cs0->cs0.length<=6->∃ (cs gs:List Sp) (o7 o8 o9:Option Ka),forD (gNm 7) (seqO (zg 8 (QM (evA (aC (ev2 (vr 3) (ev2 (vr 7) (evA (aC (vr 3) aN) lenD) modD) ixD) aN) Z2))) (seqO (sSet 9 (ev2 (ev2 (vr 7) (kd (.int 60)) qY) (kd (.int 3)) modD)) (seqO (sPut 8 (vr 9) (Qo (ev2 (ev2 (ev2 (vr 8) (vr 9) ixD) (ev2 (kd (.int 2)) (ev2 (ev2 (vr 7) (kd (.int 180)) qY) (kd (.int 2)) modD) mulD) qR) (kd (.int 1)) subD))) (sIf (tA (tV (ev2 (evA (aC (vr 3) aN) lenD) (kd (.int 6)) ltD2)) (tV (ev2 (evA (aC (vr 8) aN) zR) (vr 3) ninD))) (sApp 3 (Qo (evA (aC (vr 8) aN) zR))) sN)))) (ms.map .int) [o0,o1,o2,some (.list (cs0.map eS)),o4,o5,o6,none,none,none]=some (.nx [o0,o1,o2,some (.list (gs.map eS)),o4,o5,o6,o7,o8,o9])/\zA [.list (gs.map eS)]=some (.list (cs.map eS))/\NrL b gs/\gs.length<=6/\cs.Perm gs:=fun o0 o1 o2 o4 o5 o6 cs0 h0 hl=>by
  obtain ⟨gs,o7,o8,o9,e,h1,h2⟩:=qfg (NrL b) (fun cs h=>h.1) (fun cs c a s h hc ha hs _=>h.add hc ha hs) ms o0 o1 o2 o4 o5 o6 h0 hl
  obtain ⟨cs,es,p⟩:=fin gs h2
  exact ⟨cs,gs,o7,o8,o9,e,es,h1,h2,p⟩
 by_cases h0:k=0
 ·subst h0
  obtain ⟨cs,gs,o7,o8,o9,e,es,h1,h2,p⟩:=grow (some (.list (ms.map .int))) (some (.list [.int b.1,.int b.2.1,.int b.2.2])) (some (.int 0)) none none none (cs0:=[b]) ⟨by simp,fun c hc=>by rw [KC.mp hc];exact ⟨by omega,by omega,by omega⟩⟩ (by simp)
  refine ⟨cs,gs,?_,h1,h2,p⟩
  have e:forD (gNm 7) (seqO (zg 8 (QM (evA (aC (ev2 (vr 3) (ev2 (vr 7) (evA (aC (vr 3) aN) lenD) modD) ixD) aN) Z2))) (seqO (sSet 9 (ev2 (ev2 (vr 7) (kd (.int 60)) qY) (kd (.int 3)) modD)) (seqO (sPut 8 (vr 9) (Qo (ev2 (ev2 (ev2 (vr 8) (vr 9) ixD) (ev2 (kd (.int 2)) (ev2 (ev2 (vr 7) (kd (.int 180)) qY) (kd (.int 2)) modD) mulD) qR) (kd (.int 1)) subD))) (sIf (tA (tV (ev2 (evA (aC (vr 3) aN) lenD) (kd (.int 6)) ltD2)) (tV (ev2 (evA (aC (vr 8) aN) zR) (vr 3) ninD))) (sApp 3 (Qo (evA (aC (vr 8) aN) zR))) sN)))) (ms.map .int) [some (.list (ms.map .int)),some (.list [.int b.1,.int b.2.1,.int b.2.2]),some (.int 0),some (.list [.tuple [.int b.1,.int b.2.1,.int b.2.2]]),none,none,none,none,none,none]=some (.nx [some (.list (ms.map .int)),some (.list [.int b.1,.int b.2.1,.int b.2.2]),some (.int 0),some (.list (gs.map eS)),none,none,none,o7,o8,o9]):=e
  simp only [zM,Qi]
  simp_arith [e,es]
 ·have hg:decide (k > 0)=true:=decide_eq_true (by omega)
  have a1:mulD (.int 2) (.int (k / 3 % 2))=some (.int (2*(k / 3 % 2))):=QZ (bd2.ok (Bd.of (n:=2) (by omega)))
  have a2:mulD (.int 2) (.int (k / 6 % 2))=some (.int (2*(k / 6 % 2))):=QZ (bd2.ok (Bd.of (n:=2) (by omega)))
  have a3:mulD (.int 2) (.int (k / 12 % 2))=some (.int (2*(k / 12 % 2))):=QZ (bd2.ok (Bd.of (n:=2) (by omega)))
  have b1:mulD (.int 0) (.int (1-2*(k / 3 % 2)))=some (.int (0*sgn k 3)):=wy (.inl rfl) (ZV k 3)
  have b2:mulD (.int 0) (.int (1-2*(k / 6 % 2)))=some (.int (0*sgn k 6)):=wy (.inl rfl) (ZV k 6)
  have b3:mulD (.int 0) (.int (1-2*(k / 12 % 2)))=some (.int (0*sgn k 12)):=wy (.inl rfl) (ZV k 12)
  have c1:mulD (.int 1) (.int (1-2*(k / 3 % 2)))=some (.int (1*sgn k 3)):=wy (.inr rfl) (ZV k 3)
  have c2:mulD (.int 1) (.int (1-2*(k / 6 % 2)))=some (.int (1*sgn k 6)):=wy (.inr rfl) (ZV k 6)
  have c3:mulD (.int 1) (.int (1-2*(k / 12 % 2)))=some (.int (1*sgn k 12)):=wy (.inr rfl) (ZV k 12)
  have r3:rngL 0 3=[.int 0,.int 1,.int 2]:=rfl
  have fin2:=fun (r:Nat) (o4 o5 o6:Option Ka)=>grow (some (.list (ms.map .int))) (some (.list [.int b.1,.int b.2.1,.int b.2.2])) (some (.int k)) o4 o5 o6 (cs0:=(QL.map (rot3 r)).map (plc b k)) (NrL.five b k r) (by simp [QL])
  rcases qgR k with g|g|g
  ·obtain ⟨cs,gs,o7,o8,o9,e,es,h1,h2,p⟩:=fin2 0 (some (.tuple [.int 1,.int 1,.int 0])) (some (.list [.int (b.1+1*sgn k 3),.int (b.2.1+1*sgn k 6),.int (b.2.2+0*sgn k 12)])) (some (.int 2))
   refine ⟨cs,gs,?_,h1,h2,p⟩
   have g1:(k+1) % 3=1:=by omega
   have g2:(k+2) % 3=2:=by omega
   simp only [QL,rot3,plc,Kr,VF,eS] at e
   simp only [zM,Qi]
   simp_arith [hg,g,g1,g2,a1,a2,a3,b1,b2,b3,c1,c2,c3,r3,ix0,ix1,ix2,QQ,yl,e,es]
  ·obtain ⟨cs,gs,o7,o8,o9,e,es,h1,h2,p⟩:=fin2 1 (some (.tuple [.int 1,.int 1,.int 0])) (some (.list [.int (b.1+1*sgn k 3),.int (b.2.1+0*sgn k 6),.int (b.2.2+1*sgn k 12)])) (some (.int 2))
   refine ⟨cs,gs,?_,h1,h2,p⟩
   have g1:(k+1) % 3=2:=by omega
   have g2:(k+2) % 3=0:=by omega
   simp only [QL,rot3,plc,Kr,VF,eS] at e
   simp only [zM,Qi]
   simp_arith [hg,g,g1,g2,a1,a2,a3,b1,b2,b3,c1,c2,c3,r3,ix0,ix1,ix2,QQ,yl,e,es]
  ·obtain ⟨cs,gs,o7,o8,o9,e,es,h1,h2,p⟩:=fin2 2 (some (.tuple [.int 1,.int 1,.int 0])) (some (.list [.int (b.1+0*sgn k 3),.int (b.2.1+1*sgn k 6),.int (b.2.2+1*sgn k 12)])) (some (.int 2))
   refine ⟨cs,gs,?_,h1,h2,p⟩
   have g1:(k+1) % 3=0:=by omega
   have g2:(k+2) % 3=1:=by omega
   simp only [QL,rot3,plc,Kr,VF,eS] at e
   simp only [zM,Qi]
   simp_arith [hg,g,g1,g2,a1,a2,a3,b1,b2,b3,c1,c2,c3,r3,ix0,ix1,ix2,QQ,yl,e,es]
theorem qfY (c:Int){k:Int}(h0:0<=k)(h1:k<100):∃ v,zL [.int c,.int k]=some (.int v):=by
 have a1:=U7 c (b:=1000000007) (by decide)
 have a2:=Nf c (b:=1000000007) (by decide)
 have m0:modD (.int c) (.int 1000000007)=some (.int (c % 1000000007)):=jj _ (by decide)
 have m1:mulD (.int (c % 1000000007)) (.int (k+3))=some (.int (c % 1000000007*(k+3))):=QZ ((Bd.of (n:=30) (by omega)).ok (Bd.of (n:=7) (by omega)))
 have q1:Bd 37 (c % 1000000007*(k+3)):=by
  have:c % 1000000007*(k+3)<=1000000007*103:=Int.le_trans (X2 (Int.le_of_lt a2) (by omega)) (X3 (by omega) (by decide))
  have:0<=c % 1000000007*(k+3):=Eo a1 (by omega)
  exact Bd.of (by omega)
 have m2:mulD (.int (c % 1000000007*(k+3))) (.int 48271)=some (.int (c % 1000000007*(k+3)*48271)):=QZ (q1.ok (Bd.of (n:=16) (by decide)))
 have m3:mulD (.int (k+1)) (.int (k+5))=some (.int ((k+1)*(k+5))):=QZ ((Bd.of (n:=7) (by omega)).ok (Bd.of (n:=7) (by omega)))
 have q2:Bd 14 ((k+1)*(k+5)):=by
  have:(k+1)*(k+5)<=101*105:=Int.le_trans (X2 (by omega) (by omega)) (X3 (by omega) (by decide))
  have:0<=(k+1)*(k+5):=Eo (by omega) (by omega)
  exact Bd.of (by omega)
 have m4:mulD (.int ((k+1)*(k+5))) (.int 69621)=some (.int ((k+1)*(k+5)*69621)):=QZ (q2.ok (Bd.of (n:=17) (by decide)))
 have m5:∀ x:Int,modD (.int x) (.int 2147483647)=some (.int (x % 2147483647)):=fun x=>jj _ (by decide)
 refine ⟨(c % 1000000007*(k+3)*48271+(k+1)*(k+5)*69621) % 2147483647,?_⟩
 simp only [zL,ZW]
 simp_arith [m0,m1,m2,m3,m4,m5]
theorem wU {α:Type}(f:α->Ka)(xs:List α){k:Int}(h:0<=k):sliD (.list (xs.map f)) none (some k)=some (.list ((xs.take k.toNat).map f)):=by
 show some (Um (cutD (xs.map f) none (some k)))=_
 have e:k=((k.toNat:Nat):Int):=by omega
 unfold cutD
 rw [e,HT.yu]
 have h0:HT.sIx (xs.map f).length 0 none=0:=rfl
 rw [h0,List.drop_zero,Nat.sub_zero,Kh,K9]
 by_cases hk:k.toNat<=xs.length
 ·rw [Nat.min_eq_left hk,List.map_take]
 ·rw [Nat.min_eq_right (by omega),XG (l:=xs) (by omega),XG (by rw [Kh];exact Km _)]
theorem qbC {α:Type}(f:α->Ka)(xs:List α){k:Int}(h:0<=k):sliD (.list (xs.map f)) (some k) none=some (.list ((xs.drop k.toNat).map f)):=by
 show some (Um (cutD (xs.map f) (some k) none))=_
 have e:k=((k.toNat:Nat):Int):=by omega
 unfold cutD
 rw [e,HT.yu]
 have h0:HT.sIx (xs.map f).length (xs.map f).length none=(xs.map f).length:=rfl
 rw [h0,Kh,K9]
 by_cases hk:k.toNat<=xs.length
 ·rw [Nat.min_eq_left hk,List.map_drop,XG (by rw [UT,Kh];exact Km _)]
 ·rw [Nat.min_eq_right (by omega),Ed (l:=xs) (by omega),Ed (by rw [Kh];exact Km _),Nat.sub_self]
  rfl
theorem qda {α:Type}(f:α->Ka)(xs ys:List α)(h:xs.length+ys.length<=1000):qR (.list (xs.map f)) (.list (ys.map f))=some (.list ((xs++ys).map f)):=by
 rw [qe6 _ _ (by rw [Kh,Kh];exact h),VD]
theorem qfe {α:Type}(f:α->Ka)(xs ys:List α)(h:xs.length+ys.length<=1000):catL (.list (xs.map f)) (.list (ys.map f))=some (.list ((xs++ys).map f)):=by
 show (if _ then _ else _)=_
 rw [if_pos (by rw [Kh,Kh];exact h),VD]
def put (M:List Sp)(k:Nat)(p:Sp):List Sp:=M.take k++[p]++M.drop k
theorem qgw (M:List Sp)(k:Nat)(p:Sp):(put M k p).length=M.length+1:=by
 unfold put
 rw [Kp,Kp,Ux,UT,Kv]
 omega
theorem qfX {M:List Sp}{k:Nat}{p c:Sp}(h:c∈put M k p):c∈M\/c=p:=by
 rcases KQ.mp h with z|z
 ·rcases KQ.mp z with z|z
  ·exact .inl (Es z)
  ·exact .inr (KC.mp z)
 ·exact .inl (List.mem_of_mem_drop z)
theorem qeQ {b:Sp}{M:List Sp}(hM:∀ c∈M,Nr b 9 c)(hl:M.length<=400)(x:Int)(o0 o1 o4 o5 o6 o7 o8:Option Ka):∃ (M':List Sp) (p4 p5 p6 p7 p8:Option Ka),ob ((gNm 4) (.int x) [o0,o1,some (.list [.int b.1,.int b.2.1,.int b.2.2]),some (.list (M.map eS)),o4,o5,o6,o7,o8]) (seqO (sSet 5 (ev2 (vr 4) (kd (.int 4)) modD)) (seqO (sSet 6 (Qo (ev2 (ev2 (vr 4) (kd (.int 4)) qY) (ev2 (evA (aC (vr 3) aN) lenD) (kd (.int 1)) qR) modD))) (seqO (sIf (tA (tV (ev2 (vr 5) (kd (.int 1)) eqD)) (tV (ev2 (evA (aC (vr 3) aN) lenD) (kd (.int 0)) gtD))) (zg 3 (ev2 (ev2 (evS (vr 3) oN (oS (vr 6))) (evA (aC (ev2 (vr 3) (ev2 (ev2 (vr 4) (kd (.int 28)) qY) (evA (aC (vr 3) aN) lenD) modD) ixD) aN) lstD) qR) (evS (vr 3) (oS (vr 6)) oN) catL)) sN) (seqO (sIf (tV (ev2 (vr 5) (kd (.int 2)) eqD)) (seqO (sSet 7 (evA (aC (ev2 (ev2 (ev2 (vr 2) (kd (.int 0)) ixD) (ev2 (ev2 (vr 4) (kd (.int 28)) qY) (kd (.int 9)) modD) qR) (kd (.int 4)) subD) (aC (ev2 (ev2 (ev2 (vr 2) (kd (.int 1)) ixD) (ev2 (ev2 (vr 4) (kd (.int 252)) qY) (kd (.int 9)) modD) qR) (kd (.int 4)) subD) (aC (ev2 (ev2 (ev2 (vr 2) (kd (.int 2)) ixD) (ev2 (ev2 (vr 4) (kd (.int 2268)) qY) (kd (.int 9)) modD) qR) (kd (.int 4)) subD) aN))) lstD)) (zg 3 (ev2 (ev2 (evS (vr 3) oN (oS (vr 6))) (evA (aC (evA (aC (vr 7) aN) zR) aN) lstD) qR) (evS (vr 3) (oS (vr 6)) oN) catL))) sN) (sIf (tA (tV (ev2 (vr 5) (kd (.int 3)) eqD)) (tV (ev2 (ev2 (ev2 (vr 4) (kd (.int 4)) qY) (kd (.int 3)) modD) (kd (.int 0)) eqD))) (sFor (evR (aC (ev2 (kd (.int 1)) (ev2 (ev2 (vr 4) (kd (.int 28)) qY) (kd (.int 54)) modD) qR) aN) Qp) (gNm 8) (sApp 3 (evA (aC (ev2 (ev2 (vr 2) (kd (.int 0)) ixD) (ev2 (vr 8) (kd (.int 7)) qY) qR) (aC (ev2 (ev2 (vr 2) (kd (.int 1)) ixD) (ev2 (vr 8) (kd (.int 7)) modD) qR) (aC (ev2 (ev2 (vr 2) (kd (.int 2)) ixD) (kd (.int 2)) subD) aN))) tupD))) sN)))))=some (.nx [o0,o1,some (.list [.int b.1,.int b.2.1,.int b.2.2]),some (.list (M'.map eS)),p4,p5,p6,p7,p8])/\(∀ c∈M',Nr b 9 c)/\M'.length<=M.length+54:=by
 have hm:modD (.int (x / 4)) (.int ((((M.map eS).length:Nat):Int)+1))=some (.int (x / 4 % ((M.length:Int)+1))):=by rw [Kh];exact jj _ (by omega)
 have hk:=U7 (x / 4) (b:=(M.length:Int)+1) (by omega)
 have c1:=wU eS M hk
 have c2:=qbC eS M hk
 have ht:=Ux (i:=(x / 4 % ((M.length:Int)+1)).toNat) (l:=M)
 have hdr:=UT (i:=(x / 4 % ((M.length:Int)+1)).toNat) (l:=M)
 have a1:∀ p:Sp,qR (.list ((M.take (x / 4 % ((M.length:Int)+1)).toNat).map eS)) (.list [eS p])=some (.list ((M.take (x / 4 % ((M.length:Int)+1)).toNat++[p]).map eS)):=fun p=>qda eS _ [p] (by rw [ht,Kv];omega)
 have a2:∀ p:Sp,catL (.list ((M.take (x / 4 % ((M.length:Int)+1)).toNat++[p]).map eS)) (.list ((M.drop (x / 4 % ((M.length:Int)+1)).toNat).map eS))=some (.list ((put M (x / 4 % ((M.length:Int)+1)).toNat p).map eS)):=fun p=>qfe eS _ _ (by rw [Kp,ht,hdr,Kv];omega)
 have near:∀ (k:Nat) (p:Sp),Nr b 9 p->(∀ c∈put M k p,Nr b 9 c)/\(put M k p).length<=M.length+54:=fun k p hp=>⟨fun c hc=>(qfX hc).elim (hM c) fun z=>z ▸ hp,by rw [qgw];omega⟩
 have four:x % 4=0\/x % 4=1\/x % 4=2\/x % 4=3:=by omega
 generalize (x / 4 % ((M.length:Int)+1))=at' at *
 rcases four with h|h|h|h
 ·refine ⟨M,some (.int x),some (.int 0),some (.int at'),o7,o8,?_,hM,by omega⟩
  simp_arith [h,hm,QQ]
 ·by_cases h0:0<M.length
  ·obtain ⟨y,hy,ey⟩:=qbF (x / 28) h0
   have e3:modD (.int (x / 28)) (.int (((M.map eS).length:Nat):Int))=some (.int (x / 28 % (M.length:Int))):=by rw [Kh];exact jj _ (by omega)
   have e4:atI (M.map eS) (x / 28 % (M.length:Int))=some (eS y):=Zm (U7 _ (by omega)) ey
   have e5:decide ((((M.map eS).length:Nat):Int) > 0)=true:=decide_eq_true (by rw [Kh];omega)
   obtain ⟨n1,n2⟩:=near at'.toNat y (hM y hy)
   refine ⟨put M at'.toNat y,some (.int x),some (.int 1),some (.int at'),o7,o8,?_,n1,n2⟩
   simp_arith [h,hm,QQ,e5,e3,e4,c1,c2,a1,a2]
  ·have e5:decide ((((M.map eS).length:Nat):Int) > 0)=false:=decide_eq_false (by rw [Kh];omega)
   refine ⟨M,some (.int x),some (.int 1),some (.int at'),o7,o8,?_,hM,by omega⟩
   simp_arith [h,hm,QQ,e5]
 ·obtain ⟨n1,n2⟩:=near at'.toNat (b.1+x / 28 % 9-4,b.2.1+x / 252 % 9-4,b.2.2+x / 2268 % 9-4) ⟨by dsimp only;omega,by dsimp only;omega,by dsimp only;omega⟩
  have a1:=a1 (b.1+x / 28 % 9-4,b.2.1+x / 252 % 9-4,b.2.2+x / 2268 % 9-4)
  have a2:=a2 (b.1+x / 28 % 9-4,b.2.1+x / 252 % 9-4,b.2.2+x / 2268 % 9-4)
  have a1:qR (.list ((M.take at'.toNat).map eS)) (.list [.tuple [.int (b.1+x / 28 % 9-4),.int (b.2.1+x / 252 % 9-4),.int (b.2.2+x / 2268 % 9-4)]])=_:=a1
  refine ⟨_,some (.int x),some (.int 2),some (.int at'),some (.list [.int (b.1+x / 28 % 9-4),.int (b.2.1+x / 252 % 9-4),.int (b.2.2+x / 2268 % 9-4)]),o8,?_,n1,n2⟩
  simp_arith [h,hm,QQ,c1,c2,a1,a2]
 ·by_cases h3:x / 4 % 3=0
  ·have hN:((1+x / 28 % 54).toNat:Nat)<=54:=by omega
   have hr:(if (-1000:Int)<=1+x / 28 % 54/\1+x / 28 % 54<=1000 then some (rngL 0 (1+x / 28 % 54).toNat) else none)=some ((KE (1+x / 28 % 54).toNat).map fun k:Nat=>Ky (k:Nat)):=by
    rw [if_pos (by omega),Zi]
   obtain ⟨ρ',el,M',o8',rfl,n1,n2⟩:=Qy (fun k:Nat=>Ky (k:Nat)) (g:=gNm 8) (u:=(sApp 3 (evA (aC (ev2 (ev2 (vr 2) (kd (.int 0)) ixD) (ev2 (vr 8) (kd (.int 7)) qY) qR) (aC (ev2 (ev2 (vr 2) (kd (.int 1)) ixD) (ev2 (vr 8) (kd (.int 7)) modD) qR) (aC (ev2 (ev2 (vr 2) (kd (.int 2)) ixD) (kd (.int 2)) subD) aN))) tupD)))
    (fun done ρ=>∃ (M':List Sp) (o8:Option Ka),ρ=[o0,o1,some (.list [.int b.1,.int b.2.1,.int b.2.2]),some (.list (M'.map eS)),some (.int x),some (.int 3),some (.int at'),o7,o8]/\(∀ c∈M',Nr b 9 c)/\M'.length=M.length+done.length) (KE (1+x / 28 % 54).toNat) [o0,o1,some (.list [.int b.1,.int b.2.1,.int b.2.2]),some (.list (M.map eS)),some (.int x),some (.int 3),some (.int at'),o7,o8] ⟨M,o8,rfl,hM,rfl⟩ (by
     rintro k hk done ρ hdl ⟨M',o8,rfl,n1,n2⟩
     have hk:=VL.mp hk
     rw [Vj] at hdl
     have hz:(M'.map eS).length<1000:=by rw [Kh];omega
     refine ⟨_,?_,M'++[(b.1+(k:Int) / 7,b.2.1+(k:Int) % 7,b.2.2-2)],some (.int (k:Nat)),rfl,fun c hc=>?_,by rw [Kp,Kp,n2];rfl⟩
     ·simp_arith [hz]
      simp only [VD,Kr,VF,eS]
     ·rcases KQ.mp hc with z|z
      ·exact n1 c z
      ·rw [KC.mp z];exact ⟨by dsimp only;omega,by dsimp only;omega,by dsimp only;omega⟩)
   rw [Vj] at n2
   refine ⟨M',some (.int x),some (.int 3),some (.int at'),o7,o8',?_,n1,by omega⟩
   simp_arith [h,hm,QQ,h3,hr,el]
  ·have h3:(x / 4 % 3==0)=false:=beq_eq_false_iff_ne.mpr h3
   refine ⟨M,some (.int x),some (.int 3),some (.int at'),o7,o8,?_,hM,by omega⟩
   simp_arith [h,hm,QQ,h3]
theorem qeP {b:Sp}{C:List Sp}(hC:∀ c∈C,Nr b 9 c)(hl:C.length<=6)(x y:Int):∃ D:List Sp,Qn [.list (C.map eS),.list [.int x,.int y],.list [.int b.1,.int b.2.1,.int b.2.2]]=some (.list (D.map eS))/\(∀ c∈D,Nr b 9 c)/\D.length<=60:=by
 obtain ⟨M1,o4,o5,o6,o7,o8,e1,n1,l1⟩:=qeQ hC (by omega) x (some (.list (C.map eS))) (some (.list [.int x,.int y])) none none none none none
 obtain ⟨M2,p4,p5,p6,p7,p8,e2,n2,l2⟩:=qeQ n1 (by omega) y (some (.list (C.map eS))) (some (.list [.int x,.int y])) o4 o5 o6 o7 o8
 have hc:=wU eS M2 (k:=60) (by decide)
 refine ⟨M2.take 60,?_,fun c h=>n2 c (Es h),by rw [Ux];omega⟩
 have el:forD (gNm 4) (seqO (sSet 5 (ev2 (vr 4) (kd (.int 4)) modD)) (seqO (sSet 6 (Qo (ev2 (ev2 (vr 4) (kd (.int 4)) qY) (ev2 (evA (aC (vr 3) aN) lenD) (kd (.int 1)) qR) modD))) (seqO (sIf (tA (tV (ev2 (vr 5) (kd (.int 1)) eqD)) (tV (ev2 (evA (aC (vr 3) aN) lenD) (kd (.int 0)) gtD))) (zg 3 (ev2 (ev2 (evS (vr 3) oN (oS (vr 6))) (evA (aC (ev2 (vr 3) (ev2 (ev2 (vr 4) (kd (.int 28)) qY) (evA (aC (vr 3) aN) lenD) modD) ixD) aN) lstD) qR) (evS (vr 3) (oS (vr 6)) oN) catL)) sN) (seqO (sIf (tV (ev2 (vr 5) (kd (.int 2)) eqD)) (seqO (sSet 7 (evA (aC (ev2 (ev2 (ev2 (vr 2) (kd (.int 0)) ixD) (ev2 (ev2 (vr 4) (kd (.int 28)) qY) (kd (.int 9)) modD) qR) (kd (.int 4)) subD) (aC (ev2 (ev2 (ev2 (vr 2) (kd (.int 1)) ixD) (ev2 (ev2 (vr 4) (kd (.int 252)) qY) (kd (.int 9)) modD) qR) (kd (.int 4)) subD) (aC (ev2 (ev2 (ev2 (vr 2) (kd (.int 2)) ixD) (ev2 (ev2 (vr 4) (kd (.int 2268)) qY) (kd (.int 9)) modD) qR) (kd (.int 4)) subD) aN))) lstD)) (zg 3 (ev2 (ev2 (evS (vr 3) oN (oS (vr 6))) (evA (aC (evA (aC (vr 7) aN) zR) aN) lstD) qR) (evS (vr 3) (oS (vr 6)) oN) catL))) sN) (sIf (tA (tV (ev2 (vr 5) (kd (.int 3)) eqD)) (tV (ev2 (ev2 (ev2 (vr 4) (kd (.int 4)) qY) (kd (.int 3)) modD) (kd (.int 0)) eqD))) (sFor (evR (aC (ev2 (kd (.int 1)) (ev2 (ev2 (vr 4) (kd (.int 28)) qY) (kd (.int 54)) modD) qR) aN) Qp) (gNm 8) (sApp 3 (evA (aC (ev2 (ev2 (vr 2) (kd (.int 0)) ixD) (ev2 (vr 8) (kd (.int 7)) qY) qR) (aC (ev2 (ev2 (vr 2) (kd (.int 1)) ixD) (ev2 (vr 8) (kd (.int 7)) modD) qR) (aC (ev2 (ev2 (vr 2) (kd (.int 2)) ixD) (kd (.int 2)) subD) aN))) tupD))) sN))))) [.int x,.int y] [some (.list (C.map eS)),some (.list [.int x,.int y]),some (.list [.int b.1,.int b.2.1,.int b.2.2]),some (.list (C.map eS)),none,none,none,none,none]=some (.nx [some (.list (C.map eS)),some (.list [.int x,.int y]),some (.list [.int b.1,.int b.2.1,.int b.2.2]),some (.list (M2.map eS)),p4,p5,p6,p7,p8]):=by
  rw [JH,e1,Ja,JH,e2,Ja]
  rfl
 simp only [Qn,Zy]
 simp_arith [-L2.JH,el,hc]
theorem qf9 {cs:List Sp}(hl:cs.length<=6)(c:Int)(o0 o1 o5 o6:Option Ka):∃ (R:Ka) (ds:List Sp),(QF 7 (evR (aC (evA (aC (vr 3) aN) lenD) aN) Qp) tT (evA (aC (evC 2 (aC (vr 2) (aC (vr 7) aN)) zL) (aC (vr 7) aN)) tupD)) [o0,o1,some (.int c),some (.list (cs.map eS)),none,o5,o6]=some R/\
  (QM (QF 7 (evI (evA (aC (vr 4) aN) zA) seqD) tT (ev2 (vr 3) (ev2 (vr 7) (kd (.int 1)) ixD) ixD))) [o0,o1,some (.int c),some (.list (cs.map eS)),some R,o5,o6]=some (.list (ds.map eS))/\ds.length=cs.length/\∀ d∈ds,d∈cs:=by
 have hv:∀ k:Nat,∃ v:Int,k<cs.length->zL [.int c,.int (k:Nat)]=some (.int v):=fun k=>by
  by_cases h:k<cs.length
  ·obtain ⟨v,e⟩:=qfY c (k:=(k:Nat)) (by omega) (by omega)
   exact ⟨v,fun _=>e⟩
  ·exact ⟨0,fun z=>absurd z h⟩
 obtain ⟨m,hm⟩:=Classical.axiomOfChoice hv
 have r1:Ql tT (evA (aC (evC 2 (aC (vr 2) (aC (vr 7) aN)) zL) (aC (vr 7) aN)) tupD) [o0,o1,some (.int c),some (.list (cs.map eS)),none,o5,o6] ((KE cs.length).map fun k:Nat=>Ky (k:Nat))=some (((KE cs.length).map fun k=>(m k,(k:Int))).map eC):=by
  rw [VG]
  refine jw (fun k:Nat=>Ky (k:Nat)) (eC ∘ fun k=>(m k,(k:Int))) (KE cs.length) fun k hk=>?_
  have:=hm k (VL.mp hk)
  simp_arith [this]
  rfl
 have hr:(if (-1000:Int)<=(((cs.map eS).length:Nat):Int)/\(((cs.map eS).length:Nat):Int)<=1000 then some (rngL 0 ((((cs.map eS).length:Nat):Int)).toNat) else none)=some ((KE cs.length).map fun k:Nat=>Ky (k:Nat)):=by
  rw [Kh,if_pos (by omega),K9,Zi]
 have hz:((KE cs.length).map fun k:Nat=>Ky (k:Nat)).length<=1000:=by rw [Kh,Vj];omega
 obtain ⟨ys,es,p,_⟩:=qc2 (xs:=(KE cs.length).map fun k=>(m k,(k:Int))) (by rw [Kh,Vj];omega)
 have pick:∀ y∈ys,∃ d∈cs,atI (cs.map eS) y.2=some (eS d):=fun y hy=>by
  obtain ⟨k,hk,rfl⟩:=VB.mp (p.mem_iff.mp hy)
  exact qdb eS hk
 have pick':∀ y:Ce,∃ d:Sp,y∈ys->d∈cs/\atI (cs.map eS) y.2=some (eS d):=fun y=>by
  by_cases h:y∈ys
  ·obtain ⟨d,h1,h2⟩:=pick y h
   exact ⟨d,fun _=>⟨h1,h2⟩⟩
  ·exact ⟨(0,0,0),fun z=>absurd z h⟩
 obtain ⟨f,hf⟩:=Classical.axiomOfChoice pick'
 have hyl:ys.length=cs.length:=by rw [p.length_eq,Kh,Vj]
 refine ⟨.list (((KE cs.length).map fun k=>(m k,(k:Int))).map eC),ys.map f,?_,?_,by rw [Kh,hyl],fun d hd=>?_⟩
 ·simp_arith [hr,hz,r1]
 ·have r2:Ql tT (ev2 (vr 3) (ev2 (vr 7) (kd (.int 1)) ixD) ixD) [o0,o1,some (.int c),some (.list (cs.map eS)),some (.list (((KE cs.length).map fun k=>(m k,(k:Int))).map eC)),o5,o6] (ys.map eC)=some ((ys.map f).map eS):=by
   rw [VG (l:=ys)]
   refine jw eC (eS ∘ f) ys fun y hy=>?_
   have h:=(hf y hy).2
   simp_arith [ixc1,h]
   rfl
  have hz2:(ys.map eC).length<=1000:=by rw [Kh,hyl];omega
  have hfo:=W9 (ys.map f)
  simp_arith [es,hz2,r2,hfo]
 ·obtain ⟨y,hy,rfl⟩:=VB.mp hd
  exact (hf y hy).1
theorem ZF {α:Type}(enc:α->Ka){g:Ka->Rho->Option Rho}{u:Rho->Option Out}(p:α->Bool)(r:α->Ka)(I:Rho->Prop):∀ (as:List α) (ρ:Rho),I ρ->(∀ a∈as,∀ ρ,I ρ->(p a=true->ob (g (enc a) ρ) u=some (.rt (r a)))/\(p a=false->∃ ρ',ob (g (enc a) ρ) u=some (.nx ρ')/\I ρ'))->
  (∀ a,as.find? p=some a->forD g u (as.map enc) ρ=some (.rt (r a)))/\(as.find? p=none->∃ ρ',forD g u (as.map enc) ρ=some (.nx ρ')/\I ρ')
 | [],ρ,h,_=>⟨(fun a z=>by cases z),fun _=>⟨ρ,rfl,h⟩⟩
 | a::as,ρ,h,st=>by
  obtain ⟨s1,s2⟩:=st a (.head _) ρ h
  rw [Kr,JH,VP]
  cases e:p a with
  | true =>
   rw [s1 e,qbL]
   exact ⟨(fun b z=>by cases z;rfl),(fun z=>by cases z)⟩
  | false =>
   obtain ⟨ρ1,e1,i1⟩:=s2 e
   rw [e1,Ja]
   exact ZF enc p r I as ρ1 i1 fun x hx=>st x (.tail _ hx)
abbrev RisP (S:List Sp):Prop:=(S.map l3).Pairwise (fun a b=>HT.lexLt b a=false)
def tw:List Sp->Option Sp
 | a::b::r=>if a=b then some a else tw (b::r)
 | _=>none
theorem anti {a b:Sp}(h1:HT.lexLt (l3 a) (l3 b)=false)(h2:HT.lexLt (l3 b) (l3 a)=false):a=b:=by
 rw [qbU] at h1 h2
 exact qhC ((qgE qcd).tri _ _ h1 h2)
theorem jz {α:Type}{p q:α->Bool}:∀ {l:List α},(∀ x∈l,p x=q x)->l.find? p=l.find? q
 | [],_=>rfl
 | a::l,h=>by
  rw [VP,VP,h a (.head _),jz fun x hx=>h x (.tail _ hx)]
theorem yw:∀ S:List Sp,RisP S->S.find? (fun c=>decide (1<S.count c))=tw S
 | [],_=>rfl
 | [a],_=>by
  rw [VP]
  have:decide (1<[a].count a)=false:=by rw [Xj];rfl
  rw [this];rfl
 | a::b::r,h=>by
  have h':RisP (b::r):=by
   have:((b::r).map l3).Pairwise (fun a b=>HT.lexLt b a=false):=(Ng.mp h).2
   exact this
  rw [VP]
  by_cases e:a=b
  ·subst e
   have:decide (1<(a::a::r).count a)=true:=decide_eq_true (by rw [Xj,Xj];omega)
   rw [this]
   show some a=(if a=a then some a else _)
   rw [if_pos rfl]
  ·have hn:a∉b::r:=fun z=>by
    rcases Kq.mp z with z|z
    ·exact e z
    ·refine e (anti ?_ ?_)
     ·exact (Ng.mp h').1 _ (VB.mpr ⟨a,z,rfl⟩)
     ·exact (Ng.mp h).1 _ (VB.mpr ⟨b,.head _,rfl⟩)
   have h1:decide (1<(a::b::r).count a)=false:=decide_eq_false (by rw [Xj,List.count_eq_zero.mpr hn];omega)
   rw [h1]
   show _=(if a=b then some a else tw (b::r))
   rw [if_neg e,← yw (b::r) h']
   refine jz fun c hc=>?_
   have:a≠c:=fun z=>hn (z ▸ hc)
   rw [List.count_cons_of_ne this]
theorem qe2:∀ S:List Sp,((S.zip (S.drop 1)).find? fun p=>decide (p.1=p.2)).map (·.1)=tw S
 | []=>rfl
 | [_]=>rfl
 | a::b::r=>by
  show (((a,b)::((b::r).zip ((b::r).drop 1))).find? fun p=>decide (p.1=p.2)).map (·.1)=(if a=b then some a else tw (b::r))
  rw [VP]
  by_cases e:a=b
  ·rw [if_pos e]
   dsimp only
   rw [decide_eq_true e];rfl
  ·rw [if_neg e,← qe2 (b::r)]
   dsimp only
   rw [decide_eq_false e]
theorem qgI:∀ S:List Sp,RisP S->tw S=none->S.Nodup:=fun S h e=>by
 rw [← yw S h,Nh] at e
 exact List.nodup_iff_count.mpr fun a=>by
  by_cases ha:a∈S
  ·have:=e a ha
   simp only [decide_eq_true_eq] at this
   omega
  ·rw [List.count_eq_zero.mpr ha];omega
def oD (f:Sp->Ka):Option Sp->Ka
 | some z=>f z
 | none=>.none
theorem qgJ {C S:List Sp}(hs:zA [.list (C.map eS)]=some (.list (S.map eS)))(hl:S.length<=900):zf [.list (C.map eS)]=some (oD eS (tw S)):=by
 have sl:=qbC eS S (k:=1) (by decide)
 have sl:sliD (.list (S.map eS)) (some 1) none=some (.list ((S.drop 1).map eS)):=sl
 have hz:=qci eS eS S (S.drop 1)
 obtain ⟨f1,f2⟩:=ZF (fun p:Sp×Sp=>Vh [eS p.1,eS p.2]) (g:=unpD 2 (gsC (gNm 2) (gsC (gNm 3) gsN))) (u:=(sIf (tV (ev2 (vr 2) (vr 3) eqD)) (sRet (vr 2)) sN)) (fun p=>decide (p.1=p.2)) (fun p=>eS p.1)
  (fun ρ=>∃ o2 o3:Option Ka,ρ=[some (.list (C.map eS)),some (.list (S.map eS)),o2,o3]) (S.zip (S.drop 1)) [some (.list (C.map eS)),some (.list (S.map eS)),none,none] ⟨none,none,rfl⟩ (by
   rintro ⟨a,b⟩ ha ρ ⟨o2,o3,rfl⟩
   refine ⟨fun h=>?_,fun h=>⟨_,?_,some (eS a),some (eS b),rfl⟩⟩
   ·simp_arith [qbG,h]
   ·simp_arith [qbG,h])
 rw [← qe2]
 simp only [zf,ZC]
 cases e:(S.zip (S.drop 1)).find? fun p=>decide (p.1=p.2) with
 | some p =>
  have:=f1 p e
  simp_arith [hs,sl,hz,this]
  rfl
 | none =>
  obtain ⟨ρ',e1,o2,o3,rfl⟩:=f2 e
  simp_arith [hs,sl,hz,e1]
  rfl
theorem qdt (C:List Sp)(c:Sp):jy (.list (C.map eS)) (eS c)=some (.int (C.count c:Nat)):=by
 show (if inOk (C.map eS) (eS c)=true then some (Ky ((C.map eS).countP fun y=>Kz y (eS c):Nat)) else none)=_
 rw [if_pos (Wb C c),List.countP_map]
 congr 3
 unfold List.count
 refine List.countP_congr fun x _=>?_
 show Kz (eS x) (eS c)=true↔(x==c)=true
 rw [yN,decide_eq_true_iff,beq_iff_eq]
def farV (a b:Sp):Int:=((a.1-b.1).natAbs:Int)+((a.2.1-b.2.1).natAbs:Int)+((a.2.2-b.2.2).natAbs:Int)
theorem abs_n (i:Int):absD [.int i]=some (.int (i.natAbs:Nat)):=by
 rw [qaF]
 congr 2
 split<;>omega
theorem far21 (a b:Sp):zP [eS a,eS b]=some (.int (farV a b)):=by
 simp only [zP,jK]
 simp_arith [-L2.qaF,ixe0,ixe1,ixe2,abs_n]
 rw [Int.zero_add]
 rfl
theorem qbK (a b:Sp):farV a b=farV b a:=by unfold farV;omega
theorem qfv {a b:Sp}(h:a≠b):1<=farV a b:=by
 obtain ⟨a1,a2,a3⟩:=a
 obtain ⟨b1,b2,b3⟩:=b
 unfold farV
 by_cases h1:a1=b1
 ·by_cases h2:a2=b2
  ·by_cases h3:a3=b3
   ·exact absurd (by rw [h1,h2,h3]) h
   ·dsimp only;omega
  ·dsimp only;omega
 ·dsimp only;omega
def stL (lot:List Sp)(c:Sp):List Sp:=if c∈lot then lot else if lot.any (fun a=>decide (farV c a=1))=true then lot++[c] else lot
def rnd (S lot:List Sp):List Sp:=S.foldl stL lot
def Clo (S lot:List Sp):Prop:=∀ a∈lot,∀ b∈S,farV b a=1->b∈lot
theorem ZJ (lot:List Sp)(c:Sp):stL lot c=lot/\(c∈lot\/∀ a∈lot,farV c a≠1)\/(stL lot c=lot++[c]/\c∉lot/\∃ a∈lot,farV c a=1):=by
 unfold stL
 by_cases h:c∈lot
 ·exact .inl ⟨if_pos h,.inl h⟩
 ·rw [if_neg h]
  cases e:lot.any (fun a=>decide (farV c a=1)) with
  | true =>
   obtain ⟨a,ha,h1⟩:=Xi.mp e
   exact .inr ⟨if_pos rfl,h,a,ha,of_decide_eq_true h1⟩
  | false=>exact .inl ⟨if_neg (by decide),.inr fun a ha z=>by rw [List.any_eq_false] at e;exact e a ha (decide_eq_true z)⟩
theorem qca {S lot:List Sp}{P:Sp->Prop}(h0:∀ c∈lot,P c)(hP:∀ a b,b∈S->P a->farV b a=1->P b):∀ c∈rnd S lot,P c:=by
 unfold rnd
 induction S generalizing lot with
 | nil=>exact h0
 | cons s S ih =>
  refine ih (fun c hc=>?_) fun a b hb=>hP a b (.tail _ hb)
  rcases ZJ lot s with ⟨e,_⟩|⟨e,_,a,ha,h1⟩
  ·rw [e] at hc;exact h0 c hc
  ·rw [e] at hc
   rcases KQ.mp hc with z|z
   ·exact h0 c z
   ·rw [KC.mp z];exact hP a s (.head _) (h0 a ha) h1
theorem qeG (S:List Sp):∀ lot:List Sp,lot.length<=(rnd S lot).length/\(∀ c∈lot,c∈rnd S lot)/\(lot.Nodup->(rnd S lot).Nodup):=by
 induction S with
 | nil=>intro lot;exact ⟨Km _,fun c h=>h,fun h=>h⟩
 | cons s S ih =>
  intro lot
  obtain ⟨i1,i2,i3⟩:=ih (stL lot s)
  show _<=(rnd S (stL lot s)).length/\(∀ c∈lot,c∈rnd S (stL lot s))/\(_->(rnd S (stL lot s)).Nodup)
  rcases ZJ lot s with ⟨e,_⟩|⟨e,hn,_⟩
  ·rw [e] at i1 i2 i3 ⊢;exact ⟨i1,i2,i3⟩
  ·rw [e] at i1 i2 i3 ⊢
   rw [Kp,Kv] at i1
   refine ⟨by omega,fun c hc=>i2 c (Vm _ hc),fun h=>i3 (List.nodup_append.mpr ⟨h,by simp,fun a ha y hy z=>?_⟩)⟩
   rw [KC.mp hy] at z
   exact hn (z ▸ ha)
theorem qgA (S:List Sp):∀ lot:List Sp,(rnd S lot).length<=lot.length->∀ s∈S,s∈lot\/∀ a∈lot,farV s a≠1:=by
 induction S with
 | nil=>intro _ _ s hs;cases hs
 | cons c S ih =>
  intro lot h
  have h:(rnd S (stL lot c)).length<=lot.length:=h
  have g:=(qeG S (stL lot c)).1
  rcases ZJ lot c with ⟨e,q⟩|⟨e,_⟩
  ·rw [e] at h g
   intro s hs
   rcases Kq.mp hs with rfl|hs
   ·exact q
   ·exact ih lot h s hs
  ·rw [e] at h g
   rw [Kp,Kv] at g
   omega
theorem qaA {S0 lot:List Sp}(h:Clo S0 lot):∀ S:List Sp,(∀ s∈S,s∈S0)->rnd S lot=lot
 | [],_=>rfl
 | c::S,hs=>by
  show rnd S (stL lot c)=lot
  have:stL lot c=lot:=by
   rcases ZJ lot c with ⟨e,_⟩|⟨_,hn,a,ha,h1⟩
   ·exact e
   ·exact absurd (h a ha c (hs c (.head _)) h1) hn
  rw [this]
  exact qaA h S fun s h=>hs s (.tail _ h)
def lotN (S:List Sp)(z:Sp):Nat->List Sp
 | 0=>[z]
 | n+1=>rnd S (lotN S z n)
theorem sub_len:∀ {lot S:List Sp},lot.Nodup->(∀ c∈lot,c∈S)->lot.length<=S.length
 | [],_,_,_=>Vz _
 | a::l,S,hn,hs=>by
  obtain ⟨n1,n2⟩:=Xq.mp hn
  have ha:=hs a (.head _)
  have:=sub_len (S:=S.erase a) n2 fun c hc=>(List.mem_erase_of_ne (fun z:c=a=>n1 (z ▸ hc))).mpr (hs c (.tail _ hc))
  rw [List.length_erase_of_mem ha] at this
  have:=List.length_pos_of_mem ha
  rw [KM]
  omega
theorem Wo {S:List Sp}{z:Sp}(hz:z∈S)(n:Nat):(lotN S z n).Nodup/\(∀ c∈lotN S z n,c∈S)/\z∈lotN S z n/\(∀ P:Sp->Prop,P z->(∀ a b,b∈S->P a->farV b a=1->P b)->∀ c∈lotN S z n,P c)/\(Clo S (lotN S z n)\/n+1<=(lotN S z n).length):=by
 induction n with
 | zero=>exact ⟨by simp [lotN],fun c hc=>by rw [KC.mp hc];exact hz,.head _,fun P h _ c hc=>by rw [KC.mp hc];exact h,.inr (Km _)⟩
 | succ n ih =>
  obtain ⟨h1,h2,h3,h4,h5⟩:=ih
  obtain ⟨g1,g2,g3⟩:=qeG S (lotN S z n)
  refine ⟨g3 h1,qca h2 fun a b hb _ _=>hb,g2 z h3,fun P p0 hP=>qca (h4 P p0 hP) hP,?_⟩
  show Clo S (rnd S (lotN S z n))\/n+1+1<=(rnd S (lotN S z n)).length
  by_cases hc:Clo S (lotN S z n)
  ·rw [qaA hc S fun s h=>h];exact .inl hc
  ·by_cases hl:(rnd S (lotN S z n)).length<=(lotN S z n).length
   ·exact absurd (fun a ha b hb hf=>(qgA S _ hl b hb).elim id fun q=>absurd hf (q a ha)) hc
   ·rcases h5 with h5|h5
    ·exact absurd h5 hc
    ·exact .inr (by omega)
theorem qfV {S:List Sp}{z:Sp}(hz:z∈S):Clo S (lotN S z S.length):=by
 obtain ⟨h1,h2,_,_,h5⟩:=Wo hz S.length
 rcases h5 with h5|h5
 ·exact h5
 ·have:=sub_len h1 h2
  omega
theorem qgO (a b:Sp):ZQ [eS a,eS b]=some (eS (a.1+b.1,a.2.1+b.2.1,a.2.2+b.2.2)):=by
 simp only [ZQ,WN]
 simp_arith [ixe0,ixe1,ixe2]
 rfl
theorem qgW (a:Sp):QG [eS a]=some (eS (-a.1,-a.2.1,-a.2.2)):=by
 simp only [QG,JZ]
 simp_arith [ixe0,ixe1,ixe2]
 rfl
def unL:List Sp:=[(-1,0,0),(0,-1,0),(0,0,-1),(0,0,1),(0,1,0),(1,0,0)]
theorem one3 {x y z:Int}:(x,y,z)∈unL↔(x.natAbs:Int)+(y.natAbs:Int)+(z.natAbs:Int)=1:=by
 unfold unL
 simp only [Kq,V1,or_false,Prod.mk.injEq]
 refine ⟨fun h=>?_,fun h=>?_⟩
 ·rcases h with ⟨rfl,rfl,rfl⟩|⟨rfl,rfl,rfl⟩|⟨rfl,rfl,rfl⟩|⟨rfl,rfl,rfl⟩|⟨rfl,rfl,rfl⟩|⟨rfl,rfl,rfl⟩<;>rfl
 ·by_cases h1:x=0
  ·by_cases h2:y=0
   ·by_cases h3:z=1
    ·exact .inr (.inr (.inr (.inl ⟨h1,h2,h3⟩)))
    ·exact .inr (.inr (.inl ⟨h1,h2,by omega⟩))
   ·by_cases h3:y=1
    ·exact .inr (.inr (.inr (.inr (.inl ⟨h1,h3,by omega⟩))))
    ·exact .inr (.inl ⟨h1,by omega,by omega⟩)
  ·by_cases h2:x=1
   ·exact .inr (.inr (.inr (.inr (.inr ⟨h2,by omega,by omega⟩))))
   ·exact .inl ⟨by omega,by omega,by omega⟩
theorem in_un (z:Sp):inD (eS z) Zo=some (.bool (decide (z∈unL))):=by
 have e:Zo=.tuple (unL.map eS):=rfl
 rw [e]
 show (if inOk (unL.map eS) (eS z)=true then some (N9 (inL (unL.map eS) (eS z))) else none)=_
 rw [Wb,qdJ]
 rfl
theorem qiG (a b:Sp):inD (eS (b.1 + -a.1,b.2.1 + -a.2.1,b.2.2 + -a.2.2)) Zo=some (.bool (decide (farV b a=1))):=by
 rw [in_un]
 congr 2
 exact decide_eq_decide.mpr one3
def AdjI (S:List Sp)(i j:Nat):Prop:=∃ a b,S[i]?=some a/\S[j]?=some b/\farV b a=1
theorem at21 {S:List Sp}{i:Nat}{a:Sp}(h:S[i]?=some a):atI (S.map eS) ((i:Nat):Int)=some (eS a):=Zm (by omega) (by rw [K9];exact h)
theorem qgb {S:List Sp}(hl:S.length<=6):∃ J:List Ce,zu [.list (S.map eS)]=some (.list (J.map eC))/\J.length<=100/\(∀ t∈J,∃ i j:Nat,t=((i:Int),(j:Int))/\i<j/\AdjI S i j)/\∀ i j:Nat,i<j->AdjI S i j->((i:Int),(j:Int))∈J:=by
 have hr0:(if (-1000:Int)<=(((S.map eS).length:Nat):Int)/\(((S.map eS).length:Nat):Int)<=1000 then some (rngL 0 ((((S.map eS).length:Nat):Int)).toNat) else none)=some ((KE S.length).map fun k:Nat=>Ky (k:Nat)):=by
  rw [Kh,if_pos (by omega),K9,Zi]
 obtain ⟨ρ',el,J,o2,o3,rfl,l1,sd,cp⟩:=Qy (fun k:Nat=>Ky (k:Nat)) (g:=gNm 2) (u:=(sFor (evR (aC (vr 2) aN) Qp) (gNm 3) (sIf (tV (ev2 (evC 2 (aC (ev2 (vr 0) (vr 2) ixD) (aC (evC 1 (aC (ev2 (vr 0) (vr 3) ixD) aN) QG) aN)) ZQ) (kd Zo) inD)) (sApp 1 (evA (aC (vr 3) (aC (vr 2) aN)) tupD)) sN)))
  (fun done ρ=>∃ (J:List Ce) (o2 o3:Option Ka),ρ=[some (.list (S.map eS)),some (.list (J.map eC)),o2,o3]/\J.length<=6*done.length/\(∀ t∈J,∃ i j:Nat,t=((i:Int),(j:Int))/\i<j/\AdjI S i j)/\∀ j∈done,∀ i:Nat,i<j->AdjI S i j->((i:Int),(j:Int))∈J) (KE S.length) [some (.list (S.map eS)),some (.list []),none,none] ⟨[],none,none,rfl,Vz _,(fun t ht=>by cases ht),(fun j hj=>by cases hj)⟩ (by
   rintro j hj done ρ hdl ⟨J,o2,o3,rfl,l1,sd,cp⟩
   rw [Vj] at hdl
   have hj:=VL.mp hj
   have hr:(if (-1000:Int)<=((j:Nat):Int)/\((j:Nat):Int)<=1000 then some (rngL 0 (((j:Nat):Int)).toNat) else none)=some ((KE j).map fun k:Nat=>Ky (k:Nat)):=by
    rw [if_pos (by omega),K9,Zi]
   have eb:=Kj hj
   have ab:=at21 eb
   generalize S[j]=b at eb ab
   obtain ⟨ρ1,el,J1,o3',rfl,k1,k2,k3,k4⟩:=Qy (fun k:Nat=>Ky (k:Nat)) (g:=gNm 3) (u:=(sIf (tV (ev2 (evC 2 (aC (ev2 (vr 0) (vr 2) ixD) (aC (evC 1 (aC (ev2 (vr 0) (vr 3) ixD) aN) QG) aN)) ZQ) (kd Zo) inD)) (sApp 1 (evA (aC (vr 3) (aC (vr 2) aN)) tupD)) sN))
    (fun done ρ=>∃ (J1:List Ce) (o3:Option Ka),ρ=[some (.list (S.map eS)),some (.list (J1.map eC)),some (.int (j:Nat)),o3]/\J1.length<=J.length+done.length/\(∀ t∈J1,∃ i j:Nat,t=((i:Int),(j:Int))/\i<j/\AdjI S i j)/\(∀ t∈J,t∈J1)/\∀ i∈done,AdjI S i j->((i:Int),(j:Int))∈J1) (KE j) [some (.list (S.map eS)),some (.list (J.map eC)),some (.int (j:Nat)),o3] ⟨J,o3,rfl,Km _,sd,fun t h=>h,(fun i hi=>by cases hi)⟩ (by
     rintro i hi done1 ρ hd1 ⟨J1,o3,rfl,k1,k2,k3,k4⟩
     rw [Vj] at hd1
     have hi:=VL.mp hi
     have ea:=Kj (show i<S.length by omega)
     have aa:=at21 ea
     generalize S[i]=a at ea aa
     have hu:=qiG a b
     by_cases h:farV b a=1
     ·have hz:(J1.map eC).length<1000:=by rw [Kh];omega
      rw [decide_eq_true h] at hu
      refine ⟨_,?_,J1++[((i:Int),(j:Int))],some (.int (i:Nat)),rfl,by rw [Kp,Kp,Kv,Kv];omega,fun t ht=>?_,fun t ht=>Vm _ (k3 t ht),fun i' hi' ha=>?_⟩
      ·simp_arith [ab,aa,qgW,qgO,hu,hz]
       simp only [VD,Kr,VF,eC]
      ·rcases KQ.mp ht with z|z
       ·exact k2 t z
       ·exact ⟨i,j,KC.mp z,hi,a,b,ea,eb,h⟩
      ·rcases KQ.mp hi' with z|z
       ·exact Vm _ (k4 i' z ha)
       ·rw [KC.mp z];exact KP _ (.head _)
     ·rw [decide_eq_false h] at hu
      refine ⟨_,?_,J1,some (.int (i:Nat)),rfl,by rw [Kp,Kv];omega,k2,k3,fun i' hi' ha=>?_⟩
      ·simp_arith [ab,aa,qgW,qgO,hu]
      ·rcases KQ.mp hi' with z|z
       ·exact k4 i' z ha
       ·obtain ⟨a',b',e1,e2,h'⟩:=ha
        rw [KC.mp z,ea] at e1
        rw [eb] at e2
        cases e1;cases e2
        exact absurd h' h)
   rw [Vj] at k1
   refine ⟨_,?_,J1,some (.int (j:Nat)),o3',rfl,by rw [Kp,Kv];omega,k2,fun j' hj' i hij ha=>?_⟩
   ·simp_arith [hr,el]
   ·rcases KQ.mp hj' with z|z
    ·exact k3 _ (cp j' z i hij ha)
    ·rw [KC.mp z] at hij ha ⊢;exact k4 i (VL.mpr hij) ha)
 rw [Vj] at l1
 refine ⟨J,?_,by omega,sd,fun i j hij ha=>?_⟩
 ·simp only [zu,ZZ]
  simp_arith [hr0,el]
 ·have hj:j<S.length:=by
   obtain ⟨_,b,_,e,_⟩:=ha
   exact (KL.mp e).1
  exact cp j (VL.mpr hj) i hij ha
theorem qc8 {LL:List (List Int)}{i j x y:Int}{l:List Int}(h0:0<=i)(j0:0<=j)(e:LL[i.toNat]?=some l)(h:In (LL.set i.toNat (l++[x])) j y):In LL j y\/(j=i/\y=x):=by
 obtain ⟨q,hq,hy⟩:=h
 by_cases hj:i.toNat=j.toNat
 ·obtain ⟨hlt,_⟩:=KL.mp e
  rw [← hj,Va hlt] at hq
  cases hq
  rcases KQ.mp hy with z|z
  ·exact .inl ⟨l,by rw [← hj];exact e,z⟩
  ·exact .inr ⟨by omega,KC.mp z⟩
 ·rw [Vw hj] at hq
  exact .inl ⟨q,hq,hy⟩
theorem qfQ {n:Nat}(hn:n<=100){J:List Ce}(hJ:∀ t∈J,(0<=t.1/\t.1<(n:Int))/\0<=t.2/\t.2<(n:Int))(hl:J.length<=100):∃ LL:List (List Int),Q7 [.int (n:Nat),.list (J.map eC)]=some (eL LL)/\Lk n 900 LL/\(∀ t∈J,In LL t.1 t.2/\In LL t.2 t.1)/\∀ i x,0<=i->In LL i x->∃ t∈J,(t.1=i/\t.2=x)\/(t.2=i/\t.1=x):=by
 have hv:∀ o1 o2 o3:Option Ka,qbB 4 1 (evR (aC (vr 0) aN) Qp) (gNm 4) tT (evA aN lstD) [some (.int (n:Nat)),o1,o2,o3]=some (eL ((KE n).map fun _=>[])):=fun o1 o2 o3=>by
  have hc:Qm 1 (gNm 4) tT (evA aN lstD) [some (.int (n:Nat)),o1,o2,o3] ((KE n).map fun k:Nat=>Ky (k:Nat))=some ((KE n).map fun _=>.list []) :=
   YS (fun k:Nat=>Ky (k:Nat)) _ (KE n) fun a _=>by simp_arith []
  have hr:(if (-1000:Int)<=((n:Nat):Int)/\((n:Nat):Int)<=1000 then some (rngL 0 (((n:Nat):Int)).toNat) else none)=some ((KE n).map fun k:Nat=>Ky (k:Nat)):=by
   rw [if_pos (by omega),K9,Zi]
  have hlen:((KE n).map fun k:Nat=>Ky (k:Nat)).length<=1000:=by rw [Kh,Vj];omega
  have hg:Zn 4 1 (evR (aC (vr 0) aN) Qp) (gNm 4) tT (evA aN lstD) [some (.int (n:Nat)),o1,o2,o3]=some (.list ((KE n).map fun _=>.list [])):=by
   simp_arith [hr,hlen,hc]
  show ob (Zn 4 1 (evR (aC (vr 0) aN) Qp) (gNm 4) tT (evA aN lstD) [some (.int (n:Nat)),o1,o2,o3]) _=_
  rw [hg,ob_s]
  show (if ((KE n).map fun _=>Um []).all qbN=true then some (Um ((KE n).map fun _=>Um [])) else none)=_
  rw [if_pos (by rw [NW];exact KR.mpr fun _ _=>rfl)]
  unfold eL
  rw [VG]
  rfl
 obtain ⟨ρ',el,LL,o3,rfl,lk,hin,hno⟩:=Qy eC (g:=gNm 3) (u:=(seqO (Yq 2 (ev2 (vr 3) (kd (.int 0)) ixD) (ev2 (vr 3) (kd (.int 1)) ixD)) (Yq 2 (ev2 (vr 3) (kd (.int 1)) ixD) (ev2 (vr 3) (kd (.int 0)) ixD))))
  (fun done ρ=>∃ (LL:List (List Int)) (o3:Option Ka),ρ=[some (.int (n:Nat)),some (.list (J.map eC)),some (eL LL),o3]/\Lk n (2*done.length) LL/\(∀ t∈done,In LL t.1 t.2/\In LL t.2 t.1)/\∀ i x,0<=i->In LL i x->∃ t∈done,(t.1=i/\t.2=x)\/(t.2=i/\t.1=x)) J [some (.int (n:Nat)),some (.list (J.map eC)),some (eL ((KE n).map fun _=>[])),none] ⟨_,none,rfl,⟨by rw [Kh,Vj],fun l hl=>by obtain ⟨_,_,rfl⟩:=VB.mp hl;exact ⟨Vz _,fun x hx=>by cases hx⟩⟩,(fun t ht=>by cases ht),fun i x _ ⟨l,e,hx⟩=>by
   obtain ⟨_,_,rfl⟩:=VB.mp (KO e)
   cases hx⟩ (by
   rintro t ht done ρ hdl ⟨LL,o3,rfl,lk,hin,hno⟩
   obtain ⟨⟨a0,a1⟩,b0,b1⟩:=hJ t ht
   obtain ⟨l,e1,ml⟩:=lk.at a0 a1
   have hl1:=(lk.bd l ml).1
   obtain ⟨lk2,in2,mono2⟩:=lk.add a0 e1 b0 b1
   obtain ⟨l2,e2,ml2⟩:=lk2.at b0 b1
   have hl2:=(lk2.bd l2 ml2).1
   obtain ⟨lk3,in3,mono3⟩:=lk2.add b0 e2 a0 a1
   have k1:=qdO (x:=t.2) a0 e1 (by omega)
   have k2:=qdO (x:=t.1) b0 e2 (by omega)
   refine ⟨_,?_,_,some (eC t),rfl,by rw [Kp,Kv];exact lk3,fun s hs=>?_,fun i x hi hx=>?_⟩
   ·simp_arith [ixc0,ixc1,k1,k2]
   ·rcases KQ.mp hs with z|z
    ·exact ⟨mono3 _ _ (mono2 _ _ (hin s z).1),mono3 _ _ (mono2 _ _ (hin s z).2)⟩
    ·rw [KC.mp z]
     exact ⟨mono3 _ _ in2,in3⟩
   ·rcases qc8 b0 hi e2 hx with hx|⟨rfl,rfl⟩
    ·rcases qc8 a0 hi e1 hx with hx|⟨rfl,rfl⟩
     ·obtain ⟨s,hs,q⟩:=hno i x hi hx
      exact ⟨s,Vm _ hs,q⟩
     ·exact ⟨t,KP _ (.head _),.inl ⟨rfl,rfl⟩⟩
    ·exact ⟨t,KP _ (.head _),.inr ⟨rfl,rfl⟩⟩)
 refine ⟨LL,?_,⟨lk.len,fun l h=>⟨by have:=(lk.bd l h).1;omega,(lk.bd l h).2⟩⟩,hin,hno⟩
 simp only [Q7,jL]
 simp_arith [hv,el]
def iD:Option Nat->Ka
 | some k=>.int (k:Nat)
 | none=>.none
theorem qe7 {n:Nat}(hn0:0<n)(hn:n<=100){J:List Ce}(hJ:∀ t∈J,(0<=t.1/\t.1<(n:Int))/\0<=t.2/\t.2<(n:Int))(hl:J.length<=100) :
  ∃ os:List Og,q8 [.int (n:Nat),.list (J.map eC)]=some (iD ((KE n).find? fun k:Nat=>!decide (((k:Nat):Int)∈ky os)))/\(0:Int)∈ky os/\(∀ t∈J,(t.1∈ky os->t.2∈ky os)/\(t.2∈ky os->t.1∈ky os))/\
   ∀ P:Int->Prop,P 0->(∀ t∈J,(P t.1->P t.2)/\(P t.2->P t.1))->∀ k∈ky os,P k:=by
 obtain ⟨LL,e1,lk,hin,hno⟩:=qfQ hn hJ hl
 obtain ⟨os,e2,z0,cl,mn⟩:=qif hn0 hn lk
 refine ⟨os,?_,z0,fun t ht=>⟨fun h=>cl t.1 h t.2 (hin t ht).1,fun h=>cl t.2 h t.1 (hin t ht).2⟩,fun P p0 hP=>mn P p0 fun k x k0 _ hk hx=>?_⟩
 ·have hr:(if (-1000:Int)<=((n:Nat):Int)/\((n:Nat):Int)<=1000 then some (rngL 0 (((n:Nat):Int)).toNat) else none)=some ((KE n).map fun k:Nat=>Ky (k:Nat)):=by
   rw [if_pos (by omega),K9,Zi]
  obtain ⟨f1,f2⟩:=ZF (fun k:Nat=>Ky (k:Nat)) (g:=gNm 3) (u:=(sIf (tV (ev2 (vr 3) (vr 2) ye)) (sRet (vr 3)) sN)) (fun k:Nat=>!decide (((k:Nat):Int)∈ky os)) (fun k=>.int (k:Nat))
   (fun ρ=>∃ o3:Option Ka,ρ=[some (.int (n:Nat)),some (.list (J.map eC)),some (.dict (eO os)),o3]) (KE n) [some (.int (n:Nat)),some (.list (J.map eC)),some (.dict (eO os)),none] ⟨none,rfl⟩ (by
    rintro k hk ρ ⟨o3,rfl⟩
    have hi:=qd7 os (k:Nat)
    refine ⟨fun h=>?_,fun h=>⟨_,?_,some (.int (k:Nat)),rfl⟩⟩
    ·rw [h] at hi;simp_arith [hi]
    ·rw [h] at hi;simp_arith [hi])
  simp only [q8,Zz]
  cases e:(KE n).find? fun k:Nat=>!decide (((k:Nat):Int)∈ky os) with
  | some k =>
   have:=f1 k e
   simp_arith [e1,e2,hr,this]
   rfl
  | none =>
   obtain ⟨ρ',e3,o3,rfl⟩:=f2 e
   simp_arith [e1,e2,hr,e3]
   rfl
 ·obtain ⟨t,ht,⟨rfl,rfl⟩|⟨rfl,rfl⟩⟩:=hno k x k0 hx
  ·exact (hP t ht).1 hk
  ·exact (hP t ht).2 hk
theorem qip {S:List Sp}{z:Sp}(hS:S.Nodup)(h0:S[0]?=some z)(hl:S.length<=6):∃ J:List Ce,zu [.list (S.map eS)]=some (.list (J.map eC))/\q8 [.int (S.length:Nat),.list (J.map eC)]=some (iD ((KE S.length).find? fun k:Nat=>!decide (S.getD k z∈lotN S z S.length))):=by
 obtain ⟨J,e1,l1,sd,cp⟩:=qgb hl
 have hlt:0<S.length:=(KL.mp h0).1
 have hz:z∈S:=KO h0
 have bd:∀ t∈J,(0<=t.1/\t.1<(S.length:Int))/\0<=t.2/\t.2<(S.length:Int):=fun t ht=>by
  obtain ⟨i,j,rfl,hij,a,b,ea,eb,_⟩:=sd t ht
  have:=(KL.mp eb).1
  exact ⟨⟨by dsimp only;omega,by dsimp only;omega⟩,by dsimp only;omega,by dsimp only;omega⟩
 obtain ⟨os,e2,z0,cl,mn⟩:=qe7 hlt (by omega) bd l1
 refine ⟨J,e1,?_⟩
 rw [e2]
 congr 2
 obtain ⟨_,g2,g3,g4,_⟩:=Wo hz S.length
 have gc:=qfV hz
 refine jz fun k hk=>?_
 have hk:=VL.mp hk
 have ek:=Kj hk
 have gk:S.getD k z=S[k]:=by rw [VE,ek];rfl
 rw [gk]
 congr 1
 refine decide_eq_decide.mpr ⟨fun h=>?_,fun h=>?_⟩
 ·obtain ⟨c,ec,hc⟩:=mn (fun i=>∃ c,S[i.toNat]?=some c/\c∈lotN S z S.length) ⟨z,h0,g3⟩ (fun t ht=>by
   obtain ⟨i,j,rfl,hij,a,b,ea,eb,hf⟩:=sd t ht
   dsimp only
   rw [K9,K9,ea,eb]
   refine ⟨fun ⟨c,q,hc⟩=>⟨b,rfl,?_⟩,fun ⟨c,q,hc⟩=>⟨a,rfl,?_⟩⟩
   ·cases q;exact gc _ hc b (KO eb) hf
   ·cases q;exact gc _ hc a (KO ea) (by rw [qbK];exact hf)) _ h
  rw [K9,ek] at ec
  cases ec
  exact hc
 ·obtain ⟨k',ek',hk'⟩:=g4 (fun c=>∃ k:Nat,S[k]?=some c/\((k:Nat):Int)∈ky os) ⟨0,h0,z0⟩ (fun a b hb ⟨i,ea,hi⟩ hf=>by
   obtain ⟨j,hj,eb⟩:=X4 hb
   have eb:S[j]?=some b:=by rw [Kj hj,eb]
   refine ⟨j,eb,?_⟩
   rcases Nat.lt_trichotomy i j with q|q|q
   ·exact (cl _ (cp i j q ⟨a,b,ea,eb,hf⟩)).1 hi
   ·subst q
    rw [ea] at eb
    cases eb
    exact hi
   ·exact (cl _ (cp j i q ⟨b,a,eb,ea,by rw [qbK];exact hf⟩)).2 hi) _ h
  obtain ⟨hk2,q⟩:=KL.mp ek'
  have key:=ND.mp hS
  rcases Nat.lt_trichotomy k' k with w|w|w
  ·exact absurd q (key _ _ hk2 hk w)
  ·rw [← w];exact hk'
  ·exact absurd q.symm (key _ _ hk hk2 w)
theorem qfE {C S:List Sp}(o0 o4:Option Ka){lot:List Sp}(hl:lot.length<=6)(hn:lot≠[])(hS:S.length<=6)(o2 o5:Option Ka):∃ p2 p5:Option Ka,forD (gNm 2) (seqO (zg 5 (QM (QF 6 (evI (vr 3) seqD) tT (evC 2 (aC (vr 2) (aC (vr 6) aN)) zP)))) (sIf (tA (tV (ev2 (vr 2) (vr 3) ninD)) (tV (ev2 (evA (aC (vr 5) aN) Jf) (kd (.int 1)) eqD))) (sApp 3 (vr 2)) sN)) (S.map eS) [o0,some (.list (S.map eS)),o2,some (.list (lot.map eS)),o4,o5]=some (.nx [o0,some (.list (S.map eS)),p2,some (.list ((rnd S lot).map eS)),o4,p5]):=by
 obtain ⟨ρ',el,p2,p5,rfl,-,-⟩:=Qy eS (g:=gNm 2) (u:=(seqO (zg 5 (QM (QF 6 (evI (vr 3) seqD) tT (evC 2 (aC (vr 2) (aC (vr 6) aN)) zP)))) (sIf (tA (tV (ev2 (vr 2) (vr 3) ninD)) (tV (ev2 (evA (aC (vr 5) aN) Jf) (kd (.int 1)) eqD))) (sApp 3 (vr 2)) sN)))
  (fun done ρ=>∃ p2 p5:Option Ka,ρ=[o0,some (.list (S.map eS)),p2,some (.list ((done.foldl stL lot).map eS)),o4,p5]/\(done.foldl stL lot).length<=6+done.length/\done.foldl stL lot≠[]) S [o0,some (.list (S.map eS)),o2,some (.list (lot.map eS)),o4,o5] ⟨o2,o5,rfl,hl,hn⟩ (by
   rintro c hc done ρ hdl ⟨p2,p5,rfl,l1,n1⟩
   rw [List.foldl_append]
   show ∃ ρ',_/\∃ p2 p5:Option Ka,ρ'=[o0,some (.list (S.map eS)),p2,some (.list ((stL (done.foldl stL lot) c).map eS)),o4,p5]/\(stL (done.foldl stL lot) c).length<=6+(done++[c]).length/\stL (done.foldl stL lot) c≠[]
   rw [Kp,Kv]
   generalize done.foldl stL lot=L at l1 n1
   have hz:(L.map eS).length<=1000:=by rw [Kh];omega
   have hcm:Ql tT (evC 2 (aC (vr 2) (aC (vr 6) aN)) zP) [o0,some (.list (S.map eS)),some (eS c),some (.list (L.map eS)),o4,p5] (L.map eS)=some ((L.map (farV c)).map Ky):=by
    rw [VG (l:=L)]
    refine jw eS (Ky ∘ farV c) L fun a _=>?_
    have:=far21 c a
    simp_arith [this]
    rfl
   have hfo:=yP (L.map (farV c))
   have hni:=Wr L c
   obtain ⟨m,hm,em⟩:=qd3 (xs:=L.map (farV c)) (by rw [Kh];exact List.length_pos_iff.mpr n1) (by rw [Kh];omega)
   rcases ZJ L c with ⟨e,q⟩|⟨e,hnc,a,ha,hf⟩
   ·rw [e]
    refine ⟨_,?_,some (eS c),some (.list ((L.map (farV c)).map Ky)),rfl,by omega,n1⟩
    by_cases hcl:c∈L
    ·simp_arith [hz,hcm,hfo,hni,decide_eq_true hcl]
    ·have hm1:(m==1)=false:=beq_eq_false_iff_ne.mpr fun z=>by
      obtain ⟨a,ha,e⟩:=VB.mp hm.1
      exact (q.resolve_left hcl) a ha (e.trans z)
     simp_arith [hz,hcm,hfo,hni,decide_eq_false hcl,em,hm1]
   ·have hm1:m=1:=by
     obtain ⟨y,hy,ey⟩:=VB.mp hm.1
     have h1:=qfv (a:=c) (b:=y) fun z=>hnc (z ▸ hy)
     have h2:=of_decide_eq_false (hm.2 _ (VB.mpr ⟨a,ha,rfl⟩))
     omega
    rw [hm1] at em
    rw [e]
    have hz2:(L.map eS).length<1000:=by rw [Kh];omega
    refine ⟨_,?_,some (eS c),some (.list ((L.map (farV c)).map Ky)),rfl,by rw [Kp,Kv];omega,by simp⟩
    simp_arith [hz,hcm,hfo,hni,decide_eq_false hnc,em,hz2]
    simp only [VD,Kr,VF])
 exact ⟨p2,p5,el⟩
theorem qga {S:List Sp}{z:Sp}(hz:z∈S)(hS:S.length<=6)(o0 o2:Option Ka):∃ p2 p4 p5:Option Ka,forD (gNm 4) (sFor (evI (vr 1) seqD) (gNm 2) (seqO (zg 5 (QM (QF 6 (evI (vr 3) seqD) tT (evC 2 (aC (vr 2) (aC (vr 6) aN)) zP)))) (sIf (tA (tV (ev2 (vr 2) (vr 3) ninD)) (tV (ev2 (evA (aC (vr 5) aN) Jf) (kd (.int 1)) eqD))) (sApp 3 (vr 2)) sN))) ((KE S.length).map fun k:Nat=>Ky (k:Nat)) [o0,some (.list (S.map eS)),o2,some (.list [eS z]),none,none]=some (.nx [o0,some (.list (S.map eS)),p2,some (.list ((lotN S z S.length).map eS)),p4,p5]):=by
 obtain ⟨ρ',el,p2,p4,p5,rfl⟩:=Qy (fun k:Nat=>Ky (k:Nat)) (g:=gNm 4) (u:=(sFor (evI (vr 1) seqD) (gNm 2) (seqO (zg 5 (QM (QF 6 (evI (vr 3) seqD) tT (evC 2 (aC (vr 2) (aC (vr 6) aN)) zP)))) (sIf (tA (tV (ev2 (vr 2) (vr 3) ninD)) (tV (ev2 (evA (aC (vr 5) aN) Jf) (kd (.int 1)) eqD))) (sApp 3 (vr 2)) sN))))
  (fun done ρ=>∃ p2 p4 p5:Option Ka,ρ=[o0,some (.list (S.map eS)),p2,some (.list ((lotN S z done.length).map eS)),p4,p5]) (KE S.length) [o0,some (.list (S.map eS)),o2,some (.list [eS z]),none,none] ⟨o2,none,none,rfl⟩ (by
   rintro k hk done ρ hdl ⟨p2,p4,p5,rfl⟩
   obtain ⟨g1,g2,g3,_,_⟩:=Wo hz done.length
   obtain ⟨q2,q5,e⟩:=qfE (C:=S) (S:=S) o0 (some (.int (k:Nat))) (lot:=lotN S z done.length) (Vg (sub_len g1 g2) hS) (fun w=>by rw [w] at g3;cases g3) hS p2 p5
   refine ⟨_,?_,q2,some (.int (k:Nat)),q5,by rw [Kp,Kv]⟩
   simp_arith [e]
   rfl)
 rw [Vj] at el
 exact ⟨p2,p4,p5,el⟩
theorem W8 {C:List Sp}(h:¬ (1<=C.length/\C.length<=6)):zB [.list (C.map eS)]=some (.tuple [.str "count", .int (C.length:Nat)]):=by
 simp only [zB,Q3]
 by_cases h1:1<=C.length
 ·have e1:decide ((((C.map eS).length:Nat):Int)<1)=false:=decide_eq_false (by rw [Kh];omega)
  have e2:decide ((((C.map eS).length:Nat):Int) > 6)=true:=decide_eq_true (by rw [Kh];omega)
  simp_arith [e1,e2]
  rw [Kh]
 ·have e1:decide ((((C.map eS).length:Nat):Int)<1)=true:=decide_eq_true (by rw [Kh];omega)
  simp_arith [e1]
  rw [Kh]
def fltD (S:List Sp)(z:Sp):Ka:=match tw S with
 | some t=>.tuple [.str "twice", eS t]
 | none=>oD (fun c=>.tuple [.str "apart", eS c]) (S.find? fun c=>!decide (c∈lotN S z S.length))
theorem qaO {C S:List Sp}{z:Sp}(h1:1<=C.length)(h6:C.length<=6)(hs:zA [.list (C.map eS)]=some (.list (S.map eS)))(p:S.Perm C)(hr:RisP S)(h0:S[0]?=some z):zB [.list (C.map eS)]=some (fltD S z):=by
 have e1:decide ((((C.map eS).length:Nat):Int)<1)=false:=decide_eq_false (by rw [Kh];omega)
 have e2:decide ((((C.map eS).length:Nat):Int) > 6)=false:=decide_eq_false (by rw [Kh];omega)
 have hl:=p.length_eq
 obtain ⟨f1,f2⟩:=ZF eS (g:=gNm 2) (u:=(sIf (tV (ev2 (ev2 (vr 0) (vr 2) jy) (kd (.int 1)) gtD)) (sRet (evA (aC (kd (.str "twice")) (aC (vr 2) aN)) tupD)) sN)) (fun c=>decide (1<S.count c)) (fun c=>.tuple [.str "twice", eS c])
  (fun ρ=>∃ o2:Option Ka,ρ=[some (.list (C.map eS)),some (.list (S.map eS)),o2,none,none,none]) S [some (.list (C.map eS)),some (.list (S.map eS)),none,none,none,none] ⟨none,rfl⟩ (by
   rintro c hc ρ ⟨o2,rfl⟩
   have hcn:=qdt C c
   rw [← p.count_eq] at hcn
   refine ⟨fun h=>?_,fun h=>⟨_,?_,some (eS c),rfl⟩⟩
   ·have:decide (((S.count c:Nat):Int) > 1)=true:=decide_eq_true (by have:=of_decide_eq_true h;omega)
    simp_arith [hcn,this]
   ·have:decide (((S.count c:Nat):Int) > 1)=false:=decide_eq_false (by have:=of_decide_eq_false h;omega)
    simp_arith [hcn,this])
 rw [yw S hr] at f1 f2
 unfold fltD
 simp only [zB,Q3]
 cases et:tw S with
 | some t =>
  have:=f1 t et
  simp_arith [e1,e2,hs,this]
 | none =>
  obtain ⟨ρ',el,o2,rfl⟩:=f2 et
  have hz:=KO h0
  have hcut:sliD (.list (S.map eS)) none (some 1)=some (.list ([z].map eS)):=by
   have:=wU eS S (k:=1) (by decide)
   rw [show S.take (1:Int).toNat=[z] from by
    cases S with
    | nil=>cases h0
    | cons a S=>cases h0;rfl] at this
   exact this
  have hsl:(evSL (vr 1) oN (oS (kd (.int 1)))) [some (.list (C.map eS)),some (.list (S.map eS)),o2,none,none,none]=some (.list [eS z]):=by
   rw [qhh (vr 1) oN (oS (kd (.int 1))) _ (S.map eS) none (some 1) rfl rfl rfl]
   exact hcut
  have hrg:(if (-1000:Int)<=(((S.map eS).length:Nat):Int)/\(((S.map eS).length:Nat):Int)<=1000 then some (rngL 0 ((((S.map eS).length:Nat):Int)).toNat) else none)=some ((KE S.length).map fun k:Nat=>Ky (k:Nat)):=by
   rw [Kh,if_pos (by omega),K9,Zi]
  obtain ⟨p2,p4,p5,eo⟩:=qga hz (by omega) (some (.list (C.map eS))) o2
  obtain ⟨g1,g2⟩:=ZF eS (g:=gNm 2) (u:=(sIf (tV (ev2 (vr 2) (vr 3) ninD)) (sRet (evA (aC (kd (.str "apart")) (aC (vr 2) aN)) tupD)) sN)) (fun c=>!decide (c∈lotN S z S.length)) (fun c=>.tuple [.str "apart", eS c])
   (fun ρ=>∃ o2:Option Ka,ρ=[some (.list (C.map eS)),some (.list (S.map eS)),o2,some (.list ((lotN S z S.length).map eS)),p4,p5]) S [some (.list (C.map eS)),some (.list (S.map eS)),p2,some (.list ((lotN S z S.length).map eS)),p4,p5] ⟨p2,rfl⟩ (by
    rintro c hc ρ ⟨o2,rfl⟩
    have hni:=Wr (lotN S z S.length) c
    refine ⟨fun h=>?_,fun h=>⟨_,?_,some (eS c),rfl⟩⟩
    ·rw [h] at hni;simp_arith [hni]
    ·rw [h] at hni;simp_arith [hni])
  cases ef:S.find? fun c=>!decide (c∈lotN S z S.length) with
  | some c =>
   have:=g1 c ef
   simp_arith [e1,e2,hs,el,hsl,hrg,eo,this]
   rfl
  | none =>
   obtain ⟨ρ',e3,o2,rfl⟩:=g2 ef
   simp_arith [e1,e2,hs,el,hsl,hrg,eo,e3]
   rfl
theorem shpW {w:Str}{d:Ka}(hk:EF w=true)(hd:d.canLay0=true)(h4:d.depth<=50):Vp (.tuple [.str w,d])=true:=by
 unfold Vp
 rw [Ko]
 refine ⟨by simp only [KJ,Kn,hk,hd,Uq],decide_eq_true ?_⟩
 simp only [VQ,KB]
 omega
theorem len3 {z:Sp}(hx:z.1.natAbs.log2<1920)(hy:z.2.1.natAbs.log2<1920)(hz:z.2.2.natAbs.log2<1920):(eS z).shown.length<=9000:=by
 have lx:(Ke (toString z.1)).length<=1921:=Vn hx
 have ly:(Ke (toString z.2.1)).length<=1921:=Vn hy
 have lz:(Ke (toString z.2.2)).length<=1921:=Vn hz
 have e:(eS z).shown=tupleText [Ke (toString z.1),Ke (toString z.2.1),Ke (toString z.2.2)]:=by
  simp only [eS,UV,N6]
 rw [e]
 have j:=N7 [Ke (toString z.1),Ke (toString z.2.1),Ke (toString z.2.2)] (by simp)
 have p:∀ a b c:Str,piled [a,b,c]=a.length+2+(b.length+2+(c.length+2+0)):=fun _ _ _=>rfl
 rw [p] at j
 show ((("(" : Str)++Str.join ", " [Ke (toString z.1),Ke (toString z.2.1),Ke (toString z.2.2)])++Ke ")").length<=9000
 rw [UI,UI]
 have o1:(("(" : String):Str).length=1:=rfl
 have o2:(Ke ")").length=1:=rfl
 omega
theorem shW {w:Str}{d:Ka}(hk:EF w=true)(hw:(NF w).shown.length<=100)(hd:shOk d=true)(hl:d.shown.length<=9000)(h4:d.depth<=50):shOk (.tuple [.str w,d])=true:=by
 unfold shOk at hd
 simp only [Ko] at hd
 obtain ⟨_,d1,d2,d3,_,_⟩:=hd
 have e:(Vh [.str w,d]).shown=tupleText [(NF w).shown,d.shown]:=by
  simp only [UV,N6]
 have l:(Vh [.str w,d]).shown.length<=100000:=by
  rw [e]
  have j:=N7 [(NF w).shown,d.shown] (by simp)
  have p:∀ a b:Str,piled [a,b]=a.length+2+(b.length+2+0):=fun _ _=>rfl
  rw [p] at j
  show ((("(" : Str)++Str.join ", " [(NF w).shown,d.shown])++Ke ")").length<=100000
  rw [UI,UI]
  have o1:(("(" : String):Str).length=1:=rfl
  have o2:(Ke ")").length=1:=rfl
  omega
 have s1:(Vh [.str w,d]).showable=true:=by simp only [XZ,EE,d1,Uq]
 have s2:(Vh [.str w,d]).canLay0=true:=by simp only [KJ,Kn,hk,d2,Uq]
 have s3:(Vh [.str w,d]).hasDict=false:=by
  have:d.hasDict=false:=by simpa using d3
  simp only [PyData.hasDict,PyData.hasDictAll,this,Bool.or_self]
 have s4:(Vh [.str w,d]).depth<=63:=by
  simp only [VQ,KB]
  omega
 unfold shOk
 rw [s1,s2,s3,decide_eq_true s4,decide_eq_true l]
 rfl
theorem lg21 {x:Int}(h:x.natAbs<=10 ^ 19+9):x.natAbs.log2<1920:=by
 by_cases h0:x.natAbs=0
 ·rw [h0];decide
 ·have:x.natAbs.log2<100:=(Nat.log2_lt h0).mpr (Nat.lt_of_le_of_lt h (by decide +kernel))
  omega
theorem qhI {b c:Sp}(hb:qbX (10 ^ 19) b)(h:Nr b 9 c):c.1.natAbs.log2<1920/\c.2.1.natAbs.log2<1920/\c.2.2.natAbs.log2<1920:=by
 obtain ⟨b1,b2,b3⟩:=hb
 obtain ⟨h1,h2,h3⟩:=h
 exact ⟨lg21 (by omega),lg21 (by omega),lg21 (by omega)⟩
theorem shS {b z:Sp}(hb:qbX (10 ^ 19) b)(h:Nr b 9 z){w:Str}(hk:EF w=true)(hw:(NF w).shown.length<=100):shOk (.tuple [.str w,eS z])=true:=by
 obtain ⟨l1,l2,l3⟩:=qhI hb h
 refine shW hk hw (sh3 l1 l2 l3) (len3 l1 l2 l3) ?_
 show (Vh [.int z.1,.int z.2.1,.int z.2.2]).depth<=50
 simp only [VQ,KB]
 decide
theorem shN {n:Nat}(h:n<=100):shOk (.tuple [.str "count", .int (n:Nat)])=true:=by
 have hl:((n:Nat):Int).natAbs.log2<1920:=lg21 (by omega)
 have lx:(Ke (toString ((n:Nat):Int))).length<=1921:=Vn hl
 refine shW (by decide +kernel) (by simp only [UV];decide +kernel) (sh1 hl) ?_ ?_
 ·rw [show (Ky ((n:Nat):Int)).shown=Ke (toString ((n:Nat):Int)) from by simp only [UV]]
  omega
 ·simp only [VQ];decide
theorem shpN (n:Int):Vp (.tuple [.str "count", .int n])=true:=shpW (by decide +kernel) rfl (by simp only [VQ];decide)
theorem mc21:zV=.int 6:=rfl
theorem ok21 {C:List Sp}(h1:1<=C.length)(h6:C.length<=6):decide ((1:Int)<=(((C.map eS).length:Nat):Int))=true/\decide ((((C.map eS).length:Nat):Int)<=6)=true:=⟨decide_eq_true (by rw [Kh];omega),decide_eq_true (by rw [Kh];omega)⟩
theorem qeI {C:List Sp}(h:¬ (1<=C.length/\C.length<=6))(hl:C.length<=60):Qh [.list (C.map eS)]=some (excD "NoSolid" (.tuple [.str "why", .tuple [.str "count", .int (C.length:Nat)]])):=by
 have hsh:=shN (n:=(C.map eS).length) (by rw [Kh];omega)
 have hfl:flat (.tuple [.str "count", .int ((C.map eS).length:Nat)])=true:=rfl
 have hx:zG [some (.list (C.map eS)),none,none,none,none]=some (excD "NoSolid" (.tuple [.str "why", .tuple [.str "count", .int ((C.map eS).length:Nat)]]),[some (.list (C.map eS)),some (.int ((C.map eS).length:Nat)),none,none,none]):=by
  unfold zG xSeq xIf Z0 xNo
  by_cases h1:1<=C.length
  ·have e1:decide ((1:Int)<=(((C.map eS).length:Nat):Int))=true:=decide_eq_true (by rw [Kh];omega)
   have e2:decide ((((C.map eS).length:Nat):Int)<=6)=false:=decide_eq_false (by rw [Kh];omega)
   simp_arith [mc21,e1,e2,hsh,hfl,Uq]
  ·have e1:decide ((1:Int)<=(((C.map eS).length:Nat):Int))=false:=decide_eq_false (by rw [Kh];omega)
   simp_arith [mc21,e1,hsh,hfl,Uq]
 show ob (zG [some (.list (C.map eS)),none,none,none,none]) _=_
 rw [hx,Kh]
 rfl
theorem qeJ {C:List Sp}{t:Sp}(h1:1<=C.length)(h6:C.length<=6)(ht:zf [.list (C.map eS)]=some (eS t))(hsh:shOk (.tuple [.str "twice", eS t])=true):Qh [.list (C.map eS)]=some (excD "NoSolid" (.tuple [.str "why", .tuple [.str "twice", eS t]])):=by
 obtain ⟨e1,e2⟩:=ok21 h1 h6
 have hfl:flat (.tuple [.str "twice", eS t])=true:=rfl
 have hi:isnD (eS t) .none=some (.bool true):=rfl
 have hx:zG [some (.list (C.map eS)),none,none,none,none]=some (excD "NoSolid" (.tuple [.str "why", .tuple [.str "twice", eS t]]),[some (.list (C.map eS)),some (.int ((C.map eS).length:Nat)),some (eS t),none,none]):=by
  unfold zG xSeq xIf Z0 xNo
  simp_arith [mc21,e1,e2,ht,hi,hsh,hfl,Uq]
 show ob (zG [some (.list (C.map eS)),none,none,none,none]) _=_
 rw [hx]
 rfl
theorem qeH {C S:List Sp}{J:List Ce}{k:Nat}{c:Sp}(h1:1<=C.length)(h6:C.length<=6)(ht:zf [.list (C.map eS)]=some .none)(hs:zA [.list (C.map eS)]=some (.list (S.map eS)))(hp:zu [.list (S.map eS)]=some (.list (J.map eC)))(ha:q8 [.int ((C.map eS).length:Nat),.list (J.map eC)]=some (.int (k:Nat)))(hk:S[k]?=some c)(hsh:shOk (.tuple [.str "apart", eS c])=true) :
  Qh [.list (C.map eS)]=some (excD "NoSolid" (.tuple [.str "why", .tuple [.str "apart", eS c]])):=by
 obtain ⟨e1,e2⟩:=ok21 h1 h6
 have hfl:flat (.tuple [.str "apart", eS c])=true:=rfl
 have hi:isnD .none .none=some (.bool false):=rfl
 have hi2:isnD (.int (k:Nat)) .none=some (.bool true):=rfl
 have hat:=at21 hk
 have hx:zG [some (.list (C.map eS)),none,none,none,none]=some (excD "NoSolid" (.tuple [.str "why", .tuple [.str "apart", eS c]]),[some (.list (C.map eS)),some (.int ((C.map eS).length:Nat)),some .none,some (.list (S.map eS)),some (.int (k:Nat))]):=by
  unfold zG xSeq xIf Z0 xNo
  simp_arith [mc21,e1,e2,ht,hi,hs,hp,ha,hi2,hat,hsh,hfl,Uq]
 show ob (zG [some (.list (C.map eS)),none,none,none,none]) _=_
 rw [hx]
 rfl
theorem qd8 {C S:List Sp}{J:List Ce}(h1:1<=C.length)(h6:C.length<=6)(ht:zf [.list (C.map eS)]=some .none)(hs:zA [.list (C.map eS)]=some (.list (S.map eS)))(hp:zu [.list (S.map eS)]=some (.list (J.map eC)))(ha:q8 [.int ((C.map eS).length:Nat),.list (J.map eC)]=some .none):Qu [.list (C.map eS)]=some (.list (S.map eS)):=by
 obtain ⟨e1,e2⟩:=ok21 h1 h6
 have hi:isnD .none .none=some (.bool false):=rfl
 simp only [Qu,jM]
 simp_arith [mc21,e1,e2,ht,hi,hs,hp,ha]
theorem qfN (d:Ka):QX [excD "NoSolid" (.tuple [.str "why", d])]=some (.tuple [.bool true,.bool true,.bool false]):=by kernel_rfl
theorem qeW (d:Ka):exFD XS "why" (excD "NoSolid" (.tuple [.str "why", d]))=some d:=by kernel_rfl
theorem JV {C:List Sp}{w:Str}{y:Ka}(hx:Qh [.list (C.map eS)]=some (excD "NoSolid" (.tuple [.str "why", .tuple [.str w,y]])))(hq:eqD (.tuple [.str w,y]) (.tuple [.str w,y])=some (.bool true))
  (hor:(eqD (.str w) (.str "count")=some (.bool true)/\zN [y]=some (.bool true))\/(eqD (.str w) (.str "count")=some (.bool false)/\zr [.list [y]]=some (.bool true))):Qa [.list (C.map eS),.tuple [.str w,y]]=some (.bool true):=by
 have hw:qaE 1 (aC (vr 4) aN) Qh [some (.list (C.map eS)),some (.tuple [.str w,y]),some .none,some (.tuple [.bool false,.bool false,.bool true]),some (.list (C.map eS)),none]=some (excD "NoSolid" (.tuple [.str "why", .tuple [.str w,y]]),[some (.list (C.map eS)),some (.tuple [.str w,y]),some .none,some (.tuple [.bool false,.bool false,.bool true]),some (.list (C.map eS)),none]):=by
  unfold qaE
  simp_arith [hx]
 have hc:=qfN (.tuple [.str w,y])
 have ht:=qeW (.tuple [.str w,y])
 have he:eqD (.tuple [.bool true,.bool true,.bool false]) (.tuple [.bool true,.bool true,.bool false])=some (.bool true):=rfl
 have hn:neD (.tuple [.bool true,.bool true,.bool false]) (.tuple [.bool true,.bool true,.bool false])=some (.bool false):=rfl
 have hcc:=qhG C C
 rw [decide_eq_true rfl] at hcc
 have key:Qg [some (.list (C.map eS)),some (.tuple [.str w,y]),none,none,none,none]=some (.rt (.bool true)):=by
  unfold Qg
  refine Zw (ρ':=[some (.list (C.map eS)),some (.tuple [.str w,y]),some .none,none,none,none]) (by simp_arith []) (Zw (ρ':=[some (.list (C.map eS)),some (.tuple [.str w,y]),some .none,some (.tuple [.bool false,.bool false,.bool true]),none,none]) (by simp_arith []) (Zw (ρ':=[some (.list (C.map eS)),some (.tuple [.str w,y]),some .none,some (.tuple [.bool false,.bool false,.bool true]),some (.list (C.map eS)),none]) (by simp_arith []) (Zw (ρ':=[some (.list (C.map eS)),some (.tuple [.str w,y]),some (.tuple [.str w,y]),some (.tuple [.bool true,.bool true,.bool false]),some (.list (C.map eS)),none]) ?_ ?_)))
  ·rw [qio hw (by decide +kernel)]
   simp_arith [hc,he,ht]
   rfl
  ·rcases hor with ⟨q1,q2⟩|⟨q1,q2⟩
   ·simp_arith [hn,hcc,q1,hq,q2]
   ·simp_arith [hn,hcc,q1,hq,q2]
 show ob (Qg [some (.list (C.map eS)),some (.tuple [.str w,y]),none,none,none,none]) outD=_
 rw [key]
 rfl
theorem qfw {S:List Sp}{z:Sp}(p:Sp->Bool):(∀ k,(KE S.length).find? (fun k=>p (S.getD k z))=some k->∃ c,S[k]?=some c/\S.find? p=some c)/\((KE S.length).find? (fun k=>p (S.getD k z))=none->S.find? p=none):=by
 have gd:∀ k (h:k<S.length),S.getD k z=S[k]:=fun k h=>by rw [VE,Kj h];rfl
 refine ⟨fun k h=>?_,fun h=>?_⟩
 ·obtain ⟨h1,h2,h3⟩:=List.find?_range_eq_some.mp h
  have h2:=VL.mp h2
  rw [gd k h2] at h1
  refine ⟨S[k],Kj h2,List.find?_eq_some_iff_getElem.mpr ⟨h1,k,h2,rfl,fun j hj=>?_⟩⟩
  have:=h3 j hj
  rw [gd j (by omega)] at this
  exact this
 ·refine Nh.mpr fun c hc=>?_
  obtain ⟨k,hk,rfl⟩:=X4 hc
  have:=Nh.mp h k (VL.mpr hk)
  rw [gd k hk] at this
  exact this
theorem qb9 {b:Sp}{C:List Sp}(hb:qbX (10 ^ 19) b)(hC:∀ c∈C,Nr b 9 c)(hl:C.length<=60):zE [.list (C.map eS)]=some (.bool true):=by
 have fin:∀ {w:Str} {y:Ka},zB [.list (C.map eS)]=some (.tuple [.str w,y])->Qa [.list (C.map eS),.tuple [.str w,y]]=some (.bool true)->zE [.list (C.map eS)]=some (.bool true):=fun {w y} e1 e2=>by
  have hi:isnD (.tuple [.str w,y]) .none=some (.bool true):=rfl
  simp only [zE,Q4]
  simp_arith [e1,hi,e2]
 by_cases h:1<=C.length/\C.length<=6
 ·obtain ⟨h1,h6⟩:=h
  obtain ⟨S,hs,p,hr⟩:=wH (xs:=C) (by omega)
  have hS:∀ c∈S,Nr b 9 c:=fun c hc=>hC c (p.mem_iff.mp hc)
  have hlen:=p.length_eq
  have h0:=Kj (show 0<S.length by omega)
  generalize S[0]=z at h0
  have hf:=qaO h1 h6 hs p hr h0
  have ht:=qgJ hs (by omega)
  unfold fltD at hf
  have spots:∀ t:Sp,zr [.list [eS t]]=some (.bool true):=fun t=>qce [t]
  have eqq:∀ {w:Str} {t:Sp},Vp (.tuple [.str w,eS t])=true->Kz (.tuple [.str w,eS t]) (.tuple [.str w,eS t])=true->eqD (.tuple [.str w,eS t]) (.tuple [.str w,eS t])=some (.bool true):=fun {w t} h1 h2=>by
   unfold eqD
   rw [if_pos ⟨h1,h1⟩,h2]
  have dep:∀ t:Sp,(eS t).depth<=50:=fun t=>by
   show (Vh [.int t.1,.int t.2.1,.int t.2.2]).depth<=50
   simp only [VQ,KB]
   decide
  have eqv2:∀ (w:Str) (t:Sp),Kz (.str w) (.str w)=true->Kz (.tuple [.str w,eS t]) (.tuple [.str w,eS t])=true:=fun w t h=>by
   have:Kz (.tuple [.str w,eS t]) (.tuple [.str w,eS t])=(Kz (.str w) (.str w)&&(Kz (eS t) (eS t)&&true)):=rfl
   rw [this,h,yN,decide_eq_true rfl]
   rfl
  cases et:tw S with
  | some t =>
   rw [et] at hf ht
   have htS:t∈S:=NC ((yw S hr).trans et)
   have hx:=qeJ h1 h6 ht (shS hb (hS t htS) (by decide +kernel) (by simp only [UV];decide +kernel))
   exact fin hf (JV hx (eqq (shpW (by decide +kernel) rfl (dep _)) (eqv2 _ t (by decide +kernel))) (.inr ⟨by kernel_rfl,spots t⟩))
  | none =>
   rw [et] at hf ht
   obtain ⟨J,e1,e2⟩:=qip (qgI S hr et) h0 (by omega)
   have e2:q8 [.int ((C.map eS).length:Nat),.list (J.map eC)]=some (iD ((KE S.length).find? fun k:Nat=>!decide (S.getD k z∈lotN S z S.length))):=by
    rw [Kh,← hlen]
    exact e2
   obtain ⟨f1,f2⟩:=qfw (S:=S) (z:=z) (fun c=>!decide (c∈lotN S z S.length))
   cases ef:(KE S.length).find? fun k:Nat=>!decide (S.getD k z∈lotN S z S.length) with
   | some k =>
    obtain ⟨c,ek,ec⟩:=f1 k ef
    rw [ec] at hf
    rw [ef] at e2
    have hx:=qeH h1 h6 ht hs e1 e2 ek (shS hb (hS c (KO ek)) (by decide +kernel) (by simp only [UV];decide +kernel))
    exact fin hf (JV hx (eqq (shpW (by decide +kernel) rfl (dep _)) (eqv2 _ c (by decide +kernel))) (.inr ⟨by kernel_rfl,spots c⟩))
   | none =>
    rw [f2 ef] at hf
    rw [ef] at e2
    have hso:=qd8 h1 h6 ht hs e1 e2
    have hi:isnD .none .none=some (.bool false):=rfl
    have hf:zB [.list (C.map eS)]=some .none:=hf
    have hsp:zr [.list (S.map eS)]=some (.bool true):=qce S
    have q1:=qdB S S
    have q2:=qdB C C
    rw [decide_eq_true rfl] at q1 q2
    simp only [zE,Q4]
    simp_arith [hf,hi,hso,hsp,hs,q1,q2]
 ·have hx:=qeI h hl
  refine fin (W8 h) (JV hx ?_ (.inl ⟨by kernel_rfl,rfl⟩))
  unfold eqD
  have:Kz (.tuple [.str "count", .int (C.length:Nat)]) (.tuple [.str "count", .int (C.length:Nat)])=(Kz (.str "count") (.str "count")&&((((C.length:Nat):Int)==((C.length:Nat):Int))&&true)):=rfl
  rw [if_pos ⟨shpN _,shpN _⟩,this,beq_self_eq_true,show Kz (.str "count") (.str "count")=true from by decide +kernel]
  rfl
theorem qcI (ns:List Int)(_:ns.length<=63)(_:∀ k∈ns,V6 k<=2 ^ 20):qdC [.list (ns.map .int)]=some (.bool true):=by
 let b:Sp:=(bsV (qZ ns 1),bsV (qZ ns 2),bsV (qZ ns 3))
 have hbd:qbX (10 ^ 19) b:=⟨qaJ _,qaJ _,qaJ _⟩
 have hbase:Qw [.list [.int (qZ ns 1),.int (qZ ns 2),.int (qZ ns 3)]]=some (.list [.int b.1,.int b.2.1,.int b.2.2]):=qe9 _ _ _
 obtain ⟨ms,em,_⟩:=qhc ns (a:=6) (b:=12)
 have em:sliD (.list (ns.map .int)) (some 6) (some 12)=some (.list (ms.map .int)):=em
 have c0:=cell_eq ns 0 (by decide)
 have c1:=cell_eq ns 1 (by decide)
 have c2:=cell_eq ns 2 (by decide)
 have c3:=cell_eq ns 3 (by decide)
 have c4:=cell_eq ns 4 (by decide)
 have c5:=cell_eq ns 5 (by decide)
 have hk:0<=qZ ns 0 % 5 / 4*(qZ ns 0 / 5 % 24):=Eo (by omega) (by omega)
 have hmul:mulD (.int (qZ ns 0 % 5 / 4)) (.int (qZ ns 0 / 5 % 24))=some (.int (qZ ns 0 % 5 / 4*(qZ ns 0 / 5 % 24))):=QZ ((Bd.of (n:=8) (by omega)).ok (Bd.of (n:=8) (by omega)))
 obtain ⟨cs,gs,e1,g1,l1,p1⟩:=qgF ms b hk
 obtain ⟨R,ds,r1,r2,r3,r4⟩:=qf9 (cs:=cs) (by rw [p1.length_eq];exact l1) (qZ ns 0) (some (.list (ns.map .int))) (some (.list [.int b.1,.int b.2.1,.int b.2.2])) none none
 have hds:∀ d∈ds,Nr b 9 d:=fun d hd=>(g1.2 d (p1.mem_iff.mp (r4 d hd))).up (by omega)
 have hdl:ds.length<=6:=by rw [r3,p1.length_eq];exact l1
 have fin:∀ C:List Sp,(∀ c∈C,Nr b 9 c)->C.length<=6->(sIf (tV (ev2 (ev2 (ev2 (vr 2) (L2.kd (.int 120)) qY) (L2.kd (.int 9)) modD) (L2.kd (.int 4)) eqD)) (sSet 3 (evA aN lstD)) sN) [some (.list (ns.map .int)),some (.list [.int b.1,.int b.2.1,.int b.2.2]),some (.int (qZ ns 0)),some (.list (ds.map eS)),some R,none,none]=some (.nx [some (.list (ns.map .int)),some (.list [.int b.1,.int b.2.1,.int b.2.2]),some (.int (qZ ns 0)),some (.list (C.map eS)),some R,none,none])->qdC [.list (ns.map .int)]=some (.bool true):=fun C hC hCl hif=>by
  obtain ⟨D,e2,hD,hDl⟩:=qeP hC hCl (qZ ns 4) (qZ ns 5)
  have q1:=qb9 hbd hC (by omega)
  have q2:=qb9 hbd hD hDl
  have hn:((((qZ ns 0 % 100).toNat:Nat)):Int)=qZ ns 0 % 100:=by omega
  have hsh:=shN (n:=(qZ ns 0 % 100).toNat) (by omega)
  rw [hn] at hsh
  have hmk:mkI "NoSolid" "why" (.tuple [.str "count", .int (qZ ns 0 % 100)])=some (excD "NoSolid" (.tuple [.str "why", .tuple [.str "count", .int (qZ ns 0 % 100)]])):=by
   unfold mkI
   rw [hsh]
   rfl
  have hto:=qeW (.tuple [.str "count", .int (qZ ns 0 % 100)])
  have hne:neD (.tuple [.str "count", .int (qZ ns 0 % 100)]) (.tuple [.str "count", .int (qZ ns 0 % 100)])=some (.bool false):=by
   unfold neD
   have:Kz (.tuple [.str "count", .int (qZ ns 0 % 100)]) (.tuple [.str "count", .int (qZ ns 0 % 100)])=(Kz (.str "count") (.str "count")&&((qZ ns 0 % 100==qZ ns 0 % 100)&&true)):=rfl
   rw [if_pos ⟨shpN _,shpN _⟩,this,beq_self_eq_true,show Kz (.str "count") (.str "count")=true from by decide +kernel]
   rfl
  have key:qaD [some (.list (ns.map .int)),none,none,none,none,none,none]=some (.rt (.bool true)):=by
   unfold qaD
   refine Zw (ρ':=[some (.list (ns.map .int)),some (.list [.int b.1,.int b.2.1,.int b.2.2]),none,none,none,none,none]) (by simp_arith [c1,c2,c3,hbase]) (Zw (ρ':=[some (.list (ns.map .int)),some (.list [.int b.1,.int b.2.1,.int b.2.2]),some (.int (qZ ns 0)),none,none,none,none]) (by simp_arith [c0]) (Zw (ρ':=[some (.list (ns.map .int)),some (.list [.int b.1,.int b.2.1,.int b.2.2]),some (.int (qZ ns 0)),some (.list (cs.map eS)),none,none,none]) (by simp_arith [em,hmul,e1]) (Zw (ρ':=[some (.list (ns.map .int)),some (.list [.int b.1,.int b.2.1,.int b.2.2]),some (.int (qZ ns 0)),some (.list (cs.map eS)),some R,none,none]) ?_ (Zw (ρ':=[some (.list (ns.map .int)),some (.list [.int b.1,.int b.2.1,.int b.2.2]),some (.int (qZ ns 0)),some (.list (ds.map eS)),some R,none,none]) ?_ (Zw hif ?_)))))
   ·rw [Wz,r1]
    rfl
   ·rw [Wz,r2]
    rfl
   ·simp_arith [c4,c5,e2,hmk,hto,hne,q1,q2]
  show ob (qaD [some (.list (ns.map .int)),none,none,none,none,none,none]) outD=_
  rw [key]
  rfl
 by_cases h:qZ ns 0 / 120 % 9=4
 ·refine fin [] (fun c hc=>by cases hc) (by decide) ?_
  simp_arith [h]
 ·have h:(qZ ns 0 / 120 % 9==4)=false:=beq_eq_false_iff_ne.mpr h
  refine fin ds hds hdl ?_
  simp_arith [h]
theorem qg7 {l:Nx}{w:KG}{K:Kc}{h:KA}{mg:Str->Option Kb}{fa f20:Kd}(X:K.In h)(G:h.Ns mainGlobals mg)(hfa:mg "law" = some (.ref fa))
  {od20 an20:Option Kd} {sl20:Array (Option Kb)} {oc20 kV20 dc20 pm20 cd20 ct20:Kb}
  (h0:FnK K "least_twice" Tq3)
  (h1:FnK K "links_of" Tq15)
  (h2:FnK K "reached_from" Tq0)
  (h3:FnK K "least_apart" Tq4)
  (h4:FnK K "added" Tq19)
  (h5:FnK K "negated" Tq18)
  (h6:FnK K "side_pairs" Tq6)
  (h7:FnK K "_law_cell_at" Tq1)
  (h8:FnK K "_law_whole" Tq7)
  (h9:FnK K "_law_spots" Tq8)
  (h10:FnK K "_law_base" Tq14)
  (h11:FnK K "_law_mixed" Tq9)
  (h12:FnK K "_law_solid" Tq10)
  (h13:FnK K "_law_kinds" Tq11)
  (h14:FnK K "_law_far" Tq16)
  (h15:FnK K "_law_fault" Tq12)
  (h16:FnK K "_law_spoilt" Tq5)
  (h17:FnK K "solid_of" Tq17)
  (h18:FnK K "_law_refused" Tq2)
  (h19:FnK K "_law_right" Tq13)
  (a20:KF K mainGlobals "law" = some (some (.ref f20))) (l20:K.lookup f20=some ⟨oc20,od20,.func (Uc "law" "law" (QW Tq20) (zH Tq20) (qt Tq20) .none kV20 dc20 pm20 an20 cd20 ct20),sl20⟩) (c20:UQ K cd20 "law" = true) (k20:VT K (.ref f20)=true)
  (z0:KF K mainGlobals "sorted" = some none)
  (z1:KF K mainGlobals "zip" = some none)
  (z2:KF K mainGlobals "range" = some none)
  (z3:KF K mainGlobals "len" = some none)
  (z4:KF K mainGlobals "isinstance" = some none)
  (z5:KF K mainGlobals "int" = some none)
  (z6:KF K mainGlobals "bool" = some none)
  (z7:KF K mainGlobals "list" = some none)
  (z8:KF K mainGlobals "tuple" = some none)
  (z9:KF K mainGlobals "ValueError" = some none)
  (z10:KF K mainGlobals "abs" = some none)
  (z11:KF K mainGlobals "min" = some none)
  (xf_why:xfB K XS "why" = true)
  (hi_NoSolid:IniF K "NoSolid" "why" "SheetError" "NoSolid.__init__" jH)
  (xt:xtB K XS=true)
  {kc0_a0:Kd}
  {kc0_d0:Option Kd}
  {kc0_n0:Nat}
  {kc0_s0:Array (Option Kb)}
  {kc0_a4:Kd}
  {kc0_d4:Option Kd}
  {kc0_n4:Nat}
  {kc0_s4:Array (Option Kb)}
  {kc0_t8:Tok}
  {kc0_t9:Tok}
  {kc0_t10:Tok}
  {kc0_a11:Kd}
  {kc0_d11:Option Kd}
  {kc0_n11:Nat}
  {kc0_s11:Array (Option Kb)}
  {kc0_t15:Tok}
  {kc0_t16:Tok}
  {kc0_t17:Tok}
  {kc0_a18:Kd}
  {kc0_d18:Option Kd}
  {kc0_n18:Nat}
  {kc0_s18:Array (Option Kb)}
  {kc0_t22:Tok}
  {kc0_t23:Tok}
  {kc0_t24:Tok}
  {kc0_a25:Kd}
  {kc0_d25:Option Kd}
  {kc0_n25:Nat}
  {kc0_s25:Array (Option Kb)}
  {kc0_t29:Tok}
  {kc0_t30:Tok}
  {kc0_t31:Tok}
  {kc0_a32:Kd}
  {kc0_d32:Option Kd}
  {kc0_n32:Nat}
  {kc0_s32:Array (Option Kb)}
  {kc0_t36:Tok}
  {kc0_t37:Tok}
  {kc0_t38:Tok}
  {kc0_a39:Kd}
  {kc0_d39:Option Kd}
  {kc0_n39:Nat}
  {kc0_s39:Array (Option Kb)}
  {kc0_t43:Tok}
  {kc0_t44:Tok}
  {kc0_t45:Tok}
  (kc0:KF K mainGlobals "UNITS" = some (some (.ref kc0_a0)))
  (kc0_h0:K.lookup kc0_a0=some ⟨.type "tuple", kc0_d0,.seq #[(.ref kc0_a4),(.ref kc0_a11),(.ref kc0_a18),(.ref kc0_a25),(.ref kc0_a32),(.ref kc0_a39)] kc0_n0,kc0_s0⟩)
  (kc0_h4:K.lookup kc0_a4=some ⟨.type "tuple", kc0_d4,.seq #[(.int (-1) kc0_t8),(.int (0) kc0_t9),(.int (0) kc0_t10)] kc0_n4,kc0_s4⟩)
  (kc0_h11:K.lookup kc0_a11=some ⟨.type "tuple", kc0_d11,.seq #[(.int (0) kc0_t15),(.int (-1) kc0_t16),(.int (0) kc0_t17)] kc0_n11,kc0_s11⟩)
  (kc0_h18:K.lookup kc0_a18=some ⟨.type "tuple", kc0_d18,.seq #[(.int (0) kc0_t22),(.int (0) kc0_t23),(.int (-1) kc0_t24)] kc0_n18,kc0_s18⟩)
  (kc0_h25:K.lookup kc0_a25=some ⟨.type "tuple", kc0_d25,.seq #[(.int (0) kc0_t29),(.int (0) kc0_t30),(.int (1) kc0_t31)] kc0_n25,kc0_s25⟩)
  (kc0_h32:K.lookup kc0_a32=some ⟨.type "tuple", kc0_d32,.seq #[(.int (0) kc0_t36),(.int (1) kc0_t37),(.int (0) kc0_t38)] kc0_n32,kc0_s32⟩)
  (kc0_h39:K.lookup kc0_a39=some ⟨.type "tuple", kc0_d39,.seq #[(.int (1) kc0_t43),(.int (0) kc0_t44),(.int (0) kc0_t45)] kc0_n39,kc0_s39⟩)
  {kc1_t0:Tok}
  (kc1:KF K mainGlobals "MOST_CUBES" = some (some (.int (6) kc1_t0)))
  : ∃ fd:Vi,(∀ (s:Kf) (v:Kb),BindsTo s fd ⟨[v],[]⟩ [("_law_script", v)])/\∀ base:KA,K.In base->base.Ns mainGlobals mg->FnOk l.prog w K mg base CX0 6 fa fd ["_law_script"] (qbe K 63):=by
 have g {n:Str} {v:Kb} (e:KF K mainGlobals n=some (some v)):mg n=some v:=Xn X G e
 have e:=hfa.symm.trans (g a20)
 cases e
 obtain ⟨f0,d0,a0,F0⟩:=h0
 have b0:=F0.binds (ps:=["things"]) fun _ _ _ _ _ _ us hl=>match us,hl with | [_],_=>rfl
 obtain ⟨f1,d1,a1,F1⟩:=h1
 have b1:=F1.binds (ps:=["count", "pairs"]) fun _ _ _ _ _ _ us hl=>match us,hl with | [_,_],_=>rfl
 obtain ⟨f2,d2,a2,F2⟩:=h2
 have b2:=F2.binds (ps:=["start", "links"]) fun _ _ _ _ _ _ us hl=>match us,hl with | [_,_],_=>rfl
 obtain ⟨f3,d3,a3,F3⟩:=h3
 have b3:=F3.binds (ps:=["count", "pairs"]) fun _ _ _ _ _ _ us hl=>match us,hl with | [_,_],_=>rfl
 obtain ⟨f4,d4,a4,F4⟩:=h4
 have b4:=F4.binds (ps:=["one", "other"]) fun _ _ _ _ _ _ us hl=>match us,hl with | [_,_],_=>rfl
 obtain ⟨f5,d5,a5,F5⟩:=h5
 have b5:=F5.binds (ps:=["spot"]) fun _ _ _ _ _ _ us hl=>match us,hl with | [_],_=>rfl
 obtain ⟨f6,d6,a6,F6⟩:=h6
 have b6:=F6.binds (ps:=["cubes"]) fun _ _ _ _ _ _ us hl=>match us,hl with | [_],_=>rfl
 obtain ⟨f7,d7,a7,F7⟩:=h7
 have b7:=F7.binds (ps:=["_law_script", "_law_k"]) fun _ _ _ _ _ _ us hl=>match us,hl with | [_,_],_=>rfl
 obtain ⟨f8,d8,a8,F8⟩:=h8
 have b8:=F8.binds (ps:=["_law_found"]) fun _ _ _ _ _ _ us hl=>match us,hl with | [_],_=>rfl
 obtain ⟨f9,d9,a9,F9⟩:=h9
 have b9:=F9.binds (ps:=["_law_found"]) fun _ _ _ _ _ _ us hl=>match us,hl with | [_],_=>rfl
 obtain ⟨f10,d10,a10,F10⟩:=h10
 have b10:=F10.binds (ps:=["_law_cells"]) fun _ _ _ _ _ _ us hl=>match us,hl with | [_],_=>rfl
 obtain ⟨f11,d11,a11,F11⟩:=h11
 have b11:=F11.binds (ps:=["_law_cell", "_law_k"]) fun _ _ _ _ _ _ us hl=>match us,hl with | [_,_],_=>rfl
 obtain ⟨f12,d12,a12,F12⟩:=h12
 have b12:=F12.binds (ps:=["_law_cells", "_law_base_here", "_law_kind"]) fun _ _ _ _ _ _ us hl=>match us,hl with | [_,_,_],_=>rfl
 obtain ⟨f13,d13,a13,F13⟩:=h13
 have b13:=F13.binds (ps:=["_law_e"]) fun _ _ _ _ _ _ us hl=>match us,hl with | [_],_=>rfl
 obtain ⟨f14,d14,a14,F14⟩:=h14
 have b14:=F14.binds (ps:=["_law_cube", "_law_one"]) fun _ _ _ _ _ _ us hl=>match us,hl with | [_,_],_=>rfl
 obtain ⟨f15,d15,a15,F15⟩:=h15
 have b15:=F15.binds (ps:=["_law_cubes"]) fun _ _ _ _ _ _ us hl=>match us,hl with | [_],_=>rfl
 obtain ⟨f16,d16,a16,F16⟩:=h16
 have b16:=F16.binds (ps:=["_law_cubes", "_law_cells", "_law_base_here"]) fun _ _ _ _ _ _ us hl=>match us,hl with | [_,_,_],_=>rfl
 obtain ⟨f17,d17,a17,F17⟩:=h17
 have b17:=F17.binds (ps:=["cubes"]) fun _ _ _ _ _ _ us hl=>match us,hl with | [_],_=>rfl
 obtain ⟨f18,d18,a18,F18⟩:=h18
 have b18:=F18.binds (ps:=["_law_cubes", "_law_due"]) fun _ _ _ _ _ _ us hl=>match us,hl with | [_,_],_=>rfl
 obtain ⟨f19,d19,a19,F19⟩:=h19
 have b19:=F19.binds (ps:=["_law_cubes"]) fun _ _ _ _ _ _ us hl=>match us,hl with | [_],_=>rfl
 have F20:=qaP (st:=Tq20) l20 c20 k20
 have z_sorted:=VC X G z0
 have z_zip:=VC X G z1
 have z_range:=VC X G z2
 have z_len:=VC X G z3
 have z_isinstance:=VC X G z4
 have z_int:=VC X G z5
 have z_bool:=VC X G z6
 have z_list:=VC X G z7
 have z_tuple:=VC X G z8
 have z_ValueError:=VC X G z9
 have z_abs:=VC X G z10
 have z_min:=VC X G z11
 have XT:=qgL X G xt
 have C_UNITS:Jx K mg "UNITS" Zo:=⟨(.ref kc0_a0),(.ref kc0_a0),Xn X G kc0,rfl,fun H S=>(.tuple (xs:=[(.ref kc0_a4),(.ref kc0_a11),(.ref kc0_a18),(.ref kc0_a25),(.ref kc0_a32),(.ref kc0_a39)]) (.inr ⟨_,_,_,kc0_h0,rfl,rfl,(show 6<=sizeLine by decide),(.cons rfl (.cons rfl (.cons rfl (.cons rfl (.cons rfl (.cons rfl .nil))))))⟩) (.cons (.tuple (xs:=[(.int (-1)),(.int (0)),(.int (0))]) (.inr ⟨_,_,_,kc0_h4,rfl,rfl,(show 3<=sizeLine by decide),(.cons ⟨_,rfl⟩ (.cons ⟨_,rfl⟩ (.cons ⟨_,rfl⟩ .nil)))⟩) (.cons (.int (-1)) (.cons (.int (0)) (.cons (.int (0)) .nil)))) (.cons (.tuple (xs:=[(.int (0)),(.int (-1)),(.int (0))]) (.inr ⟨_,_,_,kc0_h11,rfl,rfl,(show 3<=sizeLine by decide),(.cons ⟨_,rfl⟩ (.cons ⟨_,rfl⟩ (.cons ⟨_,rfl⟩ .nil)))⟩) (.cons (.int (0)) (.cons (.int (-1)) (.cons (.int (0)) .nil)))) (.cons (.tuple (xs:=[(.int (0)),(.int (0)),(.int (-1))]) (.inr ⟨_,_,_,kc0_h18,rfl,rfl,(show 3<=sizeLine by decide),(.cons ⟨_,rfl⟩ (.cons ⟨_,rfl⟩ (.cons ⟨_,rfl⟩ .nil)))⟩) (.cons (.int (0)) (.cons (.int (0)) (.cons (.int (-1)) .nil)))) (.cons (.tuple (xs:=[(.int (0)),(.int (0)),(.int (1))]) (.inr ⟨_,_,_,kc0_h25,rfl,rfl,(show 3<=sizeLine by decide),(.cons ⟨_,rfl⟩ (.cons ⟨_,rfl⟩ (.cons ⟨_,rfl⟩ .nil)))⟩) (.cons (.int (0)) (.cons (.int (0)) (.cons (.int (1)) .nil)))) (.cons (.tuple (xs:=[(.int (0)),(.int (1)),(.int (0))]) (.inr ⟨_,_,_,kc0_h32,rfl,rfl,(show 3<=sizeLine by decide),(.cons ⟨_,rfl⟩ (.cons ⟨_,rfl⟩ (.cons ⟨_,rfl⟩ .nil)))⟩) (.cons (.int (0)) (.cons (.int (1)) (.cons (.int (0)) .nil)))) (.cons (.tuple (xs:=[(.int (1)),(.int (0)),(.int (0))]) (.inr ⟨_,_,_,kc0_h39,rfl,rfl,(show 3<=sizeLine by decide),(.cons ⟨_,rfl⟩ (.cons ⟨_,rfl⟩ (.cons ⟨_,rfl⟩ .nil)))⟩) (.cons (.int (1)) (.cons (.int (0)) (.cons (.int (0)) .nil)))) .nil)))))))⟩
 have C_MOST_CUBES:Jx K mg "MOST_CUBES" zV:=⟨(.int (6)),(.int (6) kc1_t0),Xn X G kc1,⟨_,rfl⟩,fun H S=>(.int (6))⟩
 refine ⟨Uc "law" "law" (QW Tq20) (zH Tq20) (qt Tq20) .none kV20 dc20 pm20 an20 cd20 ct20,fun s v=>.of_eq rfl,fun base _ _=>?_⟩
 have b20:=F20.binds (ps:=["_law_script"]) fun _ _ _ _ _ _ us hl=>match us,hl with | [_],_=>rfl
 have I_NoSolid:=qcz l.prog w base X G hi_NoSolid
 have K_least_twice:=YD l.prog w base F0 (g a0) b0 z_sorted z_zip
 have K_links_of:=qaV l.prog w base F1 (g a1) b1 z_range
 have K_reached_from:=yX l.prog w base F2 (g a2) b2
 have K_least_apart:=YC l.prog w base F3 (g a3) b3 K_reached_from K_links_of z_range
 have K_added:=qfK l.prog w base F4 (g a4) b4
 have K_negated:=qcF l.prog w base F5 (g a5) b5
 have K_side_pairs:=Wj l.prog w base F6 (g a6) b6 K_added K_negated z_range z_len C_UNITS
 have K__law_cell_at:=yV l.prog w base F7 (g a7) b7 z_len
 have K__law_whole:=Wi l.prog w base F8 (g a8) b8 z_isinstance z_int z_bool
 have K__law_spots:=Wh l.prog w base F9 (g a9) b9 K__law_whole z_isinstance z_list z_tuple z_len
 have K__law_base:=qag l.prog w base F10 (g a10) b10
 have K__law_mixed:=We l.prog w base F11 (g a11) b11
 have K__law_solid:=Wg l.prog w base F12 (g a12) b12 z_tuple z_range z_list z_len z_sorted
 have K__law_kinds:=Wd l.prog w base F13 (g a13) b13 z_isinstance z_ValueError XT
 have K__law_far:=qaU l.prog w base F14 (g a14) b14 z_abs z_range
 have K__law_fault:=Wc l.prog w base F15 (g a15) b15 K__law_far z_len z_sorted z_min z_range
 have K__law_spoilt:=YB l.prog w base F16 (g a16) b16 z_list z_len z_tuple z_range
 have K_solid_of:=qaW l.prog w base F17 (g a17) b17 K_least_twice K_least_apart K_side_pairs z_len z_sorted C_MOST_CUBES I_NoSolid
 have R_solid_of:=qa9 l.prog w base F17 (g a17) b17 K_least_twice K_least_apart K_side_pairs z_len z_sorted C_MOST_CUBES I_NoSolid
 have K__law_refused:=yW l.prog w base F18 (g a18) b18 K_solid_of K__law_kinds K__law_whole K__law_spots z_list z_isinstance z_tuple z_len xf_why XT R_solid_of
 have K__law_right:=Wf l.prog w base F19 (g a19) b19 K__law_fault K__law_refused K_solid_of K__law_spots z_list z_sorted
 exact qdU (qhK l.prog w base F20 K__law_base K__law_cell_at K__law_solid K__law_mixed K__law_spoilt K__law_right z_range z_len z_sorted I_NoSolid xf_why XT) qcI
end SF
open PySem PySem.W PyProof.Rows
set_option maxRecDepth 100000 in
set_option maxHeartbeats 0 in
theorem PySem.Challenge.cw_sheetfold_k21_a_solid_made_holds : PySem.Challenge.rw_sheetfold_k21_a_solid_made.Holds := by
 w_on;o_law
 refine PySem.W.holds_open (q:=HD.vw) (YP:=(PySem.W.kHook HD.KH HD.kA HD.kE).says) HD.left (PySem.W.Hook.of _) (PySem.W.Hook.keeps _) (fun s e=>PySem.W.xl_of s (X0.mp e).1) PySem.W.XL.keeps (by rfl) (by rfl) (by rfl) (fun s e=>PySem.W.recFacts_of (X0.mp e).2) (by rfl) (by first|assumption|decide +kernel) (by decide +kernel) ⟨rfl,rfl,rfl,rfl,rfl,by decide +kernel⟩ ?hw ?hc
 case hw=>w_witness2
 k_fill
 refine L2.qc5 (l:=PySem.Challenge.rw_sheetfold_k21_a_solid_made) (n:=63) (k:=6) (x := "_law_script") rfl (by decide) rfl ⟨rfl,by decide,by decide,rfl⟩ (fun w h Y=>PySem.W.kIn_of Y) ?F
 case F =>
  intro w mg fa h KX G hmg
  refine' SF.qg7 KX G hmg ?_ ?_ ?_ ?_ ?_ ?_ ?_ ?_ ?_ ?_ ?_ ?_ ?_ ?_ ?_ ?_ ?_ ?_ ?_ ?_ ?_ ?_ ?_ ?_ ?_ ?_ ?_ ?_ ?_ ?_ ?_ ?_ ?_ ?_ ?_ ?_ ?_ ?_ ?_ ?_ ?_ ?_ ?_ ?_ ?_ ?_ ?_ ?_
  all_goals try first|k_is|exact L2.FnK.of (by k_is) (by k_is) (by k_is) (by k_is)|exact L2.IniF.of (by k_is) (by k_is) (by k_is) (by k_is) (by k_is) (by k_is) (by kernel_rfl)|kernel_rfl
