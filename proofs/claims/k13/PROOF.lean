import PyProof.Rows.All
import KE.IntBitsLaws
import KE.KIsAll
import KE.KSortTup
import KE.LcSums
import Lean
import PyProof.EqAt
import PyProof.EqKinds
import PyProof.TupleCall
import PySem.Challenge.RW_sheetfold_k13_walked
set_option Elab.async false
set_option linter.all false
set_option maxRecDepth 100000
open PySem renaming PyData→Ka,wpAny_bind→Kc,Value→Ke,Addr→Kf,Shared→Kg,wpAny_pure→Kl,Program→Ku,Expr→Ky,Heap→KC,Around→KF,World→KI,Stmt→KM,wpAny_mono→K3,FuncData→K7,wpAny_field→Vi,Paired→Vz,wpAny_holding→VG,wpAny_setField_rec→VV,boot_len→VW,wpAny_seqItems→V4,Scope→Ua,wpAny_newObj_type→Ub,mem_of_lookup→Uj,ReadsAll→Uk,wpAny_Call_Name_kw→Uu,Builtin→UA,codeAny_builtin→UF,wpAny_letGo→UK,IsPair→UL,wpAny_nextOf_list_item→UM,plainId_quiet→UO,wpAny_call_entry→UR,codeAny_call_builtin→UX,wpAny_truthy_bool→U1,wpAny_callSpecial?_slot→U4,wpAny_execs_cons→U7,wpAny_tryCatch→Xc,sizeLine_eq→Xh,Reads→Xi,wpAny_loadPart_at→Xp,Keyword→Xu,wpAny_updateSeq→XH,wpAny_nextOf_list_end→XR,wpAny_forIn_list→XY,wpAny_standAt→X2,wpAny_execs_nil→X7,wpAny_passesOwn→X8,DictEntry→Nb,codeAny_mono→Ng,wpAny_call→Np,wpAny_newTuple→Nr,richCompare_meets_room→Ny,wpAny_specialOf→NO,wpAny_updateSeq_pair→NX,IntMulOk→N3,ZipApart→N4,wpAny_setField→N6,wpAny_pyIter_tuple→Eb,wpAny_newFunctionEnv_cells→Ee,wpAny_newList→Ej,wpAny_onRaise→Em,intKind_is→Ey,NameKind→EB,concat_meets→EC,noFill_tuple_add→ED,pushCells_keeps→EN
open PySem.Str renaming ofString→Kb,empty→Fe
open PySem.W renaming Frag→Kd,nsIn→Kx,findIn→KO,kitOne→KS,kia_one→K9,keepIn→Vf,mg_none_of→Vn,emptyDict→Vu,mroIn→VX,instObj→V7,hideAll→V8,clsIn→Ue,fnOf→Uv,Looks→UH,looks_findIn→UI,codeIn→Xa,callWith_K→Xl,looks_mroIn→Xv,typeIn→Xw,mg_of→XA,kas_rev→XB,specialIn→XN,hideAll_none→XX,isFn→Nf,cellsFrom_some→Nw,plainGet→NB,kas_desc→NG,makesIn→NK,kas_descPart→NZ,lookIn→N1,of_hideAll→Ea,methodObj→Eo,kitx_list→Ep,kitx_dict→Er,OpenLaw→Es,kas_sort→EE,takesIn→EM,funFrames_hide→ET,methodCall_KW→E2,hideAll_get→Fc,plainGet_of→Fd,kitx_tuple→Ff,codeRec_of→Fg,check_slot→Fk,isNs_of_in→Fm,hasDictIn→Fo,plainOver→Fp,kitx_none→Fq,kitx_bool→Fs
open PySem.Heap renaming get?_push_of_some→Kh,lt_size→Ks,get?_push_size→Kz,get?_update_other→KU,size_push→Vb,get?_update_self→Ur,get?_update_ne→U6,SameBut→Xj
open Option renaming none→Ki,some→KZ,ne_none_iff_exists'→Ek,map_eq_some_iff→EU,isNone→Fb
open List renaming length_map→Kj,getElem?_eq_getElem→Kn,mem_cons→Ko,map_cons→Kt,length_cons→KA,size_toArray→KB,getElem?_eq_some_iff→KD,length_append→KG,mem_append_right→KQ,all_eq_true→KW,getElem?_map→K1,append_nil→Vd,map_append→Ve,replicate→Vg,getElem?_append_left→Vh,lookup_cons→Vl,mem_singleton→Vm,getElem?_set_self→Vp,mem_cons_of_mem→Vr,mem_of_getElem?→Vs,not_mem_nil→Vt,getElem?_set_ne→Vw,length_set→Vx,length_replicate→VB,map_map→VD,drop_eq_getElem_cons→VF,mem_cons_self→VJ,mem_map→VM,mem_append→VN,filterMap_cons→VP,getElem?_append_right→VR,length_singleton→V1,map_nil→Ud,getD_eq_getElem?_getD→Ug,find?_cons→Uo,getElem?_eq_none_iff→Uq,mem_filterMap→Ut,any_cons→Uz,mem_append_left→UB,getElem?_replicate→UD,map_congr_left→UG,length_drop→UQ,getElem?_eq_none→UT,mem_of_find?_eq_some→UU,lookup→UV,length_nil→UY,length_filterMap_le→U0,length_take→U9,range→Xg,filterMap_nil→Xn,length_range→Xq,pairwise_map→Xr,forIn_cons→XD,zip_cons_cons→XG,drop_of_length_le→XM,any_eq_true→X1,find?_eq_none→Nm,forIn_nil→Nq,nodup_append→Nv,drop_eq_nil_of_le→Nz,findIdx?_eq_some_iff_getElem→NA,drop_length→ND,nodup_cons→NL,of_mem_zip→NM,find?_some→NV,getElem?_range→N0,nodup_nil→N2,take_zero→N5,length→N7,zip_nil_right→Ec,map_drop→En,zip_nil_left→Eu,append_assoc→Ew,getElem?_zip_eq_some→Ex,Nodup→Ez,length_zip→EO,take_of_length_le→ES,map_id→EV,mem_range→EX,set_append_right→EZ,filterMap_append→E3,mem_of_mem_drop→E5,mem_of_mem_take→E6,map_take→E9
open PySem.Pos renaming mk→Kk
open PySem.PyData renaming canLayAll0→Km,eqv→Kq,depthAll→Kw,int→KJ,canLay0→KL,tuple→VL,list→VQ,depth→UZ,bool→X6
open Bool renaming and_eq_true→Kp,false→K0,false_eq_true→VA,true→VS,false_ne_true→US,eq_iff_iff→XF,false_or→X3,not_eq_true'→Nu,or_eq_true→NQ,true_or→NU,and_eq_true_iff→NW,eq_false_iff→Et,and_false→EY,not_true→E7
open Nat renaming le_refl→Kr,ne_of_lt→KN,lt_of_lt_of_le→KP,lt_succ_of_lt→K4,le_trans→Vo,zero_le→Vv,le_of_lt→VI,ne_of_gt→VZ,lt_irrefl→V3,le_succ→UW,lt_succ_self→U8,succ_ne_self→X0,le_max_right→NF,min_le_left→NP,le_max_left→NT,add_assoc→Eh,lt_trans→Fh,add_comm→Fi,zero_add→Fj,sub_self→Fn
open PySem.Expr renaming Name→Kv,Attribute→Uh,Call→Ui,Constant→Uy,FormattedValue→Xz,JoinedStr→Nn,Subscript→EW
open PySem.Value renaming ref→KR,bool→K8,builtin→Vq,none→VC,type→V5,str→Nc,int→Nd,notImplemented→NR,float→Fu
open PySem.SeqAt renaming canLay_of_shaped→KY,shaped→K5,readOf→Nk,eqAt_reads→NC
open Array renaming length_toList→K6,getElem?_eq_none→UJ,getElem?_eq_some_iff→UP,getElem?_setIfInBounds_self→Xt,getElem?_eq_getElem→Na,forIn_toList→Ni,mem_toList_iff→NJ,getElem_toList→NS
open PySem.NameKind renaming globalImplicit→Va,free→Vk,cell→VY
open PySem.Obj renaming mk→Vc,mapSeq→UC,mapFields→X4
open PySem.Builtin.SmallTypes renaming nextOf→Vj,ownedTupleIsFree→VO,ownedTupleHandOut→Uw
open PySem.ScopeKind renaming function→Vy
open PySem.Builtin.Tuple renaming tupleHashOf→VE,tupleExact→Xy,tupleCompareSizes→NI,tupleItemsOf→Eg
open False renaming elim→VH
open Ne renaming symm→VT
open PySem.Data renaming fields→VU,dict→U2,func→U3,cls→E4
open PySem.Builtin.Int renaming intBits→V0
open PySem.FuncBody renaming stmts→V2
open Option.some renaming inj→V6
open PySem.PassesOwn renaming never→V9
open PySem.Around renaming under_plainId→Uc,under→EA
open PySem.Arg renaming mk→Ul
open True renaming intro→Um
open PySem.Arguments renaming mk→Us
open PySem.FuncData renaming mk→Ux
open Int renaming toNat_natCast→UE,emod_nonneg→Xo,emod_lt_of_pos→XI,natCast_nonneg→Nl
open PySem.W.Fast renaming te4187177175401517315→UN,tw14364793385576792824→XW,tw14082659384304107361→N8,te14364793385576792824→N9,tw1435165496053646825→Ed
open PySem.F renaming plainAttrs_list→U5,plain_min_loop→Xb,plain_max_loop→Xd,slot_list_append→XC,slot_tuple_hash→XO,slot_enumerate_next→XU,excAttr_ValueError→XZ,args_tuple_add_2→Nh,type_list_append→Nj,entry_tuple_add→Nt,slot_tuple_add→Nx,typeOf_object_class→NH,slot_zip_next→NY,excBase_ValueError→El,slot_tuple_index→EF,entry_min_loop→EG,entry_max_loop→EH,store_ValueError→EI,slot_list_index→EJ,args_enumerate_next_1→EK,slot_list_insert→E1,slot_gs_get→E8
open PyProof.Rows renaming slot_tuple_getitem→Xe,callWith_type1→Xk,AllBare→XQ,callWith_builtin1→NN,listUpdate_at→Ei,seqEpoch_at→ER
open PySem.Stmt renaming Assign→Xf,Return→X5,Expr→EL
open PySem.Builtin.Builtins renaming bindParams→Xm
open PySem.Builtin.Slice renaming slicePlaces→Xs,sliceAdjust→X9,sliceApplied→Ef
open PySem.Scope renaming mk→Xx
open ForInStep renaming yield→XE
open PySem.W.Looks renaming ld→XJ,of_pure→Ft
namespace HD
open PySem PySem.W PySem.Calls PyProof.Rows
noncomputable def vw:Ku:=view PySem.Challenge.pw_sheetfold_k13_walked [1,2,3,4,5,6,7,8,9,10,11,12,13,14,16,17,18,19,20,21,22,24,26,27,28,29,30,31,32,34,35,36,38,39,40,42,43,44,45,46,47,48,49,50,51,52,53,54,55,56,57,58,59,60,61]
noncomputable def tp (i:Nat):KM:=PySem.Challenge.pw_sheetfold_k13_walked.main.body.getD i (.Pass ⟨0,0,0,0⟩)
noncomputable def dA:KM->Arguments
 | .FunctionDef _ a _ _ _ _ _ _ _ _=>a
 | _=>default
noncomputable def dB:KM->List KM
 | .FunctionDef _ _ b _ _ _ _ _ _ _=>b
 | _=>[]
noncomputable def dS:KM->Ua
 | .FunctionDef _ _ _ _ _ _ s _ _ _=>s
 | _=>default
noncomputable abbrev de (P:Params)(x:String)(t:Nat)(v:Ke):Nb:=DictEntry.mk (PyData.keyHash P (Kb x)) (Nc (Kb x) t) v
noncomputable abbrev S (x:String)(t:Nat):Ke:=Nc (Kb x) t
noncomputable abbrev I (n:Int)(t:Nat):Ke:=Nd n t
noncomputable abbrev R (a:Kf):Ke:=KR a
noncomputable abbrev Y (x:String):Ke:=V5 x
noncomputable abbrev N:Ke:=VC
noncomputable abbrev tu (a:Array Ke):Obj:=Vc (V5 "tuple") Ki (Data.seq a) #[]
noncomputable abbrev cc (x:String)(t1 t2 t3:Nat)(l n:Int)(a1:Kf)(k:Int)(a2:Kf)(u v:Ke)(a3:Kf)(t4:Int)(t5:Nat):Obj:=Vc (V5 "code") Ki (VU #[S x t1,S x t2,S "/claim/cut.py" t3,I l 0,I n 0,I 0 0,I 0 0,I 3 0,R a1,K8 VS,I k 0,R a2,N,u,v,R a3,I t4 0,I l 0,S "/claim/cut.py" t5]) #[]
noncomputable abbrev xc (x:String)(e a d b:Kf)(t u:Nat):Obj:=Vc (Y "type") Ki (E4 (ClassData.mk (Kb x) [R e] [R a,R e,Y "ValueError", Y "Exception", Y "BaseException", Y "object"] d (Kb x) VS [] [] K0 Ki K0)) #[KZ (R b),Ki,KZ (S x t),KZ (S x u),KZ (Vq "ValueError.__new__"),KZ (K8 VS)]
noncomputable abbrev xd (P:Params)(t1 t2 t3:Nat)(l:Int)(t4 t5:Nat)(a:Kf)(t6:Nat):Obj:=Vc (Y "dict") Ki (U2 #[de P "__module__" t1 (S "sheetfold.errors" t2),de P "__firstlineno__" t3 (I l t4),de P "__static_attributes__" t5 (R a),de P "__doc__" t6 N] 2) #[]
noncomputable abbrev fu (x:String)(i:Nat)(m:String)(t:Nat)(c:Kf):Obj:=Vc (V5 "function") Ki (U3 (Ux (Kb x) (Kb x) (dA (tp i)) (V2 (dB (tp i))) (dS (tp i)) 3 [] N N N (S m t) Ki (R c) N 0)) #[]
set_option maxHeartbeats 0 in
noncomputable def KH:Params->Kd:=fun P =>
(nat_lit 2,Vc N Ki (U2 #[]) #[]) ::
(nat_lit 3,Vc (Y "dict") Ki (U2 #[de P "__name__" 165 (S "law_sheetfold_k13_walked" 733),de P "__doc__" 166 N,de P "__package__" 167 N,de P "__loader__" 168 (Vq "__main__.__loader__#opaque"),de P "__spec__" 169 N,de P "__annotations__" 170 (R 6),de P "__builtins__" 171 (R 4),de P "__file__" 173 (S "/claim/cut.py" 172),de P "__cached__" 174 N,de P "SheetError" 206 (R 24),de P "NoDrawing" 222 (R 37),de P "NoBend" 238 (R 49),de P "NoSquare" 254 (R 61),de P "TooMany" 270 (R 73),de P "NoTurn" 286 (R 85),de P "NoRow" 302 (R 97),de P "NoName" 318 (R 109),de P "NotClosed" 334 (R 121),de P "NoSheet" 359 (R 140),de P "NoSolid" 384 (R 159),de P "NoTree" 409 (R 178),de P "NoWay" 434 (R 197),de P "Crowded" 459 (R 216),de P "is_whole" 468 (R 225),de P "added" 476 (R 232),de P "negated" 483 (R 239),de P "cross" 491 (R 246),de P "turned" 497 (R 251),de P "joined_turns" 505 (R 258),de P "turn_back" 511 (R 263),de P "out_of" 520 (R 270),de P "BENDS" 527 (R 271),de P "unit_of" 535 (R 278),de P "Join" 585 (R 309),de P "Up" 617 (R 337),de P "Down" 649 (R 363),de P "is_bend" 656 (R 372),de P "join_of" 663 (R 379),de P "STEPS" 676 (R 384),de P "step_between" 684 (R 391),de P "neighbours" 698 (R 398),de P "steps_of" 712 (R 405),de P "led_by" 720 (R 412),de P "walked" 732 (R 419),de P "_law_cell" 742 (R 426),de P "_law_whole" 749 (R 433),de P "_law_cross" 763 (R 440),de P "_law_dot" 771 (R 447),de P "_law_sum" 780 (R 454),de P "_law_unit" 788 (R 461),de P "_law_led" 803 (R 468),de P "_law_pose" 809 (R 473),de P "_law_is_spot" 815 (R 478),de P "_law_is_pose" 821 (R 483),de P "_law_neighbour" 829 (R 490),de P "_law_joined" 835 (R 495),de P "_law_grown" 853 (R 502),de P "_law_sheet" 859 (R 507),de P "_law_near" 865 (R 512),de P "_law_walked" 871 (R 517),de P "_law_at" 878 (R 524),de P "_law_told" 889 (R 531),de P "_law_list" 901 (R 538),de P "law" 920 (R 545)] 64) #[]) ::
(nat_lit 15,tu #[Y "ValueError"]) ::
(nat_lit 22,tu #[]) ::
(nat_lit 23,Vc (Y "dict") Ki (U2 #[de P "__module__" 196 (S "sheetfold.errors" 187),de P "__firstlineno__" 200 (I 2 199),de P "__static_attributes__" 201 (R 22),de P "__weakref__" 203 (R 25),de P "__doc__" 204 N] 3) #[]) ::
(nat_lit 24,Vc (Y "type") Ki (E4 (ClassData.mk (Kb "SheetError") [Y "ValueError"] [R 24,Y "ValueError", Y "Exception", Y "BaseException", Y "object"] 23 (Kb "SheetError") VS [] [R 37,R 49,R 61,R 73,R 85,R 97,R 109,R 121,R 140,R 159,R 178,R 197,R 216] K0 Ki K0)) #[KZ (R 15),Ki,KZ (S "SheetError" 189),KZ (S "SheetError" 197),KZ (Vq "ValueError.__new__"),KZ (K8 VS)]) ::
(nat_lit 25,Vc (Y "getset_descriptor") Ki (VU #[S "__weakref__" 202,R 24,Vq "ExceptionGroup.__weakref__", N]) #[]) ::
(nat_lit 28,tu #[R 24]) ::
(nat_lit 35,tu #[]) ::
(nat_lit 36,xd P 214 187 218 4 217 219 35 220) ::
(nat_lit 37,xc "NoDrawing" 24 37 36 28 207 215) ::
(nat_lit 40,tu #[R 24]) ::
(nat_lit 47,tu #[]) ::
(nat_lit 48,xd P 230 187 234 6 233 235 47 236) ::
(nat_lit 49,xc "NoBend" 24 49 48 40 223 231) ::
(nat_lit 52,tu #[R 24]) ::
(nat_lit 59,tu #[]) ::
(nat_lit 60,xd P 246 187 250 8 249 251 59 252) ::
(nat_lit 61,xc "NoSquare" 24 61 60 52 239 247) ::
(nat_lit 64,tu #[R 24]) ::
(nat_lit 71,tu #[]) ::
(nat_lit 72,xd P 262 187 266 10 265 267 71 268) ::
(nat_lit 73,xc "TooMany" 24 73 72 64 255 263) ::
(nat_lit 76,tu #[R 24]) ::
(nat_lit 83,tu #[]) ::
(nat_lit 84,xd P 278 187 282 12 281 283 83 284) ::
(nat_lit 85,xc "NoTurn" 24 85 84 76 271 279) ::
(nat_lit 88,tu #[R 24]) ::
(nat_lit 95,tu #[]) ::
(nat_lit 96,xd P 294 187 298 14 297 299 95 300) ::
(nat_lit 97,xc "NoRow" 24 97 96 88 287 295) ::
(nat_lit 100,tu #[R 24]) ::
(nat_lit 107,tu #[]) ::
(nat_lit 108,xd P 310 187 314 16 313 315 107 316) ::
(nat_lit 109,xc "NoName" 24 109 108 100 303 311) ::
(nat_lit 112,tu #[R 24]) ::
(nat_lit 119,tu #[]) ::
(nat_lit 120,xd P 326 187 330 18 329 331 119 332) ::
(nat_lit 121,xc "NotClosed" 24 121 120 112 319 327) ::
(nat_lit 124,tu #[R 24]) ::
(nat_lit 131,tu #[]) ::
(nat_lit 133,tu #[S "self" 350,S "why" 351]) ::
(nat_lit 134,tu #[]) ::
(nat_lit 136,Vc (Y "code") Ki (VU #[S "__init__" 347,S "NoSheet.__init__" 348,S "/claim/cut.py" 349,I 22 0,I 2 0,I 0 0,I 0 0,I 3 0,R 131,K8 VS,I 181 0,R 132,N,R 133,R 134,R 135,I 352 0,I 22 0,S "/claim/cut.py" 353]) #[]) ::
(nat_lit 137,Vc (Y "function") Ki (U3 (Ux (Kb "__init__") (Kb "NoSheet.__init__") (Us [] [Ul (Kb "self") Ki (Kk 22 17 22 21),Ul (Kb "why") Ki (Kk 22 23 22 26)] Ki [] [] Ki []) (V2 [EL (Ui (Uh (Kv (Kb "SheetError") (Kk 23 8 23 18)) (Kb "__init__") (Kk 23 8 23 27)) [Kv (Kb "self") (Kk 23 28 23 32),Nn [Uy (Const.str (Kb "no sheet: ")) 0 (Kk 23 36 23 46),Xz (Kv (Kb "why") (Kk 23 47 23 50)) 114 Ki (Kk 23 46 23 53)] (Kk 23 34 23 54)] [] (Kk 23 8 23 55)) (Kk 23 8 23 55),Xf [Uh (Kv (Kb "self") (Kk 24 8 24 12)) (Kb "why") (Kk 24 8 24 16)] (Kv (Kb "why") (Kk 24 19 24 22)) (Kk 24 8 24 22)]) (Xx Vy [(Kb "self", NameKind.local),(Kb "why", NameKind.local),(Kb "SheetError", Va)] K0 K0 []) 3 [] N N N (S "sheetfold.errors" 187) Ki (R 136) N 0)) #[]) ::
(nat_lit 138,tu #[S "why" 355]) ::
(nat_lit 139,Vc (Y "dict") Ki (U2 #[de P "__module__" 342 (S "sheetfold.errors" 187),de P "__firstlineno__" 346 (I 20 345),de P "__init__" 354 (R 137),de P "__static_attributes__" 356 (R 138),de P "__doc__" 357 N] 2) #[]) ::
(nat_lit 140,xc "NoSheet" 24 140 139 124 335 343) ::
(nat_lit 143,tu #[R 24]) ::
(nat_lit 150,tu #[]) ::
(nat_lit 152,tu #[S "self" 375,S "why" 376]) ::
(nat_lit 153,tu #[]) ::
(nat_lit 155,Vc (Y "code") Ki (VU #[S "__init__" 372,S "NoSolid.__init__" 373,S "/claim/cut.py" 374,I 27 0,I 2 0,I 0 0,I 0 0,I 3 0,R 150,K8 VS,I 181 0,R 151,N,R 152,R 153,R 154,I 377 0,I 27 0,S "/claim/cut.py" 378]) #[]) ::
(nat_lit 156,Vc (Y "function") Ki (U3 (Ux (Kb "__init__") (Kb "NoSolid.__init__") (Us [] [Ul (Kb "self") Ki (Kk 27 17 27 21),Ul (Kb "why") Ki (Kk 27 23 27 26)] Ki [] [] Ki []) (V2 [EL (Ui (Uh (Kv (Kb "SheetError") (Kk 28 8 28 18)) (Kb "__init__") (Kk 28 8 28 27)) [Kv (Kb "self") (Kk 28 28 28 32),Nn [Uy (Const.str (Kb "no solid: ")) 0 (Kk 28 36 28 46),Xz (Kv (Kb "why") (Kk 28 47 28 50)) 114 Ki (Kk 28 46 28 53)] (Kk 28 34 28 54)] [] (Kk 28 8 28 55)) (Kk 28 8 28 55),Xf [Uh (Kv (Kb "self") (Kk 29 8 29 12)) (Kb "why") (Kk 29 8 29 16)] (Kv (Kb "why") (Kk 29 19 29 22)) (Kk 29 8 29 22)]) (Xx Vy [(Kb "self", NameKind.local),(Kb "why", NameKind.local),(Kb "SheetError", Va)] K0 K0 []) 3 [] N N N (S "sheetfold.errors" 187) Ki (R 155) N 0)) #[]) ::
(nat_lit 157,tu #[S "why" 380]) ::
(nat_lit 158,Vc (Y "dict") Ki (U2 #[de P "__module__" 367 (S "sheetfold.errors" 187),de P "__firstlineno__" 371 (I 25 370),de P "__init__" 379 (R 156),de P "__static_attributes__" 381 (R 157),de P "__doc__" 382 N] 2) #[]) ::
(nat_lit 159,xc "NoSolid" 24 159 158 143 360 368) ::
(nat_lit 162,tu #[R 24]) ::
(nat_lit 169,tu #[]) ::
(nat_lit 171,tu #[S "self" 400,S "why" 401]) ::
(nat_lit 172,tu #[]) ::
(nat_lit 174,Vc (Y "code") Ki (VU #[S "__init__" 397,S "NoTree.__init__" 398,S "/claim/cut.py" 399,I 32 0,I 2 0,I 0 0,I 0 0,I 3 0,R 169,K8 VS,I 181 0,R 170,N,R 171,R 172,R 173,I 402 0,I 32 0,S "/claim/cut.py" 403]) #[]) ::
(nat_lit 175,Vc (Y "function") Ki (U3 (Ux (Kb "__init__") (Kb "NoTree.__init__") (Us [] [Ul (Kb "self") Ki (Kk 32 17 32 21),Ul (Kb "why") Ki (Kk 32 23 32 26)] Ki [] [] Ki []) (V2 [EL (Ui (Uh (Kv (Kb "SheetError") (Kk 33 8 33 18)) (Kb "__init__") (Kk 33 8 33 27)) [Kv (Kb "self") (Kk 33 28 33 32),Nn [Uy (Const.str (Kb "no tree: ")) 0 (Kk 33 36 33 45),Xz (Kv (Kb "why") (Kk 33 46 33 49)) 114 Ki (Kk 33 45 33 52)] (Kk 33 34 33 53)] [] (Kk 33 8 33 54)) (Kk 33 8 33 54),Xf [Uh (Kv (Kb "self") (Kk 34 8 34 12)) (Kb "why") (Kk 34 8 34 16)] (Kv (Kb "why") (Kk 34 19 34 22)) (Kk 34 8 34 22)]) (Xx Vy [(Kb "self", NameKind.local),(Kb "why", NameKind.local),(Kb "SheetError", Va)] K0 K0 []) 3 [] N N N (S "sheetfold.errors" 187) Ki (R 174) N 0)) #[]) ::
(nat_lit 176,tu #[S "why" 405]) ::
(nat_lit 177,Vc (Y "dict") Ki (U2 #[de P "__module__" 392 (S "sheetfold.errors" 187),de P "__firstlineno__" 396 (I 30 395),de P "__init__" 404 (R 175),de P "__static_attributes__" 406 (R 176),de P "__doc__" 407 N] 2) #[]) ::
(nat_lit 178,xc "NoTree" 24 178 177 162 385 393) ::
(nat_lit 181,tu #[R 24]) ::
(nat_lit 188,tu #[]) ::
(nat_lit 190,tu #[S "self" 425,S "at" 426]) ::
(nat_lit 191,tu #[]) ::
(nat_lit 193,Vc (Y "code") Ki (VU #[S "__init__" 422,S "NoWay.__init__" 423,S "/claim/cut.py" 424,I 37 0,I 2 0,I 0 0,I 0 0,I 3 0,R 188,K8 VS,I 181 0,R 189,N,R 190,R 191,R 192,I 427 0,I 37 0,S "/claim/cut.py" 428]) #[]) ::
(nat_lit 194,Vc (Y "function") Ki (U3 (Ux (Kb "__init__") (Kb "NoWay.__init__") (Us [] [Ul (Kb "self") Ki (Kk 37 17 37 21),Ul (Kb "at") Ki (Kk 37 23 37 25)] Ki [] [] Ki []) (V2 [EL (Ui (Uh (Kv (Kb "SheetError") (Kk 38 8 38 18)) (Kb "__init__") (Kk 38 8 38 27)) [Kv (Kb "self") (Kk 38 28 38 32),Nn [Uy (Const.str (Kb "no join leads on from place ")) 0 (Kk 38 36 38 64),Xz (Kv (Kb "at") (Kk 38 65 38 67)) 114 Ki (Kk 38 64 38 70)] (Kk 38 34 38 71)] [] (Kk 38 8 38 72)) (Kk 38 8 38 72),Xf [Uh (Kv (Kb "self") (Kk 39 8 39 12)) (Kb "at") (Kk 39 8 39 15)] (Kv (Kb "at") (Kk 39 18 39 20)) (Kk 39 8 39 20)]) (Xx Vy [(Kb "self", NameKind.local),(Kb "at", NameKind.local),(Kb "SheetError", Va)] K0 K0 []) 3 [] N N N (S "sheetfold.errors" 187) Ki (R 193) N 0)) #[]) ::
(nat_lit 195,tu #[S "at" 430]) ::
(nat_lit 196,Vc (Y "dict") Ki (U2 #[de P "__module__" 417 (S "sheetfold.errors" 187),de P "__firstlineno__" 421 (I 35 420),de P "__init__" 429 (R 194),de P "__static_attributes__" 431 (R 195),de P "__doc__" 432 N] 2) #[]) ::
(nat_lit 197,xc "NoWay" 24 197 196 181 410 418) ::
(nat_lit 200,tu #[R 24]) ::
(nat_lit 207,tu #[]) ::
(nat_lit 209,tu #[S "self" 450,S "edge" 451]) ::
(nat_lit 210,tu #[]) ::
(nat_lit 212,Vc (Y "code") Ki (VU #[S "__init__" 447,S "Crowded.__init__" 448,S "/claim/cut.py" 449,I 42 0,I 2 0,I 0 0,I 0 0,I 3 0,R 207,K8 VS,I 181 0,R 208,N,R 209,R 210,R 211,I 452 0,I 42 0,S "/claim/cut.py" 453]) #[]) ::
(nat_lit 213,Vc (Y "function") Ki (U3 (Ux (Kb "__init__") (Kb "Crowded.__init__") (Us [] [Ul (Kb "self") Ki (Kk 42 17 42 21),Ul (Kb "edge") Ki (Kk 42 23 42 27)] Ki [] [] Ki []) (V2 [EL (Ui (Uh (Kv (Kb "SheetError") (Kk 43 8 43 18)) (Kb "__init__") (Kk 43 8 43 27)) [Kv (Kb "self") (Kk 43 28 43 32),Nn [Uy (Const.str (Kb "four squares meet at ")) 0 (Kk 43 36 43 57),Xz (Kv (Kb "edge") (Kk 43 58 43 62)) 114 Ki (Kk 43 57 43 65)] (Kk 43 34 43 66)] [] (Kk 43 8 43 67)) (Kk 43 8 43 67),Xf [Uh (Kv (Kb "self") (Kk 44 8 44 12)) (Kb "edge") (Kk 44 8 44 17)] (Kv (Kb "edge") (Kk 44 20 44 24)) (Kk 44 8 44 24)]) (Xx Vy [(Kb "self", NameKind.local),(Kb "edge", NameKind.local),(Kb "SheetError", Va)] K0 K0 []) 3 [] N N N (S "sheetfold.errors" 187) Ki (R 212) N 0)) #[]) ::
(nat_lit 214,tu #[S "edge" 455]) ::
(nat_lit 215,Vc (Y "dict") Ki (U2 #[de P "__module__" 442 (S "sheetfold.errors" 187),de P "__firstlineno__" 446 (I 40 445),de P "__init__" 454 (R 213),de P "__static_attributes__" 456 (R 214),de P "__doc__" 457 N] 2) #[]) ::
(nat_lit 216,xc "Crowded" 24 216 215 200 435 443) ::
(nat_lit 219,tu #[]) ::
(nat_lit 221,tu #[S "thing" 465]) ::
(nat_lit 222,tu #[]) ::
(nat_lit 224,cc "is_whole" 462 463 464 46 1 219 181 220 (R 221) (R 222) 223 466 467) ::
(nat_lit 225,fu "is_whole" 16 "sheetfold.turns" 460 224) ::
(nat_lit 226,tu #[]) ::
(nat_lit 228,tu #[S "one" 472,S "other" 473]) ::
(nat_lit 229,tu #[]) ::
(nat_lit 231,cc "added" 469 470 471 48 2 226 181 227 (R 228) (R 229) 230 474 475) ::
(nat_lit 232,fu "added" 17 "sheetfold.turns" 460 231) ::
(nat_lit 233,tu #[]) ::
(nat_lit 235,tu #[S "spot" 480]) ::
(nat_lit 236,tu #[]) ::
(nat_lit 238,cc "negated" 477 478 479 50 1 233 181 234 (R 235) (R 236) 237 481 482) ::
(nat_lit 239,fu "negated" 18 "sheetfold.turns" 460 238) ::
(nat_lit 240,tu #[]) ::
(nat_lit 242,tu #[S "one" 487,S "other" 488]) ::
(nat_lit 243,tu #[]) ::
(nat_lit 245,cc "cross" 484 485 486 52 2 240 181 241 (R 242) (R 243) 244 489 490) ::
(nat_lit 246,fu "cross" 19 "sheetfold.turns" 460 245) ::
(nat_lit 247,tu #[]) ::
(nat_lit 250,cc "turned" 492 493 494 54 2 247 181 248 N N 249 495 496) ::
(nat_lit 251,fu "turned" 20 "sheetfold.turns" 460 250) ::
(nat_lit 252,tu #[]) ::
(nat_lit 254,tu #[S "first" 501,S "second" 502]) ::
(nat_lit 255,tu #[]) ::
(nat_lit 257,cc "joined_turns" 498 499 500 56 2 252 181 253 (R 254) (R 255) 256 503 504) ::
(nat_lit 258,fu "joined_turns" 21 "sheetfold.turns" 460 257) ::
(nat_lit 259,tu #[]) ::
(nat_lit 262,cc "turn_back" 506 507 508 58 1 259 181 260 N N 261 509 510) ::
(nat_lit 263,fu "turn_back" 22 "sheetfold.turns" 460 262) ::
(nat_lit 264,tu #[]) ::
(nat_lit 266,tu #[S "pose" 517]) ::
(nat_lit 267,tu #[]) ::
(nat_lit 269,cc "out_of" 514 515 516 61 1 264 181 265 (R 266) (R 267) 268 518 519) ::
(nat_lit 270,fu "out_of" 24 "sheetfold.moves" 512 269) ::
(nat_lit 271,tu #[I (-1) 524,I 0 525,I 1 526]) ::
(nat_lit 272,tu #[]) ::
(nat_lit 274,tu #[S "pose" 531,S "way" 532]) ::
(nat_lit 275,tu #[]) ::
(nat_lit 277,cc "unit_of" 528 529 530 65 2 272 181 273 (R 274) (R 275) 276 533 534) ::
(nat_lit 278,fu "unit_of" 27 "sheetfold.joins" 521 277) ::
(nat_lit 286,tu #[]) ::
(nat_lit 288,tu #[S "self" 551]) ::
(nat_lit 289,tu #[]) ::
(nat_lit 291,Vc (Y "code") Ki (VU #[S "bend" 548,S "Join.bend" 549,S "/claim/cut.py" 550,I 69 0,I 1 0,I 0 0,I 0 0,I 3 0,R 286,K8 VS,I 181 0,R 287,N,R 288,R 289,R 290,I 552 0,I 69 0,S "/claim/cut.py" 553]) #[]) ::
(nat_lit 292,Vc (Y "function") Ki (U3 (Ux (Kb "bend") (Kb "Join.bend") (Us [] [Ul (Kb "self") Ki (Kk 69 13 69 17)] Ki [] [] Ki []) (V2 [X5 (KZ (Uy (Const.int 0) 0 (Kk 70 15 70 16))) (Kk 70 8 70 16)]) (Xx Vy [(Kb "self", NameKind.local)] K0 K0 []) 3 [] N N N (S "sheetfold.joins" 521) Ki (R 291) N 0)) #[]) ::
(nat_lit 293,tu #[]) ::
(nat_lit 295,tu #[S "self" 558,S "unit" 559,S "out" 560]) ::
(nat_lit 296,tu #[]) ::
(nat_lit 298,Vc (Y "code") Ki (VU #[S "goes_on" 555,S "Join.goes_on" 556,S "/claim/cut.py" 557,I 72 0,I 3 0,I 0 0,I 0 0,I 3 0,R 293,K8 VS,I 181 0,R 294,N,R 295,R 296,R 297,I 561 0,I 72 0,S "/claim/cut.py" 562]) #[]) ::
(nat_lit 299,Vc (Y "function") Ki (U3 (Ux (Kb "goes_on") (Kb "Join.goes_on") (Us [] [Ul (Kb "self") Ki (Kk 72 16 72 20),Ul (Kb "unit") Ki (Kk 72 22 72 26),Ul (Kb "out") Ki (Kk 72 28 72 31)] Ki [] [] Ki []) (V2 [X5 (KZ (Kv (Kb "unit") (Kk 73 15 73 19))) (Kk 73 8 73 19)]) (Xx Vy [(Kb "self", NameKind.local),(Kb "unit", NameKind.local),(Kb "out", NameKind.local)] K0 K0 []) 3 [] N N N (S "sheetfold.joins" 521) Ki (R 298) N 0)) #[]) ::
(nat_lit 300,tu #[]) ::
(nat_lit 302,tu #[S "self" 567,S "pose" 568,S "way" 569,S "unit" 570,S "out" 571,S "edge" 572,S "beyond" 573,S "turn" 574]) ::
(nat_lit 303,tu #[]) ::
(nat_lit 305,Vc (Y "code") Ki (VU #[S "led" 564,S "Join.led" 565,S "/claim/cut.py" 566,I 75 0,I 3 0,I 0 0,I 0 0,I 3 0,R 300,K8 VS,I 181 0,R 301,N,R 302,R 303,R 304,I 575 0,I 75 0,S "/claim/cut.py" 576]) #[]) ::
(nat_lit 306,Vc (Y "function") Ki (U3 (Ux (Kb "led") (Kb "Join.led") (Us [] [Ul (Kb "self") Ki (Kk 75 12 75 16),Ul (Kb "pose") Ki (Kk 75 18 75 22),Ul (Kb "way") Ki (Kk 75 24 75 27)] Ki [] [] Ki []) (V2 [Xf [Kv (Kb "unit") (Kk 76 8 76 12)] (Ui (Kv (Kb "unit_of") (Kk 76 15 76 22)) [Kv (Kb "pose") (Kk 76 23 76 27),Kv (Kb "way") (Kk 76 29 76 32)] [] (Kk 76 15 76 33)) (Kk 76 8 76 33),Xf [Kv (Kb "out") (Kk 77 8 77 11)] (Ui (Kv (Kb "out_of") (Kk 77 14 77 20)) [Kv (Kb "pose") (Kk 77 21 77 25)] [] (Kk 77 14 77 26)) (Kk 77 8 77 26),Xf [Kv (Kb "edge") (Kk 78 8 78 12)] (Ui (Kv (Kb "cross") (Kk 78 15 78 20)) [Kv (Kb "unit") (Kk 78 21 78 25),Kv (Kb "out") (Kk 78 27 78 30)] [] (Kk 78 15 78 31)) (Kk 78 8 78 31),Xf [Kv (Kb "beyond") (Kk 79 8 79 14)] (Ui (Uh (Kv (Kb "self") (Kk 79 17 79 21)) (Kb "goes_on") (Kk 79 17 79 29)) [Kv (Kb "unit") (Kk 79 30 79 34),Kv (Kb "out") (Kk 79 36 79 39)] [] (Kk 79 17 79 40)) (Kk 79 8 79 40),Xf [Kv (Kb "turn") (Kk 80 8 80 12)] (Ui (Kv (Kb "joined_turns") (Kk 80 15 80 27)) [Ui (Kv (Kb "turn_back") (Kk 80 28 80 37)) [Expr.Tuple [Kv (Kb "unit") (Kk 80 39 80 43),Kv (Kb "out") (Kk 80 45 80 48),Kv (Kb "edge") (Kk 80 50 80 54)] 0 (Kk 80 38 80 55)] [] (Kk 80 28 80 56),Expr.Tuple [Kv (Kb "beyond") (Kk 80 59 80 65),Ui (Kv (Kb "cross") (Kk 80 67 80 72)) [Kv (Kb "edge") (Kk 80 73 80 77),Kv (Kb "beyond") (Kk 80 79 80 85)] [] (Kk 80 67 80 86),Kv (Kb "edge") (Kk 80 88 80 92)] 0 (Kk 80 58 80 93)] [] (Kk 80 15 80 94)) (Kk 80 8 80 94),X5 (KZ (Expr.Tuple [Ui (Kv (Kb "added") (Kk 81 16 81 21)) [Ui (Kv (Kb "added") (Kk 81 22 81 27)) [EW (Kv (Kb "pose") (Kk 81 28 81 32)) (Uy (Const.int 0) 0 (Kk 81 33 81 34)) (Kk 81 28 81 35),Kv (Kb "unit") (Kk 81 37 81 41)] [] (Kk 81 22 81 42),Kv (Kb "beyond") (Kk 81 44 81 50)] [] (Kk 81 16 81 51),Ui (Kv (Kb "turned") (Kk 81 53 81 59)) [Kv (Kb "turn") (Kk 81 60 81 64),EW (Kv (Kb "pose") (Kk 81 66 81 70)) (Uy (Const.int 1) 0 (Kk 81 71 81 72)) (Kk 81 66 81 73)] [] (Kk 81 53 81 74),Ui (Kv (Kb "turned") (Kk 81 76 81 82)) [Kv (Kb "turn") (Kk 81 83 81 87),EW (Kv (Kb "pose") (Kk 81 89 81 93)) (Uy (Const.int 2) 0 (Kk 81 94 81 95)) (Kk 81 89 81 96)] [] (Kk 81 76 81 97)] 0 (Kk 81 15 81 98))) (Kk 81 8 81 98)]) (Xx Vy [(Kb "self", NameKind.local),(Kb "pose", NameKind.local),(Kb "way", NameKind.local),(Kb "unit", NameKind.local),(Kb "out", NameKind.local),(Kb "edge", NameKind.local),(Kb "beyond", NameKind.local),(Kb "turn", NameKind.local),(Kb "unit_of", Va),(Kb "out_of", Va),(Kb "cross", Va),(Kb "joined_turns", Va),(Kb "turn_back", Va),(Kb "added", Va),(Kb "turned", Va)] K0 K0 []) 3 [] N N N (S "sheetfold.joins" 521) Ki (R 305) N 0)) #[]) ::
(nat_lit 307,tu #[]) ::
(nat_lit 308,Vc (Y "dict") Ki (U2 #[de P "__module__" 543 (S "sheetfold.joins" 521),de P "__firstlineno__" 547 (I 67 546),de P "bend" 554 (R 292),de P "goes_on" 563 (R 299),de P "led" 577 (R 306),de P "__static_attributes__" 578 (R 307),de P "__dict__" 580 (R 310),de P "__weakref__" 582 (R 311),de P "__doc__" 583 N] 4) #[]) ::
(nat_lit 309,Vc (Y "type") Ki (E4 (ClassData.mk (Kb "Join") [Y "object"] [R 309,Y "object"] 308 (Kb "Join") VS [] [R 337,R 363] K0 Ki K0)) #[Ki,Ki,KZ (S "Join" 536),KZ (S "Join" 544),KZ (Vq "object.__new__"),KZ (K8 VS)]) ::
(nat_lit 310,Vc (Y "getset_descriptor") Ki (VU #[S "__dict__" 579,R 309,Vq "function.__dict__", Vq "function.__dict__#set"]) #[]) ::
(nat_lit 311,Vc (Y "getset_descriptor") Ki (VU #[S "__weakref__" 581,R 309,Vq "ExceptionGroup.__weakref__", N]) #[]) ::
(nat_lit 314,tu #[R 309]) ::
(nat_lit 321,tu #[]) ::
(nat_lit 323,tu #[S "self" 601]) ::
(nat_lit 324,tu #[]) ::
(nat_lit 326,Vc (Y "code") Ki (VU #[S "bend" 598,S "Up.bend" 599,S "/claim/cut.py" 600,I 84 0,I 1 0,I 0 0,I 0 0,I 3 0,R 321,K8 VS,I 181 0,R 322,N,R 323,R 324,R 325,I 602 0,I 84 0,S "/claim/cut.py" 603]) #[]) ::
(nat_lit 327,Vc (Y "function") Ki (U3 (Ux (Kb "bend") (Kb "Up.bend") (Us [] [Ul (Kb "self") Ki (Kk 84 13 84 17)] Ki [] [] Ki []) (V2 [X5 (KZ (Uy (Const.int 1) 0 (Kk 85 15 85 16))) (Kk 85 8 85 16)]) (Xx Vy [(Kb "self", NameKind.local)] K0 K0 []) 3 [] N N N (S "sheetfold.joins" 521) Ki (R 326) N 0)) #[]) ::
(nat_lit 328,tu #[]) ::
(nat_lit 330,tu #[S "self" 608,S "unit" 609,S "out" 610]) ::
(nat_lit 331,tu #[]) ::
(nat_lit 333,Vc (Y "code") Ki (VU #[S "goes_on" 605,S "Up.goes_on" 606,S "/claim/cut.py" 607,I 87 0,I 3 0,I 0 0,I 0 0,I 3 0,R 328,K8 VS,I 181 0,R 329,N,R 330,R 331,R 332,I 611 0,I 87 0,S "/claim/cut.py" 612]) #[]) ::
(nat_lit 334,Vc (Y "function") Ki (U3 (Ux (Kb "goes_on") (Kb "Up.goes_on") (Us [] [Ul (Kb "self") Ki (Kk 87 16 87 20),Ul (Kb "unit") Ki (Kk 87 22 87 26),Ul (Kb "out") Ki (Kk 87 28 87 31)] Ki [] [] Ki []) (V2 [X5 (KZ (Kv (Kb "out") (Kk 88 15 88 18))) (Kk 88 8 88 18)]) (Xx Vy [(Kb "self", NameKind.local),(Kb "unit", NameKind.local),(Kb "out", NameKind.local)] K0 K0 []) 3 [] N N N (S "sheetfold.joins" 521) Ki (R 333) N 0)) #[]) ::
(nat_lit 335,tu #[]) ::
(nat_lit 336,Vc (Y "dict") Ki (U2 #[de P "__module__" 593 (S "sheetfold.joins" 521),de P "__firstlineno__" 597 (I 82 596),de P "bend" 604 (R 327),de P "goes_on" 613 (R 334),de P "__static_attributes__" 614 (R 335),de P "__doc__" 615 N] 2) #[]) ::
(nat_lit 337,Vc (Y "type") Ki (E4 (ClassData.mk (Kb "Up") [R 309] [R 337,R 309,Y "object"] 336 (Kb "Up") VS [] [] K0 Ki K0)) #[KZ (R 314),Ki,KZ (S "Up" 586),KZ (S "Up" 594),KZ (Vq "object.__new__"),KZ (K8 VS)]) ::
(nat_lit 340,tu #[R 309]) ::
(nat_lit 347,tu #[]) ::
(nat_lit 349,tu #[S "self" 633]) ::
(nat_lit 350,tu #[]) ::
(nat_lit 352,Vc (Y "code") Ki (VU #[S "bend" 630,S "Down.bend" 631,S "/claim/cut.py" 632,I 91 0,I 1 0,I 0 0,I 0 0,I 3 0,R 347,K8 VS,I 181 0,R 348,N,R 349,R 350,R 351,I 634 0,I 91 0,S "/claim/cut.py" 635]) #[]) ::
(nat_lit 353,Vc (Y "function") Ki (U3 (Ux (Kb "bend") (Kb "Down.bend") (Us [] [Ul (Kb "self") Ki (Kk 91 13 91 17)] Ki [] [] Ki []) (V2 [X5 (KZ (Expr.UnaryOp UnaryOp.USub (Uy (Const.int 1) 0 (Kk 92 16 92 17)) (Kk 92 15 92 17))) (Kk 92 8 92 17)]) (Xx Vy [(Kb "self", NameKind.local)] K0 K0 []) 3 [] N N N (S "sheetfold.joins" 521) Ki (R 352) N 0)) #[]) ::
(nat_lit 354,tu #[]) ::
(nat_lit 356,tu #[S "self" 640,S "unit" 641,S "out" 642]) ::
(nat_lit 357,tu #[]) ::
(nat_lit 359,Vc (Y "code") Ki (VU #[S "goes_on" 637,S "Down.goes_on" 638,S "/claim/cut.py" 639,I 94 0,I 3 0,I 0 0,I 0 0,I 3 0,R 354,K8 VS,I 181 0,R 355,N,R 356,R 357,R 358,I 643 0,I 94 0,S "/claim/cut.py" 644]) #[]) ::
(nat_lit 360,Vc (Y "function") Ki (U3 (Ux (Kb "goes_on") (Kb "Down.goes_on") (Us [] [Ul (Kb "self") Ki (Kk 94 16 94 20),Ul (Kb "unit") Ki (Kk 94 22 94 26),Ul (Kb "out") Ki (Kk 94 28 94 31)] Ki [] [] Ki []) (V2 [X5 (KZ (Ui (Kv (Kb "negated") (Kk 95 15 95 22)) [Kv (Kb "out") (Kk 95 23 95 26)] [] (Kk 95 15 95 27))) (Kk 95 8 95 27)]) (Xx Vy [(Kb "self", NameKind.local),(Kb "unit", NameKind.local),(Kb "out", NameKind.local),(Kb "negated", Va)] K0 K0 []) 3 [] N N N (S "sheetfold.joins" 521) Ki (R 359) N 0)) #[]) ::
(nat_lit 361,tu #[]) ::
(nat_lit 362,Vc (Y "dict") Ki (U2 #[de P "__module__" 625 (S "sheetfold.joins" 521),de P "__firstlineno__" 629 (I 89 628),de P "bend" 636 (R 353),de P "goes_on" 645 (R 360),de P "__static_attributes__" 646 (R 361),de P "__doc__" 647 N] 2) #[]) ::
(nat_lit 363,Vc (Y "type") Ki (E4 (ClassData.mk (Kb "Down") [R 309] [R 363,R 309,Y "object"] 362 (Kb "Down") VS [] [] K0 Ki K0)) #[KZ (R 340),Ki,KZ (S "Down" 618),KZ (S "Down" 626),KZ (Vq "object.__new__"),KZ (K8 VS)]) ::
(nat_lit 366,tu #[]) ::
(nat_lit 368,tu #[S "thing" 653]) ::
(nat_lit 369,tu #[]) ::
(nat_lit 371,cc "is_bend" 650 651 652 96 1 366 181 367 (R 368) (R 369) 370 654 655) ::
(nat_lit 372,fu "is_bend" 31 "sheetfold.joins" 521 371) ::
(nat_lit 373,tu #[]) ::
(nat_lit 375,tu #[S "bend" 660]) ::
(nat_lit 376,tu #[]) ::
(nat_lit 378,cc "join_of" 657 658 659 98 1 373 181 374 (R 375) (R 376) 377 661 662) ::
(nat_lit 379,fu "join_of" 32 "sheetfold.joins" 521 378) ::
(nat_lit 380,tu #[I 1 666,I 0 667]) ::
(nat_lit 381,tu #[I 0 668,I 1 669]) ::
(nat_lit 382,tu #[I (-1) 671,I 0 672]) ::
(nat_lit 383,tu #[I 0 673,I (-1) 675]) ::
(nat_lit 384,tu #[R 380,R 381,R 382,R 383]) ::
(nat_lit 385,tu #[]) ::
(nat_lit 387,tu #[S "cell" 680,S "other" 681]) ::
(nat_lit 388,tu #[]) ::
(nat_lit 390,cc "step_between" 677 678 679 108 2 385 181 386 (R 387) (R 388) 389 682 683) ::
(nat_lit 391,fu "step_between" 35 "sheetfold.sheets" 664 390) ::
(nat_lit 392,tu #[]) ::
(nat_lit 394,tu #[S "sheet" 688,S "k" 689,S "cells" 690,S "found" 691,S "i" 692,S "j" 693,S "bend" 694,S "other" 695]) ::
(nat_lit 395,tu #[]) ::
(nat_lit 397,cc "neighbours" 685 686 687 110 2 392 181 393 (R 394) (R 395) 396 696 697) ::
(nat_lit 398,fu "neighbours" 36 "sheetfold.sheets" 664 397) ::
(nat_lit 399,tu #[]) ::
(nat_lit 401,tu #[S "sheet" 704,S "steps" 705,S "k" 706,S "way" 707,S "j" 708,S "bend" 709]) ::
(nat_lit 402,tu #[]) ::
(nat_lit 404,cc "steps_of" 701 702 703 119 1 399 181 400 (R 401) (R 402) 403 710 711) ::
(nat_lit 405,fu "steps_of" 38 "sheetfold.folding" 699 404) ::
(nat_lit 406,tu #[]) ::
(nat_lit 408,tu #[S "step" 716,S "pose" 717]) ::
(nat_lit 409,tu #[]) ::
(nat_lit 411,cc "led_by" 713 714 715 125 2 406 181 407 (R 408) (R 409) 410 718 719) ::
(nat_lit 412,fu "led_by" 39 "sheetfold.folding" 699 411) ::
(nat_lit 413,tu #[]) ::
(nat_lit 415,tu #[S "sheet" 724,S "numbers" 725,S "pose" 726,S "steps" 727,S "at" 728,S "pair" 729]) ::
(nat_lit 416,tu #[]) ::
(nat_lit 418,cc "walked" 721 722 723 127 3 413 181 414 (R 415) (R 416) 417 730 731) ::
(nat_lit 419,fu "walked" 40 "sheetfold.folding" 699 418) ::
(nat_lit 420,tu #[]) ::
(nat_lit 422,tu #[S "_law_script" 738,S "_law_k" 739]) ::
(nat_lit 423,tu #[]) ::
(nat_lit 425,cc "_law_cell" 735 736 737 135 2 420 181 421 (R 422) (R 423) 424 740 741) ::
(nat_lit 426,fu "_law_cell" 42 "law_sheetfold_k13_walked" 733 425) ::
(nat_lit 427,tu #[]) ::
(nat_lit 429,tu #[S "_law_found" 746]) ::
(nat_lit 430,tu #[]) ::
(nat_lit 432,cc "_law_whole" 743 744 745 139 1 427 181 428 (R 429) (R 430) 431 747 748) ::
(nat_lit 433,fu "_law_whole" 43 "law_sheetfold_k13_walked" 733 432) ::
(nat_lit 434,tu #[]) ::
(nat_lit 436,tu #[S "_law_one" 753,S "_law_other" 754,S "_law_a" 755,S "_law_b" 756,S "_law_c" 757,S "_law_d" 758,S "_law_e" 759,S "_law_f" 760]) ::
(nat_lit 437,tu #[]) ::
(nat_lit 439,cc "_law_cross" 750 751 752 141 2 434 181 435 (R 436) (R 437) 438 761 762) ::
(nat_lit 440,fu "_law_cross" 44 "law_sheetfold_k13_walked" 733 439) ::
(nat_lit 441,tu #[]) ::
(nat_lit 443,tu #[S "_law_one" 767,S "_law_other" 768]) ::
(nat_lit 444,tu #[]) ::
(nat_lit 446,cc "_law_dot" 764 765 766 145 2 441 181 442 (R 443) (R 444) 445 769 770) ::
(nat_lit 447,fu "_law_dot" 45 "law_sheetfold_k13_walked" 733 446) ::
(nat_lit 448,tu #[]) ::
(nat_lit 450,tu #[S "_law_one" 775,S "_law_many" 776,S "_law_other" 777]) ::
(nat_lit 451,tu #[]) ::
(nat_lit 453,cc "_law_sum" 772 773 774 147 3 448 181 449 (R 450) (R 451) 452 778 779) ::
(nat_lit 454,fu "_law_sum" 46 "law_sheetfold_k13_walked" 733 453) ::
(nat_lit 455,tu #[]) ::
(nat_lit 457,tu #[S "_law_pose_here" 784,S "_law_way" 785]) ::
(nat_lit 458,tu #[]) ::
(nat_lit 460,cc "_law_unit" 781 782 783 149 2 455 181 456 (R 457) (R 458) 459 786 787) ::
(nat_lit 461,fu "_law_unit" 47 "law_sheetfold_k13_walked" 733 460) ::
(nat_lit 462,tu #[]) ::
(nat_lit 464,tu #[S "_law_pose_here" 792,S "_law_way" 793,S "_law_bend" 794,S "_law_along" 795,S "_law_out" 796,S "_law_on" 797,S "_law_edge" 798,S "_law_told_here" 799,S "_law_unit_here" 800]) ::
(nat_lit 465,tu #[]) ::
(nat_lit 467,cc "_law_led" 789 790 791 151 3 462 181 463 (R 464) (R 465) 466 801 802) ::
(nat_lit 468,fu "_law_led" 48 "law_sheetfold_k13_walked" 733 467) ::
(nat_lit 469,tu #[]) ::
(nat_lit 472,cc "_law_pose" 804 805 806 162 2 469 181 470 N N 471 807 808) ::
(nat_lit 473,fu "_law_pose" 49 "law_sheetfold_k13_walked" 733 472) ::
(nat_lit 474,tu #[]) ::
(nat_lit 477,cc "_law_is_spot" 810 811 812 174 1 474 181 475 N N 476 813 814) ::
(nat_lit 478,fu "_law_is_spot" 50 "law_sheetfold_k13_walked" 733 477) ::
(nat_lit 479,tu #[]) ::
(nat_lit 482,cc "_law_is_pose" 816 817 818 178 1 479 181 480 N N 481 819 820) ::
(nat_lit 483,fu "_law_is_pose" 51 "law_sheetfold_k13_walked" 733 482) ::
(nat_lit 484,tu #[]) ::
(nat_lit 486,tu #[S "_law_cell_here" 825,S "_law_way" 826]) ::
(nat_lit 487,tu #[]) ::
(nat_lit 489,cc "_law_neighbour" 822 823 824 182 2 484 181 485 (R 486) (R 487) 488 827 828) ::
(nat_lit 490,fu "_law_neighbour" 52 "law_sheetfold_k13_walked" 733 489) ::
(nat_lit 491,tu #[]) ::
(nat_lit 494,cc "_law_joined" 830 831 832 184 5 491 181 492 N N 493 833 834) ::
(nat_lit 495,fu "_law_joined" 53 "law_sheetfold_k13_walked" 733 494) ::
(nat_lit 496,tu #[]) ::
(nat_lit 498,tu #[S "_law_script" 839,S "_law_first" 840,S "_law_last" 841,S "_law_most" 842,S "_law_bends" 843,S "_law_start" 844,S "_law_cells" 845,S "_law_joins" 846,S "_law_number" 847,S "_law_mixed" 848,S "_law_one" 849,S "_law_other" 850]) ::
(nat_lit 499,tu #[]) ::
(nat_lit 501,cc "_law_grown" 836 837 838 188 5 496 181 497 (R 498) (R 499) 500 851 852) ::
(nat_lit 502,fu "_law_grown" 54 "law_sheetfold_k13_walked" 733 501) ::
(nat_lit 503,tu #[]) ::
(nat_lit 506,cc "_law_sheet" 854 855 856 203 2 503 181 504 N N 505 857 858) ::
(nat_lit 507,fu "_law_sheet" 55 "law_sheetfold_k13_walked" 733 506) ::
(nat_lit 508,tu #[]) ::
(nat_lit 511,cc "_law_near" 860 861 862 206 1 508 181 509 N N 510 863 864) ::
(nat_lit 512,fu "_law_near" 56 "law_sheetfold_k13_walked" 733 511) ::
(nat_lit 513,tu #[]) ::
(nat_lit 516,cc "_law_walked" 866 867 868 213 3 513 181 514 N N 515 869 870) ::
(nat_lit 517,fu "_law_walked" 57 "law_sheetfold_k13_walked" 733 516) ::
(nat_lit 518,tu #[]) ::
(nat_lit 520,tu #[S "_law_refusal" 875]) ::
(nat_lit 521,tu #[]) ::
(nat_lit 523,cc "_law_at" 872 873 874 220 1 518 181 519 (R 520) (R 521) 522 876 877) ::
(nat_lit 524,fu "_law_at" 58 "law_sheetfold_k13_walked" 733 523) ::
(nat_lit 525,tu #[]) ::
(nat_lit 527,tu #[S "_law_sheet_here" 882,S "_law_numbers" 883,S "_law_pose_here" 884,S "_law_told_here" 885,S "_law_e" 886]) ::
(nat_lit 528,tu #[]) ::
(nat_lit 530,cc "_law_told" 879 880 881 228 3 525 181 526 (R 527) (R 528) 529 887 888) ::
(nat_lit 531,fu "_law_told" 59 "law_sheetfold_k13_walked" 733 530) ::
(nat_lit 532,tu #[]) ::
(nat_lit 534,tu #[S "_law_near_here" 893,S "_law_first" 894,S "_law_cells" 895,S "_law_numbers" 896,S "_law_cell_here" 897,S "_law_steps" 898]) ::
(nat_lit 535,tu #[]) ::
(nat_lit 537,cc "_law_list" 890 891 892 235 3 532 181 533 (R 534) (R 535) 536 899 900) ::
(nat_lit 538,fu "_law_list" 60 "law_sheetfold_k13_walked" 733 537) ::
(nat_lit 539,tu #[]) ::
(nat_lit 541,tu #[S "_law_script" 905,S "_law_cells" 906,S "_law_joins" 907,S "_law_sheet_here" 908,S "_law_near_here" 909,S "_law_numbers" 910,S "_law_place" 911,S "_law_pose_here" 912,S "_law_due" 913,S "_law_handed" 914,S "_law_turn" 915,S "_law_found" 916,S "_law_made" 917]) ::
(nat_lit 542,tu #[]) ::
(nat_lit 544,cc "law" 902 903 904 242 1 539 181 540 (R 541) (R 542) 543 918 919) ::
(nat_lit 545,fu "law" 61 "law_sheetfold_k13_walked" 733 544)::[]
noncomputable def kA:List Kf:=[2,3,15,22,23,24,25,28,35,36,37,40,47,48,49,52,59,60,61,64,71,72,73,76,83,84,85,88,95,96,97,100,107,108,109,112,119,120,121,124,131,133,134,136,137,138,139,140,143,150,152,153,155,156,157,158,159,162,169,171,172,174,175,176,177,178,181,188,190,191,193,194,195,196,197,200,207,209,210,212,213,214,215,216,219,221,222,224,225,226,228,229,231,232,233,235,236,238,239,240,242,243,245,246,247,250,251,252,254,255,257,258,259,262,263,264,266,267,269,270,271,272,274,275,277,278,286,288,289,291,292,293,295,296,298,299,300,302,303,305,306,307,308,309,310,311,314,321,323,324,326,327,328,330,331,333,334,335,336,337,340,347,349,350,352,353,354,356,357,359,360,361,362,363,366,368,369,371,372,373,375,376,378,379,380,381,382,383,384,385,387,388,390,391,392,394,395,397,398,399,401,402,404,405,406,408,409,411,412,413,415,416,418,419,420,422,423,425,426,427,429,430,432,433,434,436,437,439,440,441,443,444,446,447,448,450,451,453,454,455,457,458,460,461,462,464,465,467,468,469,472,473,474,477,478,479,482,483,484,486,487,489,490,491,494,495,496,498,499,501,502,503,506,507,508,511,512,513,516,517,518,520,521,523,524,525,527,528,530,531,532,534,535,537,538,539,541,542,544,545]
theorem kE (P:Params):kA=(KH P).map (·.1):=by kernel_rfl
noncomputable abbrev hk:Hook:=kHook KH kA kE
noncomputable def tfQ (tr:(String->Option UA)->Ku->KI->Nat->Option Ke->Nat->Kg->Thread->Option Kg)(tb:String->Option UA)(p:Ku)(w:KI)(N:Nat)(s:Kg):Option Kg :=
 match s.heap.isNs mainGlobals&&s.gens.size==0 with
 | true=>(tr tb p w s.heap.objs.size (s.heap.nsMap mainGlobals "__annotations__") N s (topStub p)).bind fun u =>
   match staticsOk (importedModules p.main.body) s.heap u.heap&&namesBound p u.heap&&gensDone u&&laidKept s.heap u.heap with
   | true=>some u
   | false=>none
 | false=>none
theorem tf_q (p:Ku)(w:KI)(N:Nat):topFrom treeTable p w N=tfQ N8 XW p w N:=by
 rw [← Fast.te14082659384304107361,← N9]
 rfl
noncomputable def opQ (p:Ku)(w:KI)(N:Nat):Option Kg :=
 (Fast.tw10274390034422433532 XW (opening p) w N (Ed (opening p)).1 (Ed (opening p)).2).bind (Fast.tw14289696077712309145 p)
theorem op_q (p:Ku)(w:KI)(N:Nat):fencedOpening treeTable p w N=opQ p w N:=by
 unfold opQ
 rw [← Fast.te10274390034422433532,← N9,← Fast.te1435165496053646825,← Fast.te14289696077712309145]
 rfl
noncomputable def endsQ (p:Ku)(w:KI)(N:Nat):Option Kg:=(opQ p w N).bind (tfQ N8 XW p w N)
theorem yU (p:Ku)(w:KI)(N:Nat):openEnds treeTable p w N=endsQ p w N:=by
 unfold openEnds endsQ
 rw [op_q,tf_q]
noncomputable def n1 {A B:Type}:A×B->A|(a,_)=>a
noncomputable def n2 {A B C D:Type}:A×B×C×D->B×C|(_,b,c,_)=>(b,c)
noncomputable def n4 {A B C D E F:Type}:A×B×C×D×E×F->D×E|(_,_,_,d,e,_)=>(d,e)
noncomputable def n6 {A B C D E F G:Type}:A×B×C×D×E×F×G->F|(_,_,_,_,_,f,_)=>f
noncomputable def n7 {A B C D E F G:Type}:A×B×C×D×E×F×G->G|(_,_,_,_,_,_,g)=>g
theorem fin {σ A B C D E F G Y:Type}{o:Option σ}{f:σ->A×B×C×D×E×F×G}{g:σ->Y}{x:A×B×C×D×E×F×G}{y:Y}(h1:o.map (fun s=>n1 (f s))=some x.1)(h2:o.map (fun s=>n2 (f s))=some (x.2.1,x.2.2.1))(h4:o.map (fun s=>n4 (f s))=some (x.2.2.2.1,x.2.2.2.2.1))(h6:o.map (fun s=>n6 (f s))=some x.2.2.2.2.2.1)(h7:o.map (fun s=>n7 (f s))=some x.2.2.2.2.2.2)(hy:o.map g=some y):o.map (fun s=>(f s,g s))=some (x,y):=by
 cases o with
 | none=>cases h1
 | some s =>
  simp only [Option.map_some,Option.some.injEq] at h1 h2 h4 h6 h7 hy ⊢
  generalize f s=z at h1 h2 h4 h6 h7 ⊢
  obtain ⟨a,b,c,d,e,i,j⟩:=z
  obtain ⟨a',b',c',d',e',i',j'⟩:=x
  simp only [n1,n2,n4,n6,n7,Prod.mk.injEq] at h1 h2 h4 h6 h7
  obtain ⟨h2,h3⟩:=h2
  obtain ⟨h4,h5⟩:=h4
  subst h1 h2 h3 h4 h5 h6 h7 hy
  rfl
noncomputable abbrev sn (s:Kg):=openSeen vw [] (importedModules PySem.Challenge.pw_sheetfold_k13_walked.main.body) (fun s=>xlAt vw [] s&&recOk (RowW.records (OpenRow.toRowW (OpenLaw.row PySem.Challenge.rw_sheetfold_k13_walked))) s) true s
set_option maxHeartbeats 0 in
theorem leY (w:KI):(openEnds treeTable PySem.Challenge.pw_sheetfold_k13_walked w 10462).map (Hook.obs hk)=some (Hook.val hk w):=by
 rw [yU]
 kernel_rfl
set_option maxHeartbeats 0 in
theorem le1 (w:KI):(openEnds treeTable PySem.Challenge.pw_sheetfold_k13_walked w 10462).map (fun s=>n1 (sn s))=some (openGood vw []).1:=by
 unfold sn
 rw [yU,UN]
 kernel_rfl
set_option maxHeartbeats 0 in
theorem le2 (w:KI):(openEnds treeTable PySem.Challenge.pw_sheetfold_k13_walked w 10462).map (fun s=>n2 (sn s))=some ((openGood vw []).2.1,(openGood vw []).2.2.1):=by
 unfold sn
 rw [yU,UN]
 kernel_rfl
set_option maxHeartbeats 0 in
theorem le4 (w:KI):(openEnds treeTable PySem.Challenge.pw_sheetfold_k13_walked w 10462).map (fun s=>n4 (sn s))=some ((openGood vw []).2.2.2.1,(openGood vw []).2.2.2.2.1):=by
 unfold sn
 rw [yU,UN]
 kernel_rfl
set_option maxHeartbeats 0 in
theorem le6 (w:KI):(openEnds treeTable PySem.Challenge.pw_sheetfold_k13_walked w 10462).map (fun s=>n6 (sn s))=some (openGood vw []).2.2.2.2.2.1:=by
 unfold sn
 rw [yU,UN]
 kernel_rfl
set_option maxHeartbeats 0 in
theorem le7 (w:KI):(openEnds treeTable PySem.Challenge.pw_sheetfold_k13_walked w 10462).map (fun s=>n7 (sn s))=some (openGood vw []).2.2.2.2.2.2:=by
 unfold sn
 rw [yU,UN]
 kernel_rfl
theorem left:LeftO PySem.Challenge.pw_sheetfold_k13_walked vw [] (fun s=>xlAt vw [] s&&recOk (RowW.records (OpenRow.toRowW (OpenLaw.row PySem.Challenge.rw_sheetfold_k13_walked))) s) (Hook.obs hk) (Hook.val hk) 10462:=fun w=>fin (le1 w) (le2 w) (le4 w) (le6 w) (le7 w) (leY w)
end HD
namespace L2
open PySem PySem.Spec PyProof.Rows
noncomputable abbrev Key:=Sum Int Str
noncomputable def qjb:Key->Ke->Bool
 | .inl k,v=>Value.isInt k v
 | .inr x,v=>Value.isStrOf x v
noncomputable def keyH (w:KI):Key->Int
 | .inl k=>hashInt k
 | .inr x=>hashStr w x
theorem zH:∀ {k:Key} {v:Ke},qjb k v=true->(∃ i t,k=Sum.inl i/\v=Nd i t)\/(∃ x t,k=Sum.inr x/\v=Nc x t)
 | .inl i,v,h=>by
  obtain ⟨t,e⟩:=Value.isInt_shape (k:=i) (v:=v) h
  exact .inl ⟨i,t,rfl,e⟩
 | .inr x,v,h=>by
  obtain ⟨t,e⟩:=Value.isStrOf_shape (x:=x) (v:=v) h
  exact .inr ⟨x,t,rfl,e⟩
theorem qjX (a b:Int):decide ((Sum.inl a:Key)=Sum.inl b)=(a==b):=by
 by_cases e:a=b
 ·subst e;simp
 ·have h:¬ (Sum.inl a:Key)=Sum.inl b:=fun q=>e (Sum.inl.inj q)
  rw [decide_eq_false h]
  exact (beq_eq_false_iff_ne.mpr e).symm
theorem qj0 (a b:Str):decide ((Sum.inr a:Key)=Sum.inr b)=decide (a=b):=by
 by_cases e:a=b
 ·subst e;simp
 ·have h:¬ (Sum.inr a:Key)=Sum.inr b:=fun q=>e (Sum.inr.inj q)
  rw [decide_eq_false h,decide_eq_false e]
theorem qjY (a:Int)(b:Str):decide ((Sum.inl a:Key)=Sum.inr b)=false:=decide_eq_false (fun q=>nomatch q)
theorem qjZ (a:Str)(b:Int):decide ((Sum.inr a:Key)=Sum.inl b)=false:=decide_eq_false (fun q=>nomatch q)
noncomputable def qdR (prog:Ku)(w:KI):PySem.KeyKind prog w Key where
 is:=qjb
 hash:=keyH w
 inj:=fun v a b ha hb=>by
  rcases zH ha with ⟨i,t,rfl,rfl⟩|⟨x,t,rfl,rfl⟩
  ·rcases zH hb with ⟨j,u,rfl,e⟩|⟨y,u,rfl,e⟩
   ·injection e with e1 _;rw [e1]
   ·exact nomatch e
  ·rcases zH hb with ⟨j,u,rfl,e⟩|⟨y,u,rfl,e⟩
   ·exact nomatch e
   ·injection e with e1 _;rw [e1]
 byValue:=fun k v h=>by
  rcases zH h with ⟨i,t,rfl,rfl⟩|⟨x,t,rfl,rfl⟩<;>rfl
 pyHash:=fun hv h=>by
  rcases zH hv with ⟨i,t,rfl,rfl⟩|⟨x,t,rfl,rfl⟩
  ·exact wpAny_pyHash_int h
  ·exact wpAny_pyHash_str h
 eqBool:=fun hu hv h=>by
  rcases zH hu with ⟨i,t,rfl,rfl⟩|⟨x,t,rfl,rfl⟩
  ·rcases zH hv with ⟨j,u,rfl,rfl⟩|⟨y,u,rfl,rfl⟩
   ·rw [qjX] at h;exact wpAny_eqBool_int h
   ·rw [qjY] at h;exact SeqAt.EqAt.int_str i t y u _ _ _ _ h
  ·rcases zH hv with ⟨j,u,rfl,rfl⟩|⟨y,u,rfl,rfl⟩
   ·rw [qjZ] at h;exact SeqAt.EqAt.str_int x t j u _ _ _ _ h
   ·rw [qj0] at h;exact wpAny_eqBool_str h
 «strs»:=fun k x t v h=>by
  rcases zH h with ⟨i,u,rfl,e⟩|⟨y,u,rfl,e⟩
  ·exact nomatch e
  ·injection e with e1 _
   subst e1
   cases v<;>rfl
inductive V where
 | non|bl (b:Bool)|int (i:Int)|str (x:Str)|byt (b:Array UInt8)|flt (b:UInt64)|ref (a:Kf)|ty (n:String)
 deriving DecidableEq
noncomputable def RelV:V->Ke->Prop
 | .non,u=>u=VC
 | .bl b,u=>u=K8 b
 | .int i,u=>∃ t,u=Nd i t
 | .str x,u=>∃ t,u=Nc x t
 | .byt b,u=>∃ t,u=Value.bytes b t
 | .flt b,u=>∃ t,u=Fu b t
 | .ref a,u=>u=KR a
 | .ty n,u=>u=V5 n
noncomputable abbrev Vals:List V->List Ke->Prop:=Vz RelV
theorem Vals.length {xs:List V}{us:List Ke}(r:Vals xs us):xs.length=us.length:=Paired.length r
theorem Vals.get:∀ {xs:List V} {us:List Ke} {i:Nat} {x:V},Vals xs us->xs[i]?=some x->∃ u,us[i]?=some u/\RelV x u
 | _,_,_,_,.nil,e=>by simp at e
 | _,_,0,_,.cons r _,e=>by simp at e;subst e;exact ⟨_,rfl,r⟩
 | _,_,i+1,x,.cons _ t,e=>by
  obtain ⟨u,h1,h2⟩:=Vals.get (i:=i) (x:=x) t (by simpa using e)
  exact ⟨u,by simpa using h1,h2⟩
theorem Vals.append:∀ {xs ys:List V} {us ws:List Ke},Vals xs us->Vals ys ws->Vals (xs++ys) (us++ws)
 | _,_,_,_,.nil,s=>s
 | _,_,_,_,.cons r t,s=>.cons r (Vals.append t s)
theorem Vals.take:∀ {xs:List V} {us:List Ke} (n:Nat),Vals xs us->Vals (xs.take n) (us.take n)
 | _,_,0,_=>.nil
 | _,_,_+1,.nil=>.nil
 | _,_,n+1,.cons r t=>.cons r (Vals.take n t)
theorem Vals.drop:∀ {xs:List V} {us:List Ke} (n:Nat),Vals xs us->Vals (xs.drop n) (us.drop n)
 | _,_,0,r=>r
 | _,_,_+1,.nil=>.nil
 | _,_,n+1,.cons _ t=>Vals.drop n t
noncomputable def RelO:Option V->Option Ke->Prop
 | some v,some u=>RelV v u
 | none,none=>True
 | _,_=>False
noncomputable def KV {κ:Type}:List (κ×V)->List (κ×Value)->Prop:=Vz fun (p:κ×V) (q:κ×Value)=>p.1=q.1/\RelV p.2 q.2
noncomputable def kV:Key->V
 | .inl i=>.int i
 | .inr x=>.str x
inductive HO where
 | lst (xs:List V)
 | tup (xs:List V)
 | dK (kvs:List (Key×V))|dT (kvs:List (List Key×V))
 | set (S:Int->Bool) (n:Nat)
 | ins (C dx:Kf) (fs:List (Str×V))
 | own (x:Kf)
 | xd (fs:List (Str×V))
 | met (f x:Kf)
 | rng (lo hi:Int)
 | frz (o:Obj) (u:HO)
 | tbl (ps:Array Ke)
 | ext (φ:KC->Prop)
noncomputable abbrev Hp:=Kf->Option HO
noncomputable def upd (H:Hp)(a:Kf)(o:HO):Hp:=fun b=>if b=a then some o else H b
theorem qH {H:Hp}{a:Kf}{o:HO}:upd H a o a=some o:=by unfold upd;rw [if_pos rfl]
theorem qC {H:Hp}{a b:Kf}{o:HO}(h:b≠a):upd H a o b=H b:=by unfold upd;rw [if_neg h]
theorem ne_of {H:Hp}{a b:Kf}{o u:HO}(h:H a=some o)(h':H b=some u)(d:o≠u):a≠b:=by
 intro e;subst e;rw [h] at h';exact d (V6 h')
theorem qZ {H:Hp}{a b:Kf}{o:HO}(h:H a=some o)(h':H b=none):a≠b:=by
 intro e;subst e;rw [h] at h';cases h'
section
variable (P:Ku)(w:KI)
noncomputable def zE (H:Hp)(h:KC)(a:Kf):HO->Prop
 | .lst xs=>xs.length<=sizeLine/\∃ (its:List Ke) (n:Nat),Vals xs its/\h.get? a=some { cls:=.type "list", data:=.seq its.toArray n }
 | .tup xs=>xs.length<=sizeLine/\∃ its:List Ke,Vals xs its/\IsTup h a its.toArray
 | .dK kvs=>kvs.length<=sizeLine/\(a==sysModules)=false/\∃ vs,KV kvs vs/\h.DictOf (qdR P w) a vs
 | .dT kvs=>kvs.length<=sizeLine/\(a==sysModules)=false/\∃ xs:List (List Key×Addr×Value),
   Vz (fun (p:List Key×V) (q:List Key×Addr×Value)=>p.1=q.1/\H q.2.1=some (.tup (p.1.map kV))/\RelV p.2 q.2.2) kvs xs/\
   ∃ o es ep,h.get? a=some o/\o.ExactDict/\o.data=.dict es ep/\es.toList=xs.map (entryOfKey (tupleKind (qdR P w)))/\(xs.map (·.1)).Nodup
 | .set S n=>h.SetOf (intKind P w) a S n
 | .ins C dx fs=>H dx=some (.own a)/\fs.length<=1000/\dx≠a/\h.get? a=some (V7 C dx)/\
   ∃ mA,h.Ns1 dx mA/\(∀ f,RelO (fs.lookup f) (mA f))/\PySem.Within mA (fs.map (·.1))
 | .own _=>∃ o,h.get? a=some o
 | .xd fs=>∃ mA,h.Ns1 a mA/\∀ f,RelO (fs.lookup f) (mA f)
 | .rng lo hi=>∃ t u v,h.get? a=some { cls:=.type "range", data:=.fields #[.int lo t,.int hi u,.int 1 v] }
 | .frz o u=>h.get? a=some o/\zE H h a u
 | .tbl ps=>h.get? a=some { cls:=.none,data:=.fields ps }
 | .met f x=>h.get? a=some (Eo (.ref f) (.ref x))
 | .ext φ=>φ h/\(∃ o,h.get? a=some o)/\∀ h1 h2:KC,φ h1->(∀ o,h1.get? a=some o->h2.get? a=some o)->φ h2
def HOk (H:Hp)(h:KC):Prop:=∀ a o,H a=some o->zE P w H h a o
end
section
variable {P:Ku}{w:KI}{H H':Hp}{h h':KC}{a:Kf}{o:HO}
theorem zE.lt (x:zE P w H h a o):a<h.objs.size:=by
 cases o with
 | lst xs=>obtain ⟨_,_,_,_,e⟩:=x;exact Ks e
 | tup xs=>obtain ⟨_,_,_,p⟩:=x;exact p.lt
 | dK kvs=>obtain ⟨_,_,_,_,o,_,_,e,_⟩:=x;exact Ks e
 | dT kvs=>obtain ⟨_,_,_,_,o,_,_,e,_⟩:=x;exact Ks e
 | set S n=>obtain ⟨o,_,_,_,e,_⟩:=x;exact Ks e
 | ins C dx fs=>obtain ⟨_,_,_,e,_⟩:=x;exact Ks e
 | own y=>obtain ⟨_,e⟩:=x;exact Ks e
 | xd fs=>obtain ⟨_,⟨_,_,_,e,_⟩,_⟩:=x;exact Ks e
 | rng lo hi=>obtain ⟨_,_,_,e⟩:=x;exact Ks e
 | frz ob u=>obtain ⟨e,_⟩:=x;exact Ks e
 | tbl ps=>exact Ks (show h.get? a=some _ from x)
 | met f y=>exact Ks (show h.get? a=some _ from x)
 | ext φ=>obtain ⟨_,⟨_,e⟩,_⟩:=x;exact Ks e
theorem Paired.mapP {α β:Type}{F G:α->β->Prop}:∀ {l₁:List α} {l₂:List β},Vz F l₁ l₂->(∀ a b,F a b->G a b)->Vz G l₁ l₂
 | _,_,.nil,_=>.nil
 | _,_,.cons r t,f=>.cons (f _ _ r) (Paired.mapP t f)
theorem zE.stay (x:zE P w H h a o)(k:∀ b u,(b=a\/H b=some (.own a))->h.get? b=some u->h'.get? b=some u)
  (ho:∀ b,H b=some (.own a)->H' b=some (.own a)) (ht:∀ b xs,H b=some (.tup xs)->H' b=some (.tup xs)):zE P w H' h' a o:=by
 induction o with
 | lst xs=>obtain ⟨z,its,n,r,e⟩:=x;exact ⟨z,its,n,r,k _ _ (.inl rfl) e⟩
 | tup xs=>obtain ⟨z,its,r,ob,e,c⟩:=x;exact ⟨z,its,r,ob,k _ _ (.inl rfl) e,c⟩
 | dK kvs=>obtain ⟨z,y,vs,r,ob,es,ep,e,c⟩:=x;exact ⟨z,y,vs,r,ob,es,ep,k _ _ (.inl rfl) e,c⟩
 | dT kvs =>
  obtain ⟨z,y,xs,r,ob,es,ep,e,c⟩:=x
  exact ⟨z,y,xs,Paired.mapP r fun p q z=>⟨z.1,ht _ _ z.2.1,z.2.2⟩,ob,es,ep,k _ _ (.inl rfl) e,c⟩
 | set S n=>obtain ⟨ob,es,ep,t,e,c⟩:=x;exact ⟨ob,es,ep,t,k _ _ (.inl rfl) e,c⟩
 | ins C dx fs =>
  obtain ⟨d,z,ne,e,mA,⟨od,es,ep,e2,c⟩,r⟩:=x
  exact ⟨ho _ d,z,ne,k _ _ (.inl rfl) e,mA,⟨od,es,ep,k _ _ (.inr d) e2,c⟩,r⟩
 | own y=>obtain ⟨ob,e⟩:=x;exact ⟨ob,k _ _ (.inl rfl) e⟩
 | xd fs=>obtain ⟨mA,⟨od,es,ep,e,c⟩,r⟩:=x;exact ⟨mA,⟨od,es,ep,k _ _ (.inl rfl) e,c⟩,r⟩
 | rng lo hi=>obtain ⟨t,u,v,e⟩:=x;exact ⟨t,u,v,k _ _ (.inl rfl) e⟩
 | frz ob u ih=>obtain ⟨e,q⟩:=x;exact ⟨k _ _ (.inl rfl) e,ih q⟩
 | tbl ps =>
  have e:h.get? a=some { cls:=.none,data:=.fields ps }:=x
  show h'.get? a=some { cls:=.none,data:=.fields ps }
  exact k a _ (.inl rfl) e
 | met f y =>
  have e:h.get? a=some (Eo (.ref f) (.ref y)):=x
  show h'.get? a=some (Eo (.ref f) (.ref y))
  exact k a _ (.inl rfl) e
 | ext φ=>obtain ⟨p,⟨o,e⟩,st⟩:=x;exact ⟨st _ _ p fun o q=>k _ _ (.inl rfl) q,⟨o,k _ _ (.inl rfl) e⟩,st⟩
theorem HOk.lt (x:HOk P w H h)(e:H a=some o):a<h.objs.size:=(x a o e).lt
theorem HOk.fresh (x:HOk P w H h)(e:h.objs.size<=a):H a=none:=by
 cases q:H a with
 | none=>rfl
 | some u=>exact absurd (KP (x.lt q) e) (V3 _)
theorem HOk.kept (x:HOk P w H h)(k:∀ b u,h.get? b=some u->h'.get? b=some u):HOk P w H h':=fun a o e =>
 (x a o e).stay (fun b u _ q=>k b u q) (fun _ q=>q) fun _ _ q=>q
theorem HOk.laid (x:HOk P w H h)(k:∀ b u,h.get? b=some u->h'.get? b=some u)(hp:h.objs.size<=a)(new:zE P w (upd H a o) h' a o):HOk P w (upd H a o) h':=fun b u e=>by
 have hn:=x.fresh hp
 by_cases hb:b=a
 ·subst hb;rw [qH] at e;cases e;exact new
 ·rw [qC hb] at e
  exact (x b u e).stay (fun c v _ q=>k c v q) (fun c q=>by rw [qC (qZ q hn)];exact q) fun c xs q=>by rw [qC (qZ q hn)];exact q
end
def Rd (H:Hp)(a:Kf)(u:HO):Prop:=H a=some u\/∃ o,H a=some (.frz o u)
theorem Rd.ok {P:Ku}{w:KI}{H:Hp}{h:KC}{a:Kf}{u:HO}(r:Rd H a u)(x:HOk P w H h):zE P w H h a u:=by
 rcases r with r|⟨o,r⟩
 ·exact x a u r
 ·obtain ⟨_,q⟩:=x a _ r
  exact q
noncomputable def Mut:Option HO->Prop
 | some (.lst _)=>True
 | some (.dK _)=>True
 | some (.dT _)=>True
 | some (.set _ _)=>True
 | some (.ins _ _ _)=>True
 | some (.ext _)=>True
 | _=>False
section
variable {P:Ku}{w:KI}{H:Hp}{h h':KC}{x e:Kf}{o':HO}
theorem HOk.write (ok:HOk P w H h)(mu:Mut (H x))(he:e=x\/H e=some (.own x))(k:∀ b u,b≠e->h.get? b=some u->h'.get? b=some u)(heo:∃ u,h'.get? e=some u)
  (new:zE P w (upd H x o') h' x o'):HOk P w (upd H x o') h':=fun b u q=>by
 have nown:∀ c y,H c=some (.own y)->c≠x:=fun c y r z=>by subst z;rw [r] at mu;exact mu
 have ntup:∀ c xs,H c=some (.tup xs)->c≠x:=fun c xs r z=>by subst z;rw [r] at mu;exact mu
 by_cases hb:b=x
 ·subst hb;rw [qH] at q;cases q;exact new
 ·rw [qC hb] at q
  by_cases hbe:b=e
  ·have q':H b=some (.own x):=by
    rcases he with z|z
    ·exact absurd (hbe.trans z) hb
    ·rw [hbe];exact z
   rw [q] at q';cases q'
   obtain ⟨v,hv⟩:=heo
   exact ⟨v,by rw [hbe];exact hv⟩
  ·refine (ok b u q).stay (fun c v hc r=>k c v ?_ r) (fun c r=>by rw [qC (nown c b r)];exact r) fun c xs r=>by rw [qC (ntup c xs r)];exact r
   rcases hc with rfl|hc
   ·exact hbe
   ·rintro rfl
    rcases he with z|z
    ·exact nown c b hc z
    ·rw [hc] at z;cases z;exact hb rfl
end
structure Un (fs ex:List Kf)(H H':Hp)(h h':KC):Prop where
 keep:∀ b o,h.get? b=some o->H b=none->b∉fs->b∉ex->h'.get? b=some o
 slot:∀ b o,h.get? b=some o->H b=none->b∈fs->b∉ex->∃ sl,h'.get? b=some { o with slots:=sl }
 free:∀ b o,h.get? b=some o->H b=none->b∉ex->H' b=none
 there:∀ b o,h.get? b=some o->b∉ex->∃ o',h'.get? b=some o'
 tups:∀ b xs,H b=some (.tup xs)->H' b=some (.tup xs)
 frzs:∀ b o u,H b=some (.frz o u)->H' b=some (.frz o u)
 tbls:∀ b ps,H b=some (.tbl ps)->∃ more,H' b=some (.tbl (ps++more))
section
variable {fs fs' ex ex':List Kf}{H H1 H2:Hp}{h h1 h2 h':KC}{a x e:Kf}{o:HO}
theorem Un.any (u:Un fs ex H H1 h h1){b:Kf}{ob:Obj}(q:h.get? b=some ob)(n:H b=none)(hx:b∉ex):∃ sl,h1.get? b=some { ob with slots:=sl }:=by
 by_cases hb:b∈fs
 ·exact u.slot b ob q n hb hx
 ·exact ⟨ob.slots,u.keep b ob q n hb hx⟩
theorem Un.kept (k:∀ b u,h.get? b=some u->h'.get? b=some u):Un fs ex H H h h' :=
 ⟨fun b ob q _ _ _=>k b ob q,fun b ob q _ _ _=>⟨ob.slots,k b ob q⟩,fun _ _ _ n _=>n,fun b ob q _=>⟨ob,k b ob q⟩,fun _ _ q=>q,fun _ _ _ q=>q,fun _ ps q=>⟨#[],by rw [q];simp⟩⟩
theorem Un.refl:Un fs ex H H h h:=Un.kept fun _ _ q=>q
theorem Un.laid (k:∀ b u,h.get? b=some u->h'.get? b=some u)(hp:h.objs.size<=a)(hn:H a=none):Un fs ex H (upd H a o) h h' where
 keep:=fun b u q _ _ _=>k b u q
 slot:=fun b u q _ _ _=>⟨u.slots,k b u q⟩
 free:=fun b u q n _=>by rw [qC (KN (KP (Ks q) hp))];exact n
 there:=fun b u q _=>⟨u,k b u q⟩
 tups:=fun b xs q=>by rw [qC (qZ q hn)];exact q
 frzs:=fun b u xs q=>by rw [qC (qZ q hn)];exact q
 tbls:=fun b ps q=>⟨#[],by rw [qC (qZ q hn),q];simp⟩
theorem Un.write (mu:Mut (H x))(he:e=x\/H e=some (.own x))(k:∀ b u,b≠e->h.get? b=some u->h'.get? b=some u)(heo:∃ u,h'.get? e=some u):Un fs ex H (upd H x o) h h':=by
 have hx:∀ b,H b=none->b≠x:=fun b n z=>by subst z;rw [n] at mu;exact mu
 have hb:∀ b,H b=none->b≠e:=fun b n z=>by
  subst z
  rcases he with r|r
  ·exact hx b n r
  ·rw [n] at r;cases r
 have hm:∀ b u,H b=some u->¬ Mut (some u)->b≠x:=fun b u q nm z=>by subst z;rw [q] at mu;exact nm mu
 refine ⟨fun b u q n _ _=>k b u (hb b n) q,fun b u q n _ _=>⟨u.slots,k b u (hb b n) q⟩,fun b u q n _=>by rw [qC (hx b n)];exact n,fun b u q _=>?_,
  fun b xs q=>by rw [qC (hm b _ q fun z=>z)];exact q,fun b u xs q=>by rw [qC (hm b _ q fun z=>z)];exact q,fun b ps q=>⟨#[],by rw [qC (hm b _ q fun z=>z),q];simp⟩⟩
 by_cases hbe:b=e
 ·subst hbe;exact heo
 ·exact ⟨u,k b u hbe q⟩
end
noncomputable def trk (h:KC)(H:Hp):List Kf:=(Xg h.objs.size).filter fun a=>(H a).isSome
noncomputable def hidT (h:KC)(H:Hp):KC:=V8 h (trk h H)
theorem qez (h:KC)(H:Hp):(hidT h H).objs.size=h.objs.size:=PySem.W.hideAll_size _ _
theorem qfS {h:KC}{H:Hp}{b:Kf}{o:Obj}(e:h.get? b=some o)(n:H b=none):(hidT h H).get? b=some o :=
 Fc _ e fun hm=>by
  have q:(H b).isSome=true:=(List.mem_filter.mp hm).2
  rw [n] at q;simp at q
theorem qie {h:KC}{H:Hp}{b:Kf}{o:Obj}(e:(hidT h H).get? b=some o):h.get? b=some o/\H b=none:=by
 have e':h.get? b=some o:=Ea (trk h H) e
 refine ⟨e',?_⟩
 cases q:H b with
 | none=>rfl
 | some x =>
  have hm:b∈trk h H:=List.mem_filter.mpr ⟨EX.mpr (Ks e'),by simp [q]⟩
  have z:(hidT h H).get? b=none:=XX (trk h H) hm
  rw [z] at e;cases e
structure Mod (K:Kd)(mg:Str->Option Ke)(base:KC):Prop where
 kin:K.In base
 glob:base.Ns mainGlobals mg
 blt:∃ mb,base.Ns builtinsNs mb/\∀ x:Str,x ≠ "__name__"->mb x=bootBuiltins x
 nolimit:base.NoLimit
structure Cx where
 prog:Ku
 w:KI
 K:Kd
 mg:Str->Option Ke
 base:KC
 A:KF
 N:List Str
 s₀:Kg
 H₀:Hp
 env:Env
 outer:List Env
 stack:List Env
 ex:List Kf
 fn:Str->Bool
 calm:Bool
 pn:List (Kf×Obj)
 xe:Ke->Kg->Prop
noncomputable def frs (l:List Env):List Kf:=l.filterMap (·.frame)
noncomputable abbrev Cx.fs (X:Cx):List Kf:=frs X.outer
def Vis (sc:Ua)(x:Str):Prop:=sc.names.lookup x=some .local\/sc.names.lookup x=some .cell\/sc.names.lookup x=some .free
def Loc (sc:Ua)(x:Str):Prop:=sc.names.lookup x=some .local\/sc.names.lookup x=some .cell
def Look (env:Env)(h:KC)(m:Str->Option Ke)(x:Str)(u:Ke):Prop :=
 (env.kindOf x=some .local/\m x=some u)\/((env.kindOf x=some .cell\/env.kindOf x=some .free)/\∃ c,env.cells.lookup x=some c/\h.IsCell c (some u))
structure Cx.Ok (X:Cx):Prop where
 mod:Mod X.K X.mg X.base
 kind:X.env.scope.kind=.function
 glob:X.env.globals=mainGlobals
 blt:X.env.builtins=builtinsNs
 above:X.s₀.heap.objs.size<=X.env.locals
 inj:∀ x y c,X.env.cells.lookup x=some c->X.env.cells.lookup y=some c->x=y
 has:∀ x,(X.env.kindOf x=some .cell\/X.env.kindOf x=some .free)->∃ c,X.env.cells.lookup x=some c
 cab:∀ x c,X.fn x=true->X.env.cells.lookup x=some c->X.s₀.heap.objs.size<=c
 hd:X.calm=true->X.A.handled=none
 frames:X.A.frames=some X.stack
 stk:X.stack=X.outer\/(X.stack=X.env::X.outer/\X.env.frame=some X.env.locals)
 exf:∀ b∈X.ex,b≠X.env.locals/\∀ x c,X.env.cells.lookup x=some c->c≠b
 bs:∀ b o,X.base.get? b=some o->X.s₀.heap.get? b=some o/\X.H₀ b=none
 bsz:X.base.objs.size<=X.s₀.heap.objs.size
 noex:∀ b o,X.base.get? b=some o->b∉X.ex
 exfs:∀ b∈X.ex,b∉X.fs
 funs:X.s₀.heap.FunFrames X.base X.outer
 frf:∀ b∈X.fs,X.H₀ b=none
structure Inv (X:Cx)(pins:List (Kf×Obj))(σ:List (Option V))(H:Hp)(s:Kg):Prop where
 ok:X.Ok
 os:s.os=X.s₀.os
 bare:XQ s.gens
 base:Un X.fs X.ex X.H₀ H X.s₀.heap s.heap
 loc:∃ m,s.heap.Ns X.env.locals m/\∀ (i:Nat) (x:Str) (v:V),X.N[i]?=some x->σ[i]?=some (some v)->Vis X.env.scope x->∃ u,RelV v u/\Look X.env s.heap m x u
 cell:∀ x c,X.env.cells.lookup x=some c->∃ v,s.heap.IsCell c v
 free:H X.env.locals=none
 freeC:∀ x c,X.env.cells.lookup x=some c->H c=none
 pin:∀ p∈X.pn++pins,s.heap.get? p.1=some p.2/\H p.1=none/\p.1≠X.env.locals/\p.1∉X.fs/\∀ v,p.2.data≠.cell v
 hok:HOk X.prog X.w H s.heap
 len:σ.length=X.N.length
section
variable {X:Cx}{pins:List (Kf×Obj)}{σ:List (Option V)}{H H':Hp}{s:Kg}{h':KC}
theorem Cx.Ok.nofr (ok:X.Ok){b:Kf}{o:Obj}(e:X.base.get? b=some o):b∉X.fs:=fun hb=>by
 have:=(ok.funs.mem hb).1
 rw [e] at this;cases this
theorem Inv.bs (I:Inv X pins σ H s):∀ b o,X.base.get? b=some o->s.heap.get? b=some o/\H b=none:=fun b o e =>
 ⟨I.base.keep b o (I.ok.bs b o e).1 (I.ok.bs b o e).2 (I.ok.nofr e) (I.ok.noex b o e),I.base.free b o (I.ok.bs b o e).1 (I.ok.bs b o e).2 (I.ok.noex b o e)⟩
theorem Inv.bk (I:Inv X pins σ H s):∀ b o,X.base.get? b=some o->s.heap.get? b=some o:=fun b o e=>(I.bs b o e).1
theorem Inv.mod (I:Inv X pins σ H s):Mod X.K X.mg X.base:=I.ok.mod
theorem Inv.kIn (I:Inv X pins σ H s):X.K.In s.heap:=I.ok.mod.kin.keeps I.bk
theorem Inv.lt (I:Inv X pins σ H s):X.env.locals<s.heap.objs.size:=let ⟨_,hn,_⟩:=I.loc;hn.lt
theorem Inv.sz (I:Inv X pins σ H s):X.s₀.heap.objs.size<=s.heap.objs.size:=Vo I.ok.above (VI I.lt)
theorem Inv.nofs (I:Inv X pins σ H s){a:Kf}(h:s.heap.objs.size<=a):a∉X.fs:=fun hb=>by
 obtain ⟨_,o,ho,_⟩:=I.ok.funs.mem hb
 exact absurd (KP (Ks ho) (Vo I.sz h)) (V3 _)
theorem Inv.cne (I:Inv X pins σ H s):∀ x c,X.env.cells.lookup x=some c->c≠X.env.locals:=fun x c e z=>by
 obtain ⟨v,o,ho,hd⟩:=I.cell x c e
 obtain ⟨m,⟨o',es,ep,ho',hd',_⟩,_⟩:=I.loc
 rw [z,ho'] at ho;cases ho;rw [hd'] at hd;cases hd
theorem Inv.funs (I:Inv X pins σ H s):s.heap.FunFrames X.base X.outer:=by
 have all:∀ (l:List Env),(∀ b∈frs l,b∈X.fs)->X.s₀.heap.FunFrames X.base l->s.heap.FunFrames X.base l:=by
  intro l
  induction l with
  | nil=>intro _ _;trivial
  | cons env r ih =>
   intro hs hl
   obtain ⟨hk,⟨L,o,hf,hn,ho,hd⟩,hr⟩:=hl
   have hL:L∈X.fs:=hs L (by unfold frs;rw [VP,hf];exact VJ)
   obtain ⟨sl,e⟩:=I.base.slot L o ho (I.ok.frf L hL) hL fun z=>I.ok.exfs L z hL
   exact ⟨hk,⟨L,_,hf,hn,e,hd⟩,ih (fun b hb=>hs b (by unfold frs;rw [VP,hf];exact Vr _ hb)) hr⟩
 exact all X.outer (fun _ hb=>hb) I.ok.funs
theorem Inv.stack (I:Inv X pins σ H s):s.heap.FunFrames X.base X.stack:=by
 rcases I.ok.stk with e|⟨e,hf⟩
 ·rw [e];exact I.funs
 ·rw [e]
  obtain ⟨m,hn,_⟩:=I.loc
  refine .cons (by rw [I.ok.kind];decide) hf hn ?_ I.funs
  exact Heap.get?_none_of_le (Vo I.ok.bsz I.ok.above)
theorem Inv.stkSub (I:Inv X pins σ H s):∀ b∈frs X.stack,b∈X.env.locals::X.fs:=fun b hb=>by
 rcases I.ok.stk with e|⟨e,hf⟩
 ·rw [e] at hb;exact Vr _ hb
 ·rw [e] at hb
  unfold frs at hb
  rw [VP,hf] at hb
  exact hb
theorem Inv.stkFree (I:Inv X pins σ H s):∀ b∈frs X.stack,H b=none:=fun b hb=>by
 rcases Ko.mp (I.stkSub b hb) with e|hb
 ·rw [e];exact I.free
 ·obtain ⟨_,o,ho,_⟩:=I.ok.funs.mem hb
  exact I.base.free b o ho (I.ok.frf b hb) fun z=>I.ok.exfs b z hb
theorem Inv.step {g':Array GenState}{t':Nat}{d':Drawn}{ch:List Kf}(I:Inv X pins σ H s)
  (hch:∀ b∈ch,(b∈X.ex\/X.s₀.heap.objs.size<=b)/\b≠X.env.locals/\(∀ x c,X.env.cells.lookup x=some c->c≠b)/\∀ p∈X.pn++pins,p.1≠b)
  (keep:∀ b o,b≠X.env.locals->b∉X.fs->b∉ch->s.heap.get? b=some o->H b=none->h'.get? b=some o)
  (slot:∀ b o,b≠X.env.locals->b∈X.fs->b∉ch->s.heap.get? b=some o->H b=none->∃ sl,h'.get? b=some { o with slots:=sl }) (free:∀ b o,b∉ch->s.heap.get? b=some o->H b=none->H' b=none)
  (there:∀ b o,b∉ch->s.heap.get? b=some o->∃ o',h'.get? b=some o')
  (tups:∀ b xs,H b=some (.tup xs)->H' b=some (.tup xs)) (frzs:∀ b o u,H b=some (.frz o u)->H' b=some (.frz o u)) (tbls:∀ b ps,H b=some (.tbl ps)->∃ more,H' b=some (.tbl (ps++more)))
  (ns:∀ m,s.heap.Ns X.env.locals m->h'.Ns X.env.locals m) (hok:HOk X.prog X.w H' h') (hg:XQ g') :
  Inv X pins σ H' { s with heap:=h',gens:=g',drawn:=d',toks:=t' }:=by
 have neL:∀ b o,X.s₀.heap.get? b=some o->b≠X.env.locals:=fun b o e=>KN (KP (Ks e) I.ok.above)
 have neC:∀ b o,X.s₀.heap.get? b=some o->b∉X.ex->b∉ch:=fun b o e hx hb=>by
  rcases (hch b hb).1 with z|z
  ·exact hx z
  ·exact absurd (KP (Ks e) z) (V3 _)
 have cellK:∀ x c,X.env.cells.lookup x=some c->∀ v,s.heap.IsCell c v->h'.IsCell c v:=fun x c e v ⟨o,ho,hd⟩=>by
  have nch:c∉ch:=fun z=>(hch c z).2.2.1 x c e rfl
  by_cases hc:c∈X.fs
  ·obtain ⟨sl,q⟩:=slot c o (I.cne x c e) hc nch ho (I.freeC x c e)
   exact ⟨_,q,hd⟩
  ·exact ⟨o,keep c o (I.cne x c e) hc nch ho (I.freeC x c e),hd⟩
 refine ⟨I.ok,I.os,hg,⟨fun b o e n hb hx=>?_,fun b o e n hb hx=>?_,fun b o e n hx=>?_,fun b o e hx=>?_,fun b xs e=>tups b xs (I.base.tups b xs e),fun b o xs e=>frzs b o xs (I.base.frzs b o xs e),fun b ps e=>?_⟩,?_,fun x c e=>?_,?_,fun x c e=>?_,fun p hp=>?_,hok,I.len⟩
 ·exact keep b o (neL b o e) hb (neC b o e hx) (I.base.keep b o e n hb hx) (I.base.free b o e n hx)
 ·obtain ⟨sl,e1⟩:=I.base.slot b o e n hb hx
  obtain ⟨sl',e2⟩:=slot b _ (neL b o e) hb (neC b o e hx) e1 (I.base.free b o e n hx)
  exact ⟨sl',e2⟩
 ·obtain ⟨o',e1⟩:=I.base.there b o e hx
  exact free b o' (neC b o e hx) e1 (I.base.free b o e n hx)
 ·obtain ⟨o',e1⟩:=I.base.there b o e hx
  exact there b o' (neC b o e hx) e1
 ·obtain ⟨m1,e1⟩:=I.base.tbls b ps e
  obtain ⟨m2,e2⟩:=tbls b _ e1
  exact ⟨m1++m2,by rw [e2,Array.append_assoc]⟩
 ·obtain ⟨m,hn,hl⟩:=I.loc
  refine ⟨m,ns m hn,fun i x v e1 e2 e3=>?_⟩
  obtain ⟨u,r,l⟩:=hl i x v e1 e2 e3
  refine ⟨u,r,?_⟩
  rcases l with l|⟨k,c,e,z⟩
  ·exact .inl l
  ·exact .inr ⟨k,c,e,cellK x c e _ z⟩
 ·obtain ⟨v,z⟩:=I.cell x c e
  exact ⟨v,cellK x c e v z⟩
 ·obtain ⟨m,⟨o,_,_,ho,_⟩,_⟩:=I.loc
  exact free _ o (fun z=>(hch _ z).2.1 rfl) ho I.free
 ·obtain ⟨v,o,ho,hd⟩:=I.cell x c e
  exact free c o (fun z=>(hch c z).2.2.1 x c e rfl) ho (I.freeC x c e)
 ·obtain ⟨e,n,ne,nf,d⟩:=I.pin p hp
  have nch:p.1∉ch:=fun z=>(hch p.1 z).2.2.2 p hp rfl
  exact ⟨keep p.1 p.2 ne nf nch e n,free p.1 p.2 nch e n,ne,nf,d⟩
theorem Inv.un {t':Nat}(I:Inv X pins σ H s)(u:Un X.fs [] H H' s.heap h')(hok:HOk X.prog X.w H' h'):Inv X pins σ H' { s with heap:=h',toks:=t' }:=by
 obtain ⟨m,⟨o,es,ep,ho,r⟩,_⟩:=id I.loc
 obtain ⟨sl,hL⟩:=u.any ho I.free (by simp)
 exact I.step (g':=s.gens) (d':=s.drawn) (ch:=[]) (fun _ z=>nomatch z) (fun b o _ hb _ e n=>u.keep b o e n hb (by simp)) (fun b o _ hb _ e n=>u.slot b o e n hb (by simp)) (fun b o _ e n=>u.free b o e n (by simp)) (fun b o _ e=>u.there b o e (by simp)) u.tups u.frzs u.tbls (fun m' hm=>by
  obtain ⟨o',es',ep',ho',r'⟩:=hm
  rw [ho] at ho';cases ho'
  exact ⟨_,es',ep',hL,r'⟩) hok I.bare
theorem Inv.call {g':Array GenState}{t':Nat}{d':Drawn}{ch:List Kf}(I:Inv X pins σ H s)(u:Un (frs X.stack) ch H H' s.heap h')(hok:HOk X.prog X.w H' h')(hg:XQ g')
  (hch:∀ b∈ch,(b∈X.ex\/X.s₀.heap.objs.size<=b)/\b≠X.env.locals/\(∀ x c,X.env.cells.lookup x=some c->c≠b)/\∀ p∈X.pn++pins,p.1≠b) :
  Inv X pins σ H' { s with heap:=h',gens:=g',drawn:=d',toks:=t' }:=by
 obtain ⟨m,⟨o,es,ep,ho,r⟩,_⟩:=id I.loc
 obtain ⟨sl,hL⟩:=u.any ho I.free fun z=>(hch _ z).2.1 rfl
 exact I.step (ch:=ch) hch (fun b o hL hb hc e n=>u.keep b o e n (fun z=>(Ko.mp (I.stkSub b z)).elim hL hb) hc) (fun b o _ _ hc e n=>u.any e n hc) (fun b o hc e n=>u.free b o e n hc) (fun b o hc e=>u.there b o e hc) u.tups u.frzs u.tbls (fun m' hm=>by
  obtain ⟨o',es',ep',ho',r'⟩:=hm
  rw [ho] at ho';cases ho'
  exact ⟨_,es',ep',hL,r'⟩) hok hg
theorem Inv.turned {t':Nat}{it:Kf}(I:Inv X pins σ H s)(k:∀ b o,b≠it->s.heap.get? b=some o->h'.get? b=some o)(hn:H it=none)(hL:it≠X.env.locals)
  (h1:it∈X.ex\/X.s₀.heap.objs.size<=it) (h2:∀ x c,X.env.cells.lookup x=some c->c≠it) (h3:∀ p∈X.pn++pins,p.1≠it):Inv X pins σ H { s with heap:=h',toks:=t' }:=by
 have nit:∀ b u,H b=some u->b≠it:=fun b u e z=>by rw [z,hn] at e;cases e
 refine I.step (g':=s.gens) (d':=s.drawn) (ch:=[it]) (fun b hb=>?_) (fun b o _ _ hc e _=>k b o (fun z=>hc (by simp [z])) e) (fun b o _ _ hc e _=>⟨o.slots,k b o (fun z=>hc (by simp [z])) e⟩) (fun _ _ _ _ n=>n)
  (fun b o hc e=>⟨o,k b o (fun z=>hc (by simp [z])) e⟩) (fun _ _ e=>e) (fun _ _ _ e=>e) (fun b ps e=>⟨#[],by rw [e];simp⟩) (fun m hm=>?_) (fun b u e=>?_) I.bare
 ·have e:b=it:=by simpa using hb
  subst e
  exact ⟨h1,hL,h2,h3⟩
 ·obtain ⟨o,es,ep,ho,r⟩:=hm
  exact ⟨o,es,ep,k _ o (VT hL) ho,r⟩
 ·refine (I.hok b u e).stay (fun c v hc q=>k c v ?_ q) (fun _ q=>q) fun _ _ q=>q
  rcases hc with z|z
  ·rw [z];exact nit b u e
  ·exact nit c _ z
theorem Inv.tok (I:Inv X pins σ H s)(t:Nat):Inv X pins σ H { s with toks:=t }:=I.un (h':=s.heap) (t':=t) Un.refl I.hok
theorem Inv.kept {t':Nat}(I:Inv X pins σ H s)(k:∀ b u,s.heap.get? b=some u->h'.get? b=some u):Inv X pins σ H { s with heap:=h',toks:=t' }:=I.un (Un.kept k) (I.hok.kept k)
theorem Inv.laid {a:Kf}{o:HO}{t':Nat}(I:Inv X pins σ H s)(k:∀ b u,s.heap.get? b=some u->h'.get? b=some u)(hp:s.heap.objs.size<=a)(new:zE X.prog X.w (upd H a o) h' a o) :
  Inv X pins σ (upd H a o) { s with heap:=h',toks:=t' }:=I.un (Un.laid k hp (I.hok.fresh hp)) (I.hok.laid k hp new)
theorem Inv.write {x e:Kf}{o:HO}{t':Nat}(I:Inv X pins σ H s)(mu:Mut (H x))(he:e=x\/H e=some (.own x))(k:∀ b u,b≠e->s.heap.get? b=some u->h'.get? b=some u)(heo:∃ u,h'.get? e=some u)
  (new:zE X.prog X.w (upd H x o) h' x o):Inv X pins σ (upd H x o) { s with heap:=h',toks:=t' }:=I.un (Un.write mu he k heo) (I.hok.write mu he k heo new)
theorem Inv.pins_of {pins':List (Kf×Obj)}(I:Inv X pins σ H s)(h:∀ p∈pins',s.heap.get? p.1=some p.2/\H p.1=none/\p.1≠X.env.locals/\p.1∉X.fs/\∀ v,p.2.data≠.cell v):Inv X pins' σ H s :=
 ⟨I.ok,I.os,I.bare,I.base,I.loc,I.cell,I.free,I.freeC,fun p hp=>(VN.mp hp).elim (fun z=>I.pin p (UB _ z)) (h p),I.hok,I.len⟩
theorem Wa {N:List Str}(hN:N.Nodup){i j:Nat}{x:Str}(a:N[i]?=some x)(b:N[j]?=some x):i=j:=by
 obtain ⟨h1,e1⟩:=KD.mp a
 obtain ⟨h2,e2⟩:=KD.mp b
 exact (List.getElem_inj hN).mp (e1.trans e2.symm)
theorem qaC {M:Model}{A:KF}{E:Ke->Kg->Prop}{i:Nat}{x:Str}{v:V}{u:Ke}{Q:Unit->Kg->Prop}(I:Inv X pins σ H s)(hN:X.N.Nodup)(hi:X.N[i]?=some x)(hx:Loc X.env.scope x)(r:RelV v u)
  (h:∀ s',Inv X pins (σ.set i (some v)) H s'->(∃ a,Xj a s.heap s'.heap/\(a=X.env.locals\/X.env.cells.lookup x=some a))->Q () s') (hf:X.fn x=true\/X.env.scope.names.lookup x=some .local:=by first|exact .inl rfl|exact .inr rfl|assumption):wpAny M A (storeName X.env x u) Q E s:=by
 obtain ⟨m,hn,hl⟩:=id I.loc
 have hcls:(X.env.scope.kind==.class||(X.env.scope.kind==.module&&X.env.locals != X.env.globals))=false:=by rw [I.ok.kind];rfl
 have hiσ:i<σ.length:=by rw [I.len];exact (KD.mp hi).1
 have cne:=I.cne
 have tracked:∀ {a:Kf} {h':KC},(∃ o,s.heap.get? a=some o/\H a=none)->Xj a s.heap h'->HOk X.prog X.w H h':=fun {a h'} ha hs b ob e=>by
  obtain ⟨_,_,hfree⟩:=ha
  refine (I.hok b ob e).stay (fun c w' hc q=>(hs.2 c ?_).trans q) (fun _ q=>q) fun _ _ q=>q
  rintro rfl
  rcases hc with rfl|hc
  ·rw [hfree] at e;cases e
  ·rw [hfree] at hc;cases hc
 rcases hx with hk|hk
 ·refine wpAny_storeName_local hk hn (fun h' hn' hs=>?_) hcls
  obtain ⟨oL,_,_,hoL,_⟩:=id hn
  refine h _ ⟨I.ok,I.os,I.bare,⟨fun b o e n hb hx=>?_,fun b o e n hb hx=>?_,I.base.free,fun b o e hx=>?_,I.base.tups,I.base.frzs,I.base.tbls⟩,⟨_,hn',fun j y v' e1 e2 e3=>?_⟩,fun y c e=>?_,I.free,I.freeC,fun p hp=>?_,tracked ⟨oL,hoL,I.free⟩ hs,by simpa using I.len⟩ ⟨_,hs,.inl rfl⟩
  ·exact (hs.2 b (KN (KP (Ks e) I.ok.above))).trans (I.base.keep b o e n hb hx)
  ·obtain ⟨sl,e1⟩:=I.base.slot b o e n hb hx
   exact ⟨sl,(hs.2 b (KN (KP (Ks e) I.ok.above))).trans e1⟩
  ·obtain ⟨o',e1⟩:=I.base.there b o e hx
   exact ⟨o',(hs.2 b (KN (KP (Ks e) I.ok.above))).trans e1⟩
  ·by_cases hj:j=i
   ·subst hj
    rw [hi] at e1;cases e1
    rw [Vp hiσ] at e2
    cases e2
    exact ⟨u,r,.inl ⟨hk,by simp⟩⟩
   ·rw [Vw (VT hj)] at e2
    obtain ⟨u',r',q⟩:=hl j y v' e1 e2 e3
    refine ⟨u',r',?_⟩
    rcases q with ⟨k,e⟩|⟨k,c,e,z⟩
    ·refine .inl ⟨k,?_⟩
     have:y≠x:=fun e=>hj (Wa hN e1 (e ▸ hi))
     simp [this,e]
    ·exact .inr ⟨k,c,e,z.sameBut hs (cne y c e)⟩
  ·obtain ⟨w',z⟩:=I.cell y c e
   exact ⟨w',z.sameBut hs (cne y c e)⟩
  ·obtain ⟨e,n,ne,nf,d⟩:=I.pin p hp
   exact ⟨(hs.2 p.1 ne).trans e,n,ne,nf,d⟩
 ·have hfn:X.fn x=true:=by
   rcases hf with z|z
   ·exact z
   ·rw [z] at hk;cases hk
  obtain ⟨c,hc⟩:=I.ok.has x (.inl hk)
  obtain ⟨w',z⟩:=I.cell x c hc
  refine wpAny_storeName_cell I.ok.kind hk hc z (fun h' hc' hs=>?_)
  obtain ⟨oc,hoc,hocd⟩:=id z
  refine h { s with heap:=h' } ⟨I.ok,I.os,I.bare,⟨fun b o e n hb hx=>?_,fun b o e n hb hx=>?_,I.base.free,fun b o e hx=>?_,I.base.tups,I.base.frzs,I.base.tbls⟩,⟨m,hn.sameBut hs (VT (cne x c hc)),fun j y v' e1 e2 e3=>?_⟩,fun y c' e=>?_,I.free,I.freeC,fun p hp=>?_,tracked ⟨oc,hoc,I.freeC x c hc⟩ hs,by simpa using I.len⟩ ⟨c,hs,.inr hc⟩
  ·exact (hs.2 b (KN (KP (Ks e) (I.ok.cab x c hfn hc)))).trans (I.base.keep b o e n hb hx)
  ·obtain ⟨sl,e1⟩:=I.base.slot b o e n hb hx
   exact ⟨sl,(hs.2 b (KN (KP (Ks e) (I.ok.cab x c hfn hc)))).trans e1⟩
  ·obtain ⟨o',e1⟩:=I.base.there b o e hx
   exact ⟨o',(hs.2 b (KN (KP (Ks e) (I.ok.cab x c hfn hc)))).trans e1⟩
  ·by_cases hj:j=i
   ·subst hj
    rw [hi] at e1;cases e1
    rw [Vp hiσ] at e2
    cases e2
    exact ⟨u,r,.inr ⟨.inl hk,c,hc,hc'⟩⟩
   ·rw [Vw (VT hj)] at e2
    obtain ⟨u',r',q⟩:=hl j y v' e1 e2 e3
    refine ⟨u',r',?_⟩
    rcases q with q|⟨k,c',e,z'⟩
    ·exact .inl q
    ·refine .inr ⟨k,c',e,z'.sameBut hs ?_⟩
     rintro rfl
     exact hj (Wa hN e1 (I.ok.inj _ _ _ e hc ▸ hi))
  ·by_cases hcc:c'=c
   ·subst hcc;exact ⟨_,hc'⟩
   ·obtain ⟨w2,z2⟩:=I.cell y c' e
    exact ⟨w2,z2.sameBut hs hcc⟩
  ·obtain ⟨e,n,ne,nf,d⟩:=I.pin p hp
   refine ⟨(hs.2 p.1 ?_).trans e,n,ne,nf,d⟩
   intro q
   rw [q,hoc] at e
   have q':oc=p.2:=V6 e
   exact d w' (by rw [← q'];exact hocd)
theorem Wu {M:Model}{A:KF}{E:Ke->Kg->Prop}{i:Nat}{x:Str}{v:V}{u:Ke}{Q:Unit->Kg->Prop}(I:Inv X pins σ H s)(hN:X.N.Nodup)(hi:X.N[i]?=some x)(hx:Loc X.env.scope x)(r:RelV v u)
  (h:∀ s',Inv X pins (σ.set i (some v)) H s'->Q () s') (hf:X.fn x=true\/X.env.scope.names.lookup x=some .local:=by first|exact .inl rfl|exact .inr rfl|assumption):wpAny M A (storeName X.env x u) Q E s :=
 qaC I hN hi hx r (fun s' I' _=>h s' I') hf
theorem Inv.call' {s':Kg}{ch:List Kf}(I:Inv X pins σ H s)(ho:s'.os=s.os)(u:Un (frs X.stack) ch H H' s.heap s'.heap)(hok:HOk X.prog X.w H' s'.heap)(hg:XQ s'.gens)
  (hch:∀ b∈ch,(b∈X.ex\/X.s₀.heap.objs.size<=b)/\b≠X.env.locals/\(∀ x c,X.env.cells.lookup x=some c->c≠b)/\∀ p∈X.pn++pins,p.1≠b):Inv X pins σ H' s':=by
 obtain ⟨h',g',d',t',o'⟩:=s'
 have e:o'=s.os:=ho
 subst e
 exact I.call (g':=g') (t':=t') (d':=d') u hok hg hch
end
noncomputable abbrev XK:=Ke->Option Kf->Hp->Prop
noncomputable abbrev St:=List (Option V)
noncomputable abbrev VK:=V->Hp->Prop
noncomputable abbrev TE:=St->Hp->VK->Prop
noncomputable abbrev TT:=St->Hp->(Bool->Hp->Prop)->Prop
noncomputable abbrev TA:=St->Hp->(List V->Hp->Prop)->Prop
structure Ends where
 nx:St->Hp->Prop
 rt:VK
 bk:St->Hp->Prop:=fun _ _=>False
 ct:St->Hp->Prop:=fun _ _=>False
noncomputable abbrev TS:=Ends->St->Hp->Prop
def EP (X:Cx)(pins:List (Kf×Obj))(σ:St)(Q:VK)(u:Ke)(s':Kg):Prop:=∃ v H',Inv X pins σ H' s'/\RelV v u/\Q v H'
def TP (X:Cx)(pins:List (Kf×Obj))(σ:St)(Q:Bool->Hp->Prop)(b:Bool)(s':Kg):Prop:=∃ H',Inv X pins σ H' s'/\Q b H'
def AP (X:Cx)(pins:List (Kf×Obj))(σ:St)(Q:List V->Hp->Prop)(us:List Ke)(s':Kg):Prop:=∃ vs H',Inv X pins σ H' s'/\Vals vs us/\Q vs H'
def SP (X:Cx)(pins:List (Kf×Obj))(D:Ends)(f:Flow)(s':Kg):Prop :=
 match f with
 | .next=>∃ σ' H',Inv X pins σ' H' s'/\D.nx σ' H'
 | .brk=>∃ σ' H',Inv X pins σ' H' s'/\D.bk σ' H'
 | .cont=>∃ σ' H',Inv X pins σ' H' s'/\D.ct σ' H'
 | .ret u=>∃ v σ' H',Inv X pins σ' H' s'/\RelV v u/\D.rt v H'
def PE (X:Cx)(e:Ky)(t:TE):Prop :=
 ∀ (pins:List (Kf×Obj)) (s:Kg) (σ:St) (H:Hp) (Q:VK),Inv X pins σ H s->t σ H Q->wpAny (model X.prog X.w) X.A (eval e X.env) (EP X pins σ Q) X.xe s
def PT (X:Cx)(e:Ky)(t:TT):Prop :=
 ∀ (pins:List (Kf×Obj)) (s:Kg) (σ:St) (H:Hp) (Q:Bool->Hp->Prop),Inv X pins σ H s->t σ H Q->wpAny (model X.prog X.w) X.A (isTrue e X.env (eval e X.env)) (TP X pins σ Q) X.xe s
def PW (X:Cx)(e:Ky)(t:TT):Prop :=
 ∀ (whole:Sem Ke) (pins:List (Kf×Obj)) (s:Kg) (σ:St) (H:Hp) (Q:Bool->Hp->Prop),Inv X pins σ H s->t σ H Q->wpAny (model X.prog X.w) X.A (isTrue e X.env whole) (TP X pins σ Q) X.xe s
theorem PW.pt {X:Cx}{e:Ky}{t:TT}(h:PW X e t):PT X e t:=h _
def PA (X:Cx)(es:List Ky)(t:TA):Prop :=
 ∀ (pos:Pos) (pins:List (Kf×Obj)) (s:Kg) (σ:St) (H:Hp) (Q:List V->Hp->Prop),Inv X pins σ H s->t σ H Q->wpAny (model X.prog X.w) X.A (spliced (backTo pos (starEach es X.env))) (AP X pins σ Q) X.xe s
def PS (X:Cx)(st:KM)(t:TS):Prop :=
 ∀ (pins:List (Kf×Obj)) (s:Kg) (σ:St) (H:Hp) (D:Ends),Inv X pins σ H s->t D σ H->wpAny (model X.prog X.w) X.A (exec st X.env) (SP X pins D) X.xe s
def PSs (X:Cx)(st:List KM)(t:TS):Prop :=
 ∀ (pins:List (Kf×Obj)) (s:Kg) (σ:St) (H:Hp) (D:Ends),Inv X pins σ H s->t D σ H->wpAny (model X.prog X.w) X.A (execs st X.env) (SP X pins D) X.xe s
theorem thn {α:Type}{t:Sem α}{Q Q':α->Kg->Prop}{M:Model}{A:KF}{E:Ke->Kg->Prop}{s:Kg}(h:wpAny M A t Q E s)(hQ:∀ a s,Q a s->Q' a s):wpAny M A t Q' E s:=K3 h hQ fun _ _ x=>x
section
variable {X:Cx}
noncomputable def tVar (i:Nat):TE:=fun σ H Q=>∃ v,σ[i]?=some (some v)/\Q v H
noncomputable def tC (v:V):TE:=fun _ H Q=>Q v H
theorem Yl {i:Nat}{x:Str}{pos:Pos}(hN:X.N[i]?=some x)(hv:Vis X.env.scope x)(hd:(x==("__debug__" : Str))=false:=by decide)(hcd:(x==("__classdict__" : Str))=false:=by decide):PE X (.Name x pos) (tVar i):=by
 intro pins s σ H Q I h
 obtain ⟨v,e,h⟩:=h
 obtain ⟨m,hn,hl⟩:=I.loc
 obtain ⟨u,r,l⟩:=hl i x v hN e hv
 have fin:EP X pins σ Q u s:=⟨v,H,I,r,h⟩
 rcases l with ⟨hk,hm⟩|⟨hk,c,hc,hcell⟩
 ·exact wpAny_Name (wpAny_loadName_local I.ok.kind hk hn hm fin) hd
 ·rcases hk with hk|hk
  ·exact wpAny_Name (wpAny_loadName_cell I.ok.kind hk hc hcell fin) hd
  ·exact wpAny_Name (wpAny_loadName_free I.ok.kind hk hc hcell fin hcd) hd
theorem qkp {i j pos}:PE X (.Constant (.int i) j pos) (tC (.int i)):=fun _ _ _ H _ I h=>wpAny_Constant_int ⟨.int i,H,I.tok _,⟨_,rfl⟩,h⟩
theorem pe_bl {b j pos}:PE X (.Constant (.bool b) j pos) (tC (.bl b)):=fun _ _ _ H _ I h=>Constant_bool ⟨.bl b,H,I,rfl,h⟩
theorem qkq {j pos}:PE X (.Constant .none j pos) (tC .non):=fun _ _ _ H _ I h=>Constant_none ⟨.non,H,I,rfl,h⟩
def Gl (X:Cx)(x:Str):Prop:=X.env.kindOf x=some .globalImplicit
theorem Zq {E:Ke->Kg->Prop}{pins:List (Kf×Obj)}{s:Kg}{σ:St}{H:Hp}{x:Str}{u:Ke}{pos:Pos}{Q:Ke->Kg->Prop}(I:Inv X pins σ H s)(hg:Gl X x)(hm:X.mg x=some u)(h:Q u s)
  (hd:(x==("__debug__" : Str))=false:=by decide):wpAny (model X.prog X.w) X.A (eval (.Name x pos) X.env) Q E s :=
 Calls.Name_function_global I.ok.kind hg (Calls.loadGlobal_global (by rw [I.ok.glob];exact I.mod.glob.keeps I.bk) hm h) hd
theorem Yh {E:Ke->Kg->Prop}{pins:List (Kf×Obj)}{s:Kg}{σ:St}{H:Hp}{x:Str}{u:Ke}{pos:Pos}{Q:Ke->Kg->Prop}(I:Inv X pins σ H s)(hg:Gl X x)(hm:X.mg x=none)(hv:bootBuiltins x=some u)(h:Q u s)
  (hn:x ≠ "__name__" := by decide) (hd:(x==("__debug__" : Str))=false:=by decide):wpAny (model X.prog X.w) X.A (eval (.Name x pos) X.env) Q E s:=by
 obtain ⟨mb,h1,h2⟩:=I.mod.blt
 exact Calls.Name_function_global I.ok.kind hg (Calls.loadGlobal_builtin (by rw [I.ok.glob];exact I.mod.glob.keeps I.bk) hm (by rw [I.ok.blt];exact h1.keeps I.bk) ((h2 x hn).trans hv) h) hd
theorem YW {x:Str}{v:V}{u:Ke}{pos:Pos}(hg:Gl X x)(hm:X.mg x=some u)(r:RelV v u)(hd:(x==("__debug__" : Str))=false:=by decide):PE X (.Name x pos) (tC v) :=
 fun _ _ _ H _ I h=>Zq I hg hm ⟨v,H,I,r,h⟩ hd
theorem qd1 {x:Str}{v:V}{u:Ke}{pos:Pos}(hg:Gl X x)(hm:X.mg x=none)(hv:bootBuiltins x=some u)(r:RelV v u)(hn:x ≠ "__name__" := by decide)(hd:(x==("__debug__" : Str))=false:=by decide):PE X (.Name x pos) (tC v) :=
 fun _ _ _ H _ I h=>Yh I hg hm hv ⟨v,H,I,r,h⟩ hn hd
variable {a b:Ky}{ta tb:TE}{pos:Pos}
noncomputable def tB (t:TE):TT:=fun σ H Q=>t σ H fun x H1=>∃ c,x=.bl c/\Q c H1
theorem qky {e:Ky}{t:TE}(h:PE X e t)(he:∀ whole,isTrue e X.env whole=(do let v ← whole;standAt e.pos;holding [v] (truthy v)):=by intro _;rfl):PT X e (tB t):=by
 intro pins s σ H Q I hw
 refine isTrue_plain (thn (h pins s σ H _ I hw) fun v s1 ⟨x,H1,I1,r1,q1⟩=>?_) (he _)
 obtain ⟨d,rfl,q⟩:=q1
 cases r1
 exact U1 ⟨H1,I1,q⟩
variable {tA tB':TT}{rest:List Ky}
noncomputable def tAnd (t u:TT):TT:=fun σ H Q=>t σ H fun c H1=>if c=true then u σ H1 Q else Q false H1
noncomputable def tOr (t u:TT):TT:=fun σ H Q=>t σ H fun c H1=>if c=true then Q true H1 else u σ H1 Q
noncomputable def tNot (t:TT):TT:=fun σ H Q=>t σ H fun c H1=>Q (!c) H1
theorem qiE (ha:PT X a tA):PW X (.BoolOp .And [a] pos) tA:=by
 intro wh pins s σ H Q I h
 refine isTrue_and (thn (ha pins s σ H Q I h) fun c s1 e=>?_)
 cases c with
 | true=>exact isTrue_and_nil e
 | false=>exact e
theorem qkA (ha:PT X a tA):PW X (.BoolOp .Or [a] pos) tA:=by
 intro wh pins s σ H Q I h
 refine isTrue_or (thn (ha pins s σ H Q I h) fun c s1 e=>?_)
 cases c with
 | false=>exact isTrue_or_nil e
 | true=>exact e
theorem qkz (ha:PT X a tA)(hb:PW X (.BoolOp .And (b::rest) pos) tB'):PW X (.BoolOp .And (a::b::rest) pos) (tAnd tA tB'):=by
 intro wh pins s σ H Q I h
 refine isTrue_and (thn (ha pins s σ H _ I h) fun c s1 ⟨H1,I1,q1⟩=>?_)
 cases c with
 | true=>exact hb wh pins s1 σ H1 Q I1 q1
 | false=>exact ⟨H1,I1,q1⟩
theorem pw_or (ha:PT X a tA)(hb:PW X (.BoolOp .Or (b::rest) pos) tB'):PW X (.BoolOp .Or (a::b::rest) pos) (tOr tA tB'):=by
 intro wh pins s σ H Q I h
 refine isTrue_or (thn (ha pins s σ H _ I h) fun c s1 ⟨H1,I1,q1⟩=>?_)
 cases c with
 | true=>exact ⟨H1,I1,q1⟩
 | false=>exact hb wh pins s1 σ H1 Q I1 q1
theorem qkx (ha:PT X a tA):PT X (.UnaryOp .Not a pos) (tNot tA):=by
 intro pins s σ H Q I h
 exact isTrue_not (ha pins s σ H (fun c H1=>Q (!c) H1) I h)
noncomputable def tAndV (ta tb:TE):TE:=fun σ H Q=>ta σ H fun x H1=>∃ c,x=.bl c/\if c=true then tb σ H1 Q else Q (.bl false) H1
noncomputable def tNotV (ta:TE):TE:=fun σ H Q=>ta σ H fun x H1=>∃ c,x=.bl c/\Q (.bl (!c)) H1
theorem qks {op}{t:TE}(h:PE X a t):PE X (.BoolOp op [a] pos) t:=fun pins s σ H Q I hw=>BoolOp_one (h pins s σ H Q I hw)
theorem qko (ha:PE X a ta)(hb:PE X (.BoolOp .And (b::rest) pos) tb):PE X (.BoolOp .And (a::b::rest) pos) (tAndV ta tb):=by
 intro pins s σ H Q I h
 refine BoolOp_and (thn (ha pins s σ H _ I h) fun v s1 ⟨x,H1,I1,r1,q1⟩=>?_)
 obtain ⟨c,rfl,q1⟩:=q1
 cases r1
 refine U1 ?_
 cases c with
 | true=>exact hb pins s1 σ H1 Q I1 q1
 | false=>exact ⟨.bl false,H1,I1,rfl,q1⟩
theorem qkr (ha:PE X a ta):PE X (.UnaryOp .Not a pos) (tNotV ta):=by
 intro pins s σ H Q I h
 refine UnaryOp_ (thn (ha pins s σ H _ I h) fun v s1 ⟨x,H1,I1,r1,q1⟩=>?_)
 obtain ⟨c,rfl,q1⟩:=q1
 cases r1
 exact not_of (U1 ⟨.bl (!c),H1,I1,rfl,q1⟩)
noncomputable def tIf (t:TT)(ta tb:TE):TE:=fun σ H Q=>t σ H fun c H1=>if c=true then ta σ H1 Q else tb σ H1 Q
theorem qgu {c:Ky}(hc:PT X c tA)(ha:PE X a ta)(hb:PE X b tb):PE X (.IfExp c a b pos) (tIf tA ta tb):=by
 intro pins s σ H Q I h
 refine wpAny_IfExp (thn (hc pins s σ H _ I h) fun d s1 ⟨H1,I1,q1⟩=>?_)
 cases d with
 | true=>exact ha pins s1 σ H1 Q I1 q1
 | false=>exact hb pins s1 σ H1 Q I1 q1
end
def SqL (K:Kd)(H:Hp)(a:Kf)(xs:List V):Prop :=
 Rd H a (.lst xs)\/
  ∃ (o:Obj) (its:Array Ke) (n:Nat),K.lookup a=some o/\o.cls=.type "list"/\o.dict=none/\o.data=.seq its n/\its.size<=sizeLine/\Vals xs its.toList
def SqT (K:Kd)(H:Hp)(a:Kf)(xs:List V):Prop :=
 Rd H a (.tup xs)\/
  ∃ (o:Obj) (its:Array Ke) (n:Nat),K.lookup a=some o/\o.cls=.type "tuple"/\o.data=.seq its n/\its.size<=sizeLine/\Vals xs its.toList
noncomputable def absV:Ke->Option V
 | .none=>some .non
 | .bool b=>some (.bl b)
 | .int i _=>some (.int i)
 | .str x _=>some (.str x)
 | .bytes b _=>some (.byt b)
 | .float b _=>some (.flt b)
 | .ref a=>some (.ref a)
 | .type n=>some (.ty n)
 | _=>none
theorem RelV.abs {x:V}{u:Ke}(r:RelV x u):absV u=some x:=by
 cases x with
 | non=>cases r;rfl
 | bl _=>cases r;rfl
 | int _=>obtain ⟨t,rfl⟩:=r;rfl
 | str _=>obtain ⟨t,rfl⟩:=r;rfl
 | byt _=>obtain ⟨t,rfl⟩:=r;rfl
 | flt _=>obtain ⟨t,rfl⟩:=r;rfl
 | ref _=>cases r;rfl
 | ty _=>cases r;rfl
theorem RelV.inj {x y:V}{u:Ke}(r:RelV x u)(q:RelV y u):x=y:=V6 (r.abs.symm.trans q.abs)
theorem Vals.inj:∀ {xs ys:List V} {us:List Ke},Vals xs us->Vals ys us->xs=ys
 | _,_,_,.nil,.nil=>rfl
 | _,_,_,.cons r t,.cons r' t'=>by rw [r.inj r',Vals.inj t t']
section
variable {X:Cx}{pins:List (Kf×Obj)}{σ:St}{H:Hp}{s:Kg}{a:Kf}{xs ys:List V}
theorem SqL.of {K:Kd}(h:H a=some (.lst xs)):SqL K H a xs:=.inl (.inl h)
theorem SqT.of {K:Kd}(h:H a=some (.tup xs)):SqT K H a xs:=.inl (.inl h)
theorem Inv.list (I:Inv X pins σ H s)(h:SqL X.K H a xs):∃ its:List Ke,Vals xs its/\PlainL s.heap a its.toArray/\xs.length<=sizeLine:=by
 rcases h with h|⟨o,its,n,hk,hc,hd,hs,hz,r⟩
 ·obtain ⟨z,its,n,r,e⟩:=h.ok I.hok
  exact ⟨its,r,⟨_,n,e,rfl,rfl,rfl⟩,z⟩
 ·refine ⟨its.toList,r,⟨o,n,I.kIn a o hk,hc,hd,by simpa using hs⟩,?_⟩
  have e:=r.length
  simp only [K6] at e
  omega
theorem Inv.tuple (I:Inv X pins σ H s)(h:SqT X.K H a xs):∃ its:List Ke,Vals xs its/\IsTup s.heap a its.toArray/\xs.length<=sizeLine:=by
 rcases h with h|⟨o,its,n,hk,hc,hs,hz,r⟩
 ·obtain ⟨z,its,r,p⟩:=h.ok I.hok
  exact ⟨its,r,p,z⟩
 ·refine ⟨its.toList,r,⟨o,I.kIn a o hk,hc,n,by simpa using hs⟩,?_⟩
  have e:=r.length
  simp only [K6] at e
  omega
theorem Inv.list_inj (I:Inv X pins σ H s)(h:SqL X.K H a xs)(h':SqL X.K H a ys):xs=ys:=by
 obtain ⟨its,r,⟨o,n,e,_,_,d⟩,_⟩:=I.list h
 obtain ⟨its',r',⟨o',n',e',_,_,d'⟩,_⟩:=I.list h'
 rw [e] at e';cases e'
 rw [d] at d'
 injection d' with d1 _
 have:its=its':=by simpa using congrArg Array.toList d1
 subst this
 exact r.inj r'
theorem Inv.tuple_inj (I:Inv X pins σ H s)(h:SqT X.K H a xs)(h':SqT X.K H a ys):xs=ys:=by
 obtain ⟨its,r,⟨o,e,_,n,d⟩,_⟩:=I.tuple h
 obtain ⟨its',r',⟨o',e',_,n',d'⟩,_⟩:=I.tuple h'
 rw [e] at e';cases e'
 rw [d] at d'
 injection d' with d1 _
 have:its=its':=by simpa using congrArg Array.toList d1
 subst this
 exact r.inj r'
end
noncomputable abbrev Cx.wish (X:Cx)(E:Ke->Kg->Prop):Cx:={ X with xe:=E }
noncomputable abbrev Cx.nox (X:Cx):Cx:=X.wish fun _ _=>False
theorem Cx.Ok.wish {X:Cx}(ok:X.Ok)(E:Ke->Kg->Prop):(X.wish E).Ok :=
 ⟨ok.mod,ok.kind,ok.glob,ok.blt,ok.above,ok.inj,ok.has,ok.cab,ok.hd,ok.frames,ok.stk,ok.exf,ok.bs,ok.bsz,ok.noex,ok.exfs,ok.funs,ok.frf⟩
theorem Cx.Ok.unwish {X:Cx}{E:Ke->Kg->Prop}(ok:(X.wish E).Ok):X.Ok :=
 ⟨ok.mod,ok.kind,ok.glob,ok.blt,ok.above,ok.inj,ok.has,ok.cab,ok.hd,ok.frames,ok.stk,ok.exf,ok.bs,ok.bsz,ok.noex,ok.exfs,ok.funs,ok.frf⟩
section
variable {X:Cx}{pins:List (Kf×Obj)}{σ:St}{H:Hp}{s:Kg}{E:Ke->Kg->Prop}
theorem Inv.wish (I:Inv X pins σ H s)(E:Ke->Kg->Prop):Inv (X.wish E) pins σ H s:=⟨I.ok.wish E,I.os,I.bare,I.base,I.loc,I.cell,I.free,I.freeC,I.pin,I.hok,I.len⟩
theorem Inv.unwish (I:Inv (X.wish E) pins σ H s):Inv X pins σ H s:=⟨I.ok.unwish,I.os,I.bare,I.base,I.loc,I.cell,I.free,I.freeC,I.pin,I.hok,I.len⟩
theorem SP.unwish {D:Ends}{f:Flow}{s':Kg}(h:SP (X.wish E) pins D f s'):SP X pins D f s':=by
 cases f with
 | next=>obtain ⟨σ',H',I,q⟩:=h;exact ⟨σ',H',I.unwish,q⟩
 | brk=>obtain ⟨σ',H',I,q⟩:=h;exact ⟨σ',H',I.unwish,q⟩
 | cont=>obtain ⟨σ',H',I,q⟩:=h;exact ⟨σ',H',I.unwish,q⟩
 | ret u=>obtain ⟨v,σ',H',I,r,q⟩:=h;exact ⟨v,σ',H',I.unwish,r,q⟩
theorem PSs.nox {st:List KM}{t:TS}(h:PSs X.nox st t):PSs X st t:=fun pins s σ H D I hw =>
 K3 (h pins s σ H D (I.wish _) hw) (fun _ _ q=>q.unwish) fun _ _ z=>VH z
end
section
variable {X:Cx}{st:KM}{rest:List KM}{t u:TS}{e:Ky}{te:TE}{pos:Pos}
noncomputable def tNext:TS:=fun D σ H=>D.nx σ H
noncomputable def tSeq (t u:TS):TS:=fun D σ H=>t { D with nx:=u D } σ H
theorem qd6:PSs X [] tNext:=fun _ _ σ H _ I h=>X7 ⟨σ,H,I,h⟩
theorem qco (h1:PS X st t)(h2:PSs X rest u):PSs X (st::rest) (tSeq t u):=by
 intro pins s σ H D I h
 refine U7 (thn (h1 pins s σ H { D with nx:=u D } I h) fun f s1 q=>?_)
 cases f with
 | next =>
  obtain ⟨σ',H',I',q⟩:=q
  exact h2 pins s1 σ' H' D I' q
 | ret v=>exact q
 | brk=>exact q
 | cont=>exact q
theorem qd7 (h1:PS X st t):PSs X [st] t:=by
 intro pins s σ H D I h
 refine U7 (thn (h1 pins s σ H D I h) fun f s1 q=>?_)
 cases f with
 | next=>exact X7 q
 | ret v=>exact q
 | brk=>exact q
 | cont=>exact q
theorem Inv.quiet {pins:List (Kf×Obj)}{σ:St}{H:Hp}{s:Kg}(I:Inv X pins σ H s):interactive X.env=false:=by simp [interactive,I.ok.kind]
noncomputable def tDrop (te:TE):TS:=fun D σ H=>te σ H fun _ H1=>D.nx σ H1
theorem yz (he:PE X e te)(hs:swapsWith e none pos.line X.env=pure false:=by rfl):PS X (.Expr e pos) (tDrop te):=by
 intro pins s σ H D I h
 exact wpAny_Expr_any (thn (he pins s σ H _ I h) fun v s1 ⟨x,H1,I1,r1,q1⟩=>⟨σ,H1,I1,q1⟩) I.quiet hs
noncomputable def tRet (te:TE):TS:=fun D σ H=>te σ H D.rt
theorem qgG (he:PE X e te):PS X (.Return (some e) pos) (tRet te):=by
 intro pins s σ H D I h
 exact wpAny_Return_some (thn (he pins s σ H _ I h) fun v s1 ⟨x,H1,I1,r1,q1⟩=>⟨x,σ,H1,I1,r1,q1⟩)
noncomputable def tIfS (c:TT)(t u:TS):TS:=fun D σ H=>c σ H fun b H1=>if b=true then t D σ H1 else u D σ H1
theorem qjf {c:Ky}{a b:List KM}{tc:TT}(hc:PT X c tc)(ha:PSs X a t)(hb:PSs X b u):PS X (.If c a b pos) (tIfS tc t u):=by
 intro pins s σ H D I h
 refine wpAny_If (thn (hc pins s σ H _ I h) fun d s1 ⟨H1,I1,q1⟩=>?_)
 cases d with
 | true=>exact ha pins s1 σ H1 D I1 q1
 | false=>exact hb pins s1 σ H1 D I1 q1
end
noncomputable abbrev TG:=V->St->Hp->(St->Hp->Prop)->Prop
noncomputable abbrev TGs:=List V->St->Hp->(St->Hp->Prop)->Prop
def PG (X:Cx)(target:Ky)(t:TG):Prop :=
 ∀ (pins:List (Kf×Obj)) (s:Kg) (σ:St) (H:Hp) (v:V) (u:Ke) (Q:St->Hp->Prop),Inv X pins σ H s->RelV v u->t v σ H Q->
  wpAny (model X.prog X.w) X.A (assign target X.env u) (fun _ s'=>∃ σ' H',Inv X pins σ' H' s'/\Q σ' H') X.xe s
def PGs (X:Cx)(ts:List Ky)(t:TGs):Prop :=
 ∀ (pins:List (Kf×Obj)) (s:Kg) (σ:St) (H:Hp) (vs:List V) (us:List Ke) (Q:St->Hp->Prop),Inv X pins σ H s->Vals vs us->t vs σ H Q->
  wpAny (model X.prog X.w) X.A (assignInOrder ((assignEach ts X.env).map (·.2)) us) (fun _ s'=>∃ σ' H',Inv X pins σ' H' s'/\Q σ' H') X.xe s
noncomputable abbrev TSet:=V->V->V->Hp->(Hp->Prop)->Prop
def PSet (X:Cx)(t:TSet):Prop :=
 ∀ (pins:List (Kf×Obj)) (s:Kg) (σ:St) (H:Hp) (o i v:V) (ov iv u:Ke) (Q:Hp->Prop),Inv X pins σ H s->RelV o ov->RelV i iv->RelV v u->t o i v H Q->
  wpAny (model X.prog X.w) X.A (setItem ov iv u) (fun _ s'=>∃ H',Inv X pins σ H' s'/\Q H') X.xe s
section
variable {X:Cx}{pos:Pos}
noncomputable def qdE (i:Nat):TG:=fun v σ H Q=>Q (σ.set i (some v)) H
theorem qd3 {i:Nat}{x:Str}(hN:X.N.Nodup)(hi:X.N[i]?=some x)(hx:Loc X.env.scope x)(hf:X.fn x=true\/X.env.scope.names.lookup x=some .local:=by first|exact .inl rfl|exact .inr rfl|assumption):PG X (.Name x pos) (qdE i):=by
 intro pins s σ H v u Q I r h
 exact wpAny_assign_Name (Wu I hN hi hx r (fun s' I'=>⟨_,H,I',h⟩) hf)
noncomputable def gNil:TGs:=fun vs σ H Q=>vs=[]/\Q σ H
noncomputable def gCons (t:TG)(u:TGs):TGs:=fun vs σ H Q=>∃ v r,vs=v::r/\t v σ H fun σ' H'=>u r σ' H' Q
theorem qd4:PGs X [] gNil:=by
 intro pins s σ H vs us Q I r h
 obtain ⟨e,h⟩:=h
 subst e
 cases r
 exact assignInOrder_nil ⟨σ,H,I,h⟩
theorem qcl {e:Ky}{es:List Ky}{t:TG}{u:TGs}(h1:PG X e t)(h2:PGs X es u)
  (hs:(assignEach (e::es) X.env).map (·.2)=assign e X.env::(assignEach es X.env).map (·.2):=by rfl):PGs X (e::es) (gCons t u):=by
 intro pins s σ H vs us Q I r h
 obtain ⟨v,vr,e1,h⟩:=h
 subst e1
 cases r with
 | cons r rr =>
  rw [hs]
  refine assignInOrder_cons (thn (h1 pins s σ H _ _ _ I r h) fun _ s1 ⟨σ1,H1,I1,q1⟩=>?_)
  exact h2 pins s1 σ1 H1 _ _ Q I1 rr q1
noncomputable def gTup (K:Kd)(n:Nat)(t:TGs):TG:=fun v σ H Q=>∃ a xs,v=.ref a/\SqT K H a xs/\xs.length=n/\t xs σ H Q
theorem qgA {es:List Ky}{k:Nat}{t:TGs}{n:Nat}(hc:X.calm=true)(h:PGs X es t)
  (hn:(assignEach es X.env).length=n:=by rfl) (hst:(assignEach es X.env).findIdx? (·.1)=none:=by rfl):PG X (.Tuple es k pos) (gTup X.K n t):=by
 intro pins s σ H v u Q I r hw
 obtain ⟨a,xs,e1,hq,hl,hw⟩:=hw
 subst e1
 cases r
 obtain ⟨its,rv,ht,hz⟩:=I.tuple hq
 refine assign_Tuple_tuple (I.ok.hd hc) ht (by simp [hn,← hl,rv.length]) hst fun h' hx=>?_
 have I1:Inv X pins σ H { s with heap:=h' }:=I.kept (t':=s.toks) fun b o e=>hx b o (KN (Ks e)) e
 exact h pins _ σ H xs _ Q I1 (by simpa using rv) hw
noncomputable def gSub (to ti:TE)(t:TSet):TG:=fun v σ H Q=>to σ H fun o H1=>ti σ H1 fun i H2=>t o i v H2 fun H3=>Q σ H3
theorem qkt {o i:Ky}{to ti:TE}{t:TSet}(ho:PE X o to)(hi:PE X i ti)(hs:PSet X t)
  (ha:∀ v,assign (.Subscript o i pos) X.env v=(do
   let ov ← holding [v] (eval o X.env)
   let iv ← holding [v,ov] (eval i X.env)
   standAt pos
   holding [v,ov,iv] (setItem ov iv v)
   release [v,ov,iv] []):=by intro _;rfl):PG X (.Subscript o i pos) (gSub to ti t):=by
 intro pins s σ H v u Q I r h
 rw [ha]
 refine Kc (VG (thn (ho pins s σ H _ I h) fun ov s1 ⟨x,H1,I1,r1,q1⟩=>?_))
 refine Kc (VG (thn (hi pins s1 σ H1 _ I1 q1) fun iv s2 ⟨y,H2,I2,r2,q2⟩=>?_))
 refine Kc (X2 (Kc (VG (thn (hs pins s2 σ H2 x y v ov iv u _ I2 r1 r2 r q2) fun _ s3 ⟨H3,I3,q3⟩=>?_))))
 exact wpAny_release ⟨σ,H3,I3,q3⟩
noncomputable def tAsg (te:TE)(g:TG):TS:=fun D σ H=>te σ H fun x H1=>g x σ H1 D.nx
theorem qgE {tg e:Ky}{te:TE}{g:TG}(he:PE X e te)(hg:PG X tg g)(hs:swapsWithSole [tg] e pos.line X.env=pure false:=by rfl)(hw:swappedStores [tg] e X.env=pure none:=by rfl)
  (h1:(assignEach [tg] X.env).map (·.2)=[assign tg X.env]:=by rfl):PS X (.Assign [tg] e pos) (tAsg te g):=by
 intro pins s σ H D I h
 refine wpAny_Assign_stores (thn (he pins s σ H _ I h) fun v s1 ⟨x,H1,I1,r1,q1⟩=>?_) hs hw
 rw [h1]
 exact thn (hg pins s1 σ H1 x v _ I1 r1 q1) fun _ s2 q=>q
theorem Wm {i:Nat}{x:Str}{e:Ky}{te:TE}{pos':Pos}(hN:X.N.Nodup)(hi:X.N[i]?=some x)(hx:Loc X.env.scope x)(he:PE X e te)(hs:swapsWith e (some (.Name x pos')) pos.line X.env=pure false:=by rfl)(hf:X.fn x=true\/X.env.scope.names.lookup x=some .local:=by first|exact .inl rfl|exact .inr rfl|assumption) :
  PS X (.Assign [.Name x pos'] e pos) (tAsg te (qdE i)):=by
 intro pins s σ H D I h
 refine wpAny_Assign_Name (thn (he pins s σ H _ I h) fun v s1 ⟨y,H1,I1,r1,q1⟩=>?_) hs
 exact Wu I1 hN hi hx r1 (fun s2 I2=>⟨_,H1,I2,q1⟩) hf
end
structure It where
 go:Nat->Hp->Prop
 yld:Nat->Hp->V->Hp->Prop
 stop:Nat->Hp->Prop
def FpOk (X:Cx)(pins:List (Kf×Obj))(H:Hp)(b:Kf):Prop :=
 H b=none/\b≠X.env.locals/\b∉X.fs/\(b∈X.ex\/X.s₀.heap.objs.size<=b)/\(∀ x c,X.env.cells.lookup x=some c->c≠b)/\∀ p∈X.pn++pins,p.1≠b
theorem Inv.fpOk {X:Cx}{pins:List (Kf×Obj)}{σ:St}{H H':Hp}{s:Kg}{b:Kf}(I:Inv X pins σ H s)(hb:s.heap.objs.size<=b)(hn:H' b=none):FpOk X pins H' b:=by
 refine ⟨hn,VZ (KP I.lt hb),I.nofs hb,.inr (Vo I.sz hb),fun x c e z=>?_,fun p hp z=>?_⟩
 ·obtain ⟨v,q⟩:=I.cell x c e
  exact absurd (KP q.lt (by rw [z];exact hb)) (V3 _)
 ·exact absurd (KP (Ks (I.pin p hp).1) (by rw [z];exact hb)) (V3 _)
structure Turn (P:Ku)(w:KI)(K:Kd)(tg:Ky)(J:It)(fp:List Kf)(it:Kf)(tn:Nat->KC->Prop):Prop where
 mem:it∈fp
 obj:∀ i h,tn i h->∀ b∈fp,∃ o,h.get? b=some o/\∀ v,o.data≠.cell v
 keep:∀ i h h',tn i h->(∀ b∈fp,∀ o,h.get? b=some o->h'.get? b=some o)->tn i h'
 item:∀ (X:Cx),X.prog=P->X.w=w->X.K=K->X.calm=true->∀ (i:Nat) (pins:List (Kf×Obj)) (s:Kg) (σ:St) (H:Hp) (E:Ke->Kg->Prop),Inv X pins σ H s->(∀ b∈fp,FpOk X pins H b)->tn i s.heap->J.go i H->
  wpAny (model P w) X.A (pyNext (.ref it)) (fun r s1=>∃ u,r=some u/\
   wpAny (model P w) X.A (letOwnedTupleGo tg (.ref it) u) (fun _ s2=>∃ x H',Inv X pins σ H' s2/\RelV x u/\J.yld i H x H'/\tn (i+1) s2.heap/\∀ b∈fp,H' b=none) E s1) E s
 done:∀ (X:Cx),X.prog=P->X.w=w->X.K=K->X.calm=true->∀ (i:Nat) (pins:List (Kf×Obj)) (s:Kg) (σ:St) (H:Hp) (E:Ke->Kg->Prop),Inv X pins σ H s->(∀ b∈fp,FpOk X pins H b)->tn i s.heap->J.stop i H->
  wpAny (model P w) X.A (pyNext (.ref it)) (fun r s1=>r=none/\Inv X pins σ H s1) E s
 self:∀ (A:KF) (i:Nat) (s:Kg) (Q:Ke->Kg->Prop) (E:Ke->Kg->Prop),tn i s.heap->Q (.ref it) s->wpAny (model P w) A (pyIter (.ref it)) Q E s
noncomputable abbrev TI:=St->Hp->(It->Hp->Prop)->Prop
def PIE (X:Cx)(pins:List (Kf×Obj))(σ:St)(tg:Ky)(R:It->Hp->Prop)(itv:Ke)(s2:Kg):Prop :=
 ∃ (it:Kf) (fp:List Kf) (tn:Nat->KC->Prop) (J:It) (H':Hp),itv=.ref it/\Inv X pins σ H' s2/\Turn X.prog X.w X.K tg J fp it tn/\tn 0 s2.heap/\(∀ b∈fp,FpOk X pins H' b)/\R J H'
def PI (X:Cx)(tg iter:Ky)(wi:TI):Prop :=
 ∀ (pins:List (Kf×Obj)) (s:Kg) (σ:St) (H:Hp) (R:It->Hp->Prop),Inv X pins σ H s->wi σ H R->
  wpAny (model X.prog X.w) X.A (eval iter X.env) (fun v s1=>wpAny (model X.prog X.w) X.A (pyIter v) (PIE X pins σ tg R) X.xe s1) X.xe s
theorem qfP {M:Model}{A:KF}{E:Ke->Kg->Prop}{s:Kg}{tg:Ky}{it:Kf}{u:Ke}{o:Obj}{n:String}{vs:Array Ke}{Q:Unit->Kg->Prop}(ho:s.heap.get? it=some o)(hc:o.cls=.type n)(hd:o.data=.fields vs)
  (hn:["enumerate", "zip", "dict_itemiterator", "dict_reverseitemiterator", "odict_iterator", "itertools.zip_longest", "itertools.pairwise"].contains n=false) (hQ:Q () s):wpAny M A (letOwnedTupleGo tg (.ref it) u) Q E s:=by
 unfold letOwnedTupleGo
 cases tg<;>first
  | exact Kl hQ
  | (cases u<;>first
    | exact Kl hQ
    | (
      refine Kc (wpAny_load ho ?_)
      rw [hc,hd]
      show wpAny M A (if (["enumerate", "zip", "dict_itemiterator", "dict_reverseitemiterator", "odict_iterator", "itertools.zip_longest", "itertools.pairwise"].contains n&&vs[0]?==some (rawInt _))=true then _ else _) Q E s
      rw [if_neg (by intro h;rw [hn,Bool.false_and] at h;cases h)]
      exact Kl hQ))
noncomputable def Itl (K:Kd)(a:Kf):It :=
 ⟨fun i H=>∃ xs x,SqL K H a xs/\xs[i]?=some x,fun i H x H'=>H'=H/\∀ xs,SqL K H a xs->xs[i]?=some x,fun i H=>∃ xs,SqL K H a xs/\xs.length<=i⟩
noncomputable def Itt (K:Kd)(a:Kf):It :=
 ⟨fun i H=>∃ xs x,SqT K H a xs/\xs[i]?=some x,fun i H x H'=>H'=H/\∀ xs,SqT K H a xs->xs[i]?=some x,fun i H=>∃ xs,SqT K H a xs/\xs.length<=i⟩
noncomputable def Itr (lo:Int)(n:Nat):It:=⟨fun i _=>i<n,fun i H x H'=>H'=H/\x=.int (lo+i),fun i _=>n<=i⟩
theorem qfd {P:Ku}{w:KI}{K:Kd}{tg:Ky}(a it:Kf):Turn P w K tg (Itl K a) [it] it (fun i h=>h.IsListIter it a i) where
 mem:=by simp
 obj:=fun i h st b hb=>by
  have e:b=it:=by simpa using hb
  subst e
  obtain ⟨o,e,c,d⟩:=st
  exact ⟨o,e,fun v z=>by rw [d] at z;cases z⟩
 keep:=fun i h h' st k=>st.at fun o e=>k it (by simp) o e
 item:=by
  intro X hP hw hK hc i pins s σ H E I hf st hg
  subst hP hw hK
  obtain ⟨xs,x,hq,hx⟩:=hg
  obtain ⟨its,rv,p,hz⟩:=I.list hq
  obtain ⟨u,hu,ru⟩:=rv.get hx
  obtain ⟨f0,f1,f2,f3,f4,f5⟩:=hf it (by simp)
  refine wpAny_pyNext_list_item st p.isList (x:=u) (by simpa using hu) fun h' st' sb=>?_
  have I1:Inv X pins σ H { s with heap:=h' }:=I.turned (t':=s.toks) (fun b o hb e=>(sb.2 b hb).trans e) f0 f1 f3 f4 f5
  obtain ⟨o,e,c,d⟩:=id st'
  exact ⟨u,rfl,qfP (s:={ s with heap:=h' }) e c d (by decide) ⟨x,H,I1,ru,⟨rfl,fun ys hy=>by rw [I.list_inj hy hq];exact hx⟩,st',fun b hb=>(hf b hb).1⟩⟩
 done:=by
  intro X hP hw hK hc i pins s σ H E I hf st hg
  subst hP hw hK
  obtain ⟨xs,hq,hx⟩:=hg
  obtain ⟨its,rv,p,hz⟩:=I.list hq
  obtain ⟨f0,f1,f2,f3,f4,f5⟩:=hf it (by simp)
  have hl:=rv.length
  exact wpAny_pyNext_list_end (I.ok.hd hc) st p.isList (by simp;omega) fun h' eb=>⟨rfl,I.turned (t':=s.toks) (fun b o hb e=>eb b o hb e) f0 f1 f3 f4 f5⟩
 self:=fun _ _ _ _ _ st h=>wpAny_pyIter_listiter st h
theorem qc9 {P:Ku}{w:KI}{K:Kd}{tg:Ky}(a it:Kf):Turn P w K tg (Itt K a) [it] it (fun i h=>h.IsTupleIter it a i) where
 mem:=by simp
 obj:=fun i h st b hb=>by
  have e:b=it:=by simpa using hb
  subst e
  obtain ⟨o,e,c,d⟩:=st
  exact ⟨o,e,fun v z=>by rw [d] at z;cases z⟩
 keep:=fun i h h' st k=>st.at fun o e=>k it (by simp) o e
 item:=by
  intro X hP hw hK hc i pins s σ H E I hf st hg
  subst hP hw hK
  obtain ⟨xs,x,hq,hx⟩:=hg
  obtain ⟨its,rv,p,hz⟩:=I.tuple hq
  obtain ⟨u,hu,ru⟩:=rv.get hx
  obtain ⟨f0,f1,f2,f3,f4,f5⟩:=hf it (by simp)
  refine wpAny_pyNext_tuple_item st (show s.heap.IsTuple a its.toArray from p) (x:=u) (by simpa using hu) fun h' st' sb=>?_
  have I1:Inv X pins σ H { s with heap:=h' }:=I.turned (t':=s.toks) (fun b o hb e=>(sb.2 b hb).trans e) f0 f1 f3 f4 f5
  obtain ⟨o,e,c,d⟩:=id st'
  exact ⟨u,rfl,qfP (s:={ s with heap:=h' }) e c d (by decide) ⟨x,H,I1,ru,⟨rfl,fun ys hy=>by rw [I.tuple_inj hy hq];exact hx⟩,st',fun b hb=>(hf b hb).1⟩⟩
 done:=by
  intro X hP hw hK hc i pins s σ H E I hf st hg
  subst hP hw hK
  obtain ⟨xs,hq,hx⟩:=hg
  obtain ⟨its,rv,p,hz⟩:=I.tuple hq
  obtain ⟨f0,f1,f2,f3,f4,f5⟩:=hf it (by simp)
  have hl:=rv.length
  exact wpAny_pyNext_tuple_end (I.ok.hd hc) st (show s.heap.IsTuple a its.toArray from p) (by simp;omega) fun h' eb=>⟨rfl,I.turned (t':=s.toks) (fun b o hb e=>eb b o hb e) f0 f1 f3 f4 f5⟩
 self:=fun _ _ _ _ _ st h=>wpAny_pyIter_tupleiter st h
theorem qc8 {P:Ku}{w:KI}{K:Kd}{tg:Ky}(it:Kf)(lo:Int)(n:Nat):Turn P w K tg (Itr lo n) [it] it (fun i h=>IsRangeIter h it (lo+(i:Nat)*1) ((n:Int)-(i:Nat)) 1) where
 mem:=by simp
 obj:=fun i h st b hb=>by
  have e:b=it:=by simpa using hb
  subst e
  exact ⟨_,st,fun v z=>by
   have z':VU _=Data.cell v:=z
   cases z'⟩
 keep:=fun i h h' st k=>k it (by simp) _ st
 item:=by
  intro X hP hw hK hc i pins s σ H E I hf st hg
  subst hP hw hK
  obtain ⟨f0,f1,f2,f3,f4,f5⟩:=hf it (by simp)
  have W:=Walks.range (prog:=X.prog) (w:=X.w) (I.ok.hd hc) it lo 1 n
  refine W.item i s _ _ hg st fun v h' tk hv st' kk=>?_
  obtain ⟨t,rfl⟩:=hv
  have I1:Inv X pins σ H { s with heap:=h',toks:=tk }:=I.turned (fun b o hb e=>kk b o (by simpa using hb) e) f0 f1 f3 f4 f5
  refine ⟨_,rfl,qfP (s:={ s with heap:=h',toks:=tk }) (n := "range_iterator") st' rfl rfl (by decide) ⟨.int (lo+i),H,I1,⟨t,?_⟩,⟨rfl,rfl⟩,st',fun b hb=>(hf b hb).1⟩⟩
  rw [Int.mul_one]
 done:=by
  intro X hP hw hK hc i pins s σ H E I hf st hg
  subst hP hw hK
  obtain ⟨f0,f1,f2,f3,f4,f5⟩:=hf it (by simp)
  exact wpAny_pyNext_range_end (I.ok.hd hc) st (by have:n<=i:=hg;omega) fun h' eb=>⟨rfl,I.turned (t':=s.toks) (fun b o hb e=>eb b o hb e) f0 f1 f3 f4 f5⟩
 self:=fun _ _ _ _ _ st h=>wpAny_pyIter_rangeiter st h
section
variable {X:Cx}{tg:Ky}
theorem qgM {pins:List (Kf×Obj)}{σ:St}{H:Hp}{s:Kg}{R:It->Hp->Prop}{E:Ke->Kg->Prop}{lo hi:Int}{t u v:Tok}{tk:Nat}(I:Inv X pins σ H s)(h1:-(2 ^ 62)<=lo)(h2:lo<2 ^ 62)(h3:-(2 ^ 62)<=hi)(h4:hi<2 ^ 62)
  (q:R (Itr lo (hi-lo).toNat) H):wpAny (model X.prog X.w) X.A (pyIter (.ref s.heap.objs.size)) (PIE X pins σ tg R) E { s with heap:=s.heap.push { cls:=.type "range", data:=.fields #[.int lo t,.int hi u,.int 1 v] },toks:=tk }:=by
 refine wpAny_pyIter_range (IsRange.new ..) (small_one h1 h2 h3 h4) ?_
 have I1:Inv X pins σ H { s with heap:=s.heap.push { cls:=.type "range", data:=.fields #[.int lo t,.int hi u,.int 1 v] },toks:=tk }:=I.kept fun b o e=>Kh _ e
 refine ⟨(s.heap.push { cls:=.type "range", data:=.fields #[.int lo t,.int hi u,.int 1 v] }).objs.size,[(s.heap.push { cls:=.type "range", data:=.fields #[.int lo t,.int hi u,.int 1 v] }).objs.size],_,_,H,rfl,
  I1.kept (t':=tk) fun b o e=>Kh _ e,qc8 _ lo (hi-lo).toNat,?_,fun b hb=>?_,q⟩
 ·have e1:lo+((0:Nat):Int)*1=lo:=by simp
  have e2:(((hi-lo).toNat:Nat):Int)-((0:Nat):Int)=Builtin.Range.rangeSize lo hi 1:=by rw [rangeSize_one];split<;>omega
  show IsRangeIter _ _ (lo+((0:Nat):Int)*1) ((((hi-lo).toNat:Nat):Int)-((0:Nat):Int)) 1
  rw [e1,e2]
  exact Kz _ rfl
 ·have e:b=(s.heap.push { cls:=.type "range", data:=.fields #[.int lo t,.int hi u,.int 1 v] }).objs.size:=by simpa using hb
  subst e
  exact I1.fpOk (Kr _) (I1.hok.fresh (Kr _))
noncomputable def iRng1 (ta:TA):TI:=fun σ H R=>ta σ H fun vs H1=>∃ j:Int,vs=[.int j]/\-(2 ^ 62)<=j/\j<2 ^ 62/\R (Itr 0 j.toNat) H1
theorem qaz {a:Ky}{ta:TA}{p pos:Pos}(hg:Gl X "range")(hm:X.mg "range" = none)(ha:PA X [a] ta)(hs:starEach [a] X.env=[(false,eval a X.env)]:=by rfl):PI X tg (.Call (.Name "range" p) [a] [] pos) (iRng1 ta):=by
 intro pins s σ H R I h
 refine Call_ (Yh I hg hm boot_range (Xk (thn (ha pos pins s σ H _ I h) fun us s1 ⟨vs,H1,I1,r1,q1⟩=>?_) hs rfl))
 obtain ⟨j,e,q1,q2,q⟩:=q1
 subst e
 cases r1 with
 | cons r rr =>
  cases rr
  obtain ⟨t,rfl⟩:=r
  exact call_range_1 (qgM I1 (by omega) (by omega) q1 q2 (by simpa using q))
noncomputable def tFor (wi:TI)(g:TG)(tb:TS):TS:=fun D σ H=>wi σ H fun J H1=>∃ W:Nat->Nat->St->Hp->Prop,(∃ m,W 0 m σ H1)/\∀ i m σ H,W i m σ H->
 (J.stop i H/\D.nx σ H)\/(J.go i H/\∃ N:St->Hp->Prop,(∀ σ' H',N σ' H'->∃ m',m'<m/\W (i+1) m' σ' H')/\∀ x H',J.yld i H x H'->g x σ H' fun σ2 H2=>tb { D with nx:=N,ct:=N,bk:=D.nx } σ2 H2)
noncomputable def Q0 (fp:List Kf)(h:KC):List (Kf×Obj):=fp.filterMap fun b=>(h.get? b).map fun o=>(b,o)
theorem Qj {fp:List Kf}{h:KC}{b:Kf}{o:Obj}(hb:b∈fp)(e:h.get? b=some o):(b,o)∈Q0 fp h:=Ut.mpr ⟨b,hb,by rw [e];rfl⟩
theorem Yj {fp:List Kf}{h:KC}{p:Kf×Obj}(hp:p∈Q0 fp h):p.1∈fp/\h.get? p.1=some p.2:=by
 obtain ⟨b,hb,e⟩:=Ut.mp hp
 cases q:h.get? b with
 | none=>rw [q] at e;cases e
 | some o =>
  rw [q] at e
  have e':(b,o)=p:=V6 e
  subst e'
  exact ⟨hb,q⟩
theorem Inv.pinned {pins:List (Kf×Obj)}{σ:St}{H:Hp}{s:Kg}{fp:List Kf}(I:Inv X pins σ H s)(hf:∀ b∈fp,FpOk X pins H b)(ho:∀ b∈fp,∃ o,s.heap.get? b=some o/\∀ v,o.data≠.cell v):Inv X (pins++Q0 fp s.heap) σ H s :=
 I.pins_of fun p hp=>(VN.mp hp).elim (fun z=>I.pin p (KQ _ z)) fun z=>by
  obtain ⟨hb,e⟩:=Yj z
  obtain ⟨f0,f1,f2,_⟩:=hf p.1 hb
  obtain ⟨o,e',d⟩:=ho p.1 hb
  rw [e] at e';cases e'
  exact ⟨e,f0,f1,f2,d⟩
theorem Inv.unpinned {pins pl:List (Kf×Obj)}{σ:St}{H:Hp}{s:Kg}(I:Inv X (pins++pl) σ H s):Inv X pins σ H s:=I.pins_of fun p hp=>I.pin p (KQ _ (UB _ hp))
theorem qgF {iter:Ky}{body:List KM}{wi:TI}{g:TG}{tb:TS}{pos:Pos}(hp:PassesOwn (model X.prog X.w) X.A X.env X.xe)(hc:X.calm=true)(hi:PI X tg iter wi)(hg:PG X tg g)(hb:PSs X body tb)
  (hs:∀ x,foldedSetIterable iter X.env x=pure x:=by intro _;rfl):PS X (.For tg iter body [] pos) (tFor wi g tb):=by
 intro pins s σ H D I h
 refine wpAny_For (thn (hi pins s σ H _ I h) fun v s1 h1=>thn h1 fun itv s2 h2=>?_) hs
 obtain ⟨it,fp,tn,J,H2,e,I2,T,st2,f2,W,⟨m0,w0⟩,turn⟩:=h2
 subst e
 have stat:∀ {H':Hp},(∀ b∈fp,H' b=none)->∀ b∈fp,FpOk X pins H' b:=fun hn b hb=>⟨hn b hb,(f2 b hb).2⟩
 refine codeAny_forLoop_any (fun n s'=>∃ i σ' H',Inv X pins σ' H' s'/\tn i s'.heap/\(∀ b∈fp,H' b=none)/\W i n σ' H') ?_ m0 ⟨0,σ,H2,I2,st2,fun b hb=>(f2 b hb).1,w0⟩
 rintro n s3 ⟨i,σ3,H3,I3,st3,fr3,w3⟩
 rcases turn i n σ3 H3 w3 with ⟨stop,qn⟩|⟨go,N,hN,step⟩
 ·refine X8 hp (thn (T.done X rfl rfl rfl hc i pins s3 σ3 H3 X.xe I3 (stat fr3) st3 stop) fun r s4 ⟨hr,I4⟩=>?_)
  subst hr
  exact X7 ⟨σ3,H3,I4,qn⟩
 ·refine X8 hp (thn (T.item X rfl rfl rfl hc i pins s3 σ3 H3 X.xe I3 (stat fr3) st3 go) fun r s4 ⟨u,hr,h4⟩=>?_)
  subst hr
  refine X8 hp (thn h4 fun _ s5 ⟨x,H5,I5,r5,y5,st5,fr5⟩=>?_)
  have I5':=I5.pinned (stat fr5) (T.obj _ _ st5)
  refine X8 hp (thn (hg _ s5 σ3 H5 x u _ I5' r5 (step x H5 y5)) fun _ s6 ⟨σ6,H6,I6,q6⟩=>?_)
  refine X8 hp (thn (hb _ s6 σ6 H6 _ I6 q6) fun f s7 q7=>?_)
  have again:∀ {σ7:St} {H7:Hp},Inv X (pins++Q0 fp s5.heap) σ7 H7 s7->N σ7 H7->∃ m,m<n/\∃ i σ' H',Inv X pins σ' H' s7/\tn i s7.heap/\(∀ b∈fp,H' b=none)/\W i m σ' H':=fun {σ7 H7} I7 n7=>by
   obtain ⟨m',hm,w7⟩:=hN σ7 H7 n7
   refine ⟨m',hm,i+1,σ7,H7,I7.unpinned,T.keep _ _ _ st5 fun b hb o e=>(I7.pin (b,o) (KQ _ (KQ _ (Qj hb e)))).1,fun b hb=>?_,w7⟩
   obtain ⟨o,e,d⟩:=T.obj _ _ st5 b hb
   exact (I7.pin (b,o) (KQ _ (KQ _ (Qj hb e)))).2.1
  cases f with
  | next=>obtain ⟨σ7,H7,I7,n7⟩:=q7;exact again I7 n7
  | cont=>obtain ⟨σ7,H7,I7,n7⟩:=q7;exact again I7 n7
  | brk=>obtain ⟨σ7,H7,I7,q7⟩:=q7;exact ⟨σ7,H7,I7.unpinned,q7⟩
  | ret v=>obtain ⟨x7,σ7,H7,I7,r7,q7⟩:=q7;exact ⟨x7,σ7,H7,I7.unpinned,r7,q7⟩
end
noncomputable abbrev R2:=V->V->Hp->VK->Prop
def OpR (X:Cx)(f:Ke->Ke->Sem Ke)(r:R2):Prop :=
 ∀ (pins:List (Kf×Obj)) (s:Kg) (σ:St) (H:Hp) (x y:V) (v u:Ke) (Q:VK),Inv X pins σ H s->RelV x v->RelV y u->r x y H Q->
  wpAny (model X.prog X.w) X.A (f v u) (EP X pins σ Q) X.xe s
def UnR (X:Cx)(f:Ke->Sem Ke)(r:V->Hp->VK->Prop):Prop :=
 ∀ (pins:List (Kf×Obj)) (s:Kg) (σ:St) (H:Hp) (x:V) (v:Ke) (Q:VK),Inv X pins σ H s->RelV x v->r x H Q->
  wpAny (model X.prog X.w) X.A (f v) (EP X pins σ Q) X.xe s
def Zb (X:Cx)(f:Ke)(r:List V->Hp->VK->Prop):Prop :=
 ∀ (pins:List (Kf×Obj)) (s:Kg) (σ:St) (H:Hp) (xs:List V) (us:List Ke) (Q:VK),Inv X pins σ H s->Vals xs us->r xs H Q->
  wpAny (model X.prog X.w) X.A (call f us) (EP X pins σ Q) X.xe s
noncomputable def tOp (r:R2)(ta tb:TE):TE:=fun σ H Q=>ta σ H fun x H1=>tb σ H1 fun y H2=>r x y H2 Q
noncomputable def tUn (r:V->Hp->VK->Prop)(ta:TE):TE:=fun σ H Q=>ta σ H fun x H1=>r x H1 Q
noncomputable def rI (C:Int->Int->Prop)(g:Int->Int->V):R2:=fun x y H Q=>∃ i j,x=.int i/\y=.int j/\C i j/\Q (g i j) H
noncomputable def rI0 (g:Int->Int->V):R2:=fun x y H Q=>∃ i j,x=.int i/\y=.int j/\Q (g i j) H
noncomputable def rU (g:Int->V):V->Hp->VK->Prop:=fun x H Q=>∃ i,x=.int i/\Q (g i) H
section
variable {X:Cx}{a b c:Ky}{ta tb tc:TE}{pos:Pos}
theorem binT (ha:PE X a ta)(hb:PE X b tb){pins:List (Kf×Obj)}{s:Kg}{σ:St}{H:Hp}{R:V->V->Hp->Prop}(I:Inv X pins σ H s)
  (h:ta σ H fun x H1=>tb σ H1 fun y H2=>R x y H2) {Q:Ke->Kg->Prop} {f:Ke->Ke->Sem Ke}
  (hf:∀ v u s2 x y H2,Inv X pins σ H2 s2->RelV x v->RelV y u->R x y H2->wpAny (model X.prog X.w) X.A (f v u) Q X.xe s2) :
  wpAny (model X.prog X.w) X.A (eval a X.env) (fun v s₁=>wpAny (model X.prog X.w) X.A (eval b X.env) (fun u s₂=>wpAny (model X.prog X.w) X.A (f v u) Q X.xe s₂) X.xe s₁) X.xe s:=by
 refine thn (ha pins s σ H _ I h) fun v s1 ⟨x,H1,I1,r1,q1⟩=>?_
 refine thn (hb pins s1 σ H1 _ I1 q1) fun u s2 ⟨y,H2,I2,r2,q2⟩=>?_
 exact hf v u s2 x y H2 I2 r1 r2 q2
theorem pe_op {op:Operator}{r:R2}(ho:OpR X (binaryOp op) r)(ha:PE X a ta)(hb:PE X b tb):PE X (.BinOp a op b pos) (tOp r ta tb):=by
 intro pins s σ H Q I h
 exact wpAny_BinOp (binT ha hb I h fun v u s2 x y H2 I2 rx ry q=>ho pins s2 σ H2 x y v u Q I2 rx ry q)
theorem pe_un {op:UnaryOp}{r:V->Hp->VK->Prop}(ho:UnR X (unaryOp op) r)(ha:PE X a ta):PE X (.UnaryOp op a pos) (tUn r ta):=by
 intro pins s σ H Q I h
 exact UnaryOp_ (thn (ha pins s σ H _ I h) fun v s1 ⟨x,H1,I1,r1,q1⟩=>ho pins s1 σ H1 x v Q I1 r1 q1)
theorem opI {f:Ke->Ke->Sem Ke}{C:Int->Int->Prop}{g:Int->Int->Int}
  (rule:∀ (i j:Int) (t u:Tok) (s:Kg) (Q:Ke->Kg->Prop) (E:Ke->Kg->Prop),C i j->Q (.int (g i j) s.toks) { s with toks:=s.toks+1 }->wpAny (model X.prog X.w) X.A (f (.int i t) (.int j u)) Q E s) :
  OpR X f (rI C fun i j=>.int (g i j)):=by
 intro pins s σ H x y v u Q I rx ry h
 obtain ⟨i,j,rfl,rfl,hc,q⟩:=h
 obtain ⟨t,rfl⟩:=rx
 obtain ⟨t',rfl⟩:=ry
 exact rule i j t t' s _ _ hc ⟨.int (g i j),H,I.tok _,⟨_,rfl⟩,q⟩
theorem opI0 {f:Ke->Ke->Sem Ke}{g:Int->Int->Int}
  (rule:∀ (i j:Int) (t u:Tok) (s:Kg) (Q:Ke->Kg->Prop) (E:Ke->Kg->Prop),Q (.int (g i j) s.toks) { s with toks:=s.toks+1 }->wpAny (model X.prog X.w) X.A (f (.int i t) (.int j u)) Q E s) :
  OpR X f (rI0 fun i j=>.int (g i j)):=by
 intro pins s σ H x y v u Q I rx ry h
 obtain ⟨i,j,rfl,rfl,q⟩:=h
 obtain ⟨t,rfl⟩:=rx
 obtain ⟨t',rfl⟩:=ry
 exact rule i j t t' s _ _ ⟨.int (g i j),H,I.tok _,⟨_,rfl⟩,q⟩
theorem opB0 {f:Ke->Ke->Sem Ke}{g:Int->Int->Bool}
  (rule:∀ (i j:Int) (t u:Tok) (s:Kg) (Q:Ke->Kg->Prop) (E:Ke->Kg->Prop),Q (.bool (g i j)) s->wpAny (model X.prog X.w) X.A (f (.int i t) (.int j u)) Q E s) :
  OpR X f (rI0 fun i j=>.bl (g i j)):=by
 intro pins s σ H x y v u Q I rx ry h
 obtain ⟨i,j,rfl,rfl,q⟩:=h
 obtain ⟨t,rfl⟩:=rx
 obtain ⟨t',rfl⟩:=ry
 exact rule i j t t' s _ _ ⟨.bl (g i j),H,I,rfl,q⟩
def CDiv (i j:Int):Prop:=0<j/\j<1073741824
def CPow (i j:Int):Prop:=0<=j/\j<=1000000/\i.natAbs<2 ^ 64
theorem qkb:OpR X (binaryOp .Add) (rI0 fun i j=>.int (i+j)):=opI0 fun _ _ _ _ _ _ _ q=>add_int q
theorem qkh:OpR X (binaryOp .Sub) (rI0 fun i j=>.int (i-j)):=opI0 fun _ _ _ _ _ _ _ q=>sub_int q
theorem qij:OpR X (binaryOp .FloorDiv) (rI CDiv fun i j=>.int (i / j)):=opI fun i j _ _ _ _ _ hc q=>by
 have h1:(0:Int)<j:=hc.1
 have h2:j<1073741824:=hc.2
 exact floordiv_int (by omega) (by rw [Int.fdiv_eq_ediv_of_nonneg i (by omega)];exact q) (.inl (PyProof.noPylong_small (by omega)))
theorem qke:OpR X (binaryOp .Mod) (rI (fun _ j=>0<j) fun i j=>.int (i % j)):=opI fun i j _ _ _ _ _ hc q=>by
 have h1:(0:Int)<j:=hc
 exact mod_int' (by omega) (by rw [Int.fmod_eq_emod_of_nonneg i (by omega)];exact q)
theorem qkg:OpR X (binaryOp .Pow) (rI CPow fun i j=>.int (i ^ j.toNat)):=opI fun _ _ _ _ _ _ _ hc q=>pow_int_small hc.1 hc.2.1 hc.2.2 q
theorem unI {f:Ke->Sem Ke}{g:Int->Int}
  (rule:∀ (i:Int) (t:Tok) (s:Kg) (Q:Ke->Kg->Prop) (E:Ke->Kg->Prop),Q (.int (g i) s.toks) { s with toks:=s.toks+1 }->wpAny (model X.prog X.w) X.A (f (.int i t)) Q E s) :
  UnR X f (rU fun i=>.int (g i)):=by
 intro pins s σ H x v Q I rx h
 obtain ⟨i,rfl,q⟩:=h
 obtain ⟨t,rfl⟩:=rx
 exact rule i t s _ _ ⟨.int (g i),H,I.tok _,⟨_,rfl⟩,q⟩
theorem qkX:UnR X (unaryOp .USub) (rU fun i=>.int (-i)):=unI fun _ _ _ _ _ q=>neg_int q
end
section
variable {X:Cx}{a b c:Ky}{ta tb tc:TE}{pos:Pos}
theorem ju {pins:List (Kf×Obj)}{σ:St}{H:Hp}{s:Kg}{Q:VK}{k k':Bool}(I:Inv X pins σ H s)(q:Q (.bl k) H)(e:k=k'):EP X pins σ Q (.bool k') s:=by
 subst e
 exact ⟨.bl k,H,I,rfl,q⟩
theorem op_gt:OpR X (compareOp .Gt) (rI0 fun i j=>.bl (decide (j<i))):=opB0 fun _ _ _ _ _ _ _ q=>gt_int q
theorem qkd:OpR X (compareOp .Is) (fun x y H Q=>y=.non/\Q (.bl (decide (x=.non))) H):=by
 intro pins s σ H x y v u Q I rx ry h
 obtain ⟨rfl,q⟩:=h
 cases ry
 refine is_none_gen (ju I q ?_)
 cases x<;>first
  | (cases rx;rfl)
  | (obtain ⟨t,rfl⟩:=rx;rfl)
theorem OpR.or {f:Ke->Ke->Sem Ke}{r r':R2}(h:OpR X f r)(h':OpR X f r'):OpR X f (fun x y H Q=>r x y H Q\/r' x y H Q):=by
 intro pins s σ H x y v u Q I rx ry q
 rcases q with q|q
 ·exact h pins s σ H x y v u Q I rx ry q
 ·exact h' pins s σ H x y v u Q I rx ry q
theorem zO (b:Ky){op:CmpOp}(h:op≠.In:=by decide)(h2:op≠.NotIn:=by decide):behindInMarks op b=false:=by
 have e1:(op==CmpOp.In)=false:=by cases op<;>first|rfl|exact absurd rfl h
 have e2:(op==CmpOp.NotIn)=false:=by cases op<;>first|rfl|exact absurd rfl h2
 cases b<;>simp [behindInMarks,e1,e2]
theorem qix {op:CmpOp}{r:R2}(ho:OpR X (compareOp op) r)(ha:PE X a ta)(hb:PE X b tb)(hm:behindInMarks op b=false):PE X (.Compare a [op] [b] pos) (tOp r ta tb):=by
 intro pins s σ H Q I h
 exact wpAny_Compare1 (binT ha hb I h fun v u s2 x y H2 I2 rx ry q=>ho pins s2 σ H2 x y v u Q I2 rx ry q) hm
noncomputable def tTest (t:TE):TT:=fun σ H Q=>t σ H fun x H'=>∃ k,x=.bl k/\Q k H'
theorem qiB {op:CmpOp}{r:R2}(ho:OpR X (compareOp op) r)(ha:PE X a ta)(hb:PE X b tb)(hm:behindInMarks op b=false):PT X (.Compare a [op] [b] pos) (tTest (tOp r ta tb)):=by
 intro pins s σ H Q I h
 refine wpAny_isTrue_Compare1 (thn (ha pins s σ H _ I h) fun v s1 ⟨x,H1,I1,r1,q1⟩=>thn (hb pins s1 σ H1 _ I1 q1) fun u s2 ⟨y,H2,I2,r2,q2⟩ =>
  thn (ho pins s2 σ H2 x y v u _ I2 r1 r2 q2) fun c s3 ⟨z,H3,I3,r3,k,e,q3⟩=>?_) hm
 subst e
 cases r3
 exact U1 ⟨H3,I3,q3⟩
theorem qcU:(sizeLine:Nat)<2 ^ 63:=by rw [Xh];decide
theorem vals1 {x:V}{us:List Ke}(r:Vals [x] us):∃ u,us=[u]/\RelV x u:=by
 cases r with
 | cons r1 r2=>cases r2;exact ⟨_,rfl,r1⟩
theorem vals2 {x y:V}{us:List Ke}(r:Vals [x,y] us):∃ u w',us=[u,w']/\RelV x u/\RelV y w':=by
 cases r with
 | cons r1 r2 =>
  cases r2 with
  | cons r3 r4=>cases r4;exact ⟨_,_,rfl,r1,r3⟩
theorem qfn:Zb X (.builtin "abs") (fun xs H Q=>∃ i,xs=[.int i]/\Q (.int (if i<0 then -i else i)) H):=by
 intro pins s σ H xs us Q I r h
 obtain ⟨i,rfl,q⟩:=h
 obtain ⟨u,rfl,t,rfl⟩:=vals1 r
 exact call_abs_int fun u tk=>⟨.int (if i<0 then -i else i),H,I.tok _,⟨_,rfl⟩,q⟩
theorem qej:Zb X (.type "int") (fun xs H Q=>(∃ i,xs=[.int i]/\Q (.int i) H)\/∃ k,xs=[.bl k]/\Q (.int (if k then 1 else 0)) H):=by
 intro pins s σ H xs us Q I r h
 rcases h with ⟨i,rfl,q⟩|⟨k,rfl,q⟩
 ·obtain ⟨u,rfl,t,rfl⟩:=vals1 r
  exact call_int_int ⟨.int i,H,I,⟨_,rfl⟩,q⟩
 ·obtain ⟨u,rfl,r1⟩:=vals1 r
  cases r1
  exact call_int_bool ⟨.int (if k then 1 else 0),H,I.tok _,⟨_,rfl⟩,q⟩
end
structure ObjM (h:KC)(x dx C:Kf)(mA:Str->Option Ke):Prop where
 obj:h.get? x=some (V7 C dx)
 ns:h.Ns1 dx mA
 ne:dx≠x
theorem qeP {h:KC}{dx:Kf}{mA:Str->Option Ke}(n:h.Ns1 dx mA):∃ od,h.get? dx=some od/\∀ name,N1 name od=some (mA name):=by
 obtain ⟨o,es,ep,ho,hd,hk,_,hm⟩:=n
 refine ⟨o,ho,fun name=>?_⟩
 have e:=hm name
 unfold nsFind findBy at e
 rw [← Array.find?_toList] at e
 unfold N1
 rw [hd]
 dsimp only
 split
 ·rename_i y q
  rw [q] at e
  exact congrArg some e
 ·rename_i q
  rw [q] at e
  have a:es.toList.any (·.refKey)=false:=by
   rw [List.any_eq_false]
   intro y hy
   obtain ⟨z,t,hkey⟩:=hk y (NJ.mp hy)
   simp [DictEntry.refKey,hkey]
  have a':¬ es.toList.any (·.refKey)=true:=by rw [a];exact US
  rw [if_neg a']
  exact congrArg some e
theorem ObjM.look {h:KC}{x dx C:Kf}{mA:Str->Option Ke}(I:ObjM h x dx C mA):∃ od,PySem.W.InstAt h x (V7 C dx) C (some od)/\∀ name,N1 name od=some (mA name) :=
 let ⟨od,ho,hl⟩:=qeP I.ns
 ⟨od,⟨I.obj,rfl,rfl,ho⟩,hl⟩
section
variable {prog:Ku}{w:KI}{A:KF}{E:Ke->Kg->Prop}{s:Kg}{K:Kd}{x dx C f:Kf}{mA:Str->Option Ke}{name:Str}{v:Ke}
theorem qfO {pl:Sem Bool}{Q:Ke×List Ke->Kg->Prop}(X:K.In s.heap)(I:ObjM s.heap x dx C mA)(hg:NB K C name=true)
  (hf:KO K (.ref C) name=some (some (.ref f))) (ht:Nf K (.ref f)=true) (hv:mA name=none) (h:Q (.ref f,[.ref x]) s) :
  wpAny (model prog w) A (getMethod (.ref x) name pl) Q E s:=by
 obtain ⟨od,J,hl⟩:=I.look
 exact PySem.W.method_fn X J (Fd hg).1 (Fd hg).2 hf (beq_iff_eq.mp ht) (by show (N1 name od).map (·.isSome)=some false;rw [hl,hv];rfl) h
theorem qeU {R:Result->Kg->Prop}(X:K.In s.heap)(hm:NK K C=true)
  (hi:KO K (.ref C) "__init__" = some (some (.builtin "object.__init__")))
  (hb:∀ self,UH (model prog w) s.heap (bindSpecial (.builtin "object.__init__") self) (.builtin "object.__init__", [self]))
  (h:codeAny (model prog w) (A.under (.builtin "type.__call__" ⟨[.ref C],[]⟩)) (.call (.builtin "object.__init__") ⟨[.ref (s.heap.objs.size+1)],[]⟩) (PySem.W.InitBack (s.heap.objs.size+1) R)
   { s with heap:=(s.heap.push Vu).push (V7 C s.heap.objs.size) }) :
  codeAny (model prog w) A (.call (.ref C) ⟨[],[]⟩) R s:=by
 obtain ⟨hh,g,d,t,os⟩:=s
 exact PySem.W.make_core (PySem.W.makes_of X hm) (UI X hi) hb (.inr ⟨rfl,rfl⟩) h
end
theorem RelO.some_of {v:V}{o:Option Ke}(r:RelO (some v) o):∃ u,o=some u/\RelV v u:=by
 cases o with
 | none=>exact (show False from r).elim
 | some u=>exact ⟨u,rfl,r⟩
theorem RelO.none_of {o:Option Ke}(r:RelO none o):o=none:=by
 cases o with
 | none=>rfl
 | some u=>exact (show False from r).elim
theorem qex {v:V}{u:Ke}(r:RelV v u):PySem.W.handedIn u=true:=by
 cases v with
 | non=>cases (show u=VC from r);rfl
 | bl b=>cases (show u=K8 b from r);rfl
 | int i=>obtain ⟨t,e⟩:=(show ∃ t,u=Nd i t from r);cases e;rfl
 | str x=>obtain ⟨t,e⟩:=(show ∃ t,u=Nc x t from r);cases e;rfl
 | byt b=>obtain ⟨t,e⟩:=(show ∃ t,u=Value.bytes b t from r);cases e;rfl
 | flt b=>obtain ⟨t,e⟩:=(show ∃ t,u=Fu b t from r);cases e;rfl
 | ref a=>cases (show u=KR a from r);rfl
 | ty n=>cases (show u=V5 n from r);rfl
section
variable {P:Ku}{w:KI}{H H':Hp}{h h':KC}{a C dx:Kf}{fs fs':List (Str×V)}
theorem qdG (hok:HOk P w H h)(e:H a=some (.ins C dx fs)):∃ mA,ObjM h a dx C mA/\(∀ f,RelO (fs.lookup f) (mA f))/\PySem.Within mA (fs.map (·.1))/\fs.length<=1000/\H dx=some (.own a):=by
 obtain ⟨d,z,ne,ob,mA,n,r,q⟩:=(show zE P w H h a (.ins C dx fs) from hok a _ e)
 exact ⟨mA,⟨ob,n,ne⟩,r,q,z,d⟩
end
structure Cls (K:Kd)(C:Kf):Prop where
 pg:NB K C Fe=true
 hd:Fo K C=true
 po:Fp K C=true
 sa:KO K (.ref C) "__setattr__" = some (some (.builtin "object.__setattr__"))
theorem Cls.get {K:Kd}{C:Kf}(c:Cls K C)(f:Str):NB K C f=true:=c.pg
structure Meth (K:Kd)(C:Kf)(m:Str)(f:Kf):Prop where
 at_:KO K (.ref C) m=some (some (.ref f))
 fn:Nf K (.ref f)=true
 kp:Vf K (.ref f)=true
section
variable {X:Cx}{pins:List (Kf×Obj)}{σ:St}{H:Hp}{s:Kg}{a C dx:Kf}{fs:List (Str×V)}{f:Str}{v:V}{A:KF}{E:Ke->Kg->Prop}
theorem qcG {m:Str}{g:Kf}{pl:Sem Bool}{Q:Ke×List Ke->Kg->Prop}(I:Inv X pins σ H s)(e:H a=some (.ins C dx fs))(c:Cls X.K C)(k:Meth X.K C m g)(l:fs.lookup m=none)
  (h:Q (.ref g,[.ref a]) s):wpAny (model X.prog X.w) A (getMethod (.ref a) m pl) Q E s:=by
 obtain ⟨mA,O,r,_,_,_⟩:=qdG I.hok e
 have hn:mA m=none:=RelO.none_of (by rw [← l];exact r m)
 exact qfO I.kIn O (c.get m) k.at_ k.fn hn h
theorem Inv.made (I:Inv X pins σ H s):Inv X pins σ (upd (upd H s.heap.objs.size (.own (s.heap.objs.size+1))) (s.heap.objs.size+1) (.ins C s.heap.objs.size []))
  { s with heap:=(s.heap.push Vu).push (V7 C s.heap.objs.size) }:=by
 have e1:(s.heap.push Vu).get? s.heap.objs.size=some Vu:=Kz s.heap rfl
 have e2:((s.heap.push Vu).push (V7 C s.heap.objs.size)).get? (s.heap.objs.size+1)=some (V7 C s.heap.objs.size):=by
  have:=Kz (s.heap.push Vu) (o:=V7 C s.heap.objs.size) rfl
  rwa [Vb] at this
 have e3:(s.heap.push Vu).Ns s.heap.objs.size (fun _=>none):=⟨Vu,#[],_,e1,rfl,(fun e he=>absurd he (by simp)),fun _=>rfl⟩
 have I1:=I.laid (a:=s.heap.objs.size) (o:=.own (s.heap.objs.size+1)) (h':=s.heap.push Vu) (t':=s.toks) (fun b u q=>Kh _ q) (Kr _) ⟨_,e1⟩
 refine I1.laid (a:=s.heap.objs.size+1) (o:=.ins C s.heap.objs.size []) (t':=s.toks) (fun b u q=>Kh _ q) (Nat.le_of_eq (Vb _ _)) ?_
 have ne:s.heap.objs.size≠s.heap.objs.size+1:=KN (U8 _)
 refine ⟨by rw [qC ne,qH],Vv _,ne,e2,fun _=>none,(Heap.Ns1.of_empty e3).at fun o q=>Kh _ q,fun _=>Um,fun y hy=>absurd rfl hy⟩
theorem qhe {prog:Ku}{w:KI}{env:Env}{e:Ky}{f:Str}{pos:Pos}{s:Kg}{Q:Ke->Kg->Prop}(hb:attributeBase e f env (eval e env)=eval e env)
  (h:wpAny (model prog w) A (eval e env) (fun o s₁=>wpAny (model prog w) A (getAttr o f true) Q E s₁) E s):wpAny (model prog w) A (eval (.Attribute e f pos) env) Q E s :=
 Attribute_any_ h (by rw [arm_eval_Attribute,hb])
end
section
variable {X:Cx}{pins:List (Kf×Obj)}{σ:St}{H:Hp}{s:Kg}{A:KF}{E:Ke->Kg->Prop}{Q:Ke->Kg->Prop}{c:Ke}{b:Bool}
inductive TyOf (K:Kd)(H:Hp):V->Ke->Prop where
 | non:TyOf K H .non (.type "NoneType")
 | bl (x:Bool):TyOf K H (.bl x) (.type "bool")
 | int (i:Int):TyOf K H (.int i) (.type "int")
 | str (x:Str):TyOf K H (.str x) (.type "str")
 | flt (x:UInt64):TyOf K H (.flt x) (.type "float")
 | lst {a:Kf} {xs:List V} (e:H a=some (.lst xs)):TyOf K H (.ref a) (.type "list")
 | frz {a:Kf} {o:Obj} {xs:List V} (e:H a=some (.frz o (.lst xs))):TyOf K H (.ref a) (.type "list")
 | tup {a:Kf} {xs:List V} (e:H a=some (.tup xs)):TyOf K H (.ref a) (.type "tuple")
 | dK {a:Kf} {kvs:List (Key×V)} (e:H a=some (.dK kvs)):TyOf K H (.ref a) (.type "dict")
 | dT {a:Kf} {kvs:List (List Key×V)} (e:H a=some (.dT kvs)):TyOf K H (.ref a) (.type "dict")
 | ins {a C dx:Kf} {fs:List (Str×V)} (e:H a=some (.ins C dx fs)) (cl:Cls K C) (ha:KO K (.ref C) "__class__" = some (some (.builtin "object.__class__")))
   (hn:XN K (.builtin "object.__class__") "__get__" = some (some (.builtin "getset_descriptor.__get__"))) (htk:EM K (.builtin "object.__class__")=some true)
   (hm:VX K C (.type "object")=some true):TyOf K H (.ref a) (.ref C)
theorem qeD {x:V}{u t:Ke}(I:Inv X pins σ H s)(rx:RelV x u)(ty:TyOf X.K H x t)(e:KS X.K t c=some b)(h:∀ tk,Q (.bool b) { s with toks:=tk }) :
  wpAny (model X.prog X.w) A (call (.builtin "isinstance") [u,c]) Q E s:=by
 cases ty with
 | non=>cases (show u=VC from rx);exact K9 Fq I.kIn Um e (fun z=>nomatch z) h
 | bl y=>cases (show u=K8 y from rx);exact K9 Fs I.kIn Um e (fun z=>nomatch z) h
 | int i=>obtain ⟨t,q⟩:=(show ∃ t,u=Nd i t from rx);cases q;exact K9 PySem.W.kitx_int I.kIn Um e (fun z=>nomatch z) h
 | str y=>obtain ⟨t,q⟩:=(show ∃ t,u=Nc y t from rx);cases q;exact K9 PySem.W.kitx_str I.kIn Um e (fun z=>nomatch z) h
 | flt y=>obtain ⟨t,q⟩:=(show ∃ t,u=Fu y t from rx);cases q;exact K9 PySem.W.kitx_float I.kIn Um e (fun z=>nomatch z) h
 | @lst a xs ea =>
  cases (show u=KR a from rx)
  obtain ⟨_,_,n,_,h1⟩:=(show zE X.prog X.w H s.heap a (.lst xs) from I.hok a _ ea)
  exact K9 Ep I.kIn ⟨_,h1,rfl⟩ e (fun z=>nomatch z) h
 | @frz a ob xs ea =>
  cases (show u=KR a from rx)
  obtain ⟨_,_,_,n,_,h1⟩:=(show zE X.prog X.w H s.heap a (.frz ob (.lst xs)) from I.hok a _ ea)
  exact K9 Ep I.kIn ⟨_,h1,rfl⟩ e (fun z=>nomatch z) h
 | @tup a xs ea =>
  cases (show u=KR a from rx)
  obtain ⟨_,_,_,p⟩:=(show zE X.prog X.w H s.heap a (.tup xs) from I.hok a _ ea)
  obtain ⟨o,h1,h2,_⟩:=p
  exact K9 Ff I.kIn ⟨o,h1,h2⟩ e (fun z=>nomatch z) h
 | @dK a kvs ea =>
  cases (show u=KR a from rx)
  obtain ⟨_,_,vs,_,p⟩:=(show zE X.prog X.w H s.heap a (.dK kvs) from I.hok a _ ea)
  obtain ⟨o,es,ep,h1,h2,_⟩:=p
  exact K9 Er I.kIn ⟨o,h1,h2.1⟩ e (fun z=>nomatch z) h
 | @dT a kvs ea =>
  cases (show u=KR a from rx)
  obtain ⟨_,_,xs,_,o,es,ep,h1,h2,_⟩:=(show zE X.prog X.w H s.heap a (.dT kvs) from I.hok a _ ea)
  exact K9 Er I.kIn ⟨o,h1,h2.1⟩ e (fun z=>nomatch z) h
 | @ins a C dx fs ea cl ha hn htk hm =>
  cases (show u=KR a from rx)
  obtain ⟨mA,O,_⟩:=qdG I.hok ea
  obtain ⟨od,J,_⟩:=O.look
  exact K9 (PySem.W.kitx_own (cl.get _) cl.hd ha hn htk hm) I.kIn J e (fun z=>nomatch z) h
end
structure Room (k:Nat)(A:KF):Prop where
 hd:A.handled=none
 dp:A.depth+3*k+5<recursionLimit
 un:A.units+16*k+200<cLine
 gd:A.guards=some []
theorem Room.mono {j k:Nat}{A:KF}(r:Room k A)(h:j<=k):Room j A:=⟨r.hd,by have:=r.dp;omega,by have:=r.un;omega,r.gd⟩
theorem Room.deeper {k:Nat}{A:KF}(r:Room (k+1) A)(env:Env):Room k (A.deeper env) :=
 ⟨r.hd,by have:=r.dp;show A.depth+1+3*k+5<_;omega,by have:=r.un;show A.units+3+16*k+200<_;omega,r.gd⟩
theorem qcW {A:KF}{C:Kf}{us:List Ke}{kw:List (Str×Value)}:(A.under (.builtin "type.__call__" ⟨.ref C::us,kw⟩)).depth=A.depth+1:=by
 first|rfl|simp [EA,Code.weight,Code.isCreation,Code.isGuard,Code.isCaller,Code.frames,Code.isFrame,guardIds]
theorem qcY {A:KF}{C:Kf}{us:List Ke}{kw:List (Str×Value)}:(A.under (.builtin "type.__call__" ⟨.ref C::us,kw⟩)).units=A.units+1:=by
 first|rfl|simp [EA,Code.cUnits,Code.frames,Code.isFrame]
theorem Room.make {k:Nat}{A:KF}(r:Room (k+1) A)(C:Kf)(us:List Ke)(kw:List (Str×Value)):Room k (A.under (.builtin "type.__call__" ⟨.ref C::us,kw⟩)) :=
 ⟨r.hd,by have:=r.dp;rw [qcW];omega,by have:=r.un;rw [qcY];omega,by first|exact r.gd|simpa [EA,Code.isGuard,guardIds] using r.gd⟩
theorem Room.depth {k:Nat}{A:KF}(r:Room k A):A.depth<recursionLimit:=by have:=r.dp;omega
theorem Room.units {k:Nat}{A:KF}(r:Room k A):A.units+64<cLine:=by have:=r.un;omega
noncomputable def tNil:TA:=fun _ H Q=>Q [] H
noncomputable def tCons (ta:TE)(tr:TA):TA:=fun σ H Q=>ta σ H fun x H1=>tr σ H1 fun xs H2=>Q (x::xs) H2
section
variable {X:Cx}{e:Ky}{es:List Ky}{te:TE}{t:TA}{pos:Pos}
theorem Yk:PA X [] tNil:=fun _ _ _ _ H Q I h=>Calls.spliced_nil ⟨[],H,I,.nil,h⟩
theorem Qu (ha:PE X e te)(hr:PA X es t)(hs:starEach (e::es) X.env=(false,eval e X.env)::starEach es X.env:=by rfl):PA X (e::es) (tCons te t):=by
 intro pos pins s σ H Q I h
 rw [hs]
 show wpAny _ _ (spliced ((false,eval e X.env)::backTo pos (starEach es X.env))) _ _ s
 refine Calls.spliced_cons (thn (ha pins s σ H _ I h) fun u s1 ⟨x,H1,I1,r1,q1⟩=>?_)
 exact thn (hr pos pins s1 σ H1 _ I1 q1) fun us s2 ⟨xs,H2,I2,r2,q2⟩=>⟨x::xs,H2,I2,.cons r1 r2,q2⟩
noncomputable def tTup (t:TA):TE:=fun σ H Q=>t σ H fun xs H1=>xs.length<=sizeLine/\∀ p,H1 p=none->Q (.ref p) (upd H1 p (.tup xs))
noncomputable def tLst (t:TA):TE:=fun σ H Q=>t σ H fun xs H1=>xs.length<=sizeLine/\∀ p,H1 p=none->Q (.ref p) (upd H1 p (.lst xs))
theorem qgx {x1}(h:PA X es t):PE X (.Tuple es x1 pos) (tTup t):=by
 intro pins s σ H Q I hq
 refine wpAny_Tuple_spliced (thn (h pos pins s σ H _ I hq) fun us s1 ⟨xs,H1,I1,r,z,q⟩=>⟨by rw [← r.length];exact z,?_⟩)
 have hf:H1 s1.heap.objs.size=none:=I1.hok.fresh (Kr _)
 refine ⟨.ref s1.heap.objs.size,upd H1 s1.heap.objs.size (.tup xs),I1.laid (t':=s1.toks) (fun b u e=>Kh _ e) (Kr _) ?_,rfl,q _ hf⟩
 exact ⟨z,us,r,⟨_,Kz _ rfl,rfl,_,rfl⟩⟩
theorem qgv (h:PA X es t):PE X (.List es pos) (tLst t):=by
 intro pins s σ H Q I hq
 refine wpAny_List_spliced (thn (h pos pins s σ H _ I hq) fun us s1 ⟨xs,H1,I1,r,z,q⟩=>⟨by rw [← r.length];exact z,?_⟩)
 have hf:H1 s1.heap.objs.size=none:=I1.hok.fresh (Kr _)
 refine ⟨.ref s1.heap.objs.size,upd H1 s1.heap.objs.size (.lst xs),I1.laid (t':=s1.toks) (fun b u e=>Kh _ e) (Kr _) ?_,rfl,q _ hf⟩
 exact ⟨z,us,0,r,Kz _ rfl⟩
end
noncomputable abbrev Sp:=List V->Hp->VK->XK->Prop
noncomputable abbrev CXT:=List Env->Hp->Kg->XK->Ke->Kg->Prop
structure Env0 (P:Ku)(w:KI)(K:Kd)(mg:Str->Option Ke)(base:KC)(A:KF)(outer:List Env)(s:Kg)(H:Hp):Prop where
 frames:A.frames=some outer
 mod:Mod K mg base
 bs:∀ b o,base.get? b=some o->s.heap.get? b=some o/\H b=none
 bsz:base.objs.size<=s.heap.objs.size
 funs:s.heap.FunFrames base outer
 frf:∀ b∈frs outer,H b=none
 hok:HOk P w H s.heap
 bare:XQ s.gens
def CE (outer:List Env)(P:Ku)(w:KI)(H:Hp)(s:Kg)(Q:VK)(u:Ke)(s':Kg):Prop :=
 ∃ v H',s'.os=s.os/\XQ s'.gens/\Un (frs outer) [] H H' s.heap s'.heap/\HOk P w H' s'.heap/\RelV v u/\Q v H'
def CR (CX:CXT)(outer:List Env)(P:Ku)(w:KI)(H:Hp)(s:Kg)(Q:VK)(E:XK)(r:Result)(s':Kg):Prop :=
 match r with
 | .ok (.ret u)=>CE outer P w H s Q u s'
 | .ok _=>False
 | .error e=>CX outer H s E e s'
structure FnOk (P:Ku)(w:KI)(K:Kd)(mg:Str->Option Ke)(base:KC)(CX:CXT)(k:Nat)(f:Kf)(fd:K7)(ps:List Str)(sp:Sp):Prop where
 len:∀ vs H Q E,sp vs H Q E->vs.length=ps.length
 run:∀ (A:KF) (outer:List Env) (s:Kg) (H:Hp) (args:Args) (us:List Ke) (vs:List V) (Q:VK) (E:XK),Room k A->Env0 P w K mg base A outer s H->BindsTo s fd args (ps.zip us)->Vals vs us->sp vs H Q E->
  codeAny (model P w) A (.call (.ref f) args) (CR CX outer P w H s Q E) s
theorem FnOk.imp {P:Ku}{w:KI}{K:Kd}{mg:Str->Option Ke}{base:KC}{CX:CXT}{k:Nat}{f:Kf}{fd:K7}{ps:List Str}{sp sp':Sp}(F:FnOk P w K mg base CX k f fd ps sp)
  (h:∀ vs H Q E,sp' vs H Q E->sp vs H Q E):FnOk P w K mg base CX k f fd ps sp' :=
 ⟨fun vs H Q E q=>F.len vs H Q E (h _ _ _ _ q),fun A outer s H args us vs Q E hr he hb hv hs=>F.run A outer s H args us vs Q E hr he hb hv (h _ _ _ _ hs)⟩
theorem Env0.make {P:Ku}{w:KI}{K:Kd}{mg:Str->Option Ke}{base:KC}{A:KF}{outer:List Env}{s:Kg}{H:Hp}(e:Env0 P w K mg base A outer s H)(C:Kf)(us:List Ke)(kw:List (Str×Value)) :
  Env0 P w K mg base (A.under (.builtin "type.__call__" ⟨.ref C::us,kw⟩)) outer s H:=⟨by first|exact e.frames|(simpa [EA,Code.envs,Code.isFrame,pushEnvs] using e.frames),e.mod,e.bs,e.bsz,e.funs,e.frf,e.hok,e.bare⟩
section
variable {X:Cx}{pins:List (Kf×Obj)}{σ:St}{H:Hp}{s s':Kg}
theorem Inv.env0 (I:Inv X pins σ H s):Env0 X.prog X.w X.K X.mg X.base X.A X.stack s H :=
 ⟨I.ok.frames,I.ok.mod,I.bs,Vo I.ok.bsz I.sz,I.stack,I.stkFree,I.hok,I.bare⟩
theorem Inv.after {Q:VK}{u:Ke}(I:Inv X pins σ H s)(h:CE X.stack X.prog X.w H s Q u s'):EP X pins σ Q u s':=by
 obtain ⟨v,H',os,bare,un,hok,r,q⟩:=h
 obtain ⟨hh,g,d,t,os'⟩:=s'
 obtain rfl:os'=s.os:=os
 exact ⟨v,H',I.call (h':=hh) (g':=g) (d':=d) (t':=t) (ch:=[]) un hok bare (fun b z=>absurd z (by simp)),r,q⟩
end
noncomputable def tCall (sp:Sp)(dvs:List V)(E:XK)(t:TA):TE:=fun σ H Q=>t σ H fun vs H1=>sp (vs++dvs) H1 Q E
def Binds (K:Kd)(fd:K7)(ps:List Str)(ds:List Ke):Prop :=
 ∀ (s:Kg) (us:List Ke),K.In s.heap->(us++ds).length=ps.length->BindsTo s fd ⟨us,[]⟩ (ps.zip (us++ds))
theorem Binds.all {K:Kd}{fd:K7}{ps:List Str}(h:∀ us:List Ke,us.length=ps.length->bindArgs fd ⟨us,[]⟩=pure (ps.zip us)):Binds K fd ps []:=fun s us _ hl=>by
 rw [Vd] at hl ⊢
 exact .of_eq (h us hl)
def qaK (CX:CXT)(X:Cx)(E:XK):Prop:=∀ (pins:List (Kf×Obj)) (σ:St) (H:Hp) (s:Kg) (e:Ke) (s':Kg),Inv X pins σ H s->CX X.stack H s E e s'->X.xe e s'
section
variable {X:Cx}{CX:CXT}{k:Nat}{f C:Kf}{fd:K7}{ps:List Str}{sp:Sp}{dvs:List V}{ds:List Ke}{E:XK}{x m:Str}{p pos apos:Pos}{e o:Ky}{es:List Ky}{ta:TE}{t:TA}
theorem qgQ {pins:List (Kf×Obj)}{σ:St}{H:Hp}{s:Kg}{Q:VK}{us:List Ke}{vs:List V}(F:FnOk X.prog X.w X.K X.mg X.base CX k f fd ps sp)(hr:Room k X.A)(hb:Binds X.K fd ps ds)(hd:Vals dvs ds)(hx:qaK CX X E)
  (I:Inv X pins σ H s) (r:Vals vs us) (h:sp (vs++dvs) H Q E):wpAny (model X.prog X.w) X.A (call (.ref f) us) (EP X pins σ Q) X.xe s:=by
 have r2:Vals (vs++dvs) (us++ds):=r.append hd
 have hl:(us++ds).length=ps.length:=by rw [← r2.length];exact F.len _ _ _ _ h
 refine Np (Ng (F.run X.A X.stack s H ⟨us,[]⟩ (us++ds) (vs++dvs) Q E hr I.env0 (hb s us I.kIn hl) r2 h) fun r s' hq=>?_)
 cases r with
 | error e=>exact hx pins σ H s e s' I hq
 | ok fl =>
  cases fl with
  | ret u=>exact I.after hq
  | next=>exact VH hq
  | brk=>exact VH hq
  | cont=>exact VH hq
theorem qbk (F:FnOk X.prog X.w X.K X.mg X.base CX k f fd ps sp)(hr:Room k X.A)(hg:Gl X x)(hm:X.mg x=some (.ref f))(hk:Vf X.K (.ref f)=true)(hb:Binds X.K fd ps ds)(hd:Vals dvs ds)(hx:qaK CX X E)
  (ha:PA X (e::es) t) (hdb:(x==("__debug__" : Str))=false:=by decide) (he:starEach (e::es) X.env=(false,eval e X.env)::starEach es X.env:=by rfl) (hpl:(backTo pos (starEach es X.env)).any (·.1)=false:=by rfl) :
  PE X (.Call (.Name x p) (e::es) [] pos) (tCall sp dvs E t):=by
 intro pins s σ H Q I h
 refine Uu (Zq I hg hm ?_ hdb)
 refine Xl (h₀:=X.base) I.ok.mod.kin hk (thn (ha pos pins s σ H _ I h) fun us s1 ⟨vs,H1,I1,r,q⟩=>⟨I1.kIn,?_⟩) he hpl
 exact qgQ F hr hb hd hx I1 r q
end
structure FnScope (N P:List Str)(sc:Ua):Prop where
 kind:sc.kind=.function
 co:sc.isCoroutine=false
 gen:sc.isGenerator=false
 nd:N.Nodup
 pre:N.take P.length=P
 par:∀ x∈P,sc.names.lookup x=some .local\/sc.names.lookup x=some .cell
 nofree:∀ y∈sc.names,y.2≠.free
theorem W9 {kindOf:Str->Option EB}{x:Str}:∀ {binds:List (Str×Value)} {m:Str->Option Ke},(∀ v,(x,v)∉binds)->bindL kindOf binds m x=m x
 | [],_,_=>rfl
 | (n,v)::r,m,h=>by
  unfold bindL
  rw [W9 fun w hw=>h w (Vr _ hw)]
  split
  ·have:x≠n:=by rintro rfl;exact h v VJ
   simp [this]
  ·rfl
theorem W7 {kindOf:Str->Option EB}{x:Str}:∀ {binds:List (Str×Value)} {m:Str->Option Ke},(∀ v,(x,v)∉binds)->bindC kindOf binds m x=m x
 | [],_,_=>rfl
 | (n,v)::r,m,h=>by
  unfold bindC
  rw [W7 fun w hw=>h w (Vr _ hw)]
  split
  ·rfl
  ·have:x≠n:=by rintro rfl;exact h v VJ
   simp [this]
theorem W8 {kindOf:Str->Option EB}{x:Str}{v:Ke}:∀ {P:List Str} {vs:List Ke} {i:Nat} {m:Str->Option Ke},P.Nodup->P[i]?=some x->vs[i]?=some v->kindOf x=some .local->
  bindL kindOf (P.zip vs) m x=some v
 | [],_,_,_,_,h,_,_=>by simp at h
 | _::_,[],_,_,_,_,h,_=>by simp at h
 | p::P,w::vs,0,m,nd,h1,h2,hk=>by
  simp at h1 h2;subst h1;subst h2
  show bindL kindOf ((p,w)::P.zip vs) m p=_
  unfold bindL
  rw [W9 fun v hv=>(NL.mp nd).1 (NM hv).1,if_pos hk]
  simp
 | p::P,w::vs,i+1,m,nd,h1,h2,hk=>by
  show bindL kindOf ((p,w)::P.zip vs) m x=_
  unfold bindL
  exact W8 (i:=i) (NL.mp nd).2 (by simpa using h1) (by simpa using h2) hk
theorem W6 {kindOf:Str->Option EB}{x:Str}{v:Ke}:∀ {P:List Str} {vs:List Ke} {i:Nat} {m:Str->Option Ke},P.Nodup->P[i]?=some x->vs[i]?=some v->kindOf x≠some .local->
  bindC kindOf (P.zip vs) m x=some v
 | [],_,_,_,_,h,_,_=>by simp at h
 | _::_,[],_,_,_,_,h,_=>by simp at h
 | p::P,w::vs,0,m,nd,h1,h2,hk=>by
  simp at h1 h2;subst h1;subst h2
  show bindC kindOf ((p,w)::P.zip vs) m p=_
  unfold bindC
  rw [W7 fun v hv=>(NL.mp nd).1 (NM hv).1,if_neg hk]
  simp
 | p::P,w::vs,i+1,m,nd,h1,h2,hk=>by
  show bindC kindOf ((p,w)::P.zip vs) m x=_
  unfold bindC
  exact W6 (i:=i) (NL.mp nd).2 (by simpa using h1) (by simpa using h2) hk
noncomputable def start (N:List Str)(vs:List V):St:=vs.map some++Vg (N.length-vs.length) none
noncomputable def cxOf (CX:CXT)(P:Ku)(w:KI)(K:Kd)(mg:Str->Option Ke)(base:KC)(N:List Str)(qual:Str)(scope:Ua)(f:Kf)(cd:Ke)(A:KF)(outer:List Env)(s:Kg)(H:Hp)(E:XK):Cx where
 prog:=P
 w:=w
 K:=K
 mg:=mg
 base:=base
 A:=A.deeper (envOfC qual scope s.heap.objs.size f cd)
 N:=N
 s₀:=s
 H₀:=H
 env:=envOfC qual scope s.heap.objs.size f cd
 outer:=outer
 stack:=envOfC qual scope s.heap.objs.size f cd::outer
 ex:=[]
 calm:=true
 fn:=fun _=>true
 pn:=[]
 xe:=fun e s'=>wpAny (model P w) (A.deeper (envOfC qual scope s.heap.objs.size f cd)) (leaving (envOfC qual scope s.heap.objs.size f cd) e) (fun _ s''=>CX outer H s E e s'') (fun e' s''=>CX outer H s E e' s'') s'
theorem qbE {sc:Ua}{n:Nat}{x:Str}(h:sc.names.lookup x=some .cell):∃ c,(cellsFrom n sc.names []).lookup x=some c:=by
 have q:=Nw sc.names n [] (.inl h)
 exact Option.isSome_iff_exists.mp q
theorem qah {CX:CXT}{P:Ku}{w:KI}{K:Kd}{mg:Str->Option Ke}{base:KC}{N ps:List Str}{qual:Str}{scope:Ua}{f:Kf}{cd:Ke}{A:KF}{outer:List Env}{s s1:Kg}{H:Hp}{E:XK}{us:List Ke}{vs:List V}
  (S:FnScope N ps scope) (hd:A.handled=none) (e0:Env0 P w K mg base A outer s H) (hl:vs.length=ps.length) (r:Vals vs us)
  (x:InCallC s s.heap.objs.size (bindL (envOfC qual scope s.heap.objs.size f cd).kindOf (ps.zip us) fun _=>none) (cellsFrom (s.heap.objs.size+1) scope.names []) (bindC (envOfC qual scope s.heap.objs.size f cd).kindOf (ps.zip us) fun _=>none) s1) :
  Inv (cxOf CX P w K mg base N qual scope f cd A outer s H E) [] (start N vs) H s1:=by
 have hpl:ps.length<=N.length:=by have:=congrArg N7 S.pre;rw [U9] at this;omega
 obtain ⟨h1,tk,rfl,hk⟩:=x.done
 have noA:∀ b:Kf,b∉(cxOf CX P w K mg base N qual scope f cd A outer s H E).ex:=fun b z=>absurd (show b∈([]:List Kf) from z) (by simp)
 refine ⟨⟨e0.mod,S.kind,rfl,rfl,Kr _,fun y z c h1 h2=>?_,fun y hy=>?_,fun y c _ h=>?_,fun _=>hd,Around.frames_deeper e0.frames,.inr ⟨rfl,rfl⟩,fun b z=>absurd z (noA b),e0.bs,e0.bsz,fun b _ _=>noA b,fun b z=>absurd z (noA b),e0.funs,e0.frf⟩,
  rfl,e0.bare,Un.kept hk,⟨_,x.toInCall.ns,fun i y v h1 h2 h3=>?_⟩,fun y c h=>⟨_,x.cell y c h⟩,e0.hok.fresh (Kr _),fun y c h=>?_,fun p hp=>absurd (show p∈([]:List (Kf×Obj)) from hp) (by simp),e0.hok.kept hk,?_⟩
 ·exact name_of_addr x.apart (Uj h1) (Uj h2)
 ·have hy:scope.names.lookup y=some .cell\/scope.names.lookup y=some .free:=hy
  rcases hy with hy|hy
  ·exact qbE hy
  ·exact absurd rfl (S.nofree _ (Uj hy))
 ·exact VI (x.above y c (Uj h))
 ·have hi:i<vs.length:=by
   unfold start at h2
   by_cases hi:i<vs.length
   ·exact hi
   ·rw [VR (by simpa using hi)] at h2
    rw [UD] at h2
    split at h2<;>cases h2
  have ha:vs[i]?=some v:=by
   unfold start at h2
   rw [Vh (by simpa using hi),K1] at h2
   cases e:vs[i]? with
   | none=>rw [e] at h2;cases h2
   | some a=>rw [e] at h2;cases h2;rfl
  obtain ⟨u,hu,rv⟩:=r.get ha
  have hp:ps[i]?=some y:=by
   rw [← S.pre,List.getElem?_take_of_lt (by omega)];exact h1
  have ndP:ps.Nodup:=by rw [← S.pre];exact S.nd.sublist (List.take_sublist _ _)
  refine ⟨u,rv,?_⟩
  rcases S.par y (Vs hp) with k|k
  ·exact .inl ⟨k,W8 ndP hp hu k⟩
  ·obtain ⟨c,e⟩:=qbE (n:=s.heap.objs.size+1) k
   refine .inr ⟨.inl k,c,e,?_⟩
   have q:=x.cell y c e
   rw [W6 ndP hp hu (by show scope.names.lookup y≠_;rw [k];decide)] at q
   exact q
 ·exact e0.hok.fresh (VI (x.above y c (Uj h)))
 ·unfold start
  show _=N.length
  rw [KG,Kj,VB]
  omega
theorem qfM {CX:CXT}{P:Ku}{w:KI}{K:Kd}{mg:Str->Option Ke}{base:KC}{k:Nat}{f:Kf}{name qual:Str}{params:Arguments}{body:List KM}{scope:Ua}{dV kV doc pm cdv ct oc:Ke}{an od:Option Kf}
  {osl:Array (Option Ke)} {N ps:List Str} {sp:Sp} (lk:K.lookup f=some ⟨oc,od,.func (Uv name qual params body scope dV kV doc pm an cdv ct),osl⟩) (hcd:Xa K cdv qual=true) (S:FnScope N ps scope)
  (len:∀ vs H Q E,sp vs H Q E->vs.length=ps.length)
  (hbody:∀ (A:KF) (outer:List Env) (s:Kg) (H:Hp) (vs:List V) (Q:VK) (E:XK),Room k (A.deeper (envOfC qual scope s.heap.objs.size f cdv))->sp vs H Q E->
   ∃ t,PSs (cxOf CX P w K mg base N qual scope f cdv A outer s H E) body t/\t { nx:=fun _ H'=>Q .non H',rt:=Q } (start N vs) H) :
  FnOk P w K mg base CX (k+1) f (Uv name qual params body scope dV kV doc pm an cdv ct) ps sp:=by
 refine ⟨len,fun A outer s H args us vs Q E hr e0 hb r hsp=>?_⟩
 have hl:=len _ _ _ _ hsp
 have KX:K.In s.heap:=e0.mod.kin.keeps fun b o e=>(e0.bs b o e).1
 have lim:s.heap.NoLimit:=e0.mod.nolimit.keeps fun b o e=>(e0.bs b o e).1
 have hkind:∀ y∈ps.zip us,scope.names.lookup y.1=some .local\/(scope.names.lookup y.1=some .cell/\((cellsFrom (s.heap.objs.size+1) scope.names []).lookup y.1).isSome=true):=fun ⟨n,v⟩ hy=>by
  rcases S.par n (NM hy).1 with q|q
  ·exact .inl q
  ·exact .inr ⟨q,Nw _ _ _ (.inl q)⟩
 refine codeAny_call_function hr.depth (KX _ _ lk) rfl S.co S.gen rfl (Fg KX hcd) (hb _ _ _ _ ?_)
 refine Ee S.kind hkind fun env he s1 x=>?_
 subst he
 refine ⟨lim.keeps x.toInCall.keep,codeAny_func ?_⟩
 obtain ⟨t,ht,hq⟩:=hbody A outer s H vs Q E (hr.deeper _) hsp
 have I:Inv (cxOf CX P w K mg base N qual scope f cdv A outer s H E) [] (start N vs) H s1:=qah S hr.hd e0 hl r x
 refine K3 (ht [] s1 (start N vs) H _ I hq) (fun fl s' hs=>?_) fun e s' hs=>hs
 have fin:∀ {σ':St} {H':Hp} {v:V} {u:Ke},Inv (cxOf CX P w K mg base N qual scope f cdv A outer s H E) [] σ' H' s'->RelV v u->Q v H'->CE outer P w H s Q u s' :=
  fun {σ' H' v u} J rv q=>⟨v,H',J.os,J.bare,J.base,J.hok,rv,q⟩
 cases fl with
 | ret u =>
  obtain ⟨v,σ',H',J,rv,q⟩:=hs
  exact fin J rv q
 | next =>
  obtain ⟨σ',H',J,q⟩:=hs
  exact fin (v:=V.non) (u:=VC) J rfl q
 | brk =>
  obtain ⟨_,_,_,q⟩:=hs
  exact VH q
 | cont =>
  obtain ⟨_,_,_,q⟩:=hs
  exact VH q
section
variable {X:Cx}{x:Str}{p pos:Pos}{e:Ky}{es:List Ky}{t:TA}{id T:String}{r:List V->Hp->VK->Prop}
noncomputable def tCB (r:List V->Hp->VK->Prop)(t:TA):TE:=fun σ H Q=>t σ H fun vs H1=>r vs H1 Q
theorem yx (hc:Zb X (.builtin id) r)(hg:Gl X x)(hm:X.mg x=none)(hv:bootBuiltins x=some (.builtin id))(ha:PA X (e::es) t)(hn:x ≠ "__name__" := by decide)(hdb:(x==("__debug__" : Str))=false:=by decide)
  (he:starEach (e::es) X.env=(false,eval e X.env)::starEach es X.env:=by rfl) (hpl:(backTo pos (starEach es X.env)).any (·.1)=false:=by rfl):PE X (.Call (.Name x p) (e::es) [] pos) (tCB r t):=by
 intro pins s σ H Q I h
 refine Uu (Yh I hg hm hv ?_ hn hdb)
 exact NN (thn (ha pos pins s σ H _ I h) fun us s1 ⟨vs,H1,I1,r1,q1⟩=>hc pins s1 σ H1 vs us Q I1 r1 q1) he hpl
theorem qe5 (hc:Zb X (.type T) r)(hg:Gl X x)(hm:X.mg x=none)(hv:bootBuiltins x=some (.type T))(ha:PA X (e::es) t)(hn:x ≠ "__name__" := by decide)(hdb:(x==("__debug__" : Str))=false:=by decide)
  (he:starEach (e::es) X.env=(false,eval e X.env)::starEach es X.env:=by rfl) (hpl:(backTo pos (starEach es X.env)).any (·.1)=false:=by rfl):PE X (.Call (.Name x p) (e::es) [] pos) (tCB r t):=by
 intro pins s σ H Q I h
 refine Uu (Yh I hg hm hv ?_ hn hdb)
 exact Xk (thn (ha pos pins s σ H _ I h) fun us s1 ⟨vs,H1,I1,r1,q1⟩=>hc pins s1 σ H1 vs us Q I1 r1 q1) he hpl
end
end L2
namespace HT
open PySem PyProof.Rows
noncomputable def lexLt:List Int->List Int->Bool
 | [],[]=>false
 | [],_::_=>true
 | _::_,[]=>false
 | x::xs,y::ys=>if x=y then lexLt xs ys else decide (x<y)
theorem ZM (x y:Int)(xs ys:List Int):lexLt (x::xs) (y::ys)=if x=y then lexLt xs ys else decide (x<y):=rfl
theorem qcr (A:KF)(s:Kg)(a:Int)(t:Tok)(c:Int)(u:Tok)(prog:Ku)(w:KI)(E:Ke->Kg->Prop)(Q:Ke->Kg->Prop)(h:Q (.bool (decide (a<c))) s) :
  wpAny (model prog w) A (richCompare .Lt (.int a t) (.int c u)) Q E s :=
 (PyProof.Rows.lt_int h:wpAny (model prog w) A (compareOp .Lt (.int a t) (.int c u)) Q E s)
section
open PySem.SeqAt
open PySem.AutoSeq1 (wpAny_loadPart')
open PySem.MeetsSeq PySem.MeetsSeq2 PySem.MeetsSeq3
end
section
variable {prog:Ku}{w:KI}{A:KF}{E:Ke->Kg->Prop}{s:Kg}
theorem qhm {t b:Kf}{vs ws:List Ke}{Q:Ke->Kg->Prop}(ht:IsTup s.heap t vs.toArray)(hb:IsTup s.heap b ws.toArray)(hv:vs≠[])
  (h1:ws=[]->Q (.ref t) s) (h2:ws≠[]->Q (.ref s.heap.objs.size) { s with heap:=s.heap.push { cls:=.type "tuple", data:=.seq (vs++ws).toArray } })
  (hsz:vs.length+ws.length<=sizeLine):wpAny (model prog w) A (binaryOp .Add (.ref t) (.ref b)) Q E s:=by
 obtain ⟨⟨cls,dd,data,sl⟩,ho,hc,n,hd⟩:=id ht
 obtain ⟨⟨cls2,dd2,data2,sl2⟩,ho2,hc2,n2,hd2⟩:=id hb
 simp only at hc hd hc2 hd2
 subst hc hd hc2 hd2
 have e:vs.toArray++ws.toArray=(vs++ws).toArray:=by simp
 by_cases hw:ws=[]
 ·exact EC ⟨_,ho,rfl⟩ ⟨_,ho2,rfl⟩ ED seq_tuple_add Nx Nt (Nh _ _)
   (tuple_addW1 t b vs.toArray ws.toArray n n2 dd dd2 sl sl2 (by simpa using hv) (by simp [hw])) ⟨ho,ho2,h1 hw⟩
 ·refine EC ⟨_,ho,rfl⟩ ⟨_,ho2,rfl⟩ ED seq_tuple_add Nx Nt (Nh _ _)
   (tuple_addW2 t b vs.toArray ws.toArray n n2 dd dd2 sl sl2 (by simpa using hv) (by simpa using hw) (by rw [KB,KB];exact hsz)) ⟨ho,ho2,?_⟩
  rw [e]
  exact h2 hw
noncomputable def sIx (n d:Nat):Option Int->Nat
 | none=>d
 | some v=>if v<0 then (v+(n:Int)).toNat else min v.toNat n
theorem yH (n d k:Nat):sIx n d (some (k:Int))=min k n:=by
 show (if (k:Int)<0 then ((k:Int)+(n:Int)).toNat else min (k:Int).toNat n)=min k n
 rw [if_neg (by omega),UE]
theorem qkG (n d:Nat)(hd:d<=n)(o:Option Int):sIx n d o<=n:=by
 cases o with
 | none=>exact hd
 | some v =>
  show (if v<0 then (v+(n:Int)).toNat else min v.toNat n)<=n
  by_cases hv:v<0
  ·rw [if_pos hv];omega
  ·rw [if_neg hv];exact Nat.min_le_right _ _
theorem qdj (v:Int)(n d:Nat):(if v<0 then max (v+(n:Int)) 0 else min v (n:Int))=((sIx n d (some v):Nat):Int):=by
 show (if v<0 then max (v+(n:Int)) 0 else min v (n:Int))=(((if v<0 then (v+(n:Int)).toNat else min v.toNat n):Nat):Int)
 by_cases hv:v<0
 ·simp only [if_pos hv];omega
 ·simp only [if_neg hv];omega
theorem qcz (lo hi:Option Int)(n:Nat):X9 lo hi 1 (n:Int)=(((sIx n 0 lo:Nat):Int),((sIx n n hi:Nat):Int)):=by
 have h1:¬ ((1:Int)<0):=by omega
 unfold X9
 simp only [h1,if_false]
 refine Prod.ext ?_ ?_
 ·cases lo with
  | none=>rfl
  | some v=>exact qdj v n 0
 ·cases hi with
  | none=>rfl
  | some v=>exact qdj v n n
theorem qc3 (i j:Nat):Xs (i:Int) (j:Int) 1=j-i:=by
 unfold Xs
 have h1:(1:Int) > 0:=by omega
 simp only [h1,if_true,Int.ediv_one]
 split<;>omega
theorem Wt {v:Ke}{o:Option Int}{Q:Option Int->Kg->Prop}(p:IsPart v o)(h:Q o s):wpAny (model prog w) A (Builtin.Slice.slicePartIndex v) Q E s:=by
 cases p with
 | none=>exact slicePart_none h
 | int i t=>exact slicePart_int h
theorem Yn {sl:Kf}{vl vu:Ke}{lo hi:Option Int}{n:Nat}{Q:Int×Int×Nat->Kg->Prop}(hs:s.heap.IsSliceOf sl vl vu .none)(pl:IsPart vl lo)(pu:IsPart vu hi)
  (h:Q (((sIx n 0 lo:Nat):Int),1,sIx n n hi-sIx n 0 lo) s):wpAny (model prog w) A (Ef (.ref sl) (pure (n:Int))) Q E s:=by
 obtain ⟨os,hos,hcs,hds⟩:=id hs
 unfold Ef Builtin.Slice.sliceFields
 refine Kc (Kc (Vi hos hds (x:=vl) rfl (Kc (Vi hos hds (x:=vu) rfl (Kc (Vi hos hds (x:=.none) rfl (Kl ?_)))))))
 refine Kc (slicePart_none ?_)
 show wpAny _ _ (if ((1:Int)==0)=true then _ else _) _ _ s
 rw [if_neg (by decide)]
 refine Kc (Wt pl (Kc (Wt pu (Kc (Kl ?_)))))
 show wpAny _ _ (match X9 lo hi 1 (n:Int) with | (lo,hi)=>pure (lo,(1:Int),Xs lo hi 1)) _ _ s
 rw [qcz lo hi n]
 show wpAny _ _ (pure (((sIx n 0 lo:Nat):Int),(1:Int),Xs ((sIx n 0 lo:Nat):Int) ((sIx n n hi:Nat):Int) 1)) _ _ s
 rw [qc3]
 exact Kl h
theorem qgB (xs:Array Ke)(i k:Nat):((Xg k).filterMap fun (m:Nat)=>xs[((i:Int)+(m:Int)*1).toNat]?).toArray=((xs.toList.drop i).take k).toArray:=by
 have e:(fun (m:Nat)=>xs[((i:Int)+(m:Int)*1).toNat]?)=fun m=>xs[i+m]?:=by
  funext m
  have:((i:Int)+(m:Int)*1).toNat=i+m:=by omega
  rw [this]
 rw [e]
 have:=pick_run xs i k
 rw [List.filterMap_map] at this
 have e2:((fun x=>xs[x]?) ∘ fun x=>i+x)=fun m=>xs[i+m]?:=rfl
 rw [e2] at this
 rw [this]
theorem yl {t sl:Kf}{items:Array Ke}{vl vu:Ke}{lo hi:Option Int}{Q:Ke->Kg->Prop}(ht:IsTup s.heap t items)(hs:s.heap.IsSliceOf sl vl vu .none)(pl:IsPart vl lo)(pu:IsPart vu hi)
  (hw:¬ (sIx items.size 0 lo=0/\sIx items.size items.size hi=items.size))
  (h:Q (.ref s.heap.objs.size) { s with heap:=s.heap.push { cls:=.type "tuple", data:=.seq ((items.toList.drop (sIx items.size 0 lo)).take (sIx items.size items.size hi-sIx items.size 0 lo)).toArray } })
  (hsz:items.size<=sizeLine):wpAny (model prog w) A (getItem (.ref t) (.ref sl)) Q E s:=by
 have htake:sizeOk (.seq ((items.toList.drop (sIx items.size 0 lo)).take (sIx items.size items.size hi-sIx items.size 0 lo)).toArray):=by
  show ((items.toList.drop (sIx items.size 0 lo)).take (sIx items.size items.size hi-sIx items.size 0 lo)).toArray.size<=sizeLine
  rw [KB,U9,UQ,K6]
  omega
 have hj:sIx items.size items.size hi<=items.size:=qkG _ _ (Kr _) hi
 obtain ⟨os,hos,hcs,hds⟩:=id hs
 have hTs:s.TypeIs (.ref sl) "slice" := ⟨os,hos,hcs⟩
 unfold getItem
 try with_reducible refine VG ?_
 first|refine Kc (Kl ?_)|skip
 refine Kc (wpAny_sequenceKey ht.typeIs (by decide) ?_)
 refine Kc (U4 (name:=Kb "__getitem__") ht.typeIs Xe
  (UR Xe ht.typeIs entry_tuple_getitem ?_ (args_tuple_getitem _ _)))
 show wpAny _ _ (Eg (.ref t) >>= _) _ _ s
 refine Kc (tupleItemsOf_ ht ?_)
 refine Kc (wpAny_typeOf hTs ?_)
 rw [if_pos (by decide)]
 refine Kc (Yn hs pl pu ?_)
 have hno:¬ ((((sIx items.size 0 lo:Nat):Int)==0&&(1:Int)==1&&(sIx items.size items.size hi-sIx items.size 0 lo)==items.size)=true):=by
  intro q
  rw [Kp,Kp] at q
  have q1:((sIx items.size 0 lo:Nat):Int)=0:=eq_of_beq q.1.1
  have q2:sIx items.size items.size hi-sIx items.size 0 lo=items.size:=eq_of_beq q.2
  exact hw ⟨by omega,by omega⟩
 show wpAny _ _ (if (((sIx items.size 0 lo:Nat):Int)==0&&(1:Int)==1&&(sIx items.size items.size hi-sIx items.size 0 lo)==items.size)=true then _ else _) _ _ s
 rw [if_neg hno,qgB]
 first
  | exact Kc (m:=Xy _) (Ub (Kl ⟨_,rfl,Kl h⟩) htake)
  | exact Kc (m:=Xy _) (Ub (Kc (Kl (Kl ⟨_,rfl,Kl h⟩))) htake)
  | exact Kc (Kc (m:=Xy _) (Ub (Kl (Kl ⟨_,rfl,Kl h⟩)) htake))
  | exact Kc (Kc (m:=Xy _) (Ub (Kl ⟨_,rfl,Kl h⟩) htake))
end
end HT
namespace L2
open PySem PySem.Spec PyProof.Rows
noncomputable abbrev TO:=St->Hp->(Option Int->Hp->Prop)->Prop
def PO (X:Cx)(e:Option Ky)(t:TO):Prop :=
 ∀ (pins:List (Kf×Obj)) (s:Kg) (σ:St) (H:Hp) (Q:Option Int->Hp->Prop),Inv X pins σ H s->t σ H Q->
  wpAny (model X.prog X.w) X.A (evalPart e X.env) (fun u s'=>∃ o H',Inv X pins σ H' s'/\IsPart u o/\Q o H') X.xe s
noncomputable def qiS:TO:=fun _ H Q=>Q none H
noncomputable def tPart (t:TE):TO:=fun σ H Q=>t σ H fun x H1=>∃ i,x=.int i/\Q (some i) H1
section
variable {X:Cx}{e:Ky}{te:TE}{lo hi:Option Ky}{tl th:TO}{pos p2:Pos}
theorem qiz:PO X none qiS:=by
 intro pins s σ H Q I h
 rw [evalPart_none]
 exact Kl ⟨none,H,I,.none,h⟩
theorem qiA (h:PE X e te):PO X (some e) (tPart te):=by
 intro pins s σ H Q I hw
 rw [evalPart_some]
 refine thn (h pins s σ H _ I hw) fun u s1 ⟨x,H1,I1,r1,q1⟩=>?_
 obtain ⟨i,rfl,q⟩:=q1
 obtain ⟨t,rfl⟩:=r1
 exact ⟨some i,H1,I1,.int i t,q⟩
def SlR (X:Cx)(r:V->Option Int->Option Int->Hp->VK->Prop):Prop :=
 ∀ (pins:List (Kf×Obj)) (s:Kg) (σ:St) (H:Hp) (x:V) (v vl vu:Ke) (lo hi:Option Int) (sl:Kf) (Q:VK),Inv X pins σ H s->RelV x v->s.heap.IsSliceOf sl vl vu .none->IsPart vl lo->IsPart vu hi->r x lo hi H Q->
  ∃ T id,typeLookup (.type T) "__getitem__" = pure (some (.builtin id))/\s.TypeIs v T/\wpAny (model X.prog X.w) X.A (getItem v (.ref sl)) (EP X pins σ Q) X.xe s
theorem SlR.or {r r':V->Option Int->Option Int->Hp->VK->Prop}(h:SlR X r)(h':SlR X r'):SlR X (fun x lo hi H Q=>r x lo hi H Q\/r' x lo hi H Q):=by
 intro pins s σ H x v vl vu lo hi sl Q I rx hs pl pu q
 rcases q with q|q
 ·exact h pins s σ H x v vl vu lo hi sl Q I rx hs pl pu q
 ·exact h' pins s σ H x v vl vu lo hi sl Q I rx hs pl pu q
noncomputable def tSl (r:V->Option Int->Option Int->Hp->VK->Prop)(te:TE)(tl th:TO):TE:=fun σ H Q=>te σ H fun x H1=>tl σ H1 fun l H2=>th σ H2 fun u H3=>r x l u H3 Q
theorem qgw {r:V->Option Int->Option Int->Hp->VK->Prop}(hr:SlR X r)(he:PE X e te)(hl:PO X lo tl)(hu:PO X hi th):PE X (.Subscript e (.Slice lo hi none p2) pos) (tSl r te tl th):=by
 intro pins s σ H Q I h
 refine Subscript_ (thn (he pins s σ H _ I h) fun v s1 ⟨x,H1,I1,r1,q1⟩=>?_)
 refine wpAny_Slice (thn (hl pins s1 σ H1 _ I1 q1) fun vl s2 ⟨l,H2,I2,pl,q2⟩=>thn (hu pins s2 σ H2 _ I2 q2) fun vu s3 ⟨u,H3,I3,pu,q3⟩=>?_)
 rw [evalPart_none]
 refine Kl ?_
 have I4:Inv X pins σ H3 { s3 with heap:=s3.heap.push { cls:=.type "slice", data:=.fields #[vl,vu,.none] } }:=I3.kept (t':=s3.toks) fun b ob q=>Kh _ q
 obtain ⟨T,id,hT,ht,hg⟩:=hr pins { s3 with heap:=s3.heap.push { cls:=.type "slice", data:=.fields #[vl,vu,.none] } } σ H3 x v vl vu l u s3.heap.objs.size Q I4 r1 (Heap.IsSliceOf.new ..) pl pu q3
 show wpAny (model X.prog X.w) X.A (subscriptTail e (.Slice lo hi none p2) v (.ref s3.heap.objs.size)) (EP X pins σ Q) X.xe { s3 with heap:=s3.heap.push { cls:=.type "slice", data:=.fields #[vl,vu,.none] } }
 exact tail_any (ops:=[.ref s3.heap.objs.size,v]) ht hT hg (by with_unfolding_all rfl)
noncomputable def cutV (xs:List V)(lo hi:Option Int):List V:=(xs.drop (HT.sIx xs.length 0 lo)).take (HT.sIx xs.length xs.length hi-HT.sIx xs.length 0 lo)
theorem Yy (xs:List V)(lo hi:Option Int):(cutV xs lo hi).length<=xs.length:=by
 unfold cutV
 rw [U9,UQ]
 omega
noncomputable def rSlT (K:Kd):V->Option Int->Option Int->Hp->VK->Prop:=fun x lo hi H Q=>∃ a xs,x=.ref a/\SqT K H a xs/\
 ¬ (HT.sIx xs.length 0 lo=0/\HT.sIx xs.length xs.length hi=xs.length)/\∀ p,H p=none->Q (.ref p) (upd H p (.tup (cutV xs lo hi)))
theorem qkO:SlR X (rSlT X.K):=by
 intro pins s σ H x v vl vu lo hi sl Q I rx hs pl pu h
 obtain ⟨a,xs,rfl,hx,hw,q⟩:=h
 cases rx
 obtain ⟨its,r,ht,hz⟩:=I.tuple hx
 have hlen:its.toArray.size=xs.length:=by rw [KB];exact r.length.symm
 refine ⟨"tuple", _,Xe.lookup,ht.typeIs,?_⟩
 refine HT.yl ht hs pl pu (by rw [hlen];exact hw) ?_ (by rw [hlen];exact hz)
 rw [hlen]
 refine ⟨.ref s.heap.objs.size,_,I.laid (t':=s.toks) (o:=.tup (cutV xs lo hi)) (fun b ob q=>Kh _ q) (Kr _) ?_,rfl,q _ (I.hok.fresh (Kr _))⟩
 exact ⟨Vo (Yy xs lo hi) hz,_,(r.drop (HT.sIx xs.length 0 lo)).take (HT.sIx xs.length xs.length hi-HT.sIx xs.length 0 lo),IsTup.new _ _⟩
noncomputable def qjg (K:Kd):R2:=fun x y H Q=>∃ a b xs ys,x=.ref a/\y=.ref b/\SqT K H a xs/\SqT K H b ys/\xs≠[]/\xs.length+ys.length<=sizeLine/\
 (ys=[]->Q (.ref a) H)/\(ys≠[]->∀ p,H p=none->Q (.ref p) (upd H p (.tup (xs++ys))))
theorem Vals.nil_iff {xs:List V}{us:List Ke}(r:Vals xs us):us=[]↔xs=[]:=by
 cases r with
 | nil=>simp
 | cons _ _=>simp
theorem qii:OpR X (binaryOp .Add) (qjg X.K):=by
 intro pins s σ H x y v u Q I rx ry h
 obtain ⟨a,b,xs,ys,rfl,rfl,ha,hb,hx,hz,q1,q2⟩:=h
 cases rx
 cases ry
 obtain ⟨its,r1,p1,_⟩:=I.tuple ha
 obtain ⟨its2,r2,p2,_⟩:=I.tuple hb
 refine HT.qhm p1 p2 (fun z=>hx (r1.nil_iff.mp z)) (fun z=>⟨.ref a,H,I,rfl,q1 (r2.nil_iff.mp z)⟩) (fun z=>?_) (by rw [← r1.length,← r2.length];exact hz)
 refine ⟨.ref s.heap.objs.size,_,I.laid (t':=s.toks) (o:=.tup (xs++ys)) (fun b ob q=>Kh _ q) (Kr _) ?_,rfl,q2 (fun w=>z (r2.nil_iff.mpr w)) _ (I.hok.fresh (Kr _))⟩
 exact ⟨by rw [KG];exact hz,_,r1.append r2,IsTup.new _ _⟩
end
noncomputable def ixN (n:Nat)(i:Int):Option Nat:=if 0<=i then (if i<n then some i.toNat else none) else if -(n:Int)<=i then some (i+n).toNat else none
noncomputable def atI {α:Type}(xs:List α)(i:Int):Option α:=(ixN xs.length i).bind fun j=>xs[j]?
theorem qhR {n:Nat}{i:Int}{j:Nat}(h:ixN n i=some j):seqIndex? i n=some j/\j<n/\-(n:Int)<=i/\i<n:=by
 unfold ixN at h
 by_cases h0:0<=i
 ·rw [if_pos h0] at h
  by_cases h1:i<n
  ·rw [if_pos h1] at h
   have e:i.toNat=j:=V6 h
   exact ⟨by rw [seqIndex_of h0 h1,e],by omega,by omega,h1⟩
  ·rw [if_neg h1] at h;cases h
 ·rw [if_neg h0] at h
  by_cases h1:-(n:Int)<=i
  ·rw [if_pos h1] at h
   have e:(i+n).toNat=j:=V6 h
   exact ⟨by rw [seqIndex_neg (by omega) h1,e],by omega,h1,by omega⟩
  ·rw [if_neg h1] at h;cases h
theorem qdi {α:Type}{xs:List α}{i:Int}{v:α}(h:atI xs i=some v):∃ j,seqIndex? i xs.length=some j/\xs[j]?=some v/\j<xs.length/\-(xs.length:Int)<=i/\i<xs.length:=by
 unfold atI at h
 cases e:ixN xs.length i with
 | none=>rw [e] at h;cases h
 | some j =>
  rw [e] at h
  obtain ⟨h1,h2,h3,h4⟩:=qhR e
  exact ⟨j,h1,h,h2,h3,h4⟩
theorem YJ {α:Type}{xs:List α}{j:Nat}{v:α}(h:xs[j]?=some v):atI xs (j:Int)=some v:=by
 have hj:j<xs.length:=(KD.mp h).1
 have e:ixN xs.length (j:Int)=some j:=by
  unfold ixN
  rw [if_pos (by omega),if_pos (by omega)];simp
 unfold atI;rw [e];exact h
def J5 (b:Ky):Prop:=∀ o i,subscripted b false o i=operate [o,i] (getItem o i)
def IxR (X:Cx)(r:R2):Prop :=
 ∀ (value slice:Ky) (pins:List (Kf×Obj)) (s:Kg) (σ:St) (H:Hp) (x y:V) (v u:Ke) (Q:VK),Inv X pins σ H s->RelV x v->RelV y u->r x y H Q->
  subscripted slice false v u=operate [v,u] (getItem v u)->wpAny (model X.prog X.w) X.A (subscriptTail value slice v u) (EP X pins σ Q) X.xe s
def MtR (X:Cx)(id:String)(r:V->List V->Hp->VK->Prop):Prop :=
 ∀ (pins:List (Kf×Obj)) (s:Kg) (σ:St) (H:Hp) (x:V) (xs:List V) (v:Ke) (us:List Ke) (Q:VK),Inv X pins σ H s->RelV x v->Vals xs us->r x xs H Q->
  wpAny (model X.prog X.w) X.A (call (.builtin id) (v::us)) (EP X pins σ Q) X.xe s
section
variable {X:Cx}{a b:Ky}{ta tb:TE}{pos:Pos}
theorem IxR.or {r r':R2}(h:IxR X r)(h':IxR X r'):IxR X (fun x y H Q=>r x y H Q\/r' x y H Q):=by
 intro value slice pins s σ H x y v u Q I rx ry q hs
 rcases q with q|q
 ·exact h value slice pins s σ H x y v u Q I rx ry q hs
 ·exact h' value slice pins s σ H x y v u Q I rx ry q hs
theorem qd2 {r:R2}(hr:IxR X r)(ha:PE X a ta)(hb:PE X b tb)(hs:J5 b):PE X (.Subscript a b pos) (tOp r ta tb):=by
 intro pins s σ H Q I h
 exact Subscript_ (binT ha hb I h fun v u s2 x y H2 I2 rx ry q=>hr a b pins s2 σ H2 x y v u Q I2 rx ry q (hs _ _))
noncomputable def rIxL (K:Kd):R2:=fun x y H Q=>∃ p xs i v,x=.ref p/\y=.int i/\SqL K H p xs/\atI xs i=some v/\Q v H
noncomputable def rIxT (K:Kd):R2:=fun x y H Q=>∃ p xs i v,x=.ref p/\y=.int i/\SqT K H p xs/\atI xs i=some v/\Q v H
theorem YS:IxR X (rIxL X.K):=by
 intro value slice pins s σ H x y v u Q I rx ry h hs
 obtain ⟨p,xs,i,z,rfl,rfl,hq,he,q⟩:=h
 cases rx
 obtain ⟨t,rfl⟩:=ry
 obtain ⟨its,r,pl,hz⟩:=I.list hq
 obtain ⟨j,h1,h2,h3,h4,h5⟩:=qdi he
 obtain ⟨w,ew,rw'⟩:=r.get h2
 have hl:=r.length
 have hn:=qcU
 have fin:EP X pins σ Q w s:=⟨z,H,I,rw',q⟩
 by_cases h0:0<=i
 ·have hj:i.toNat=j:=by
   rw [seqIndex_of h0 h5] at h1
   exact V6 h1
  exact item_listR pl.isList h0 (by omega) (by rw [hj];simpa using ew) fin hs
 ·have hj:(i+(its.toArray.size:Int)).toNat=j:=by
   rw [seqIndex_neg (by omega) h4] at h1
   rw [KB,← hl]
   exact V6 h1
  exact subscriptTail_builtinR (x:=w) pl.isList.typeIs slot_list_getitem.lookup
   (wpAny_getItem_list_neg (Q:=fun r s'=>r=w/\EP X pins σ Q r s') pl.isList (by omega) (by rw [KB]<;>omega) (by omega) (by rw [hj];simpa using ew) ⟨rfl,fin⟩) hs
theorem qa1:IxR X (rIxT X.K):=by
 intro value slice pins s σ H x y v u Q I rx ry h hs
 obtain ⟨p,xs,i,z,rfl,rfl,hq,he,q⟩:=h
 cases rx
 obtain ⟨t,rfl⟩:=ry
 obtain ⟨its,r,pl,hz⟩:=I.tuple hq
 obtain ⟨j,h1,h2,h3,h4,h5⟩:=qdi he
 obtain ⟨w,ew,rw'⟩:=r.get h2
 have hl:=r.length
 have hn:=qcU
 have fin:EP X pins σ Q w s:=⟨z,H,I,rw',q⟩
 exact subscriptTail_builtinR (x:=w) pl.typeIs Xe.lookup
  (getItem_tuple (j:=j) (Q:=fun r s'=>r=w/\EP X pins σ Q r s') pl (by omega) (by omega) (by rw [KB,← hl];exact h1) (by simpa using ew) ⟨rfl,fin⟩) hs
theorem qbn (lo hi:Option Int)(n:Nat):(sliceBounds lo hi none n).1=((HT.sIx n 0 lo:Nat):Int)/\(sliceBounds lo hi none n).2.1=((HT.sIx n n hi:Nat):Int)/\(sliceBounds lo hi none n).2.2=1:=by
 refine ⟨?_,?_,rfl⟩
 ·cases lo with
  | none=>simp [sliceBounds,HT.sIx]
  | some i =>
   simp only [sliceBounds,HT.sIx,Option.getD_none,show (1:Int) > 0 by decide,if_true]
   by_cases h:i<0
   ·simp only [h,if_true]<;>omega
   ·simp only [h,if_false]<;>omega
 ·cases hi with
  | none=>simp [sliceBounds,HT.sIx]
  | some i =>
   simp only [sliceBounds,HT.sIx,Option.getD_none,show (1:Int) > 0 by decide,if_true]
   by_cases h:i<0
   ·simp only [h,if_true]<;>omega
   ·simp only [h,if_false]<;>omega
theorem WT (its:List Ke)(lo hi:Option Int):slicePick its.toArray lo hi none=((its.drop (HT.sIx its.length 0 lo)).take (HT.sIx its.length its.length hi-HT.sIx its.length 0 lo)).toArray:=by
 obtain ⟨h1,h2,h3⟩:=qbn lo hi its.toArray.size
 unfold slicePick
 rw [h1,h2,h3]
 simp only [sliceRange_one,pick_run,KB]<;>rfl
noncomputable def rSlL (K:Kd):V->Option Int->Option Int->Hp->VK->Prop:=fun x lo hi H Q=>∃ a xs,x=.ref a/\SqL K H a xs/\∀ p,H p=none->Q (.ref p) (upd H p (.lst (cutV xs lo hi)))
theorem qiP:SlR X (rSlL X.K):=by
 intro pins s σ H x v vl vu lo hi sl Q I rx hs pl pu h
 obtain ⟨a,xs,rfl,hx,q⟩:=h
 cases rx
 obtain ⟨its,r,ht,hz⟩:=I.list hx
 have hlen:=r.length
 refine ⟨"list", _,slot_list_getitem.lookup,ht.isList.typeIs,?_⟩
 refine wpAny_getItem_list_slice ht.isList hs pl pu .none (by simp) ?_ (by rw [KB]<;>omega)
 rw [WT,← hlen]
 refine ⟨.ref s.heap.objs.size,_,I.laid (t':=s.toks) (o:=.lst (cutV xs lo hi)) (fun b ob q=>Kh _ q) (Kr _) ?_,rfl,q _ (I.hok.fresh (Kr _))⟩
 exact ⟨Vo (Yy xs lo hi) hz,_,0,(r.drop (HT.sIx xs.length 0 lo)).take (HT.sIx xs.length xs.length hi-HT.sIx xs.length 0 lo),Kz _ rfl⟩
theorem qaM:Zb X (.builtin "len") (fun xs H Q=>∃ p ys,xs=[.ref p]/\(SqL X.K H p ys\/SqT X.K H p ys)/\Q (.int ys.length) H):=by
 intro pins s σ H xs us Q I r h
 obtain ⟨p,ys,rfl,hq,q⟩:=h
 obtain ⟨u,rfl,rx⟩:=vals1 r
 cases rx
 have hn:=qcU
 rcases hq with hq|hq
 ·obtain ⟨its,r',pl,hz⟩:=I.list hq
  have hlen:=r'.length
  exact Calls.call_len_list pl.isList (by simp only [KB]<;>omega) ⟨.int ys.length,H,I.tok _,⟨s.toks+1,by rw [KB,hlen]⟩,q⟩
 ·obtain ⟨its,r',pl,hz⟩:=I.tuple hq
  have hlen:=r'.length
  exact len_tuple pl (by simp only [KB]<;>omega) ⟨.int ys.length,H,I.tok _,⟨s.toks+1,by rw [KB,hlen]⟩,q⟩
theorem Zb.or {f:Ke}{r r':List V->Hp->VK->Prop}(h:Zb X f r)(h':Zb X f r'):Zb X f (fun xs H Q=>r xs H Q\/r' xs H Q):=by
 intro pins s σ H xs us Q I rs q
 rcases q with q|q
 ·exact h pins s σ H xs us Q I rs q
 ·exact h' pins s σ H xs us Q I rs q
theorem qaN:Zb X (.type "list") (fun xs H Q=>∃ p ys,xs=[.ref p]/\(SqL X.K H p ys\/SqT X.K H p ys)/\∀ l,H l=none->Q (.ref l) (upd H l (.lst ys))):=by
 intro pins s σ H xs us Q I r h
 obtain ⟨p,ys,rfl,hq,q⟩:=h
 obtain ⟨u,rfl,rx⟩:=vals1 r
 cases rx
 have fin:∀ (its:List Ke),Vals ys its->ys.length<=sizeLine->∀ (h':KC) (c':Nat),(∀ b o',s.heap.get? b=some o'->h'.get? b=some o')->
   h'.get? s.heap.objs.size=some { cls:=.type "list", dict:=none,data:=.seq its.toArray c',slots:=#[] }->EP X pins σ Q (.ref s.heap.objs.size) { s with heap:=h' }:=fun its r' hz h' c' kp e =>
  ⟨.ref s.heap.objs.size,_,I.laid (t':=s.toks) kp (Kr _) (show zE X.prog X.w _ h' _ (.lst ys) from ⟨hz,its,c',r',e⟩),rfl,q _ (I.hok.fresh (Kr _))⟩
 rcases hq with hq|hq
 ·obtain ⟨its,r',pl,hz⟩:=I.list hq
  have hlen:=r'.length
  obtain ⟨o,ho,hc,n,hd⟩:=pl.isList
  exact call_list_seq p (.inl rfl) ho hc hd (fun h' c' kp e=>fin its r' hz h' c' kp e) (by simp only [KB]<;>omega)
 ·obtain ⟨its,r',pl,hz⟩:=I.tuple hq
  have hlen:=r'.length
  obtain ⟨o,ho,hc,n,hd⟩:=pl
  exact call_list_seq p (.inr rfl) ho hc hd (fun h' c' kp e=>fin its r' hz h' c' kp e) (by simp only [KB]<;>omega)
theorem WL:Zb X (.type "tuple") (fun xs H Q=>∃ p ys,xs=[.ref p]/\((SqL X.K H p ys/\∀ l,H l=none->Q (.ref l) (upd H l (.tup ys)))\/(SqT X.K H p ys/\Q (.ref p) H))):=by
 intro pins s σ H xs us Q I r h
 obtain ⟨p,ys,rfl,h⟩:=h
 obtain ⟨u,rfl,rx⟩:=vals1 r
 cases rx
 rcases h with ⟨hq,q⟩|⟨hq,q⟩
 ·obtain ⟨its,r',pl,hz⟩:=I.list hq
  have hlen:=r'.length
  refine call_tuple_list pl.isList (fun h' kp=>?_) (by simp only [KB]<;>omega)
  have I1:Inv X pins σ H { s with heap:=h' }:=I.kept (t':=s.toks) kp
  have I2:Inv X pins σ (upd H h'.objs.size (.tup ys)) { s with heap:=h'.push { cls:=.type "tuple", data:=.seq its.toArray } } :=
   I1.laid (t':=s.toks) (fun b o e=>Kh _ e) (Kr _) (show zE X.prog X.w _ _ _ (.tup ys) from ⟨hz,its,r',IsTup.new _ _⟩)
  exact ⟨.ref h'.objs.size,_,I2,rfl,q _ (I1.hok.fresh (Kr _))⟩
 ·obtain ⟨its,r',pl,hz⟩:=I.tuple hq
  exact call_tuple_same pl ⟨.ref p,H,I,rfl,q⟩
def tyV (K:Kd)(T:String)(x:V)(H:Hp):Prop:=match x with
 | .str _=>T = "str"
 | .int _=>T = "int"
 | .ref p=>(T = "list"/\∃ xs,SqL K H p xs)\/(T = "tuple"/\∃ o,K.lookup p=some o/\o.cls=.type "tuple"/\o.dict=none)\/
   (T = "dict"/\((∃ kvs,H p=some (.dK kvs))\/∃ kvs,H p=some (.dT kvs)))\/(T = "set"/\∃ S n,H p=some (.set S n))
 | _=>False
theorem qkW {pins:List (Kf×Obj)}{σ:St}{H:Hp}{s:Kg}{T:String}{x:V}{v:Ke}(I:Inv X pins σ H s)(r:RelV x v)(ty:tyV X.K T x H) :
  s.TypeIs v T/\∀ a,v=.ref a->∃ ob,s.heap.get? a=some ob/\ob.dict=none:=by
 cases x with
 | str z =>
  obtain ⟨t,rfl⟩:=r
  cases (show T = "str" from ty)
  exact ⟨typeIs_str s z t,fun _ e=>nomatch e⟩
 | int i =>
  obtain ⟨t,rfl⟩:=r
  cases (show T = "int" from ty)
  exact ⟨typeIs_int s i t,fun _ e=>nomatch e⟩
 | ref p =>
  cases r
  rcases ty with ⟨rfl,xs,hq⟩|⟨rfl,o,hk,hc,hd⟩|⟨rfl,hk⟩|⟨rfl,S,n,hk⟩
  ·obtain ⟨its,_,pl,_⟩:=I.list hq
   refine ⟨pl.isList.typeIs,fun a e=>?_⟩
   cases e
   obtain ⟨o,n,e,c,hd,_⟩:=pl
   exact ⟨o,e,hd⟩
  ·refine ⟨⟨o,I.kIn p o hk,hc⟩,fun a e=>?_⟩
   cases e
   exact ⟨o,I.kIn _ o hk,hd⟩
  ·have z:∃ o,s.heap.get? p=some o/\o.ExactDict:=by
    rcases hk with ⟨kvs,hk⟩|⟨kvs,hk⟩
    ·obtain ⟨_,_,_,_,o,_,_,e,ex,_⟩:=I.hok p _ hk
     exact ⟨o,e,ex⟩
    ·obtain ⟨_,_,_,_,o,_,_,e,ex,_⟩:=I.hok p _ hk
     exact ⟨o,e,ex⟩
   obtain ⟨o,e,ex⟩:=z
   refine ⟨⟨o,e,ex.1⟩,fun a e2=>?_⟩
   cases e2
   exact ⟨o,e,ex.2.1⟩
  ·obtain ⟨o,_,_,_,e,ex,_⟩:=I.hok p _ hk
   refine ⟨⟨o,e,ex.1⟩,fun a e2=>?_⟩
   cases e2
   exact ⟨o,e,ex.2.1⟩
 | _=>exact VH ty
noncomputable def tBM (K:Kd)(T:String)(r:V->List V->Hp->VK->Prop)(to:TE)(t:TA):TE:=fun σ H Q=>to σ H fun x H1=>tyV K T x H1/\t σ H1 fun xs H2=>r x xs H2 Q
variable {o e:Ky}{es:List Ky}{to:TE}{t:TA}{name:Str}{apos cpos:Pos}{T id:String}{r:V->List V->Hp->VK->Prop}
theorem qay (pa:PlainAttrs T)(slot:Slot T name id)(hty:typeOf (.builtin id)=pure (.type "method_descriptor"))(hm:MtR X id r)(ho:PE X o to)(ha:PA X (e::es) t)
  (hbase:attributeBase o name X.env (eval o X.env)=eval o X.env:=by rfl)
  (hfew:((backTo cpos (starEach (e::es) X.env)).all (fun x=>!x.1)&&(backToKw cpos (keywordEach [] X.env)).all (fun x=>x.1.isSome)
   && decide ((e::es).length+([]:List Xu).length+(if ([]:List Xu).isEmpty then 0 else 1)<30))=true:=by rfl)
  (hline:(apos.endLine==cpos.line)=true:=by rfl) (hs:starEach (e::es) X.env=(false,eval e X.env)::starEach es X.env:=by rfl) (hplain:(backTo cpos (starEach es X.env)).any (·.1)=false:=by rfl) :
  PE X (.Call (.Attribute o name apos) (e::es) [] cpos) (tBM X.K T r to t):=by
 intro pins s σ H Q I h
 refine wpAny_Call_method_late hbase hfew hline rfl (thn (ho pins s σ H _ I h) fun v s1 ⟨x,H1,I1,r1,ty,q1⟩=>?_)
 obtain ⟨h1,h2⟩:=qkW I1 r1 ty
 refine ⟨T,id,pa,slot,hty,h1,h2,?_⟩
 have hA:=ha cpos pins s1 σ H1 _ I1 q1
 rw [hs] at hA ⊢
 refine Calls.callWith_builtin (by show (false||(backTo cpos (starEach es X.env)).any (·.1))=false;rw [hplain]<;>rfl) (Calls.evalArgs_plain ?_)
 exact thn hA fun us s2 ⟨vs,H2,I2,r2,q2⟩=>hm pins s2 σ H2 x vs v us Q I2 r1 r2 q2
end
def MtM (X:Cx)(id:String)(r:V->List V->Hp->VK->Prop):Prop :=
 ∀ (pins:List (Kf×Obj)) (s:Kg) (σ:St) (H:Hp) (x:V) (xs:List V) (v:Ke) (us:List Ke) (Q:VK),Inv X pins σ H s->RelV x v->Vals xs us->r x xs H Q->
  wpAny (model X.prog X.w) X.A (call (.builtin id) (v::us)) (EP X pins σ Q) X.xe s
theorem Vals.one:∀ {x:V} {us:List Ke},Vals [x] us->∃ u,us=[u]/\RelV x u
 | _,_,.cons r .nil=>⟨_,rfl,r⟩
theorem Vals.two:∀ {x y:V} {us:List Ke},Vals [x,y] us->∃ u v,us=[u,v]/\RelV x u/\RelV y v
 | _,_,_,.cons r (.cons q .nil)=>⟨_,_,rfl,r,q⟩
section
variable {X:Cx}{pins:List (Kf×Obj)}{σ:St}{H:Hp}{s:Kg}{l b:Kf}{xs ys zs:List V}
theorem Inv.lset {its its':List Ke}{n:Nat}{f:Array Ke->Array Ke}{t':Nat}(I:Inv X pins σ H s)(hH:H l=some (.lst xs))
  (e:s.heap.get? l=some { cls:=.type "list", data:=.seq its.toArray n }) (hf:f its.toArray=its'.toArray) (hv:Vals ys its') (hz:ys.length<=sizeLine) :
  Inv X pins σ (upd H l (.lst ys)) { s with heap:=s.heap.update l (UC f),toks:=t' }:=by
 have q:=PySem.IsL.update e f
 rw [hf] at q
 refine I.write (x:=l) (e:=l) (by rw [hH];exact trivial) (.inl rfl) (fun b' u hb hu=>(KU s.heap (UC f) (VT hb)).trans hu) ⟨_,q⟩ ?_
 exact ⟨hz,its',_,hv,q⟩
theorem Inv.lnew {its:List Ke}{t':Nat}(I:Inv X pins σ H s)(hv:Vals ys its)(hz:ys.length<=sizeLine) :
  Inv X pins σ (upd H s.heap.objs.size (.lst ys)) { s with heap:=s.heap.push { cls:=.type "list", data:=.seq its.toArray },toks:=t' } :=
 I.laid (fun _ _ q=>Kh _ q) (Kr _) ⟨hz,its,0,hv,Kz _ rfl⟩
theorem Inv.fresh (I:Inv X pins σ H s):H s.heap.objs.size=none:=I.hok.fresh (Kr _)
theorem Inv.lstM (I:Inv X pins σ H s)(hH:H l=some (.lst xs)):xs.length<=sizeLine/\∃ (its:List Ke) (n:Nat),Vals xs its/\xs.length=its.length/\s.heap.get? l=some { cls:=.type "list", data:=.seq its.toArray n }:=by
 obtain ⟨z,its,n,r,e⟩:=I.hok l _ hH
 exact ⟨z,its,n,r,r.length,e⟩
end
section
variable {X:Cx}
noncomputable def qiF:V->List V->Hp->VK->Prop:=fun x vs H Q=>∃ l xs y,x=.ref l/\vs=[y]/\H l=some (.lst xs)/\xs.length<sizeLine/\Q .non (upd H l (.lst (xs++[y])))
theorem Yi:MtM X "list.append" qiF:=by
 intro pins s σ H x vs v us Q I rx rv h
 obtain ⟨l,xs,y,rfl,rfl,hH,hz,q⟩:=h
 cases rx
 obtain ⟨u,rfl,ru⟩:=rv.one
 obtain ⟨z,its,n,r,hl,e⟩:=I.lstM hH
 refine call_meets XC ⟨_,e,rfl⟩ F.entry_list_append (F.args_list_append_2 _ _) (PySem.list_append l its.toArray n u (by rw [KB];omega)) ⟨e,?_⟩
 refine ⟨.non,_,I.lset (its':=its++[u]) hH e (by simp) (r.append (.cons ru .nil)) ?_,rfl,q⟩
 rw [KG,V1]
 omega
end
section
variable {prog:Ku}{w:KI}{A:KF}{E:Ke->Kg->Prop}{s:Kg}
set_option maxRecDepth 100000 in
end
end L2
namespace Att
open PySem PySem.W PySem.Calls PyProof.Rows
theorem YH {P:Params}{h:KC}:∀ (ns:List Int) (vs:List Ke),WellAll P h vs (ns.map WData.int)->IntsAre vs ns:=by
 intro ns
 induction ns with
 | nil =>
  intro vs w
  rw [Ud] at w
  cases w
  exact .nil
 | cons n ns ih =>
  intro vs w
  rw [Kt] at w
  cases w with
  | cons a b =>
   cases a
   exact .cons _ _ (ih _ b)
theorem qfa {l:Es}{n:Nat}(hn:l.most=some n){P:Params}{h:KC}{args:List WData}{vals:List Ke}
  (hpre:l.row.toRowW.claim.pre args=true) (hwl:WellAll P h vals args) :
  ∃ a vs ns,vals=[KR a]/\args=[WData.list (ns.map WData.int)]/\h.get? a=some { cls:=.type "list", data:=.seq vs.toArray }/\IntsAre vs ns/\ns.length<=n:=by
 have hsh:WShape.hasAll [] args [.list .int]=true:=(pre_splitW hpre).1
 have hc:l.pre.holds [] { args:=args }=true:=(pre_splitW hpre).2
 obtain ⟨d,r,rfl,h1,h2⟩:=hasAllW_cons hsh
 obtain rfl:=hasAllW_nil h2
 obtain ⟨xs,rfl,h3⟩:=hasW_list h1
 obtain ⟨ns,rfl⟩:=items_int h3
 have hlen:ns.length<=n:=by
  unfold OpenLaw.pre at hc
  have h4:(WTm.not (.lt (.lit (.int (n:Int))) (.len (.arg 0)))).holds [] { args:=[.list (ns.map .int)] }=true:=by
   have h4:=(holds_andW hc).1
   rw [hn] at h4
   exact h4
  have h5:=condW_of h4 (w_not (w_lt w_lit (w_len_list (w_arg rfl))))
  rw [Kj] at h5
  refine Nat.le_of_not_lt fun q=>?_
  have q':(n:Int)<((ns.length:Nat):Int):=by omega
  first
   | (rw [decide_eq_true q'] at h5;exact absurd h5 (by decide))
   | (simp at h5;omega)
 cases hwl with
 | cons w1 w2 =>
  cases w2
  cases w1 with
  | list ho hall=>exact ⟨_,_,ns,rfl,rfl,ho,YH ns _ hall,hlen⟩
theorem qe7 (l:Es)(args:List WData):l.row.toRowW.claim.post args (.bool true) args=true :=
 postW_of (r:=l.row.toRowW) (X:=(true==true))
  (show WShape.has [] (.bool true) .bool=true by first|rfl|decide|simp [WShape.has,WShape.arms,WShape.armsAll])
  (show (WTm.eq .res (.lit (.bool true))).value [] { args:=args,res:=some (.bool true),after:=args }=some (.bool (true==true)) from w_eq_bool (w_res rfl) w_lit) rfl
end Att
namespace L2
open PySem PySem.Spec PyProof.Rows
theorem qaJ:∀ {vs:List Ke} {ns:List Int},IntsAre vs ns->Vals (ns.map V.int) vs
 | _,_,.nil=>.nil
 | _,_,.cons n t h=>.cons ⟨t,rfl⟩ (qaJ h)
def Only (H:Hp):Prop:=∀ b,H b=none\/∃ o xs,H b=some (.frz o (.lst xs))
theorem qf1 {P:Ku}{w:KI}{K:Kd}{mg mb:Str->Option Ke}{CX:CXT}{k:Nat}{fa a:Kf}{fd:K7}{x:Str}{sp:Sp}{s₁:Kg}{vs:List Ke}{ns:List Int}
  (KX:K.In s₁.heap) (hns:s₁.heap.Ns mainGlobals mg) (hb:s₁.heap.Ns builtinsNs mb) (hbb:∀ x:Str,x ≠ "__name__"->mb x=bootBuiltins x) (hlim:s₁.heap.NoLimit) (hg:s₁.gens=#[])
  (ha:s₁.heap.get? a=some { cls:=.type "list", data:=.seq vs.toArray }) (hi:IntsAre vs ns) (hl:ns.length<=sizeLine) (hr:Room k callerA)
  (F:∀ base:KC,K.In base->base.Ns mainGlobals mg->FnOk P w K mg base CX k fa fd [x] sp) (hbind:∀ (s:Kg) (u:Ke),BindsTo s fd ⟨[u],[]⟩ [(x,u)])
  (hsp:∀ H:Hp,Only H->SqL K H a (ns.map V.int)->sp [.ref a] H (fun v _=>v=.bl true) fun _ _ _=>False)
  (hCX:∀ H e s',CX [] H s₁ (fun _ _ _=>False) e s'->False) :
  codeAny (model P w) callerA (.call (.ref fa) ⟨[.ref a],[]⟩) (fun r s'=>r=.ok (.ret (.bool true))/\OldK s₁.heap s'.heap/\s'.os=s₁.os/\XQ s'.gens) s₁:=by
 have rv:=qaJ hi
 have lenV:=hi.length
 have core:∀ H:Hp,Only H->SqL K H a (ns.map V.int)->HOk P w H s₁.heap->(∀ b,H b≠none->b=a)->(H a≠none->K.lookup a=none)->
   codeAny (model P w) callerA (.call (.ref fa) ⟨[.ref a],[]⟩) (fun r s'=>r=.ok (.ret (.bool true))/\OldK s₁.heap s'.heap/\s'.os=s₁.os/\XQ s'.gens) s₁:=by
  intro H hO hS hok hA hK
  have base_of:∀ {b:Kf} {o:Obj},s₁.heap.get? b=some o->H b=none->(hidT s₁.heap H).get? b=some o:=fun e n=>qfS e n
  have noA:∀ {b:Kf} {o:Obj} {es:Array Nb} {ep:Nat},s₁.heap.get? b=some o->o.data=.dict es ep->H b=none:=fun {b o es ep} e d=>by
   cases q:H b with
   | none=>rfl
   | some u =>
    have e':b=a:=hA b (by rw [q];simp)
    subst e'
    rw [ha] at e;cases e
    have d':Data.seq vs.toArray _=U2 es ep:=d
    cases d'
  have nsK:∀ {b:Kf} {m:Str->Option Ke},s₁.heap.Ns b m->(hidT s₁.heap H).Ns b m:=fun {b m} ⟨o,es,ep,e,d,r⟩=>⟨o,es,ep,base_of e (noA e d),d,r⟩
  have hKb:K.In (hidT s₁.heap H):=fun b o e=>base_of (KX b o e) (by
   cases q:H b with
   | none=>rfl
   | some u =>
    have e':b=a:=hA b (by rw [q];simp)
    subst e'
    rw [hK (by rw [q];simp)] at e;cases e)
  have hM:Mod K mg (hidT s₁.heap H):=⟨hKb,nsK hns,⟨mb,nsK hb,hbb⟩,let ⟨mc,h1,h2⟩:=hlim;⟨mc,nsK h1,h2⟩⟩
  have e0:Env0 P w K mg (hidT s₁.heap H) callerA [] s₁ H:=⟨rfl,hM,fun b o e=>qie e,Nat.le_of_eq (qez _ _),trivial,fun b hb=>absurd (show b∈([]:List Kf) from hb) (by simp),hok,.of_eq hg⟩
  refine Ng ((F _ hKb (nsK hns)).run callerA [] s₁ H ⟨[.ref a],[]⟩ [.ref a] [.ref a] _ _ hr e0 (hbind s₁ (.ref a)) (.cons rfl .nil) (hsp H hO hS)) fun r s' h=>?_
  cases r with
  | error e=>exact (hCX H e s' h).elim
  | ok fl =>
   cases fl with
   | next=>exact VH h
   | brk=>exact VH h
   | cont=>exact VH h
   | ret u =>
    obtain ⟨v,H',os,bare,un,hok',r',q⟩:=h
    have q':v=.bl true:=q
    subst q'
    obtain rfl:u=K8 true:=r'
    refine ⟨rfl,OldK.of_keep fun b o e=>?_,os,bare⟩
    cases q:H b with
    | none=>exact un.keep b o e q (by intro z;exact absurd (show b∈([]:List Kf) from z) (by simp)) (by simp)
    | some u =>
     rcases hO b with z|⟨ob,xs,z⟩
     ·rw [q] at z;cases z
     ·have z2:=un.frzs b ob _ z
      obtain ⟨e1,_⟩:=hok b _ z
      obtain ⟨e2,_⟩:=hok' b _ z2
      rw [e] at e1;cases e1
      exact e2
 cases hk:K.lookup a with
 | some o =>
  have e:=KX a o hk
  rw [ha] at e
  cases e
  refine core (fun _=>none) (fun _=>.inl rfl) (.inr ⟨_,vs.toArray,_,hk,rfl,rfl,rfl,by rw [KB,lenV];exact hl,by simpa using rv⟩) (fun b u z=>by have z':(none:Option HO)=some u:=z;cases z') (fun b z=>absurd rfl z) fun z=>absurd rfl z
 | none =>
  refine core (fun b=>if b=a then some (.frz { cls:=.type "list", data:=.seq vs.toArray } (.lst (ns.map V.int))) else none) (fun b=>?_) (.inl (.inr ⟨{ cls:=.type "list", data:=.seq vs.toArray },if_pos rfl⟩)) (fun b u z=>?_) (fun b z=>?_) fun _=>hk
  ·by_cases hb:b=a
   ·exact .inr ⟨_,_,if_pos hb⟩
   ·exact .inl (if_neg hb)
  ·by_cases hb:b=a
   ·have z':=(if_pos hb).symm.trans z
    cases z'
    subst hb
    exact ⟨ha,by rw [Kj];exact hl,vs,_,rv,ha⟩
   ·have z':=(if_neg hb).symm.trans z
    cases z'
  ·by_cases hb:b=a
   ·exact hb
   ·exact absurd (if_neg hb) z
noncomputable def Q5 (s:KM):Arguments:=match s with
 | .FunctionDef _ a _ _ _ _ _ _ _ _=>a
 | _=>{ posonlyargs:=[],args:=[],vararg:=none,kwonlyargs:=[],kw_defaults:=[],kwarg:=none,defaults:=[] }
noncomputable def zp (s:KM):List KM:=match s with
 | .FunctionDef _ _ b _ _ _ _ _ _ _=>b
 | _=>[]
noncomputable def qe (s:KM):Ua:=match s with
 | .FunctionDef _ _ _ _ _ _ sc _ _ _=>sc
 | _=>{ kind:=.function,names:=[],isGenerator:=false,isCoroutine:=false }
noncomputable abbrev CX0:CXT:=fun _ _ _ _ _ _=>False
noncomputable abbrev E0:XK:=fun _ _ _=>False
theorem qdU {X:Cx}:qaK CX0 X E0:=fun _ _ _ _ _ _ _ h=>h.elim
structure Fun (K:Kd)(x qual:Str)(st:KM)(f:Kf)(fd:K7):Prop where
 ex:∃ (oc:Ke) (od:Option Kf) (kV doc pm:Ke) (an:Option Kf) (cdv ct:Ke) (osl:Array (Option Ke)),
  fd=Uv x qual (Q5 st) (zp st) (qe st) .none kV doc pm an cdv ct/\K.lookup f=some ⟨oc,od,.func fd,osl⟩/\Xa K cdv qual=true
 kp:Vf K (.ref f)=true
section
variable {P:Ku}{w:KI}{K:Kd}{mg:Str->Option Ke}{base:KC}
theorem Fun.ok {x qual:Str}{st:KM}{f:Kf}{fd:K7}{N ps:List Str}{k:Nat}{sp:Sp}(F:Fun K x qual st f fd)(S:FnScope N ps (qe st))(len:∀ vs H Q E,sp vs H Q E->vs.length=ps.length)
  (hbody:∀ (cdv:Ke) (A:KF) (outer:List Env) (s:Kg) (H:Hp) (vs:List V) (Q:VK) (E:XK),Room k (A.deeper (envOfC qual (qe st) s.heap.objs.size f cdv))->sp vs H Q E->
   ∃ t,PSs (cxOf CX0 P w K mg base N qual (qe st) f cdv A outer s H E).nox (zp st) t/\t { nx:=fun _ H'=>Q .non H',rt:=Q } (start N vs) H):FnOk P w K mg base CX0 (k+1) f fd ps sp:=by
 obtain ⟨oc,od,kV,doc,pm,an,cdv,ct,osl,rfl,lk,hcd⟩:=F.ex
 refine qfM lk hcd S len fun A outer s H vs Q E hr hsp=>?_
 obtain ⟨t,h,q⟩:=hbody cdv A outer s H vs Q E hr hsp
 exact ⟨t,h.nox,q⟩
theorem Fun.binds {x qual:Str}{st:KM}{f:Kf}{fd:K7}{ps:List Str}(F:Fun K x qual st f fd)
  (h:∀ (kV doc pm:Ke) (an:Option Kf) (cdv ct:Ke) (us:List Ke),us.length=ps.length->bindArgs (Uv x qual (Q5 st) (zp st) (qe st) .none kV doc pm an cdv ct) ⟨us,[]⟩=pure (ps.zip us)):Binds K fd ps []:=by
 obtain ⟨oc,od,kV,doc,pm,an,cdv,ct,osl,rfl,lk,hcd⟩:=F.ex
 exact .all (h kV doc pm an cdv ct)
theorem qaY {x qual:Str}{st:KM}{f:Kf}{oc:Ke}{od an:Option Kf}{osl:Array (Option Ke)}{kV doc pm cdv ct:Ke}(l:K.lookup f=some ⟨oc,od,.func (Uv x qual (Q5 st) (zp st) (qe st) .none kV doc pm an cdv ct),osl⟩)
  (c:Xa K cdv qual=true) (k:Vf K (.ref f)=true):Fun K x qual st f (Uv x qual (Q5 st) (zp st) (qe st) .none kV doc pm an cdv ct):=⟨⟨oc,od,kV,doc,pm,an,cdv,ct,osl,rfl,l,c⟩,k⟩
end
theorem zj {n:Nat}(h:n<=1000):n<sizeLine:=Nat.lt_of_le_of_lt h (by decide)
theorem iteF {A B:Prop}(h:B):if false=true then A else B:=by
 rw [if_neg US]
 exact h
theorem iteT {A B:Prop}(h:A):if true=true then A else B:=by
 rw [if_pos rfl]
 exact h
def Same (H H':Hp):Prop:=∀ b o,H b=some o->H' b=some o
theorem Same.refl (H:Hp):Same H H:=fun _ _ h=>h
theorem Same.trans {H H1 H2:Hp}(a:Same H H1)(b:Same H1 H2):Same H H2:=fun c o h=>b c o (a c o h)
theorem Same.free {H H':Hp}(e:Same H H'){l:Kf}(h:H' l=Ki):H l=Ki:=by
 cases q:H l with
 | none=>rfl
 | some o =>
  rw [e l o q] at h
  cases h
theorem Same.seq {K:Kd}{H H':Hp}{a:Kf}{xs:List V}(e:Same H H')(h:SqL K H a xs):SqL K H' a xs:=by
 rcases h with (h|⟨o,h⟩)|h
 ·exact .inl (.inl (e _ _ h))
 ·exact .inl (.inr ⟨o,e _ _ h⟩)
 ·exact .inr h
end L2
set_option maxHeartbeats 4000000
namespace L2
open PySem PySem.Spec PyProof.Rows
theorem jX {env:Env}(body:(Str×NameKind)->List (Str×Addr)->Sem (ForInStep (List (Str×Addr))))
  (hf:∀ n k acc c,k=Vk->env.cells.lookup n=some c->body (n,k) acc=pure (.yield ((n,c)::acc)))
  (hn:∀ n k acc,k≠Vk->body (n,k) acc=pure (.yield acc)) :
  ∀ (names:List (Str×NameKind)) (acc:List (Str×Addr)),(∀ y∈names,y.2=.free->∃ c,env.cells.lookup y.1=some c)->
   (∀ y c,acc.lookup y=some c->env.cells.lookup y=some c)->
   ∃ cl,forIn names acc body=pure cl/\(∀ y c,cl.lookup y=some c->env.cells.lookup y=some c)/\(∀ y,(∃ c,acc.lookup y=some c)->∃ c,cl.lookup y=some c)/\∀ y,(y,Vk)∈names->∃ c,cl.lookup y=some c
 | [],acc,_,ha=>⟨acc,rfl,ha,fun _ h=>h,fun _ h=>by cases h⟩
 | (n,k)::r,acc,h,ha=>by
  by_cases hk:k=Vk
  ·obtain ⟨c,hc⟩:=h (n,k) VJ hk
   obtain ⟨cl,e,h1,h2,h3⟩:=jX body hf hn r ((n,c)::acc) (fun y hy=>h y (Vr _ hy)) (fun y c' e=>by
    rw [Vl] at e
    split at e
    ·rename_i q
     have q':y=n:=by simpa using q
     subst q';cases e;exact hc
    ·exact ha y c' e)
   refine ⟨cl,?_,h1,fun y hy=>h2 y ?_,fun y hy=>?_⟩
   ·rw [XD,hf n k acc c hk hc]
    exact e
   ·obtain ⟨c',e'⟩:=hy
    rw [Vl]
    split
    ·exact ⟨_,rfl⟩
    ·exact ⟨_,e'⟩
   ·rcases Ko.mp hy with q|q
    ·cases q
     exact h2 _ ⟨c,by rw [Vl];simp⟩
    ·exact h3 y q
  ·obtain ⟨cl,e,h1,h2,h3⟩:=jX body hf hn r acc (fun y hy=>h y (Vr _ hy)) ha
   refine ⟨cl,?_,h1,h2,fun y hy=>?_⟩
   ·rw [XD,hn n k acc hk]
    exact e
   ·rcases Ko.mp hy with q|q
    ·cases q;exact absurd rfl hk
    ·exact h3 y q
theorem wB {sc:Ua}{env:Env}(h:∀ y∈sc.names,y.2=.free->∃ c,env.cells.lookup y.1=some c) :
  ∃ cl,closureFor sc env=pure cl/\(∀ y c,cl.lookup y=some c->env.cells.lookup y=some c)/\∀ y,(y,Vk)∈sc.names->∃ c,cl.lookup y=some c:=by
 simp only [closureFor]
 obtain ⟨cl,e,h1,_,h3⟩:=jX (env:=env) (fun x cs=>if (x.2==Vk)=true then (do let a ← cellOf env x.1;pure (XE ((x.1,a)::cs))) else pure (XE cs)) (fun n k acc c hk hc=>by
   subst hk
   simp only [cellOf,hc,beq_self_eq_true,if_true];rfl) (fun n k acc hk=>by
   have:(k==Vk)=false:=by simpa using hk
   simp only [this,VA,if_false]) sc.names [] h (fun y c e=>by cases e)
 refine ⟨cl,?_,h1,h3⟩
 exact (congrArg (· >>= fun r=>pure r) e).trans rfl
noncomputable def qQ (X:Cx)(N':List Str)(sc:Ua)(cl:List (Str×Addr))(C:Kf)(fp:List Kf)(pins:List (Kf×Obj))(s:Kg)(H:Hp):Cx where
 prog:=X.prog
 w:=X.w
 K:=X.K
 mg:=X.mg
 base:=X.base
 A:=X.A
 N:=N'
 s₀:=s
 H₀:=H
 env:=compEnvC sc cl C X.env
 outer:=X.stack
 stack:=X.stack
 ex:=fp
 fn:=fun x=>decide (sc.names.lookup x=some .cell)
 calm:=X.calm
 pn:=X.pn++pins
 xe:=fun _ _=>False
def PTs (X:Cx)(ifs:List Ky)(t:TT):Prop :=
 ∀ (pins:List (Kf×Obj)) (s:Kg) (σ:St) (H:Hp) (Q:Bool->Hp->Prop),Inv X pins σ H s->t σ H Q->
  wpAny (model X.prog X.w) X.A (forIn ifs true fun c r=>if r=true then do let ok ← isTrue c X.env (eval c X.env);pure (XE ok) else pure (XE r)) (TP X pins σ Q) X.xe s
noncomputable def tTru:TT:=fun _ H Q=>Q true H
theorem qiC:PTs X [] tTru:=fun _ _ _ H _ I h=>wpAny_tests_nil ⟨H,I,h⟩
theorem qiD  (h:PT X c t):PTs X [c] t:=fun pins s σ H Q I q=>wpAny_tests_one (h pins s σ H Q I q)
theorem thF {α:Type}{t:Sem α}{Q Q':α->Kg->Prop}{M:Model}{A:KF}{E:Ke->Kg->Prop}{s:Kg}(h:wpAny M A t Q (fun _ _=>False) s)(hQ:∀ a s,Q a s->Q' a s):wpAny M A t Q' E s:=K3 h hQ fun _ _ x=>x.elim
theorem qcV {prog:Ku}{w:KI}{A:KF}{R:Result->Kg->Prop}{s:Kg}{elt target iter:Ky}{ifs:List Ky}{scope:Ua}{pos:Pos}{it acc:Ke}{env:Env}(I:Nat->Kg->Prop)
  (turn:∀ n s,I n s->wpAny (model prog w) A (pyNext it) (fun r s₁=>match r with
   | none=>R (.ok .next) s₁
   | some v=>wpAny (model prog w) A (letOwnedTupleGo target it v) (fun _ s₁=>wpAny (model prog w) A (assign target env v) (fun _ s₂ =>
     wpAny (model prog w) A (forIn ifs true fun c r=>if r=true then do let ok ← isTrue c env (eval c env);pure (XE ok) else pure (XE r)) (fun ok s₃ =>
      if ok=true then wpAny (model prog w) A (eval elt env) (fun x s₄ =>
       wpAny (model prog w) A (call (.builtin "list.append") [acc,x]) (fun _ s₅=>∃ m,m<n/\I m s₅) (notedBy (model prog w) A env fun e s'=>R (.error e) s') s₄) (notedBy (model prog w) A env fun e s'=>R (.error e) s') s₃
      else ∃ m,m<n/\I m s₃) (notedBy (model prog w) A env fun e s'=>R (.error e) s') s₂) (notedBy (model prog w) A env fun e s'=>R (.error e) s') s₁) (notedBy (model prog w) A env fun e s'=>R (.error e) s') s₁) (notedBy (model prog w) A env fun e s'=>R (.error e) s') s)
  (n:Nat) (h:I n s) :
  codeAny (model prog w) A (.compLoop (.ListComp elt [⟨target,iter,ifs,0⟩] scope pos) 0 it acc env) R s:=by
 refine codeAny_loop rfl I (fun n s hI=>?_) n h
 show wpAny _ A ((compTurn (.ListComp elt [⟨target,iter,ifs,0⟩] scope pos) 0 it acc env).onRaise (fun x=>do noteFrame x env;theTreesLotGoes x)) _ _ s
 refine wpAny_noted ?_
 rw [compTurn_list]
 refine Kc (X2 (Kc (K3 (turn n s hI) (fun r s₁ h₁=>?_) fun _ _ h'=>h')))
 cases r with
 | none=>exact Kl h₁
 | some v =>
  refine Kc (K3 h₁ (fun _ s₁' h₁'=>?_) fun _ _ h'=>h')
  refine Kc (K3 h₁' (fun _ s₂ h₂=>Kc (K3 h₂ (fun ok s₃ h₃=>?_) fun _ _ h'=>h')) fun _ _ h'=>h')
  cases ok with
  | false=>exact Kl ⟨rfl,h₃⟩
  | true =>
   exact Kc (Kc (K3 h₃ (fun x s₄ h₄=>Kc (K3 h₄ (fun _ s₅ h₅=>Kl (Kl ⟨rfl,h₅⟩)) fun _ _ h'=>h')) fun _ _ h'=>h'))
structure CompOk (X:Cx)(N':List Str)(k:Nat)(sc:Ua):Prop where
 calm:X.calm=true
 kind:sc.kind=.function
 nd:X.N.Nodup
 nd':N'.Nodup
 len:N'.length=X.N.length+k
 cells:∀ y∈sc.names,y.2=.cell->sc.names.lookup y.1=some .cell
 names:∀ y∈sc.names,y.2=.local->sc.names.lookup y.1=some .local
 old:∀ i y,i<X.N.length->N'[i]?=some y->(X.N[i]?=some y/\sc.names.lookup y≠some .local/\sc.names.lookup y≠some .cell)\/sc.names.lookup y=none
 free:∀ y∈sc.names,y.2=.free->X.env.kindOf y.1=some .cell\/X.env.kindOf y.1=some .free
theorem qfu (lo:Nat):∀ (names:List (Str×NameKind)) (h:KC) (acc:List (Str×Addr)),lo<=h.objs.size->(∀ y c,acc.lookup y=some c->lo<=c->c<h.objs.size)->(∀ y z c,lo<=c->acc.lookup y=some c->acc.lookup z=some c->y=z)->
  (∀ y c,(cellsFrom h.objs.size names acc).lookup y=some c->acc.lookup y=some c\/(h.objs.size<=c/\(pushCells h names).IsCell c none))/\(∀ y,(∃ c,acc.lookup y=some c)->∃ c,(cellsFrom h.objs.size names acc).lookup y=some c)/\
  (∀ y,(y,VY)∈names->∃ c,(cellsFrom h.objs.size names acc).lookup y=some c/\h.objs.size<=c)/\(∀ y,(y,VY)∉names->(cellsFrom h.objs.size names acc).lookup y=acc.lookup y)/\
  ∀ y z c,lo<=c->(cellsFrom h.objs.size names acc).lookup y=some c->(cellsFrom h.objs.size names acc).lookup z=some c->y=z
 | [],h,acc,_,_,inj=>⟨fun _ _ e=>.inl e,fun _ e=>e,(fun _ e=>by cases e),fun _ _=>rfl,inj⟩
 | (name,kind)::r,h,acc,hl,hb,inj=>by
  by_cases hk:kind=.cell
  ·subst hk
   have sz:(h.push { cls:=.type "cell", data:=.cell none }).objs.size=h.objs.size+1:=Vb ..
   have lk:∀ y,UV y ((name,h.objs.size)::acc)=if y=name then some h.objs.size else acc.lookup y:=fun y=>by
    rw [Vl]
    by_cases q:y=name
    ·rw [if_pos q,beq_iff_eq.mpr q]
    ·rw [if_neg q,beq_eq_false_iff_ne.mpr q]
   obtain ⟨a1,a2,a3,a4,a5⟩:=qfu lo r (h.push { cls:=.type "cell", data:=.cell none }) ((name,h.objs.size)::acc) (by omega) (fun y c e q=>by
     rw [lk] at e
     rw [sz]
     split at e
     ·cases e;exact U8 _
     ·exact K4 (hb y c e q)) (fun y z c q e1 e2=>by
     rw [lk] at e1 e2
     split at e1<;>split at e2
     ·rename_i u v;rw [u,v]
     ·cases e1;exact absurd (hb z _ e2 q) (V3 _)
     ·cases e2;exact absurd (hb y _ e1 q) (V3 _)
     ·exact inj y z c q e1 e2)
   rw [sz] at a1 a2 a3 a4 a5
   have e0:cellsFrom h.objs.size ((name,VY)::r) acc=cellsFrom (h.objs.size+1) r ((name,h.objs.size)::acc):=rfl
   have e1:pushCells h ((name,VY)::r)=pushCells (h.push { cls:=.type "cell", data:=.cell none }) r:=rfl
   rw [e0,e1]
   have b1:∀ y c,(cellsFrom (h.objs.size+1) r ((name,h.objs.size)::acc)).lookup y=some c->acc.lookup y=some c\/(h.objs.size<=c/\(pushCells (h.push { cls:=.type "cell", data:=.cell none }) r).IsCell c none):=fun y c e=>by
    rcases a1 y c e with q|⟨q1,q2⟩
    ·rw [lk] at q
     split at q
     ·cases q
      exact .inr ⟨Kr _,_,EN r _ _ _ (Kz _ rfl),rfl⟩
     ·exact .inl q
    ·exact .inr ⟨by omega,q2⟩
   refine ⟨b1,fun y e=>a2 y ?_,fun y e=>?_,fun y e=>?_,a5⟩
   ·obtain ⟨c,e⟩:=e
    rw [lk]
    split
    ·exact ⟨_,rfl⟩
    ·exact ⟨_,e⟩
   ·rcases Ko.mp e with q|q
    ·cases q
     obtain ⟨c,q⟩:=a2 name ⟨h.objs.size,by rw [lk,if_pos rfl]⟩
     refine ⟨c,q,?_⟩
     rcases a1 name c q with z|z
     ·rw [lk,if_pos rfl] at z;cases z;exact Kr _
     ·omega
    ·obtain ⟨c,q1,q2⟩:=a3 y q
     exact ⟨c,q1,by omega⟩
   ·rw [a4 y fun z=>e (Vr _ z),lk,if_neg fun z=>e (by rw [z];exact VJ)]
  ·have hb':(kind==VY)=false:=beq_eq_false_iff_ne.mpr hk
   have e0:cellsFrom h.objs.size ((name,kind)::r) acc=cellsFrom h.objs.size r acc:=by rw [cellsFrom,hb'];rfl
   have e1:pushCells h ((name,kind)::r)=pushCells h r:=by rw [pushCells,hb'];rfl
   rw [e0,e1]
   obtain ⟨a1,a2,a3,a4,a5⟩:=qfu lo r h acc hl hb inj
   refine ⟨a1,a2,fun y e=>?_,fun y e=>a4 y fun z=>e (Vr _ z),a5⟩
   rcases Ko.mp e with q|q
   ·cases q;exact absurd rfl hk
   ·exact a3 y q
theorem qh8 {M:Model}{A:KF}{E:Ke->Kg->Prop}{s:Kg}{sc:Ua}{gl:Kf}{cl:List (Str×Addr)}{qual:Str}{func:Option Kf}{code:Ke}{env:Env}{bl:Kf}{Q:Env->Kg->Prop}
  (hQ:Q (newEnv sc s.heap.objs.size gl (cellsFrom (s.heap.objs.size+1) sc.names cl) qual func code (some env) bl) { s with heap:=pushCells (s.heap.push { cls:=.type "dict", data:=.dict #[] }) sc.names }) :
  wpAny M A (newFunctionEnv sc gl cl [] qual func code (some env) bl) Q E s:=by
 simp only [newFunctionEnv,Option.isSome_some,if_true]
 refine Kc (wpAny_alloc (Kc (wpAny_layCells _ (fun name kind cells=>by cases hkc:kind==VY<;>simp [hkc]) _ _ _ _ ?_)))
 rw [show ({ s with heap:=s.heap.push { cls:=.type "dict", data:=.dict #[] } }:Kg).heap.objs.size=s.heap.objs.size+1 from Vb ..]
 rw [Nq]
 exact Kc (Kl (Kl hQ))
structure ClOk (X:Cx)(sc:Ua)(cl:List (Str×Addr))(n:Nat)(h:KC):Prop where
 old:∀ y c,cl.lookup y=some c->X.env.cells.lookup y=some c\/(n<c/\∃ v,h.IsCell c v)
 free:∀ y,sc.names.lookup y=some .free->∃ c,cl.lookup y=some c/\X.env.cells.lookup y=some c
 cell:∀ y,sc.names.lookup y=some .cell->∃ c,cl.lookup y=some c/\n<c
 inj:∀ y z c,cl.lookup y=some c->cl.lookup z=some c->y=z
def qgY (J:It)(wg:TG)(tt:TT)(te:TE)(W:Nat->Nat->List V->St->Hp->Prop)(i m:Nat)(ys:List V)(σ:St)(H:Hp):Prop :=
 ∀ x H2,J.yld i H x H2->wg x σ H2 fun σ3 H3=>tt σ3 H3 fun b H4=>if b=true then te σ3 H4 fun v H5=>ys.length<sizeLine/\∃ m',m'<m/\W (i+1) m' (ys++[v]) σ3 H5
  else ∃ m',m'<m/\W (i+1) m' ys σ3 H4
def qgZ (k:Nat)(J:It)(wg:TG)(tt:TT)(te:TE)(σ:St)(H:Hp)(Q:VK):Prop :=
 ∃ W:Nat->Nat->List V->St->Hp->Prop,(∃ m,W 0 m [] (σ++Vg k none) H)/\∀ i m ys σ' H',W i m ys σ' H'->
  (J.stop i H'/\∀ D,H' D=none->Q (.ref D) (upd H' D (.lst ys)))\/(J.go i H'/\qgY J wg tt te W i m ys σ' H')
noncomputable def qaD (k:Nat)(wi:TI)(wg:TG)(tt:TT)(te:TE):TE:=fun σ H Q=>wi σ H fun J H1=>qgZ k J wg tt te σ H1 Q
theorem Qi {env:Env}:∀ {names:List (Str×NameKind)} {x:Str} {k:EB},
  (names.map fun (n,k)=>if (k==Vk&&env.scope.kind==.function&&env.kindOf n==some .cell) then (n,VY) else (n,k)).lookup x=some k->
   (names.lookup x=some k)\/(k=.cell/\names.lookup x=some .free)
 | [],_,_,h=>by simp at h
 | (n,k')::r,x,k,h=>by
  have h':UV x ((if (k'==Vk&&env.scope.kind==.function&&env.kindOf n==some .cell)=true then (n,VY) else (n,k'))::(r.map fun (n,k)=>if (k==Vk&&env.scope.kind==.function&&env.kindOf n==some .cell) then (n,VY) else (n,k)))=some k:=h
  have ih:=@Qi env r x k
  cases hx:x==n with
  | true =>
   by_cases hc:(k'==Vk&&env.scope.kind==.function&&env.kindOf n==some .cell)=true
   ·rw [if_pos hc] at h'
    simp only [Vl,hx] at h' ⊢
    cases h'
    have:k'=.free:=by
     rw [Kp,Kp] at hc
     simpa using hc.1.1
    subst this
    exact .inr ⟨rfl,rfl⟩
   ·rw [if_neg hc] at h'
    simp only [Vl,hx] at h' ⊢
    exact .inl h'
  | false =>
   by_cases hc:(k'==Vk&&env.scope.kind==.function&&env.kindOf n==some .cell)=true
   ·rw [if_pos hc] at h'
    simp only [Vl,hx] at h' ⊢
    exact ih h'
   ·rw [if_neg hc] at h'
    simp only [Vl,hx] at h' ⊢
    exact ih h'
section
variable {X:Cx}{elt iter:Ky}{ifs:List Ky}{tg:Ky}{N':List Str}{sc:Ua}{pos:Pos}{wi:TI}{wg:TG}{tt:TT}{te:TE}{k:Nat}
theorem qfx {pins:List (Kf×Obj)}{σ:St}{H:Hp}{s s':Kg}{cl:List (Str×Addr)}{fp:List Kf}{m:Str->Option Ke}(O:CompOk X N' k sc)(I:Inv X pins σ H s)(cK:ClOk X sc cl s.heap.objs.size s'.heap)
  (hf:∀ b∈fp,FpOk X pins H b) (hlt:∀ b∈fp,b<s.heap.objs.size) (hos:s'.os=s.os) (hg:s'.gens=s.gens) (hk:∀ b o,s.heap.get? b=some o->s'.heap.get? b=some o) (hns:s'.heap.Ns s.heap.objs.size m) :
  Inv (qQ X N' sc cl s.heap.objs.size fp pins s H) [] (σ++Vg k none) H s':=by
 have stk:∀ b,b≠X.env.locals->b∉X.fs->b∉frs X.stack:=fun b h1 h2 hb=>by
  rcases Ko.mp (I.stkSub b hb) with z|z
  ·exact h1 z
  ·exact h2 z
 have hr:∀ {y:Str},(relabel sc X.env).names.lookup y=some .cell\/(relabel sc X.env).names.lookup y=some .free->sc.names.lookup y=some .free\/sc.names.lookup y=some .cell:=fun {y} h=>by
  rcases h with h|h
  ·rcases Qi h with q|q
   ·exact .inr q
   ·exact .inl q.2
  ·rcases Qi h with q|q
   ·exact .inl q
   ·exact .inl q.2
 refine ⟨⟨I.ok.mod,O.kind,I.ok.glob,I.ok.blt,Kr _,cK.inj,fun y hy=>?_,fun y c z e=>?_,I.ok.hd,I.ok.frames,.inl rfl,fun b hb=>?_,I.bs,Vo I.ok.bsz I.sz,fun b o e hb=>?_,fun b hb=>?_,I.stack,I.stkFree⟩,
  hos,?_,Un.kept hk,⟨m,hns,fun i y v h1 h2 h3=>?_⟩,fun y c h=>?_,I.hok.fresh (Kr _),fun y c h=>(cK.old y c h).elim (I.freeC y c) fun z=>I.hok.fresh (VI z.1),fun p hp=>?_,I.hok.kept hk,?_⟩
 ·rcases hr hy with q|q
  ·obtain ⟨c,e,_⟩:=cK.free y q;exact ⟨c,e⟩
  ·obtain ⟨c,e,_⟩:=cK.cell y q;exact ⟨c,e⟩
 ·obtain ⟨c',e',q⟩:=cK.cell y (of_decide_eq_true z)
  have e:cl.lookup y=some c:=e
  rw [e'] at e;cases e
  exact VI q
 ·have q:=hf b hb
  exact ⟨KN (hlt b hb),fun z c e=>(cK.old z c e).elim (q.2.2.2.2.1 z c) fun w=>VZ (Fh (hlt b hb) w.1)⟩
 ·have hb':b∈fp:=hb
  rcases (hf b hb').2.2.2.1 with z|z
  ·exact I.ok.noex b o e z
  ·exact absurd (KP (Ks (I.ok.bs b o e).1) z) (V3 _)
 ·exact stk b (hf b hb).2.1 (hf b hb).2.2.1
 ·rw [hg];exact I.bare
 ·have hl:=I.len
  have hi:i<X.N.length:=by
   by_cases hi:i<X.N.length
   ·exact hi
   ·rw [VR (by omega)] at h2
    have:=UD (a:=(none:Option V)) (n:=k) (i:=i-σ.length)
    rw [this] at h2
    split at h2<;>cases h2
  have h1':X.N[i]?=some y/\sc.names.lookup y≠some .local/\sc.names.lookup y≠some .cell:=by
   rcases O.old i y hi h1 with q|q
   ·exact q
   ·have no:∀ kk,(relabel sc X.env).names.lookup y≠some kk:=fun kk z=>by
     rcases Qi z with w|w
     ·rw [q] at w;cases w
     ·rw [q] at w;cases w.2
    rcases h3 with h3|h3|h3
    ·exact absurd h3 (no _)
    ·exact absurd h3 (no _)
    ·exact absurd h3 (no _)
  obtain ⟨h1',h1n,h1c⟩:=h1'
  have h2':σ[i]?=some (some v):=by
   rw [Vh (by omega)] at h2
   exact h2
  have key:sc.names.lookup y=some .free/\((relabel sc X.env).names.lookup y=some .cell\/(relabel sc X.env).names.lookup y=some .free):=by
   rcases h3 with h3|h3|h3
   ·rcases Qi h3 with q|q
    ·exact absurd q h1n
    ·cases q.1
   ·exact ⟨(hr (.inl h3)).resolve_right h1c,.inl h3⟩
   ·exact ⟨(hr (.inr h3)).resolve_right h1c,.inr h3⟩
  obtain ⟨q,kd⟩:=key
  have mem:=Uj q
  have kx:=O.free _ mem rfl
  obtain ⟨m0,hn,hl'⟩:=I.loc
  obtain ⟨u,r,l⟩:=hl' i y v h1' h2' (by rcases kx with z|z;exact .inr (.inl z);exact .inr (.inr z))
  rcases l with ⟨l,_⟩|⟨_,c,e,z⟩
  ·rcases kx with z|z
   ·rw [l] at z;cases z
   ·rw [l] at z;cases z
  ·obtain ⟨c',e',e2⟩:=cK.free y q
   rw [e] at e2;cases e2
   obtain ⟨o,ho,hd⟩:=z
   exact ⟨u,r,.inr ⟨kd,c,e',o,hk _ _ ho,hd⟩⟩
 ·rcases cK.old y c h with z|z
  ·obtain ⟨v,o,ho,hd⟩:=I.cell y c z
   exact ⟨v,o,hk _ _ ho,hd⟩
  ·exact z.2
 ·have hp':p∈X.pn++pins:=by
   rcases VN.mp hp with z|z
   ·exact z
   ·cases z
  obtain ⟨e,n,ne,nf,d⟩:=I.pin p hp'
  exact ⟨hk _ _ e,n,KN (Ks e),stk p.1 ne nf,d⟩
 ·show (σ++Vg k none).length=N'.length
  rw [KG,VB,I.len,O.len]
theorem comp_back {σ σ':St}{H H':Hp}{s s1:Kg}{cl:List (Str×Addr)}{C:Kf}(I:Inv X pins σ H s)(hf:∀ b∈fp,FpOk X pins H b)
  (J:Inv (qQ X N' sc cl C fp pins s H) [] σ' H' s1):Inv X pins σ H' s1 :=
 I.call' (ch:=fp) J.os J.base J.hok J.bare fun b hb=>⟨(hf b hb).2.2.2.1,(hf b hb).2.1,(hf b hb).2.2.2.2.1,(hf b hb).2.2.2.2.2⟩
theorem Inv.track   {o:HO} (I:Inv X pins σ H s) (hn:H D=none) (hL:D≠X.env.locals) (h1:D∈X.ex\/X.s₀.heap.objs.size<=D) (h2:∀ x c,X.env.cells.lookup x=some c->c≠D) (h3:∀ p∈X.pn++pins,p.1≠D)
  (ok:zE X.prog X.w (upd H D o) s.heap D o):Inv X pins σ (upd H D o) s:=by
 have ne:∀ b u,H b=some u->b≠D:=fun b u e=>qZ e hn
 exact I.step (g':=s.gens) (d':=s.drawn) (t':=s.toks) (ch:=[D]) (h':=s.heap) (fun b hb=>by
   have e:b=D:=by simpa using hb
   subst e
   exact ⟨h1,hL,h2,h3⟩) (fun b o _ _ _ e _=>e) (fun b o _ _ _ e _=>⟨o.slots,e⟩) (fun b o hc e n=>by rw [qC (fun z=>hc (by simp [z]))];exact n) (fun b o _ e=>⟨o,e⟩)
  (fun b xs e=>by rw [qC (ne b _ e)];exact e) (fun b o u e=>by rw [qC (ne b _ e)];exact e) (fun b ps e=>⟨#[],by rw [qC (ne b _ e),e];simp⟩) (fun m hm=>hm) (fun b u e=>by
   by_cases hb:b=D
   ·subst hb;rw [qH] at e;cases e;exact ok
   ·rw [qC hb] at e
    exact (I.hok b u e).stay (fun c v _ q=>q) (fun c q=>by rw [qC (ne c _ q)];exact q) fun c xs q=>by rw [qC (ne c _ q)];exact q) I.bare
theorem qen {pins:List (Kf×Obj)}{σ:St}{H:Hp}{s s':Kg}{cl:List (Str×Addr)}{fp:List Kf}{m:Str->Option Ke}{it D:Kf}{tn:Nat->KC->Prop}{J:It}{R:Result->Kg->Prop}{Qd:List V->Hp->Prop}(O:CompOk X N' k sc)
  (I:Inv X pins σ H s) (cK:ClOk X sc cl s.heap.objs.size s'.heap) (hf:∀ b∈D::fp,FpOk X pins H b) (hlt:∀ b∈D::fp,b<s.heap.objs.size)
  (hos:s'.os=s.os) (hg:s'.gens=s.gens) (hk:∀ b o,s.heap.get? b=some o->s'.heap.get? b=some o) (hns:s'.heap.Ns s.heap.objs.size m)
  (T:Turn X.prog X.w X.K tg J fp it tn) (hDf:D∉fp) (st:tn 0 s'.heap) (hD:s'.heap.PlainList D #[])
  (pg:PG (qQ X N' sc cl s.heap.objs.size (D::fp) pins s H) tg wg) (hq:PTs (qQ X N' sc cl s.heap.objs.size (D::fp) pins s H) ifs tt) (he:PE (qQ X N' sc cl s.heap.objs.size (D::fp) pins s H) elt te)
  (W:Nat->Nat->List V->St->Hp->Prop) (m0:Nat) (w0:W 0 m0 [] (σ++Vg k none) H) (turn:∀ i m ys σ' H',W i m ys σ' H'->(J.stop i H'/\Qd ys H')\/(J.go i H'/\qgY J wg tt te W i m ys σ' H'))
  (fin:∀ s1 H1 σ1 (ys:List V) (its:List Ke),Inv (qQ X N' sc cl s.heap.objs.size (D::fp) pins s H) [] σ1 H1 s1->H1 D=none->s1.heap.PlainList D its.toArray->Vals ys its->ys.length<=sizeLine->Qd ys H1->R (.ok .next) s1) :
  codeAny (model X.prog X.w) X.A (.compLoop (.ListComp elt [⟨tg,iter,ifs,0⟩] sc pos) 0 (.ref it) (.ref D) (compEnvC sc cl s.heap.objs.size X.env)) R s':=by
 have I0:Inv (qQ X N' sc cl s.heap.objs.size (D::fp) pins s H) [] (σ++Vg k none) H s':=qfx O I cK hf hlt hos hg hk hns
 have stk:∀ b,b≠X.env.locals->b∉X.fs->b∉frs X.stack:=fun b h1 h2 hb=>by
  rcases Ko.mp (I.stkSub b hb) with z|z
  ·exact h1 z
  ·exact h2 z
 have stat:∀ {H':Hp},(∀ b∈D::fp,H' b=none)->∀ b∈D::fp,FpOk (qQ X N' sc cl s.heap.objs.size (D::fp) pins s H) [] H' b:=fun hn b hb =>
  ⟨hn b hb,KN (hlt b hb),stk b (hf b hb).2.1 (hf b hb).2.2.1,.inl hb,fun z c e=>(cK.old z c e).elim ((hf b hb).2.2.2.2.1 z c) fun w=>VZ (Fh (hlt b hb) w.1),fun p hp=>by
   have hp':p∈X.pn++pins:=by
    rcases VN.mp hp with z|z
    ·exact z
    ·cases z
   exact (hf b hb).2.2.2.2.2 p hp'⟩
 have statF:∀ {H':Hp},(∀ b∈D::fp,H' b=none)->∀ b∈fp,FpOk (qQ X N' sc cl s.heap.objs.size (D::fp) pins s H) [] H' b:=fun hn b hb=>stat hn b (Vr _ hb)
 refine qcV (fun kk s1=>∃ i ys its σ' H',Inv (qQ X N' sc cl s.heap.objs.size (D::fp) pins s H) [] σ' H' s1/\tn i s1.heap/\(∀ b∈D::fp,H' b=none)/\s1.heap.PlainList D its.toArray/\Vals ys its/\ys.length<=sizeLine/\W i kk ys σ' H') ?_ m0 ⟨0,[],[],σ++Vg k none,H,I0,st,fun b hb=>(hf b hb).1,hD,.nil,Vv _,w0⟩
 rintro kk s3 ⟨i,ys,its,σ3,H3,I3,st3,fr3,pl3,rv3,hz3,w3⟩
 rcases turn i kk ys σ3 H3 w3 with ⟨stop,qn⟩|⟨go,step⟩
 ·have J3:=I3.pinned (fp:=[D]) (fun b hb=>by
   have e:b=D:=by simpa using hb
   subst e
   exact stat fr3 b VJ) (fun b hb=>by
   have e:b=D:=by simpa using hb
   subst e
   obtain ⟨n,e⟩:=pl3
   exact ⟨_,e,fun v z=>by cases z⟩)
  have fpo:∀ b∈fp,FpOk (qQ X N' sc cl s.heap.objs.size (D::fp) pins s H) ([]++Q0 [D] s3.heap) H3 b:=fun b hb=>by
   obtain ⟨a1,a2,a3,a4,a5,a6⟩:=statF fr3 b hb
   refine ⟨a1,a2,a3,a4,a5,fun p hp=>?_⟩
   rcases VN.mp hp with z|z
   ·exact a6 p (UB _ z)
   ·have z':p∈Q0 [D] s3.heap:=by simpa using z
    have:=(Yj z').1
    have e:p.1=D:=by simpa using this
    rw [e]
    intro z2
    subst z2
    exact hDf hb
  refine thn (T.done (qQ X N' sc cl s.heap.objs.size (D::fp) pins s H) rfl rfl rfl O.calm i _ s3 σ3 H3 _ J3 fpo st3 stop) fun r s4 ⟨hr,I4⟩=>?_
  subst hr
  obtain ⟨n,e⟩:=pl3
  have e4:=(I4.pin (D,_) (KQ _ (KQ _ (Qj (by simp) e)))).1
  exact fin s4 H3 σ3 ys its I4.unpinned (fr3 D VJ) ⟨n,e4⟩ rv3 hz3 qn
 ·have J3:=I3.pinned (fp:=[D]) (fun b hb=>by
   have e:b=D:=by simpa using hb
   subst e
   exact stat fr3 b VJ) (fun b hb=>by
   have e:b=D:=by simpa using hb
   subst e
   obtain ⟨n,e⟩:=pl3
   exact ⟨_,e,fun v z=>by cases z⟩)
  have fpo:∀ {H':Hp},(∀ b∈fp,H' b=none)->∀ b∈fp,FpOk (qQ X N' sc cl s.heap.objs.size (D::fp) pins s H) ([]++Q0 [D] s3.heap) H' b:=fun {H'} hn b hb=>by
   obtain ⟨_,a2,a3,a4,a5,a6⟩:=statF fr3 b hb
   refine ⟨hn b hb,a2,a3,a4,a5,fun p hp=>?_⟩
   rcases VN.mp hp with z|z
   ·exact a6 p (UB _ z)
   ·have z':p∈Q0 [D] s3.heap:=by simpa using z
    have:=(Yj z').1
    have e:p.1=D:=by simpa using this
    rw [e]
    intro z2
    subst z2
    exact hDf hb
  refine thn (T.item (qQ X N' sc cl s.heap.objs.size (D::fp) pins s H) rfl rfl rfl O.calm i _ s3 σ3 H3 _ J3 (fpo fun b hb=>fr3 b (Vr _ hb)) st3 go) fun r s4 ⟨u,hr,h4⟩=>?_
  subst hr
  refine thn h4 fun _ s5 ⟨y,H5,I5,r5,y5,st5,fr5⟩=>?_
  have I5':=I5.pinned (fpo fr5) (T.obj _ _ st5)
  have step':=step y H5 y5
  obtain ⟨n3,e3⟩:=pl3
  have dpin:∀ {σ7:St} {H7:Hp} {s7:Kg},Inv (qQ X N' sc cl s.heap.objs.size (D::fp) pins s H) ([]++Q0 [D] s3.heap++Q0 fp s5.heap) σ7 H7 s7->s7.heap.get? D=some { cls:=.type "list", data:=.seq its.toArray n3 }/\H7 D=none:=fun {σ7 H7 s7} I7=>by
   have q:=I7.pin (D,_) (KQ _ (UB _ (KQ _ (Qj (by simp) e3))))
   exact ⟨q.1,q.2.1⟩
  have tkeep:∀ {σ7:St} {H7:Hp} {s7:Kg},Inv (qQ X N' sc cl s.heap.objs.size (D::fp) pins s H) ([]++Q0 [D] s3.heap++Q0 fp s5.heap) σ7 H7 s7->tn (i+1) s7.heap/\∀ b∈D::fp,H7 b=none:=fun {σ7 H7 s7} I7=>by
   refine ⟨T.keep _ _ _ st5 fun b hb o e=>(I7.pin (b,o) (KQ _ (KQ _ (Qj hb e)))).1,fun b hb=>?_⟩
   rcases Ko.mp hb with rfl|hb
   ·exact (dpin I7).2
   ·obtain ⟨o,e,d⟩:=T.obj _ _ st5 b hb
    exact (I7.pin (b,o) (KQ _ (KQ _ (Qj hb e)))).2.1
  refine thF (pg _ s5 σ3 H5 y u _ I5' r5 step') fun _ s6 ⟨σ6,H6,I6,step6⟩=>?_
  refine thF (hq _ s6 _ H6 _ I6 step6) fun b s7 ⟨H7,I7,q7⟩=>?_
  cases b with
  | false =>
   simp only [VA,if_false] at q7 ⊢
   obtain ⟨m',hm,w8⟩:=q7
   obtain ⟨t8,f8⟩:=tkeep I7
   exact ⟨m',hm,i+1,ys,its,_,H7,I7.unpinned.unpinned,t8,f8,⟨n3,(dpin I7).1⟩,rv3,hz3,w8⟩
  | true =>
   simp only [if_true] at q7 ⊢
   refine thF (he _ s7 _ H7 _ I7 q7) fun v s8 ⟨vv,H8,I8,r8,hz,m',hm,w8⟩=>?_
   have hlen:=rv3.length
   refine wpAny_list_append_plain ⟨n3,(dpin I8).1⟩ (fun h9 pl9 sb9=>?_) (by rw [KB];omega)
   obtain ⟨t8,f8⟩:=tkeep I8
   have st8:=stat f8 D VJ
   have I9:Inv (qQ X N' sc cl s.heap.objs.size (D::fp) pins s H) [] σ6 H8 { s8 with heap:=h9 } :=
    I8.unpinned.unpinned.turned (t':=s8.toks) (fun b o hb e=>(sb9.2 b hb).trans e) st8.1 st8.2.1 st8.2.2.2.1 st8.2.2.2.2.1 st8.2.2.2.2.2
   refine ⟨m',hm,i+1,ys++[vv],its++[v],_,H8,I9,T.keep _ _ _ t8 fun b hb o e=>(sb9.2 b (fun z=>hDf (z ▸ hb))).trans e,f8,by simpa using pl9,rv3.append (.cons r8 .nil),?_,w8⟩
   rw [KG,V1]
   omega
theorem wF {E:Ke->Kg->Prop}{pins:List (Kf×Obj)}{σ:St}{H:Hp}{s:Kg}{cl:List (Str×Addr)}{fp:List Kf}{it:Kf}{tn:Nat->KC->Prop}{J:It}{RR:Ke->Kf->Result->Kg->Prop}{Qd:V->Hp->Prop}(O:CompOk X N' k sc)
  (I:Inv X pins σ H s) (hcl1:∀ y c,cl.lookup y=some c->X.env.cells.lookup y=some c) (hcl2:∀ y,(y,Vk)∈sc.names->∃ c,cl.lookup y=some c) (hf:∀ b∈fp,FpOk X pins H b)
  (T:Turn X.prog X.w X.K tg J fp it tn) (st:tn 0 s.heap)
  (hg:∀ cl C fp pins s H,PG (qQ X N' sc cl C fp pins s H) tg wg) (hq:∀ cl C fp pins s H,PTs (qQ X N' sc cl C fp pins s H) ifs tt) (he:∀ cl C fp pins s H,PE (qQ X N' sc cl C fp pins s H) elt te)
  (turn:qgZ k J wg tt te σ H Qd)
  (fin:∀ D C s1 H1 m,Inv X pins σ H1 s1->s1.heap.Ns C m->H1 C=none->C≠X.env.locals->(X.s₀.heap.objs.size<=C)->(∀ z c,X.env.cells.lookup z=some c->c≠C)->(∀ p∈X.pn++pins,p.1≠C)->Qd (.ref D) H1->RR (.ref D) C (.ok .next) s1) :
  wpAny (model X.prog X.w) X.A (newList []) (fun acc s₃=>wpAny (model X.prog X.w) X.A (newFunctionEnv sc X.env.globals cl [] X.env.qual none .none (some X.env)) (fun cenv s₄ =>
   codeAny (model X.prog X.w) X.A (.compStart (.ListComp elt [⟨tg,iter,ifs,0⟩] sc pos) 0 (.ref it) acc { cenv with scope:=relabel sc X.env }) (RR acc cenv.locals) s₄) E s₃) E s:=by
 refine Ub (qh8 ?_)
 dsimp only
 have hD:=I.hok.fresh (Kr s.heap.objs.size)
 have I3:Inv X pins σ H { s with heap:=s.heap.push { cls:=.type "list", dict:=none,data:=.seq ([]:List Ke).toArray } } :=
  I.kept (t':=s.toks) (fun b u e=>Kh _ e)
 have fpl:∀ b∈fp,b<s.heap.objs.size:=fun b hb=>by
  obtain ⟨o,e,_⟩:=T.obj _ _ st b hb
  exact Ks e
 have fD:FpOk X pins H s.heap.objs.size:=I.fpOk (Kr _) hD
 have hf3:∀ b∈s.heap.objs.size::fp,FpOk X pins H b:=fun b hb=>by
  rcases Ko.mp hb with rfl|hb
  ·exact fD
  ·exact hf b hb
 have eD:(s.heap.push { cls:=.type "list", dict:=none,data:=.seq ([]:List Ke).toArray }).get? s.heap.objs.size=some { cls:=.type "list", dict:=none,data:=.seq ([]:List Ke).toArray }:=Kz _ rfl
 generalize hH2:s.heap.push { cls:=.type "list", dict:=none,data:=.seq ([]:List Ke).toArray }=H2 at I3 eD ⊢
 have hC:H2.objs.size=s.heap.objs.size+1:=by rw [← hH2,Vb]
 have sz2:(H2.push { cls:=.type "dict", data:=.dict #[] }).objs.size=H2.objs.size+1:=Vb ..
 obtain ⟨a1,a2,a3,a4,a5⟩:=qfu H2.objs.size sc.names (H2.push { cls:=.type "dict", data:=.dict #[] }) cl (by omega) (fun y c e q=>by
  obtain ⟨v,z⟩:=I3.cell y c (hcl1 y c e)
  exact KP z.lt (by rw [sz2];exact UW _)) (fun y z c q e1 e2=>I3.ok.inj y z c (hcl1 _ _ e1) (hcl1 _ _ e2))
 rw [sz2] at a1 a2 a3 a4 a5
 generalize hcl':cellsFrom (H2.objs.size+1) sc.names cl=cl' at a1 a2 a3 a4 a5 ⊢
 have old3:∀ b o,H2.get? b=some o->(pushCells (H2.push { cls:=.type "dict", data:=.dict #[] }) sc.names).get? b=some o:=fun b o e=>EN _ _ _ _ (Kh _ e)
 have hns₁:(pushCells (H2.push { cls:=.type "dict", data:=.dict #[] }) sc.names).Ns H2.objs.size (fun _=>none):=(Heap.Ns.new H2 (.type "dict")).keeps (EN _ _)
 have cK:ClOk X sc cl' H2.objs.size (pushCells (H2.push { cls:=.type "dict", data:=.dict #[] }) sc.names):=by
  have fr:∀ y,sc.names.lookup y=some .free->∃ c,cl'.lookup y=some c/\X.env.cells.lookup y=some c:=fun y e=>by
   obtain ⟨c,q⟩:=hcl2 y (Uj e)
   refine ⟨c,?_,hcl1 y c q⟩
   rw [a4 y fun z=>by have:=O.cells _ z rfl;rw [e] at this;cases this]
   exact q
  have ol:∀ y c,cl'.lookup y=some c->X.env.cells.lookup y=some c\/(H2.objs.size<c/\∃ v,(pushCells (H2.push { cls:=.type "dict", data:=.dict #[] }) sc.names).IsCell c v):=fun y c e=>by
   rcases a1 y c e with z|⟨z1,z2⟩
   ·exact .inl (hcl1 y c z)
   ·exact .inr ⟨by omega,none,z2⟩
  refine ⟨ol,fr,fun y e=>?_,fun y z c e1 e2=>?_⟩
  ·obtain ⟨c,q1,q2⟩:=a3 y (Uj e)
   exact ⟨c,q1,by omega⟩
  ·by_cases hc:H2.objs.size<=c
   ·exact a5 y z c hc e1 e2
   ·rcases ol y c e1 with q|q
    ·rcases ol z c e2 with r|r
     ·exact I3.ok.inj y z c q r
     ·omega
    ·omega
 generalize pushCells (H2.push { cls:=.type "dict", data:=.dict #[] }) sc.names=h₁ at *
 have old2:∀ b o,s.heap.get? b=some o->H2.get? b=some o:=fun b o e=>hH2 ▸ Kh _ e
 obtain ⟨W,⟨m0,w0⟩,tr⟩:=turn
 have st1:tn 0 h₁:=T.keep _ _ _ st fun b _ o e=>old3 b o (old2 b o e)
 have loop:codeAny (model X.prog X.w) X.A (.compLoop (.ListComp elt [⟨tg,iter,ifs,0⟩] sc pos) 0 (.ref it) (.ref s.heap.objs.size) (compEnvC sc cl' H2.objs.size X.env)) (RR (.ref s.heap.objs.size) H2.objs.size)
   { s with heap:=h₁ }:=by
  refine qen (s:={ s with heap:=H2 }) (s':={ s with heap:=h₁ }) (Qd:=fun ys H'=>∀ D,H' D=none->Qd (.ref D) (upd H' D (.lst ys))) O I3 cK hf3 (fun b hb=>?_) rfl rfl old3 hns₁ T (fun z=>V3 _ (fpl _ z)) st1 ⟨0,old3 _ _ eD⟩ (hg _ _ _ _ _ _) (hq _ _ _ _ _ _) (he _ _ _ _ _ _) W m0 w0 tr ?_
  ·show b<H2.objs.size
   rw [hC]
   rcases Ko.mp hb with hb|hb
   ·rw [hb];exact U8 _
   ·exact K4 (fpl b hb)
  intro s1 H1 σ1 ys its J1 hD1 pl1 rv1 hz1 q1
  obtain ⟨m,hn1,_⟩:=J1.loc
  obtain ⟨n1,e1⟩:=pl1
  have I4:=(comp_back I3 hf3 J1).track (D:=s.heap.objs.size) (o:=.lst ys) hD1 fD.2.1 fD.2.2.2.1 fD.2.2.2.2.1 fD.2.2.2.2.2 ⟨hz1,its,n1,rv1,e1⟩
  refine fin _ _ s1 _ m I4 hn1 (by rw [qC (by show H2.objs.size≠s.heap.objs.size;omega)];exact J1.free) (VZ I3.lt) I3.sz (fun z c e h=>?_) (fun p hp h=>?_) (q1 _ hD1)
  ·obtain ⟨v,q⟩:=I3.cell z c e
   have:=q.lt
   rw [h] at this
   exact V3 _ this
  ·have:=Ks (I3.pin p hp).1
   rw [h] at this
   exact V3 _ this
 exact codeAny_compStart_list loop (T.self _ 0 _ _ _ st1 loop)
theorem qiy (O:CompOk X N' k sc)(hi:PI X tg iter wi)(hg:∀ cl C fp pins s H,PG (qQ X N' sc cl C fp pins s H) tg wg)(hq:∀ cl C fp pins s H,PTs (qQ X N' sc cl C fp pins s H) ifs tt)(he:∀ cl C fp pins s H,PE (qQ X N' sc cl C fp pins s H) elt te)
  (hs:∀ v,foldedSetIterable iter X.env v=pure v:=by intro _;rfl):PE X (.ListComp elt [⟨tg,iter,ifs,0⟩] sc pos) (qaD k wi wg tt te):=by
 intro pins s σ H Q I h
 rw [eval_ListComp]
 obtain ⟨cl,hcl,hcl1,hcl2⟩:=wB (sc:=sc) (env:=X.env) (fun y hy hf=>I.ok.has y.1 (O.free y hy hf))
 refine wpAny_comprehension_free (use:=none) rfl hs hcl O.kind O.names ?_
 refine thn (hi pins s σ H _ I h) fun v s1 h1=>thn h1 fun itv s2 h2=>?_
 obtain ⟨it,fp,tn,J,H2,e,I2,T,st2,f2,q⟩:=h2
 subst e
 refine wF (RR:=fun acc C=>compPost (model X.prog X.w) X.A X.xe none (EP X pins σ Q) acc C) (Qd:=Q) O I2 hcl1 hcl2 f2 T st2 hg hq he q ?_
 intro D C s3 H3 m I3 hn3 hC3 hL hsz hcl3 hp3 q3
 exact ⟨m,hn3,fun h' sb=>⟨.ref D,H3,I3.turned (t':=s3.toks) (fun b o hb e=>(sb.2 b hb).trans e) hC3 hL (.inr hsz) hcl3 hp3,rfl,q3⟩⟩
theorem qd5 {py spos:Pos}(O:CompOk X N' k sc)(hj:X.N[j]?=some y)(hy:X.env.scope.names.lookup y=some .local)(hi:PI X tg iter wi)(hg:∀ cl C fp pins s H,PG (qQ X N' sc cl C fp pins s H) tg wg)(hq:∀ cl C fp pins s H,PTs (qQ X N' sc cl C fp pins s H) ifs tt)(he:∀ cl C fp pins s H,PE (qQ X N' sc cl C fp pins s H) elt te)
  (hsw:swapsWith (.ListComp elt [⟨tg,iter,ifs,0⟩] sc pos) (some (.Name y py)) spos.line X.env=pure true:=by rfl)
  (hs:∀ v,foldedSetIterable iter X.env v=pure v:=by intro _;rfl):PS X (.Assign [.Name y py] (.ListComp elt [⟨tg,iter,ifs,0⟩] sc pos) spos) (tAsg (qaD k wi wg tt te) (qdE j)):=by
 intro pins s σ H D I h
 rw [exec_Assign_Name_used _ _ _ _ hsw]
 refine Kc (X2 (Kc ?_))
 show wpAny _ X.A (do let _ ← comprehension (.ListComp elt [⟨tg,iter,ifs,0⟩] sc pos) sc X.env _ (newList []) false (eval iter X.env) (some (assign (.Name y py) X.env))) _ _ s
 obtain ⟨cl,hcl,hcl1,hcl2⟩:=wB (sc:=sc) (env:=X.env) (fun y hy hf=>I.ok.has y.1 (O.free y hy hf))
 refine Kc (K3 (wpAny_comprehension_free (use:=some (assign (.Name y py) X.env)) (Q:=fun _ s'=>SP X pins D .next s') rfl hs hcl O.kind O.names ?_) (fun _ s' hq=>Kl (Kl hq)) fun _ _ e=>e)
 refine thn (hi pins s σ H _ I h) fun v s1 h1=>thn h1 fun itv s2 h2=>?_
 obtain ⟨it,fp,tn,J,H2,e,I2,T,st2,f2,q⟩:=h2
 subst e
 refine wF (RR:=fun acc C=>compPost (model X.prog X.w) X.A X.xe (some (assign (.Name y py) X.env)) (fun _ s'=>SP X pins D .next s') acc C) (Qd:=fun x H1=>qdE j x σ H1 D.nx) O I2 hcl1 hcl2 f2 T st2 hg hq he q ?_
 intro B C s3 H3 m I3 hn3 hC3 hL hsz hcl3 hp3 q3
 refine wpAny_assign_Name (qaC I3 O.nd hj (.inl hy) (v:=.ref B) rfl (fun s4 I4 ⟨a,sb,ha⟩=>?_) (.inr hy))
 have hCa:C≠a:=by
  rcases ha with ha|ha
  ·rw [ha];exact hL
  ·exact VT (hcl3 _ _ ha)
 refine ⟨m,hn3.sameBut sb hCa,fun h' sb'=>⟨_,H3,I4.turned (t':=s4.toks) (fun b o hb e=>(sb'.2 b hb).trans e) hC3 hL (.inr hsz) hcl3 hp3,q3⟩⟩
end
noncomputable abbrev K2:=List (Int ⊕ List Int)
noncomputable def k2D (k:Int ⊕ List Int):Ka:=match k with
 | .inl i=>.int i
 | .inr js=>.tuple (js.map .int)
noncomputable def k2T (ks:K2):Ka:=.tuple (ks.map k2D)
noncomputable def k2H (k:Int ⊕ List Int):Int:=match k with
 | .inl i=>hashInt i
 | .inr js=>reduceHash (VE (js.map hashInt))
noncomputable def k2N (k:Int ⊕ List Int):Nat:=match k with
 | .inl _=>1
 | .inr js=>js.length+1
theorem YD:∀ {a b:List Int},a.map KJ=b.map KJ->a=b
 | [],[],_=>rfl
 | [],_::_,e=>by simp at e
 | _::_,[],e=>by simp at e
 | x::xs,y::ys,e=>by
  rw [Kt,Kt] at e
  injection e with e1 e2
  injection e1 with e1
  rw [e1,YD e2]
theorem qhU (e:k2D a=k2D b):a=b:=by
 cases a with
 | inl i=>cases b with
  | inl j=>injection (show KJ i=KJ j from e) with e;rw [e]
  | inr js=>cases (show KJ i=VL _ from e)
 | inr is=>cases b with
  | inl j=>cases (show VL _=KJ j from e)
  | inr js=>injection (show VL (is.map .int)=VL (js.map .int) from e) with e;rw [YD e]
theorem qbV:∀ {a b:K2},a.map k2D=b.map k2D->a=b
 | [],[],_=>rfl
 | [],_::_,e=>by simp at e
 | _::_,[],e=>by simp at e
 | x::xs,y::ys,e=>by
  rw [Kt,Kt] at e
  injection e with e1 e2
  rw [qhU e1,qbV e2]
theorem qhV (e:k2T a=k2T b):a=b:=by
 injection (show VL (a.map k2D)=VL (b.map k2D) from e) with e
 exact qbV e
theorem qfr (ns:List Int):Km (ns.map .int)=true/\Kw (ns.map .int)=0:=by
 induction ns with
 | nil=>exact ⟨rfl,rfl⟩
 | cons n ns ih=>exact ⟨ih.1,by show max 0 (Kw (ns.map .int))=0;rw [ih.2];rfl⟩
theorem qfs (ks:K2):Km (ks.map k2D)=true/\Kw (ks.map k2D)<=1:=by
 induction ks with
 | nil=>exact ⟨rfl,Vv _⟩
 | cons k ks ih =>
  have hk:(k2D k).canLay0=true/\(k2D k).depth<=1:=by
   cases k with
   | inl i=>exact ⟨rfl,Vv _⟩
   | inr js=>exact ⟨(qfr js).1,by show Kw (js.map .int)+1<=1;rw [(qfr js).2];exact Kr _⟩
  refine ⟨?_,?_⟩
  ·show ((k2D k).canLay0&&Km (ks.map k2D))=true
   rw [hk.1,ih.1];rfl
  ·show max (k2D k).depth (Kw (ks.map k2D))<=1
   exact Nat.max_le.mpr ⟨hk.2,ih.2⟩
theorem YL (ks:K2):(k2T ks).canLay0=true/\(k2T ks).depth<=2:=⟨(qfs ks).1,Nat.succ_le_succ (qfs ks).2⟩
def Is2 (h:KC)(ks:K2)(a:Kf):Prop:=∃ as,Xi h (.ref a) (k2T ks) as
section
variable {prog:Ku}{w:KI}{A:KF}{E:Ke->Kg->Prop}{s:Kg}
def yO (prog:Ku)(w:KI)(A:KF)(h:KC)(v:Ke)(p:Int×Nat):Prop :=
 ∀ (E:Ke->Kg->Prop) (s:Kg) (Q:Int->Kg->Prop),s.heap=h->Q p.1 { s with toks:=s.toks+p.2 }->wpAny (model prog w) A (pyHash v) Q E s
theorem qbQ {o:Obj}  {hs:List (Int×Nat)} {Q:Int->Kg->Prop} (hu:A.units<cLine) (ho:s.heap.get? a=some o) (hc:o.cls=.type "tuple") (hd:o.data=.seq items n)
  (hi:Vz (yO prog w A.in1 s.heap) items.toList hs) (h:Q (reduceHash (VE (hs.map (·.1)))) { s with toks:=s.toks+((hs.map (·.2)).sum+1) }):wpAny (model prog w) A (pyHash (.ref a)) Q E s:=by
 have hT:s.TypeIs (.ref a) "tuple" := ⟨o,ho,hc⟩
 unfold pyHash
 first|unfold pyHashByItsType|skip
 first|exact Kc (wpAny_cRoomFor_or (.inr hu) ?_)|skip
 first|refine Kc (wpAny_cRoomFor_or (.inr hu) (Kc (NO hT XO.lookup ?_)))|refine Kc (NO hT XO.lookup (id ?_))
 refine (id ?_:wpAny _ _ (if (some (Vq "tuple.__hash__")==some VC)=true then _ else _) Q E s)
 rw [if_neg (fun z=>by rw [beq_builtin_none] at z;cases z)]
 refine Kc (NO hT XO.lookup (id ?_:wpAny _ _ (callSpecialIfBoundUnlessNone? (.ref a) "__hash__" _ >>= _) Q E s))
 refine Kc (wpAny_callSpecialIfBoundUnlessNone?_slot hT XO (UR XO hT F.entry_tuple_hash (?_:wpAny _ _ (Eg (.ref a) >>= _) _ _ s) (F.args_tuple_hash_1 _)))
 refine Kc (wpAny_tupleItemsOf ho hd (Kc ?_))
 rw [← Ni]
 refine XY _ (fun rest (b:Array Int) s'=>∃ done left,hs=done++left/\Vz (yO prog w A.in1 s.heap) rest left/\b.toList=done.map (·.1)/\s'={ s with toks:=s.toks+(done.map (·.2)).sum }) _ ?_ ?_ _ _ ⟨[],hs,rfl,hi,rfl,rfl⟩
 ·rintro x rest b s' ⟨done,left,rfl,hl,hb,rfl⟩
  cases hl with
  | @cons _ p _ ps h1 hl' =>
   refine Kc (h1 _ _ _ rfl ?_)
   first
    | exact Kl ⟨done++[p],ps,by simp,hl',by simp [hb],by simp [Eh]⟩
    | exact Kc (Kl (Kl ⟨done++[p],ps,by simp,hl',by simp [hb],by simp [Eh]⟩))
 ·rintro b s' ⟨done,left,rfl,hl,hb,rfl⟩
  cases hl
  rw [Vd] at h
  refine (id ?_:wpAny _ _ (retInt (VE b.toList)) _ _ _)
  rw [hb]
  refine wpAny_ret_mkInt (id ?_:wpAny _ _ (if (decide (-(2:Int) ^ 63<=VE (done.map (·.1)))&&decide (VE (done.map (·.1))<2 ^ 63))=true then _ else _) Q E _)
  unfold reduceHash at h
  by_cases hr:(decide (-(2:Int) ^ 63<=VE (done.map (·.1)))&&decide (VE (done.map (·.1))<2 ^ 63))=true
  ·rw [if_pos hr] at h ⊢
   exact Kl (by simpa [Eh] using h)
  ·rw [if_neg hr] at h ⊢
   exact Kc (wpAny_rule (Kl (by simpa [Eh] using h)))
theorem qbP (i:Int)(t:Tok):yO prog w A h (.int i t) (hashInt i,1):=fun _ _ _ _ q=>wpAny_pyHash_int q
theorem qag:∀ {vs:List Ke} {ns:List Int} {as:List Kf},Uk h vs (ns.map .int) as->Vz (yO prog w A h) vs (ns.map fun i=>(hashInt i,1))
 | _,[],_,r=>by cases r;exact .nil
 | _,n::ns,_,r=>by
  cases r with
  | cons a t=>cases a;exact .cons (qbP _ _) (qag t)
theorem qgX (ns:List Int):((ns.map fun i=>(hashInt i,1)).map (·.2)).sum=ns.length:=by
 induction ns with
 | nil=>rfl
 | cons n ns ih=>rw [Kt,Kt,List.sum_cons,ih,KA];omega
theorem qey  (hu:A.units<cLine) (r:Xi h v (k2D k) as):yO prog w A h v (k2H k,k2N k):=by
 cases k with
 | inl i =>
  cases (show Xi h v (.int i) as from r)
  exact qbP _ _
 | inr js =>
  cases (show Xi h v (.tuple (js.map .int)) as from r) with
  | tuple h1 h2 h3 h4 =>
   intro E s Q e q
   subst e
   refine qbQ hu h1 h2 h3 (qag h4) ?_
   have e:(js.map fun i=>(hashInt i,1)).map (·.1)=js.map hashInt:=by rw [VD];rfl
   rw [e,qgX]
   exact q
theorem Yz (hu:A.units<cLine):∀ {vs:List Ke} {ks:K2} {as:List Kf},Uk h vs (ks.map k2D) as->Vz (yO prog w A h) vs (ks.map fun k=>(k2H k,k2N k))
 | _,[],_,r=>by cases r;exact .nil
 | _,k::ks,_,r=>by
  cases r with
  | cons a t=>exact .cons (qey hu a) (Yz hu t)
theorem qd9   (r:Xi h v (.int i) as):eqIsQuiet n v=pure true:=by
 cases r
 cases n<;>rfl
theorem qaA {m:Nat}{o:Obj}  {Q:Bool->Kg->Prop} (ho:s.heap.get? a=some o) (hc:o.cls=.type "tuple") (hd:o.data=.seq items n)
  (hi:∀ v∈items.toList,∀ Q':Bool->Kg->Prop,Q' true s->wpAny (model prog w) A (eqIsQuiet m v) Q' E s) (h:Q true s):wpAny (model prog w) A (eqIsQuiet (m+1) (.ref a)) Q E s:=by
 have hT:s.TypeIs (.ref a) "tuple" := ⟨o,ho,hc⟩
 unfold eqIsQuiet
 refine Kc (NO hT F.slot_tuple_eq.lookup (?_:wpAny _ _ (isInstance (.ref a) (.type "tuple") >>= _) _ _ s))
 refine Kc (wpAny_isInstance hT isSubtype_tuple_tuple (id ?_))
 simp only [E7,if_false,VA]
 refine Kc (V4 ho hd (Kc (?_:wpAny _ _ (forIn items _ _) _ _ s)))
 rw [← Ni]
 refine XY _ (fun rest r s'=>r.1=none/\s'=s/\∀ v∈rest,∀ Q':Bool->Kg->Prop,Q' true s->wpAny (model prog w) A (eqIsQuiet m v) Q' E s) _ ?_ ?_ _ _ ⟨rfl,rfl,hi⟩
 ·rintro v rest r s' ⟨hr,rfl,hall⟩
  refine Kc (hall v VJ _ ?_)
  simp only [E7,if_false,VA]
  exact Kl ⟨rfl,rfl,fun u hu'=>hall u (Vr _ hu')⟩
 ·rintro ⟨r1,r2⟩ s' ⟨hr,rfl,_⟩
  simp only at hr
  subst hr
  exact Kl h
theorem Z8:∀ {vs:List Ke} {ds:List Ka} {as:List Kf},Uk h vs ds as->∀ v∈vs,∃ d∈ds,∃ bs,Xi h v d bs
 | _,_,_,.nil,v,hv=>by cases hv
 | _,_,_,.cons r t,v,hv=>by
  rcases Ko.mp hv with rfl|hv
  ·exact ⟨_,.head _,_,r⟩
  ·obtain ⟨d,hd,bs,q⟩:=Z8 t v hv
   exact ⟨d,.tail _ hd,bs,q⟩
theorem Is2.quiet  (x:Is2 s.heap ks a) (h:Q true s):wpAny (model prog w) A (eqIsQuiet 8 (.ref a)) Q E s:=by
 obtain ⟨as,r⟩:=x
 cases r with
 | tuple h1 h2 h3 h4 =>
  refine qaA h1 h2 h3 (fun v hv Q' q=>?_) h
  obtain ⟨d,hd,bs,rv⟩:=Z8 h4 v hv
  obtain ⟨k,_,rfl⟩:=VM.mp hd
  cases k with
  | inl i=>rw [qd9 (show Xi s.heap v (.int i) bs from rv)];exact Kl q
  | inr js =>
   cases (show Xi s.heap v (.tuple (js.map .int)) bs from rv) with
   | tuple g1 g2 g3 g4 =>
    refine qaA g1 g2 g3 (fun u hu Q2 q2=>?_) q
    obtain ⟨d,hd,cs,ru⟩:=Z8 g4 u hu
    obtain ⟨i,_,rfl⟩:=VM.mp hd
    rw [qd9 ru]
    exact Kl q2
theorem Is2.inj  (hx:Is2 h x a) (hy:Is2 h y a):x=y:=by
 obtain ⟨as,r⟩:=hx
 obtain ⟨bs,q⟩:=hy
 exact qhV (SeqAt.Reads.unique _ _ _ _ _ (YL x).1 r q)
theorem yE {h h':KC}(k:∀ b o,b≠d->h.get? b=some o->h'.get? b=some o):∀ {vs:List Ke} {ns:List Int} {as:List Kf},Uk h vs (ns.map .int) as->Uk h' vs (ns.map .int) as
 | _,[],_,r=>by cases r;exact .nil
 | _,n::ns,_,r=>by
  cases r with
  | cons a t=>cases a;exact .cons (.int _ _) (yE k t)
theorem Is2.keeps {h h':KC}  {o:Obj}  (x:Is2 h ks a) (ho:h.get? d=some o) (hd:o.data=.dict es ep) (hs:Xj d h h'):Is2 h' ks a:=by
 have k:∀ b o,b≠d->h.get? b=some o->h'.get? b=some o:=fun b o hb e=>(hs.2 b hb).trans e
 have ne:∀ {b:Kf} {ob:Obj} {items:Array Ke} {n:Nat},h.get? b=some ob->ob.data=.seq items n->b≠d:=fun e q z=>by
  subst z
  rw [ho] at e
  cases e
  rw [hd] at q
  cases q
 have item:∀ {vs:List Ke} {ks:K2} {as:List Kf},Uk h vs (ks.map k2D) as->Uk h' vs (ks.map k2D) as:=by
  intro vs ks
  induction ks generalizing vs with
  | nil=>intro as r;cases r;exact .nil
  | cons k1 ks ih =>
   intro as r
   cases r with
   | cons a t =>
    refine .cons ?_ (ih t)
    cases k1 with
    | inl i=>cases (show Xi h _ (.int i) _ from a);exact .int _ _
    | inr js =>
     cases (show Xi h _ (.tuple (js.map .int)) _ from a) with
     | tuple g1 g2 g3 g4=>exact .tuple (k _ _ (ne g1 g3) g1) g2 g3 (yE k g4)
 obtain ⟨as,r⟩:=x
 cases r with
 | tuple h1 h2 h3 h4=>exact ⟨_,.tuple (k _ _ (ne h1 h3) h1) h2 h3 (item h4)⟩
theorem qbI:∀ a b:List Int,Kq (.tuple (a.map .int)) (.tuple (b.map .int))=decide (a=b)
 | [],[]=>rfl
 | [],_::_=>rfl
 | _::_,[]=>rfl
 | x::xs,y::ys=>by
  have:Kq (.tuple ((x::xs).map .int)) (.tuple ((y::ys).map .int))=((x==y)&&Kq (.tuple (xs.map .int)) (.tuple (ys.map .int))):=rfl
  rw [this,qbI xs ys,XF]
  simp
theorem qhA (a b:Int ⊕ List Int):Kq (k2D a) (k2D b)=decide (a=b):=by
 cases a with
 | inl i=>cases b with
  | inl j =>
   have:Kq (k2D (.inl i)) (k2D (.inl j))=(i==j):=rfl
   rw [this,XF]
   simp
  | inr js=>exact (decide_eq_false (fun z=>by cases z)).symm
 | inr is=>cases b with
  | inl j=>exact (decide_eq_false (fun z=>by cases z)).symm
  | inr js =>
   have:Kq (k2D (.inr is)) (k2D (.inr js))=Kq (.tuple (is.map .int)) (.tuple (js.map .int)):=rfl
   rw [this,qbI,XF]
   simp
theorem qaS:∀ a b:K2,Kq (k2T a) (k2T b)=decide (a=b)
 | [],[]=>rfl
 | [],_::_=>rfl
 | _::_,[]=>rfl
 | x::xs,y::ys=>by
  have:Kq (k2T (x::xs)) (k2T (y::ys))=(Kq (k2D x) (k2D y)&&Kq (k2T xs) (k2T ys)):=rfl
  rw [this,qhA,qaS xs ys,XF]
  simp
end
noncomputable def qdL (prog:Ku)(w:KI):HeapKind prog w K2 where
 is:=Is2
 hash:=fun ks=>reduceHash (VE (ks.map k2H))
 draws:=fun ks=>((ks.map fun k=>(k2H k,k2N k)).map (·.2)).sum+1
 room:=fun A=>A.units+3<cLine
 inj:=fun hx hy=>hx.inj hy
 keeps:=fun x ho hd hs=>x.keeps ho hd hs
 pyHash:=fun {A E s k a Q} hu hk h=>by
  obtain ⟨as,r⟩:=hk
  cases r with
  | tuple h1 h2 h3 h4 =>
   have hu1:A.in1.units<cLine:=by show A.units+1<cLine;omega
   refine qbQ (by omega) h1 h2 h3 (Yz hu1 h4) ?_
   have e:(k.map fun x=>(k2H x,k2N x)).map (·.1)=k.map k2H:=by rw [VD];rfl
   rw [e]
   exact h
 eqBool:=fun {A E s x y a b Q} hu hx hy h=>by
  obtain ⟨as,r⟩:=hx
  obtain ⟨bs,q⟩:=hy
  refine NC _ _ A s _ _ _ _ r q (YL x).1 (YL y).1 ?_ prog w E Q (by rw [qaS];exact h)
  have:=(YL x).2
  have:=NP (k2T x).depth (k2T y).depth
  omega
 quiet:=fun hk h=>hk.quiet h
noncomputable def qjW (ks:K2):Int:=reduceHash (VE (ks.map k2H))
noncomputable abbrev KX:=Int ⊕ K2
noncomputable def kxD (k:KX):Ka:=match k with
 | .inl i=>.int i
 | .inr ks=>k2T ks
noncomputable def kxV (k:KX)(b:Kf):V:=match k with
 | .inl i=>.int i
 | .inr _=>.ref b
noncomputable def kxI (k:KX):Bool:=match k with
 | .inl _=>true
 | .inr _=>false
noncomputable def qfU:Ka->Bool
 | .int _=>true
 | _=>false
theorem qcJ (k:KX):qfU (kxD k)=kxI k:=by cases k<;>rfl
theorem qaT (a b:KX):Kq (kxD a) (kxD b)=decide (a=b):=by
 cases a with
 | inl i=>cases b with
  | inl j =>
   have:Kq (kxD (.inl i)) (kxD (.inl j))=(i==j):=rfl
   rw [this,XF]
   simp
  | inr js=>exact (decide_eq_false (fun z=>by cases z)).symm
 | inr is=>cases b with
  | inl j=>exact (decide_eq_false (fun z=>by cases z)).symm
  | inr js =>
   have:Kq (kxD (.inr is)) (kxD (.inr js))=Kq (k2T is) (k2T js):=rfl
   rw [this,qaS,XF]
   simp
abbrev PkT (p:KX×Addr×V)(q:K2×Addr×Value):Prop:=p.1=.inr q.1/\p.2.1=q.2.1/\RelV p.2.2 q.2.2
abbrev PkI (p:KX×Addr×V)(q:Int×Value):Prop:=p.1=.inl q.1/\RelV p.2.2 q.2
abbrev EnI (e:Nb)(q:Int×Value):Prop:=e.hash=hashInt q.1/\(∃ t,e.key=.int q.1 t)/\e.val=q.2
def DctT (a:Kf)(kvs:List (KX×Addr×V))(ep:Nat)(h:KC):Prop :=
 ∃ xs:List (K2×Addr×Value),Vz PkT kvs xs/\∃ o es,h.get? a=some o/\o.ExactDict/\o.data=.dict es ep/\es.toList=xs.map (fun x=>(⟨qjW x.1,.ref x.2.1,x.2.2⟩:Nb))/\(xs.map (·.1)).Nodup
def DctI (a:Kf)(kvs:List (KX×Addr×V))(ep:Nat)(h:KC):Prop :=
 ∃ vs:List (Int×Value),Vz PkI kvs vs/\∃ o es,h.get? a=some o/\o.ExactDict/\o.data=.dict es ep/\Vz EnI es.toList vs/\(vs.map (·.1)).Nodup
def QV (a:Kf)(kvs:List (KX×Addr×V))(ep:Nat)(h:KC):Prop :=
 kvs.length<=sizeLine/\(a==sysModules)=false/\(DctT a kvs ep h\/DctI a kvs ep h)
noncomputable def DctO (a:Kf)(kvs:List (KX×Addr×V))(ep:Nat):HO:=.ext (QV a kvs ep)
theorem QV.ok    (d:QV a kvs ep h):zE P w H h a (DctO a kvs ep):=by
 refine ⟨d,?_,fun h1 h2 ⟨z,y,e⟩ k=>⟨z,y,e.imp (fun ⟨xs,r,o,es,g1,g2⟩=>⟨xs,r,o,es,k o g1,g2⟩) fun ⟨xs,r,o,es,g1,g2⟩=>⟨xs,r,o,es,k o g1,g2⟩⟩⟩
 obtain ⟨_,_,⟨_,_,o,_,g1,_⟩|⟨_,_,o,_,g1,_⟩⟩:=d
 ·exact ⟨o,g1⟩
 ·exact ⟨o,g1⟩
theorem QV.of    (x:zE P w H h a (DctO a kvs ep)):QV a kvs ep h:=x.1
noncomputable def dkv (kvs:List (KX×Addr×V))(ds:List Ka):List (Ka×PyData):=(kvs.map fun p=>kxD p.1).zip ds
theorem qfC {kvs:List (KX×Addr×V)}{ds:List Ka}(h:kvs.length=ds.length):(dkv kvs ds).map (·.1)=kvs.map fun p=>kxD p.1:=by
 unfold dkv
 rw [List.map_fst_zip (by rw [Kj,h];exact Kr _)]
theorem qgC {kvs:List (KX×Addr×V)}{xs:List (K2×Addr×Value)}(r:Vz PkT kvs xs):Vals (kvs.map fun p=>kxV p.1 p.2.1) (xs.map fun x=>KR x.2.1)/\Vals (kvs.map (·.2.2)) (xs.map (·.2.2)):=by
 induction r with
 | nil=>exact ⟨.nil,.nil⟩
 | cons h t ih=>exact ⟨.cons (by dsimp only;rw [h.1,h.2.1];rfl) ih.1,.cons h.2.2 ih.2⟩
theorem qcn:∀ {kvs:List (KX×Addr×V)} {vs:List (Int×Value)} {es:List Nb},Vz PkI kvs vs->Vz EnI es vs->Vals (kvs.map fun p=>kxV p.1 p.2.1) (es.map (·.key))/\Vals (kvs.map (·.2.2)) (es.map (·.val))
 | _,_,_,.nil,.nil=>⟨.nil,.nil⟩
 | _,_,_,.cons h t,.cons g u=>by
  obtain ⟨i1,i2⟩:=qcn t u
  obtain ⟨_,⟨tk,g1⟩,g2⟩:=g
  exact ⟨.cons (by dsimp only;rw [h.1,g1];exact ⟨tk,rfl⟩) i1,.cons (by dsimp only;rw [g2];exact h.2) i2⟩
theorem QV.vals {h:KC}{kvs:List (KX×Addr×V)}(d:QV a kvs ep h):∃ o es,h.get? a=some o/\o.ExactDict/\o.data=.dict es ep/\Vals (kvs.map fun p=>kxV p.1 p.2.1) (es.toList.map (·.key))/\Vals (kvs.map (·.2.2)) (es.toList.map (·.val)):=by
 obtain ⟨_,_,⟨xs,r,o,es,g1,g2,g3,g4,_⟩|⟨vs,r,o,es,g1,g2,g3,g4,_⟩⟩:=d
 ·refine ⟨o,es,g1,g2,g3,?_⟩
  rw [g4,VD,VD]
  exact qgC r
 ·exact ⟨o,es,g1,g2,g3,qcn r g4⟩
theorem QV.tup  (d:QV a kvs ep h) (hk:∀ p∈kvs,kxI p.1=false):DctT a kvs ep h:=by
 obtain ⟨_,_,d|⟨vs,r,o,es,g1,g2,g3,g4,g5⟩⟩:=d
 ·exact d
 ·cases r with
  | nil =>
   have he:es.toList=[]:=by cases h:es.toList with
    | nil=>rfl
    | cons=>rw [h] at g4;cases g4
   exact ⟨[],.nil,o,es,g1,g2,g3,he,N2⟩
  | @cons p q _ _ h t =>
   have:=hk p (.head _)
   rw [h.1] at this
   cases this
theorem QV.int  (d:QV a kvs ep h) (hk:∀ p∈kvs,kxI p.1=true):DctI a kvs ep h:=by
 obtain ⟨_,_,⟨xs,r,o,es,g1,g2,g3,g4,g5⟩|d⟩:=d
 ·cases r with
  | nil=>exact ⟨[],.nil,o,es,g1,g2,g3,by rw [g4];exact .nil,N2⟩
  | @cons p q _ _ h t =>
   have:=hk p (.head _)
   rw [h.1] at this
   cases this
 ·exact d
noncomputable def ye:List String:=["int", "bool", "tuple", "list", "str"]
noncomputable def xcB (K:Kd)(C:Kf):Bool :=
 (Ue K C).isSome&&(KO K (.ref C) "__getattribute__" == some (some (.builtin "BaseException.__getattribute__")))&&(KO K (.ref C) "__getattr__" == some none)
 && (KO K (.ref C) "__class__" == some (some (.builtin "object.__class__")))&&(VX K C (.type "object")==some true)&&(VX K C (.type "BaseException")==some true)
 && ye.all fun T=>KS K (.ref C) (.type T)==some false
structure XcK (K:Kd)(C:Kf):Prop where
 cls:(Ue K C).isSome=true
 ga:KO K (.ref C) "__getattribute__" = some (some (.builtin "BaseException.__getattribute__"))
 gt:KO K (.ref C) "__getattr__" = some none
 cl:KO K (.ref C) "__class__" = some (some (.builtin "object.__class__"))
 mo:VX K C (.type "object")=some true
 mb:VX K C (.type "BaseException")=some true
 ts:∀ T∈ye,KS K (.ref C) (.type T)=some false
theorem JS {K:Kd}{C:Kf}(h:xcB K C=true):XcK K C:=by
 unfold xcB at h
 simp only [Kp,beq_iff_eq,KW] at h
 obtain ⟨⟨⟨⟨⟨⟨h1,h2⟩,h3⟩,h4⟩,h5⟩,h6⟩,h7⟩:=h
 exact ⟨h1,h2,h3,h4,h5,h6,h7⟩
section
variable {prog:Ku}{w:KI}{A:KF}{E:Ke->Kg->Prop}{s:Kg}{K:Kd}{x C:Kf}
def OfC (h:KC)(x C:Kf):Prop:=∃ o,h.get? x=some o/\o.cls=.ref C
theorem OfC.ty (I:OfC h x C):UH M h (typeOf (.ref x)) (.ref C):=by
 obtain ⟨o,h1,h2⟩:=I
 exact h2 ▸ (XJ h1).andThen .now
open PySem.W in
theorem yf {M:Model}{nameV:Ke}(Z:XcK K C)(X:K.In s.heap)(I:OfC s.heap x C)(hq:Q () s) :
  wpAny M A (checkBuiltinCall "BaseException.__getattribute__" ⟨[.ref x,nameV],[]⟩) Q E s:=by
 obtain ⟨hh,g,d,t,os⟩:=s
 have hk:builtinKind "BaseException.__getattribute__" = some .slot:=by decide +kernel
 have hs:splitId "BaseException.__getattribute__" = some ("BaseException", "__getattribute__"):=by decide +kernel
 have L0:=I.ty (M:=M)
 have L1:=Xv (M:=M) X Z.mb
 have ha:=F.args_bexc_ga (.ref x) nameV
 simp only [checkBuiltinCall,hk,hs]
 refine Kc ?_
 unfold isInstance
 repeat (first|with_reducible refine Looks.at (by assumption) ?_|wp_step)
 exact hq
open PySem.W in
theorem WM (Z:XcK K C)(X:K.In s.heap)(I:OfC s.heap x C)(hq:R (.ok (.ret (.ref C))) s) :
  codeAny (model prog w) A (.call (.builtin "getset_descriptor.__get__") ⟨[.builtin "object.__class__", .ref x,.ref C],[]⟩) R s:=by
 obtain ⟨hh,g,d,t,os⟩:=s
 have hT5:(⟨hh,g,d,t,os⟩:Kg).TypeIs (.builtin "object.__class__") "getset_descriptor" := NH
 have L0:=I.ty (M:=model prog w)
 have L1:UH (model prog w) hh (isSubtype (.ref C) (.type (".".intercalate ("object.__class__".cutAt '.').dropLast))) true:=by
  rw [F.owner_object_class]
  exact Xv (M:=model prog w) X Z.mo
 refine UX E8.plain F.entry_gs_get (E8.check _ _ _ _ _ _ _ _ hT5 (F.args_gs_get _ _ _) ?_)
 repeat (any_goals (first|assumption|with_reducible refine Looks.at (by assumption) ?_|wp_step))
 refine ⟨Code.quiet_builtin _ (by decide +kernel),UF F.entry_object_class ?_⟩
 repeat (any_goals (first|assumption|with_reducible refine Looks.at (by assumption) ?_|wp_step))
open PySem.W in
theorem YG {tk:Tok}(Z:XcK K C)(X:K.In s.heap)(I:OfC s.heap x C)(hq:Q (.done (.ret (.ref C))) s) :
  wpAny (model prog w) A (UA.«object.__getattribute__» ⟨[.ref x,.str "__class__" tk],[]⟩) Q E s:=by
 obtain ⟨hh,g,d,t,os⟩:=s
 have hT5:(⟨hh,g,d,t,os⟩:Kg).TypeIs (.builtin "object.__class__") "getset_descriptor" := NH
 have L0:=I.ty (M:=model prog w)
 have L1:=UI (M:=model prog w) X Z.cl
 have f5:=NH;have f6:=E8.lookup;have f7:=F.slot_gs_set.lookup
 repeat (any_goals (first|assumption|with_reducible refine Looks.at (by assumption) ?_|wp_step))
 refine WM Z X I ?_
 repeat (any_goals (first|assumption|wp_step))
open PySem.W in
theorem qaU {tk:Tok}(Z:XcK K C)(X:K.In s.heap)(I:OfC s.heap x C)(hq:Q (.ref C) s) :
  wpAny (model prog w) A (getAttrBy (.ref x) (.str "__class__" tk) false) Q E s:=by
 obtain ⟨hh,g,d,t,os⟩:=s
 have L0:=I.ty (M:=model prog w)
 have L1:=UI (M:=model prog w) X Z.ga
 have L2:=UI (M:=model prog w) X Z.gt
 have f3:=XZ.ga.bind (.ref x)
 have hx2:(Vq "BaseException.__getattribute__" == Vq "object.__getattribute__")=false:=by decide +kernel
 have hx1:(onTheHeap (KR C)&&Vq "BaseException.__getattribute__" == Vq "object.__getattribute__")=false:=by rw [hx2];exact EY _
 repeat (any_goals (first|assumption|with_reducible refine Looks.at (by assumption) ?_|wp_step))
 refine UX XZ.ga.plain F.entry_bexc_ga (yf Z X I (YG Z X I ?_))
 repeat (any_goals (first|assumption|wp_step))
open PySem.W in
theorem qev (Z:XcK K C)(X:K.In s.heap)(I:OfC s.heap x C)(hq:Q (some (.ref C)) { s with toks:=s.toks+1 }) :
  wpAny (model prog w) A (getAttr? (.ref x) "__class__") Q E s:=by
 obtain ⟨hh,g,d,t,os⟩:=s
 unfold getAttr? getAttrBy?
 refine Kc (wpAny_mkText (Kc (wpAny_attempt (qaU (s:=⟨hh,g,d,t+1,os⟩) Z X I ?_))))
 exact Kl hq
end
open PySem.W in
theorem wV {K:Kd}{a C:Kf}(Z:XcK K C):KitX K (.ref a) (.ref C) (fun h=>OfC h a C) where
 ty:=fun _ _ _ I=>I.ty
 it:=fun _ _ X _=>by
  have z:=Z.cls
  unfold clsIn at z
  split at z
  ·rename_i c' d' cd' sl' ho
   intro A' Q' E' s' k q;unfold isType loadHead
   exact Kc (wpAny_loadPart (k _ _ (X _ _ ho)) (Kl q))
  ·cases z
 ne:=fun h tp dd its n sl X htp=>by
  have z:=Z.cls
  refine Et.mpr fun q=>?_
  have e:C=tp:=Value.ref.inj (beq_iff_eq.mp q)
  subst e;unfold clsIn at z
  split at z
  ·rename_i c' d' cd' sl' ho
   have y:=(X _ _ ho).symm.trans htp
   cases y
  ·cases z
 ca:=fun X I k=>qev Z X I k
noncomputable def icB (K:Kd)(C:Kf):Bool :=
 NB K C Fe&&Fo K C&&Fp K C&&(KO K (.ref C) "__setattr__" == some (some (.builtin "object.__setattr__")))
 && (KO K (.ref C) "__class__" == some (some (.builtin "object.__class__")))&&(XN K (.builtin "object.__class__") "__get__" == some (some (.builtin "getset_descriptor.__get__")))
 && (EM K (.builtin "object.__class__")==some true)&&(VX K C (.type "object")==some true)&&ye.all fun T=>KS K (.ref C) (.type T)==some false
structure IcK (K:Kd)(C:Kf):Prop where
 cl:Cls K C
 ha:KO K (.ref C) "__class__" = some (some (.builtin "object.__class__"))
 hn:XN K (.builtin "object.__class__") "__get__" = some (some (.builtin "getset_descriptor.__get__"))
 tk:EM K (.builtin "object.__class__")=some true
 mo:VX K C (.type "object")=some true
 ts:∀ T∈ye,KS K (.ref C) (.type T)=some false
theorem qcI {K:Kd}{C:Kf}(h:icB K C=true):IcK K C:=by
 unfold icB at h
 simp only [Kp,beq_iff_eq,KW] at h
 obtain ⟨⟨⟨⟨⟨⟨⟨⟨h1,h2⟩,h3⟩,h4⟩,h5⟩,h6⟩,h7⟩,h8⟩,h9⟩:=h
 exact ⟨⟨h1,h2,h3,h4⟩,h5,h6,h7,h8,h9⟩
theorem IcK.ty {K:Kd}{H:Hp}{a C dx:Kf}{fs:List (Str×V)}(Z:IcK K C)(e:H a=some (.ins C dx fs)):TyOf K H (.ref a) (.ref C):=.ins e Z.cl Z.ha Z.hn Z.tk Z.mo
noncomputable abbrev Av:=Kf->Prop
noncomputable def j6:HO->Bool
 | .lst _=>true
 | .dK _=>true
 | .dT _=>true
 | .ext _=>true
 | _=>false
def Dm (S:Av)(H:Hp):Prop:=∀ a,S a->∃ o,H a=some o/\j6 o=true
def Off (S:Av)(H H':Hp):Prop:=∀ b o,¬ S b->H b=some o->H' b=some o
def KqL (K:Kd)(a:Kf)(xs:List V):Prop:=∃ (o:Obj) (its:Array Ke) (n:Nat),K.lookup a=some o/\o.cls=.type "list"/\o.dict=none/\o.data=.seq its n/\its.size<=sizeLine/\Vals xs its.toList
def SqLS (K:Kd)(H:Hp)(S:Av)(a:Kf)(xs:List V):Prop:=(Rd H a (.lst xs)/\¬ S a)\/KqL K a xs
def ExcO (K:Kd)(o:Obj)(c:Str):Prop:=∃ C vs,o.cls=.ref C/\o.data=.fields vs/\Kx K mainGlobals c=some (some (.ref C))/\xcB K C=true
noncomputable def excD (c:Str)(d:Ka):Ka:=.dict [(.str c,d),(.int 0,.none)]
noncomputable def excK:List (Ka×PyData)->Bool
 | (.str _,_)::_=>true
 | _=>false
theorem wI:excK (dkv kvs ds)=false:=by
 cases kvs with
 | nil=>rfl
 | cons p ps =>
  cases ds with
  | nil=>rfl
  | cons d ds=>obtain ⟨k|k,_⟩:=p<;>rfl
noncomputable def objD (c:Str):Ka:=.dict [(.str c,.none),(.int 1,.none)]
mutual
inductive Den (K:Kd)(H:Hp)(S:Av):V->Ka->Prop
 | none:Den K H S .non .none
 | bool (b:Bool):Den K H S (.bl b) (.bool b)
 | int (i:Int):Den K H S (.int i) (.int i)
 | str (x:Str):Den K H S (.str x) (.str x)
 | list {a:Kf} {xs:List V} {ds:List Ka}:SqLS K H S a xs->DenL K H S xs ds->Den K H S (.ref a) (.list ds)
 | tuple {a:Kf} {xs:List V} {ds:List Ka}:SqT K H a xs->DenL K H S xs ds->Den K H S (.ref a) (.tuple ds)
 | dict {a:Kf} {kvs:List (KX×Addr×V)} {ep:Nat} {ds:List Ka}:(H a=some (DctO a kvs ep)/\¬ S a)->DenL K H S (kvs.map fun p=>kxV p.1 p.2.1) (kvs.map fun p=>kxD p.1)->DenL K H S (kvs.map (·.2.2)) ds->Den K H S (.ref a) (.dict (dkv kvs ds))
 | exc0 {a:Kf} {o:Obj} {c:Str}:H a=some (.frz o (.own a))->ExcO K o c->Den K H S (.ref a) (excD c .none)
 | exc1 {a dx:Kf} {o:Obj} {c n:Str} {v:V} {d:Ka}:H a=some (.frz o (.own a))->ExcO K o c->o.dict=some dx->H dx=some (.xd [(n,v)])->Den K H S v d->Den K H S (.ref a) (excD c (.tuple [.str n,d]))
 | ins {a dx C:Kf} {c:Str}:H a=some (.ins C dx [])->(Kx K mainGlobals c=some (some (.ref C))/\icB K C=true)->Den K H S (.ref a) (objD c)
inductive DenL (K:Kd)(H:Hp)(S:Av):List V->List Ka->Prop
 | nil:DenL K H S [] []
 | cons {x:V} {d:Ka} {xs:List V} {ds:List Ka}:Den K H S x d->DenL K H S xs ds->DenL K H S (x::xs) (d::ds)
end
mutual
def flat:Ka->Bool
 | .none=>true
 | .bool _=>true
 | .int _=>true
 | .str _=>true
 | .list _=>false
 | .tuple ds=>yg ds
 | .dict _=>false
def yg:List Ka->Bool
 | []=>true
 | d::ds=>flat d&&yg ds
end
section
variable {K:Kd}{H H':Hp}{S S':Av}
theorem SqLS.sq (h:SqLS K H S a xs):SqL K H a xs:=h.imp (·.1) id
theorem SqLS.new (h:H a=some (.lst xs))(n:¬ S a):SqLS K H S a xs:=.inl ⟨.inl h,n⟩
theorem Dm.free (m:Dm S H)(h:H p=none):¬ S p:=fun q=>by
 obtain ⟨o,e,_⟩:=m p q
 rw [h] at e;cases e
theorem Dm.same (e:Same H H')(m:Dm S H):Dm S H':=fun a q=>by
 obtain ⟨o,h,w⟩:=m a q
 exact ⟨o,e a o h,w⟩
theorem Dm.sub (m:Dm S H)(h:∀ a,S' a->S a):Dm S' H:=fun a q=>m a (h a q)
theorem Dm.tup (m:Dm S H)(h:Rd H a (.tup xs)):¬ S a:=fun q=>by
 obtain ⟨o,e,w⟩:=m a q
 rcases h with h|⟨u,h⟩
 ·rw [h] at e;cases e;cases w
 ·rw [h] at e;cases e;cases w
theorem Dm.not (m:Dm S H)(h:H a=some u)(n:j6 u=false):¬ S a:=fun q=>by
 obtain ⟨o,e,w⟩:=m a q
 rw [h] at e;cases e;rw [n] at w;cases w
theorem Rd.off (e:Off S H H')(n:¬ S a)(h:Rd H a o):Rd H' a o:=by
 rcases h with h|⟨u,h⟩
 ·exact .inl (e _ _ n h)
 ·exact .inr ⟨u,e _ _ n h⟩
theorem Rd.dom (h:Rd H a o):H a≠none:=by
 rcases h with h|⟨u,h⟩<;>(rw [h];exact fun z=>nomatch z)
theorem Same.off (e:Same H H'):Off S H H':=fun b o _ h=>e b o h
theorem SqT.upd  (h:SqT K H a xs) (hn:H p=none):SqT K (upd H p o) a xs:=by
 rcases h with (h|⟨o',h⟩)|h
 ·exact .inl (.inl (by rw [qC (qZ h hn)];exact h))
 ·exact .inl (.inr ⟨o',by rw [qC (qZ h hn)];exact h⟩)
 ·exact .inr h
theorem Same.sqT (e:Same H H')(h:SqT K H a xs):SqT K H' a xs:=by
 rcases h with (h|⟨o,h⟩)|h
 ·exact .inl (.inl (e _ _ h))
 ·exact .inl (.inr ⟨o,e _ _ h⟩)
 ·exact .inr h
theorem Same.lay (hn:H p=none):Same H (L2.upd H p o):=fun b u q=>by rw [qC (qZ q hn)];exact q
theorem Same.lay'  (e:Same H0 H) (hn:H p=none):Same H0 (L2.upd H p o):=e.trans (Same.lay hn)
mutual
theorem Den.off (m:Dm S H)(e:Off S H H'):∀ {v:V} {d:Ka},Den K H S v d->Den K H' S v d
 | _,_,.none=>.none
 | _,_,.bool b=>.bool b
 | _,_,.int i=>.int i
 | _,_,.str x=>.str x
 | _,_,.list h t=>.list (h.imp (fun q=>⟨q.1.off e q.2,q.2⟩) id) (DenL.off m e t)
 | _,_,.tuple h t=>.tuple (h.imp (fun q=>q.off e (m.tup q)) id) (DenL.off m e t)
 | _,_,.dict h k t=>.dict ⟨e _ _ h.2 h.1,h.2⟩ (DenL.off m e k) (DenL.off m e t)
 | _,_,.exc0 h o=>.exc0 (e _ _ (m.not h rfl) h) o
 | _,_,.exc1 h o x y t=>.exc1 (e _ _ (m.not h rfl) h) o x (e _ _ (m.not y rfl) y) (Den.off m e t)
 | _,_,.ins h o=>.ins (e _ _ (m.not h rfl) h) o
theorem DenL.off (m:Dm S H)(e:Off S H H'):∀ {vs:List V} {ds:List Ka},DenL K H S vs ds->DenL K H' S vs ds
 | _,_,.nil=>.nil
 | _,_,.cons h t=>.cons (Den.off m e h) (DenL.off m e t)
end
mutual
theorem Den.same (e:Same H H'):∀ {v:V} {d:Ka},Den K H S v d->Den K H' S v d
 | _,_,.none=>.none
 | _,_,.bool b=>.bool b
 | _,_,.int i=>.int i
 | _,_,.str x=>.str x
 | _,_,.list h t=>.list (h.imp (fun q=>⟨q.1.off (S:=S) e.off q.2,q.2⟩) id) (DenL.same e t)
 | _,_,.tuple h t=>.tuple (e.sqT h) (DenL.same e t)
 | _,_,.dict h k t=>.dict ⟨e _ _ h.1,h.2⟩ (DenL.same e k) (DenL.same e t)
 | _,_,.exc0 h o=>.exc0 (e _ _ h) o
 | _,_,.exc1 h o x y t=>.exc1 (e _ _ h) o x (e _ _ y) (Den.same e t)
 | _,_,.ins h o=>.ins (e _ _ h) o
theorem DenL.same (e:Same H H'):∀ {vs:List V} {ds:List Ka},DenL K H S vs ds->DenL K H' S vs ds
 | _,_,.nil=>.nil
 | _,_,.cons h t=>.cons (Den.same e h) (DenL.same e t)
end
mutual
theorem Den.sub (e:∀ a,H a≠none->S' a->S a):∀ {v:V} {d:Ka},Den K H S v d->Den K H S' v d
 | _,_,.none=>.none
 | _,_,.bool b=>.bool b
 | _,_,.int i=>.int i
 | _,_,.str x=>.str x
 | _,_,.list h t=>.list (h.imp (fun q=>⟨q.1,fun z=>q.2 (e _ q.1.dom z)⟩) id) (DenL.sub e t)
 | _,_,.tuple h t=>.tuple h (DenL.sub e t)
 | _,_,.dict h k t=>.dict ⟨h.1,fun z=>h.2 (e _ (by rw [h.1];exact fun y=>nomatch y) z)⟩ (DenL.sub e k) (DenL.sub e t)
 | _,_,.exc0 h o=>.exc0 h o
 | _,_,.exc1 h o x y t=>.exc1 h o x y (Den.sub e t)
 | _,_,.ins h o=>.ins h o
theorem DenL.sub (e:∀ a,H a≠none->S' a->S a):∀ {vs:List V} {ds:List Ka},DenL K H S vs ds->DenL K H S' vs ds
 | _,_,.nil=>.nil
 | _,_,.cons h t=>.cons (Den.sub e h) (DenL.sub e t)
end
mutual
theorem Den.flat:∀ {v:V} {d:Ka},L2.flat d=true->Den K H S v d->Den K H S' v d
 | _,_,_,.none=>.none
 | _,_,_,.bool b=>.bool b
 | _,_,_,.int i=>.int i
 | _,_,_,.str x=>.str x
 | _,_,f,.list h t=>by cases f
 | _,_,f,.tuple h t=>.tuple h (DenL.flat (by rw [L2.flat] at f;exact f) t)
 | _,_,f,.dict h k t=>by cases f
 | _,_,f,.exc0 h o=>by cases f
 | _,_,f,.exc1 h o x y t=>by cases f
 | _,_,f,.ins h o=>by cases f
theorem DenL.flat:∀ {vs:List V} {ds:List Ka},yg ds=true->DenL K H S vs ds->DenL K H S' vs ds
 | _,_,_,.nil=>.nil
 | _,_,f,.cons h t=>by
  rw [yg,Kp] at f
  exact .cons (Den.flat f.1 h) (DenL.flat f.2 t)
end
theorem DenL.length:∀ {vs:List V} {ds:List Ka},DenL K H S vs ds->vs.length=ds.length
 | _,_,.nil=>rfl
 | _,_,.cons _ t=>by rw [KA,KA,t.length]
theorem DenL.snoc:∀ {vs:List V} {ds:List Ka} {v:V} {d:Ka},DenL K H S vs ds->Den K H S v d->DenL K H S (vs++[v]) (ds++[d])
 | _,_,_,_,.nil,h=>.cons h .nil
 | _,_,_,_,.cons h t,q=>.cons h (t.snoc q)
theorem DenL.append:∀ {vs ws:List V} {ds es:List Ka},DenL K H S vs ds->DenL K H S ws es->DenL K H S (vs++ws) (ds++es)
 | _,_,_,_,.nil,h=>h
 | _,_,_,_,.cons h t,q=>.cons h (t.append q)
theorem DenL.get:∀ {vs:List V} {ds:List Ka} {i:Nat} {d:Ka},DenL K H S vs ds->ds[i]?=some d->∃ v,vs[i]?=some v/\Den K H S v d
 | _,_,_,_,.nil,e=>by simp at e
 | _,_,0,_,.cons h _,e=>by simp at e;subst e;exact ⟨_,rfl,h⟩
 | _,_,i+1,d,.cons _ t,e=>by
  obtain ⟨v,h1,h2⟩:=DenL.get (i:=i) (d:=d) t (by simpa using e)
  exact ⟨v,by simpa using h1,h2⟩
theorem DenL.drop:∀ {vs:List V} {ds:List Ka} (n:Nat),DenL K H S vs ds->DenL K H S (vs.drop n) (ds.drop n)
 | _,_,0,h=>h
 | _,_,_+1,.nil=>.nil
 | _,_,n+1,.cons _ t=>t.drop n
theorem DenL.take:∀ {vs:List V} {ds:List Ka} (n:Nat),DenL K H S vs ds->DenL K H S (vs.take n) (ds.take n)
 | _,_,0,_=>.nil
 | _,_,_+1,.nil=>.nil
 | _,_,n+1,.cons h t=>.cons h (t.take n)
theorem DenL.ints:∀ ns:List Int,DenL K H S (ns.map V.int) (ns.map KJ)
 | []=>.nil
 | n::ns=>.cons (.int n) (DenL.ints ns)
theorem Den.int_inv (h:Den K H S v (.int i)):v=.int i:=by cases h;rfl
theorem Den.bool_inv (h:Den K H S v (.bool b)):v=.bl b:=by cases h;rfl
theorem Den.list_inv (h:Den K H S v (.list ds)):∃ a xs,v=.ref a/\SqLS K H S a xs/\DenL K H S xs ds:=by
 cases h with
 | list h t=>exact ⟨_,_,rfl,h,t⟩
theorem Den.tuple_inv (h:Den K H S v (.tuple ds)):∃ a xs,v=.ref a/\SqT K H a xs/\DenL K H S xs ds:=by
 cases h with
 | tuple h t=>exact ⟨_,_,rfl,h,t⟩
theorem DenL.inv1 (h:DenL K H S vs [d]):∃ v,vs=[v]/\Den K H S v d:=by
 cases h with
 | cons a t=>cases t;exact ⟨_,rfl,a⟩
theorem DenL.inv2 (h:DenL K H S vs [d,e]):∃ v w,vs=[v,w]/\Den K H S v d/\Den K H S w e:=by
 cases h with
 | cons a t=>obtain ⟨w,rfl,b⟩:=t.inv1;exact ⟨_,w,rfl,a,b⟩
end
section
variable {X:Cx}{pins:List (Kf×Obj)}{σ:St}{H:Hp}{s:Kg}{S:Av}
mutual
theorem Den.reads (I:Inv X pins σ H s):∀ {v:V} {d:Ka} {u:Ke},Den X.K H S v d->d.canLay0=true->RelV v u->∃ as,Xi s.heap u d as
 | _,_,u,.none,_,r=>by cases (show u=VC from r);exact ⟨_,.none⟩
 | _,_,u,.bool b,_,r=>by cases (show u=K8 b from r);exact ⟨_,.bool b⟩
 | _,_,u,.int i,_,r=>by obtain ⟨t,e⟩:=(show ∃ t,u=Nd i t from r);cases e;exact ⟨_,.int i t⟩
 | _,_,u,.str x,_,r=>by obtain ⟨t,e⟩:=(show ∃ t,u=Nc x t from r);cases e;exact ⟨_,.str x t⟩
 | _,_,u,@Den.list _ _ _ a xs ds h t,c0,r=>by
  cases (show u=KR a from r)
  obtain ⟨its,rv,⟨o,n,e,c,_,d⟩,_⟩:=I.list h.sq
  obtain ⟨as,q⟩:=DenL.reads I t (by rw [KL] at c0;exact c0) rv
  exact ⟨_,.list e c d (by simpa using q)⟩
 | _,_,u,@Den.tuple _ _ _ a xs ds h t,c0,r=>by
  cases (show u=KR a from r)
  obtain ⟨its,rv,⟨o,e,c,n,d⟩,_⟩:=I.tuple h
  obtain ⟨as,q⟩:=DenL.reads I t (by rw [KL] at c0;exact c0) rv
  exact ⟨_,.tuple e c d (by simpa using q)⟩
 | _,_,u,.dict h k t,c0,r=>by rw [KL] at c0;cases c0
 | _,_,u,.exc0 h o,c0,r=>by unfold excD at c0;rw [KL] at c0;cases c0
 | _,_,u,.exc1 h o x y t,c0,r=>by unfold excD at c0;rw [KL] at c0;cases c0
 | _,_,u,.ins h o,c0,r=>by unfold objD at c0;rw [KL] at c0;cases c0
theorem DenL.reads (I:Inv X pins σ H s):∀ {vs:List V} {ds:List Ka} {us:List Ke},DenL X.K H S vs ds->Km ds=true->Vals vs us->∃ as,Uk s.heap us ds as
 | _,_,_,.nil,_,.nil=>⟨_,.nil⟩
 | _,_,_,.cons h t,c0,.cons r rr=>by
  rw [Km,Kp] at c0
  obtain ⟨as,q⟩:=Den.reads I h c0.1 r
  obtain ⟨bs,q'⟩:=DenL.reads I t c0.2 rr
  exact ⟨_,.cons q q'⟩
end
end
section
variable {X:Cx}{pins:List (Kf×Obj)}{σ:St}{H:Hp}{s:Kg}
noncomputable def rEqD (K:Kd):R2:=fun x y H Q=>∃ S d e,Den K H S x d/\Den K H S y e/\K5 d=true/\K5 e=true/\Q (.bl (Kq d e)) H
noncomputable def rNeD (K:Kd):R2:=fun x y H Q=>∃ S d e,Den K H S x d/\Den K H S y e/\K5 d=true/\K5 e=true/\Q (.bl (!PyData.eqv d e)) H
theorem qkc (hr:Room k X.A):OpR X (compareOp .Eq) (rEqD X.K):=by
 intro pins s σ H x y v u Q I rx ry h
 obtain ⟨S,d,e,h1,h2,s1,s2,q⟩:=h
 obtain ⟨as,q1⟩:=h1.reads I (KY s1) rx
 obtain ⟨bs,q2⟩:=h2.reads I (KY s2) ry
 exact eq_dataH q1 q2 s1 s2 hr.units (ju I q rfl)
theorem qkf (hr:Room k X.A):OpR X (compareOp .NotEq) (rNeD X.K):=by
 intro pins s σ H x y v u Q I rx ry h
 obtain ⟨S,d,e,h1,h2,s1,s2,q⟩:=h
 obtain ⟨as,q1⟩:=h1.reads I (KY s1) rx
 obtain ⟨bs,q2⟩:=h2.reads I (KY s2) ry
 exact ne_dataH q1 q2 s1 s2 hr.units (ju I q rfl)
theorem qik:OpR X (binaryOp .Mult) (rI N3 fun i j=>.int (i*j)):=opI fun _ _ _ _ _ _ _ hc q=>mul_int q hc
inductive TyD (K:Kd)(H:Hp):V->String->Prop
 | non:TyD K H .non "NoneType"
 | bl (b:Bool):TyD K H (.bl b) "bool"
 | int (i:Int):TyD K H (.int i) "int"
 | str (x:Str):TyD K H (.str x) "str"
 | lst {a:Kf} {xs:List V} (h:SqL K H a xs):TyD K H (.ref a) "list"
 | tup {a:Kf} {xs:List V} (h:SqT K H a xs):TyD K H (.ref a) "tuple"
 | dct {a:Kf} {kvs:List (KX×Addr×V)} {ep:Nat} (h:H a=some (DctO a kvs ep)):TyD K H (.ref a) "dict"
noncomputable def rIsi (K:Kd):List V->Hp->VK->Prop:=fun vs H Q=>∃ x T t b,vs=[x,.ty T]/\TyD K H x t/\KS K (.type t) (.type T)=some b/\Q (.bl b) H
theorem qfo:Zb X (.builtin "isinstance") (rIsi X.K):=by
 intro pins s σ H xs us Q I r h
 obtain ⟨x,T,t,b,rfl,ty,e,q⟩:=h
 obtain ⟨u,c,rfl,ru,rc⟩:=r.two
 cases (show c=V5 T from rc)
 have fin:∀ tk,EP X pins σ Q (.bool b) { s with toks:=tk }:=fun tk=>⟨.bl b,H,I.tok tk,rfl,q⟩
 cases ty with
 | non=>cases (show u=VC from ru);exact K9 Fq I.kIn Um e (fun z=>nomatch z) fin
 | bl y=>cases (show u=K8 y from ru);exact K9 Fs I.kIn Um e (fun z=>nomatch z) fin
 | int i=>obtain ⟨t,q⟩:=(show ∃ t,u=Nd i t from ru);cases q;exact K9 PySem.W.kitx_int I.kIn Um e (fun z=>nomatch z) fin
 | str y=>obtain ⟨t,q⟩:=(show ∃ t,u=Nc y t from ru);cases q;exact K9 PySem.W.kitx_str I.kIn Um e (fun z=>nomatch z) fin
 | @lst a xs ea =>
  cases (show u=KR a from ru)
  obtain ⟨_,_,⟨o,n,h1,h2,_⟩,_⟩:=I.list ea
  exact K9 Ep I.kIn ⟨o,h1,h2⟩ e (fun z=>nomatch z) fin
 | @tup a xs ea =>
  cases (show u=KR a from ru)
  obtain ⟨_,_,⟨o,h1,h2,_⟩,_⟩:=I.tuple ea
  exact K9 Ff I.kIn ⟨o,h1,h2⟩ e (fun z=>nomatch z) fin
 | @dct a kvs ep ea =>
  cases (show u=KR a from ru)
  obtain ⟨o,_,h1,h2,_⟩:=(QV.of (I.hok a _ ea)).vals
  exact K9 Er I.kIn ⟨o,h1,h2.1⟩ e (fun z=>nomatch z) fin
def ExcH (K:Kd)(H:Hp)(a:Kf)(c:Str):Prop:=∃ o,H a=some (.frz o (.own a))/\ExcO K o c
theorem Den.exc {K:Kd}{S:Av}{v:V}{c:Str}{d:Ka}(h:Den K H S v (excD c d)):∃ a,v=.ref a/\ExcH K H a c:=by
 generalize hd:excD c d=x at h
 cases h with
 | @dict a kvs ep ds h k t =>
  have:excK (dkv kvs ds)=true:=by
   have:=PyData.dict.inj hd
   rw [← this];rfl
  rw [wI] at this
  cases this
 | exc0 h o=>cases hd;exact ⟨_,rfl,_,h,o⟩
 | exc1 h o x y t=>cases hd;exact ⟨_,rfl,_,h,o⟩
 | _=>cases hd
theorem Inv.excAt (I:Inv X pins σ H s)(h:ExcH X.K H a c):∃ C,Kx X.K mainGlobals c=some (some (.ref C))/\xcB X.K C=true/\OfC s.heap a C:=by
 obtain ⟨o,ha,C,vs,h1,h2,h3,h4⟩:=h
 exact ⟨C,h3,h4,o,(I.hok a _ ha).1,h1⟩
noncomputable def qji (K:Kd):List V->Hp->VK->Prop:=fun vs H Q=>∃ a c T b,vs=[.ref a,.ty T]/\ExcH K H a c/\(∀ C,xcB K C=true->KS K (.ref C) (.type T)=some b)/\Q (.bl b) H
theorem qem:Zb X (.builtin "isinstance") (qji X.K):=by
 intro pins s σ H xs us Q I r h
 obtain ⟨a,c,T,b,rfl,hx,e,q⟩:=h
 obtain ⟨u,c',rfl,ru,rc⟩:=r.two
 cases (show c'=V5 T from rc)
 cases (show u=KR a from ru)
 obtain ⟨C,_,h4,IA⟩:=I.excAt hx
 exact K9 (wV (JS h4)) I.kIn IA (e C h4) (fun z=>nomatch z) fun tk=>⟨.bl b,H,I.tok tk,rfl,q⟩
theorem Den.ins_inv {K:Kd}{S:Av}{v:V}{c:Str}(h:Den K H S v (objD c)):∃ a dx C,v=.ref a/\H a=some (.ins C dx [])/\Kx K mainGlobals c=some (some (.ref C))/\icB K C=true:=by
 generalize hd:objD c=x at h
 cases h with
 | @dict a kvs ep ds h k t =>
  have:excK (dkv kvs ds)=true:=by
   have:=PyData.dict.inj hd
   rw [← this];rfl
  rw [wI] at this
  cases this
 | ins h o=>cases hd;exact ⟨_,_,_,rfl,h,o.1,o.2⟩
 | _=>cases hd
noncomputable def qjh (K:Kd):List V->Hp->VK->Prop:=fun vs H Q=>∃ a C dx T b,vs=[.ref a,.ty T]/\H a=some (.ins C dx [])/\icB K C=true/\KS K (.ref C) (.type T)=some b/\Q (.bl b) H
theorem qek:Zb X (.builtin "isinstance") (qjh X.K):=by
 intro pins s σ H xs us Q I r h
 obtain ⟨a,C,dx,T,b,rfl,hx,hc,e,q⟩:=h
 obtain ⟨u,c',rfl,ru,rc⟩:=r.two
 cases (show c'=V5 T from rc)
 exact qeD I ru ((qcI hc).ty hx) e fun tk=>⟨.bl b,H,I.tok tk,rfl,q⟩
end
noncomputable abbrev Rho:=List (Option Ka)
def DenS (K:Kd)(H:Hp)(S:Av)(M:List Nat)(σ:St)(ρ:Rho):Prop:=Dm S H/\σ.length=ρ.length/\∀ (i:Nat) (d:Ka),i∉M->ρ[i]?=some (some d)->∃ v,σ[i]?=some (some v)/\Den K H S v d
section
variable {K:Kd}{H H':Hp}{S:Av}{M:List Nat}{σ:St}{ρ:Rho}{v:V}{d:Ka}
theorem DenS.same (e:Same H H')(h:DenS K H S M σ ρ):DenS K H' S M σ ρ:=⟨h.1.same e,h.2.1,fun i d n q=>let ⟨v,a,b⟩:=h.2.2 i d n q;⟨v,a,b.same e⟩⟩
theorem DenS.set (h:DenS K H S M σ ρ)(q:Den K H S v d)(i:Nat):DenS K H S M (σ.set i (some v)) (ρ.set i (some d)):=by
 refine ⟨h.1,by rw [Vx,Vx];exact h.2.1,fun j e n he=>?_⟩
 by_cases hj:i=j
 ·subst hj
  by_cases hi:i<ρ.length
  ·rw [Vp hi] at he
   cases he
   exact ⟨v,Vp (by rw [h.2.1];exact hi),q⟩
  ·rw [List.set_eq_of_length_le (by omega)] at he
   exact absurd (KD.mp he).1 hi
 ·rw [Vw hj] at he
  obtain ⟨w,a,b⟩:=h.2.2 j e n he
  exact ⟨w,by rw [Vw hj];exact a,b⟩
theorem DenS.start {ds:List Ka}(m:Dm S H)(h:DenL K H S vs ds)(N:List Str):DenS K H S [] (start N vs) (ds.map some++Vg (N.length-ds.length) none):=by
 have hl:=h.length
 refine ⟨m,?_,fun j e _ he=>?_⟩
 ·unfold L2.start
  rw [KG,KG,Kj,Kj,VB,VB,hl]
 ·by_cases hj:j<ds.length
  ·rw [Vh (by simpa using hj),K1] at he
   cases e1:ds[j]? with
   | none=>rw [e1] at he;cases he
   | some d =>
    rw [e1] at he
    cases he
    obtain ⟨v,a,b⟩:=h.get e1
    refine ⟨v,?_,b⟩
    unfold L2.start
    rw [Vh (by rw [Kj];omega),K1,a]
    rfl
  ·rw [VR (by simpa using hj),UD] at he
   split at he<;>cases he
end
noncomputable def tD (K:Kd)(M:List Nat)(f:Rho->Option Ka):TE:=fun σ H Q=>∃ S ρ d,DenS K H S M σ ρ/\f ρ=some d/\∀ v H',Same H H'->Den K H' S v d->Q v H'
noncomputable def tDA (K:Kd)(M:List Nat)(f:Rho->Option (List Ka)):TA:=fun σ H Q=>∃ S ρ ds,DenS K H S M σ ρ/\f ρ=some ds/\∀ vs H',Same H H'->DenL K H' S vs ds->Q vs H'
noncomputable def tDT (K:Kd)(M:List Nat)(f:Rho->Option Bool):TT:=fun σ H Q=>∃ S ρ b,DenS K H S M σ ρ/\f ρ=some b/\∀ H',Same H H'->Q b H'
inductive Out where
 | nx (ρ:Rho)|rt (d:Ka)|bk (ρ:Rho)|ct (ρ:Rho)
def PD (X:Cx)(M:List Nat)(e:Ky)(f:Rho->Option Ka):Prop:=PE X e (tD X.K M f)
def PDA (X:Cx)(M:List Nat)(es:List Ky)(f:Rho->Option (List Ka)):Prop:=PA X es (tDA X.K M f)
def PDT (X:Cx)(M:List Nat)(e:Ky)(f:Rho->Option Bool):Prop:=PT X e (tDT X.K M f)
theorem PE.weak {X:Cx}{e:Ky}{t t':TE}(h:PE X e t)(w:∀ σ H Q,t' σ H Q->t σ H Q):PE X e t':=fun pins s σ H Q I q=>h pins s σ H Q I (w σ H Q q)
theorem PT.weak {X:Cx}{e:Ky}{t t':TT}(h:PT X e t)(w:∀ σ H Q,t' σ H Q->t σ H Q):PT X e t':=fun pins s σ H Q I q=>h pins s σ H Q I (w σ H Q q)
theorem PW.weak {X:Cx}{e:Ky}{t t':TT}(h:PW X e t)(w:∀ σ H Q,t' σ H Q->t σ H Q):PW X e t':=fun wh pins s σ H Q I q=>h wh pins s σ H Q I (w σ H Q q)
theorem PA.weak {X:Cx}{e:List Ky}{t t':TA}(h:PA X e t)(w:∀ σ H Q,t' σ H Q->t σ H Q):PA X e t':=fun pos pins s σ H Q I q=>h pos pins s σ H Q I (w σ H Q q)
theorem PS.weak {X:Cx}{e:KM}{t t':TS}(h:PS X e t)(w:∀ D σ H,t' D σ H->t D σ H):PS X e t':=fun pins s σ H D I q=>h pins s σ H D I (w D σ H q)
theorem PSs.weak {X:Cx}{e:List KM}{t t':TS}(h:PSs X e t)(w:∀ D σ H,t' D σ H->t D σ H):PSs X e t':=fun pins s σ H D I q=>h pins s σ H D I (w D σ H q)
noncomputable def ob {α β:Type}(a:Option α)(f:α->Option β):Option β:=match a with | some x=>f x|none=>none
theorem qd {α β:Type}{a:Option α}{f:α->Option β}{y:β}(h:ob a f=some y):∃ x,a=some x/\f x=some y:=by
 cases a with
 | none=>cases h
 | some x=>exact ⟨x,rfl,h⟩
noncomputable def visB (sc:Ua)(x:Str):Bool:=decide (sc.names.lookup x=some .local)||decide (sc.names.lookup x=some .cell)||decide (sc.names.lookup x=some .free)
noncomputable def locB (sc:Ua)(x:Str):Bool:=decide (sc.names.lookup x=some .local)||decide (sc.names.lookup x=some .cell)
noncomputable def glB (sc:Ua)(x:Str):Bool:=decide (sc.names.lookup x=some .globalImplicit)
theorem Yq (h:visB sc x=true):Vis sc x:=by
 unfold visB at h
 simp only [NQ,decide_eq_true_eq] at h
 rcases h with (h|h)|h
 ·exact .inl h
 ·exact .inr (.inl h)
 ·exact .inr (.inr h)
theorem qf4 (h:locB sc x=true):Loc sc x:=by
 unfold locB at h
 simp only [NQ,decide_eq_true_eq] at h
 exact h
theorem qi8 {X:Cx}(sc:Ua)(hs:X.env.scope=sc)(h:glB sc x=true):Gl X x:=by
 subst hs
 have h':X.env.scope.names.lookup x=some .globalImplicit:=of_decide_eq_true h
 exact h'
theorem ZQ {env:Env}:∀ {names:List (Str×NameKind)} {x:Str} {k:EB},names.lookup x=some k->
  (names.map fun (n,k)=>if (k==Vk&&env.scope.kind==.function&&env.kindOf n==some .cell) then (n,VY) else (n,k)).lookup x=some k\/
  (k=.free/\(names.map fun (n,k)=>if (k==Vk&&env.scope.kind==.function&&env.kindOf n==some .cell) then (n,VY) else (n,k)).lookup x=some .cell)
 | [],_,_,h=>by simp at h
 | (n,k')::r,x,k,h=>by
  have ih:=@ZQ env r x k
  show UV x ((if (k'==Vk&&env.scope.kind==.function&&env.kindOf n==some .cell)=true then (n,VY) else (n,k'))::_)=_\/(_/\UV x ((if (k'==Vk&&env.scope.kind==.function&&env.kindOf n==some .cell)=true then (n,VY) else (n,k'))::_)=_)
  cases hx:x==n with
  | true =>
   simp only [Vl,hx] at h
   cases h
   by_cases hc:(k'==Vk&&env.scope.kind==.function&&env.kindOf n==some .cell)=true
   ·rw [if_pos hc]
    rw [Kp,Kp] at hc
    exact .inr ⟨by simpa using hc.1.1,by simp [Vl,hx]⟩
   ·rw [if_neg hc]
    exact .inl (by simp [Vl,hx])
  | false =>
   simp only [Vl,hx] at h
   by_cases hc:(k'==Vk&&env.scope.kind==.function&&env.kindOf n==some .cell)=true
   ·rw [if_pos hc]
    simp only [Vl,hx]
    exact ih h
   ·rw [if_neg hc]
    simp only [Vl,hx]
    exact ih h
section
variable {X:Cx}{x:Str}{N':List Str}{sc:Ua}{cl:List (Str×Addr)}{C:Kf}{fp:List Kf}{pins:List (Kf×Obj)}{s:Kg}{H:Hp}
theorem qM (h:visB sc x=true):Vis (qQ X N' sc cl C fp pins s H).env.scope x:=by
 rcases Yq h with h|h|h
 ·rcases ZQ (env:=X.env) h with q|q
  ·exact .inl q
  ·cases q.1
 ·rcases ZQ (env:=X.env) h with q|q
  ·exact .inr (.inl q)
  ·cases q.1
 ·rcases ZQ (env:=X.env) h with q|q
  ·exact .inr (.inr q)
  ·exact .inr (.inl q.2)
theorem qaZ (h:glB sc x=true):Gl (qQ X N' sc cl C fp pins s H) x:=by
 rcases ZQ (env:=X.env) (of_decide_eq_true h) with q|q
 ·exact q
 ·cases q.1
end
noncomputable def vr (i:Nat):Rho->Option Ka:=fun ρ=>(ρ[i]?).join
noncomputable def kd (d:Ka):Rho->Option Ka:=fun _=>some d
noncomputable def ev1 (fa:Rho->Option Ka)(g:Ka->Option Ka):Rho->Option Ka:=fun ρ=>ob (fa ρ) g
noncomputable def aN:Rho->Option (List Ka):=fun _=>some []
noncomputable def aC (fa:Rho->Option Ka)(fs:Rho->Option (List Ka)):Rho->Option (List Ka):=fun ρ=>ob (fa ρ) fun x=>ob (fs ρ) fun xs=>some (x::xs)
noncomputable def evA (fs:Rho->Option (List Ka))(h:List Ka->Option Ka):Rho->Option Ka:=fun ρ=>ob (fs ρ) h
noncomputable def evC (n:Nat)(fs:Rho->Option (List Ka))(h:List Ka->Option Ka):Rho->Option Ka:=fun ρ=>ob (fs ρ) fun ds=>if ds.length=n then h ds else none
noncomputable def evC0 (h:List Ka->Option Ka):Rho->Option Ka:=fun _=>h []
section
variable {X:Cx}{M:List Nat}{a b c:Ky}{es:List Ky}{f g fa fb:Rho->Option Ka}{pos:Pos}
theorem za (i:Nat)(hv:Vis X.env.scope x)(hM:i∉M)(hN:X.N[i]?=some x:=by rfl)(hd:(x==("__debug__" : Str))=false:=by decide +kernel)
  (hcd:(x==("__classdict__" : Str))=false:=by decide +kernel):PD X M (.Name x pos) (vr i) :=
 (Yl hN hv hd hcd).weak fun σ H Q ⟨S,ρ,d,hs,e,q⟩=>by
  have e:(ρ[i]?).join=some d:=e
  have e':ρ[i]?=some (some d):=by
   cases h:ρ[i]? with
   | none=>rw [h] at e;cases e
   | some o=>rw [h] at e;exact congrArg some e
  obtain ⟨v,h1,h2⟩:=hs.2.2 i d hM e'
  exact ⟨v,h1,q v H (Same.refl H) h2⟩
theorem qb {i j p}:PD X M (.Constant (.int i) j p) (kd (.int i)):=qkp.weak fun σ H Q ⟨S,_,d,_,e,q⟩=>by cases e;exact q _ H (Same.refl H) (.int i)
theorem qdW {i j p}:PD X M (.Constant (.bool i) j p) (kd (.bool i)):=pe_bl.weak fun σ H Q ⟨S,_,d,_,e,q⟩=>by cases e;exact q _ H (Same.refl H) (.bool i)
theorem Wf {j p}:PD X M (.Constant .none j p) (kd .none):=qkq.weak fun σ H Q ⟨S,_,d,_,e,q⟩=>by cases e;exact q _ H (Same.refl H) .none
theorem qio  (hg:Gl X x) (hm:X.mg x=some u) (r:RelV v u) (hd:∀ H S,Den X.K H S v d) (hdb:(x==("__debug__" : Str))=false:=by decide +kernel):PD X M (.Name x pos) (kd d) :=
 (YW hg hm r hdb).weak fun σ H Q ⟨S,_,d',_,e,q⟩=>by cases e;exact q _ H (Same.refl H) (hd H S)
noncomputable def rD2 (K:Kd)(g:Ka->Ka->Option Ka):R2:=fun x y H Q=>∃ S dx dy d,Dm S H/\Den K H S x dx/\Den K H S y dy/\g dx dy=some d/\∀ v H',Same H H'->Den K H' S v d->Q v H'
def OpD (X:Cx)(f:Ke->Ke->Sem Ke)(g:Ka->Ka->Option Ka):Prop:=OpR X f (rD2 X.K g)
def UnD (X:Cx)(f:Ke->Sem Ke)(g:Ka->Option Ka):Prop:=UnR X f (fun x H Q=>∃ S dx d,Dm S H/\Den X.K H S x dx/\g dx=some d/\∀ v H',Same H H'->Den X.K H' S v d->Q v H')
def CallD (X:Cx)(f:Ke)(g:List Ka->Option Ka):Prop:=Zb X f (fun vs H Q=>∃ S ds d,Dm S H/\DenL X.K H S vs ds/\g ds=some d/\∀ v H',Same H H'->Den X.K H' S v d->Q v H')
noncomputable def ev2 (fa fb:Rho->Option Ka)(g:Ka->Ka->Option Ka)(ρ:Rho):Option Ka:=ob (fa ρ) fun x=>ob (fb ρ) fun y=>g x y
theorem tD2 {K:Kd}{g:Ka->Ka->Option Ka}:∀ σ H Q,tD K M (ev2 fa fb g) σ H Q->tOp (rD2 K g) (tD K M fa) (tD K M fb) σ H Q:=by
 intro σ H Q ⟨S,ρ,d,hs,e,q⟩
 obtain ⟨x,e1,e⟩:=qd e
 obtain ⟨y,e2,e⟩:=qd e
 exact ⟨S,ρ,x,hs,e1,fun v H1 g1 d1=>⟨S,ρ,y,hs.same g1,e2,fun w H2 g2 d2=>⟨S,x,y,d,hs.1.same (g1.trans g2),d1.same g2,d2,e,fun z H3 g3 d3=>q z H3 (g1.trans (g2.trans g3)) d3⟩⟩⟩
theorem qz {op:Operator}{g:Ka->Ka->Option Ka}(ho:OpD X (binaryOp op) g)(ha:PD X M a fa)(hb:PD X M b fb):PD X M (.BinOp a op b pos) (ev2 fa fb g):=(pe_op ho ha hb).weak tD2
theorem qbe {op:CmpOp}{g:Ka->Ka->Option Ka}(ho:OpD X (compareOp op) g)(ha:PD X M a fa)(hb:PD X M b fb)(hm:behindInMarks op b=false):PD X M (.Compare a [op] [b] pos) (ev2 fa fb g):=(qix ho ha hb hm).weak tD2
theorem jJ {op:UnaryOp}{g:Ka->Option Ka}(ho:UnD X (unaryOp op) g)(ha:PD X M a fa):PD X M (.UnaryOp op a pos) (ev1 fa g) :=
 (pe_un ho ha).weak fun σ H Q ⟨S,ρ,d,hs,e,q⟩=>by
  obtain ⟨x,e1,e⟩:=qd e
  exact ⟨S,ρ,x,hs,e1,fun v H1 g1 d1=>⟨S,x,d,hs.1.same g1,d1,e,fun z H3 g3 d3=>q z H3 (g1.trans g3) d3⟩⟩
noncomputable def ixD:Ka->Ka->Option Ka
 | .tuple ds,.int i=>atI ds i
 | .list ds,.int i=>atI ds i
 | _,_=>none
theorem DenL.atI {K:Kd}{H:Hp}{S:Av}{vs:List V}{ds:List Ka}{i:Int}{d:Ka}(h:DenL K H S vs ds)(e:atI ds i=some d):∃ v,L2.atI vs i=some v/\Den K H S v d:=by
 unfold L2.atI at e ⊢
 rw [h.length]
 cases q:ixN ds.length i with
 | none=>rw [q] at e;cases e
 | some j=>rw [q] at e;exact h.get e
theorem qx (ha:PD X M a fa)(hb:PD X M b fb)(hs:J5 b:=by intro _ _;rfl):PD X M (.Subscript a b pos) (ev2 fa fb ixD) :=
 (qd2 (r:=fun x y H Q=>rIxL X.K x y H Q\/rIxT X.K x y H Q) (YS.or qa1) ha hb hs).weak fun σ H Q ⟨S,ρ,d,hs,e,q⟩=>by
  obtain ⟨x,e1,e⟩:=qd e
  obtain ⟨y,e2,e⟩:=qd e
  refine ⟨S,ρ,x,hs,e1,fun v H1 g1 d1=>⟨S,ρ,y,hs.same g1,e2,fun w H2 g2 d2=>?_⟩⟩
  have d1':=d1.same g2
  cases d1' with
  | list h t =>
   cases d2 with
   | int i=>obtain ⟨z,z1,z2⟩:=t.atI e;exact .inl ⟨_,_,_,_,rfl,rfl,h.sq,z1,q z H2 (g1.trans g2) z2⟩
   | _=>cases e
  | tuple h t =>
   cases d2 with
   | int i=>obtain ⟨z,z1,z2⟩:=t.atI e;exact .inr ⟨_,_,_,_,rfl,rfl,h,z1,q z H2 (g1.trans g2) z2⟩
   | _=>cases e
  | _=>cases e
theorem zu:PDA X M [] aN:=Yk.weak fun σ H Q ⟨S,_,d,_,e,q⟩=>by cases e;exact q [] H (Same.refl H) .nil
theorem qG {fs:Rho->Option (List Ka)}(ha:PD X M a fa)(hr:PDA X M es fs)(hs:starEach (a::es) X.env=(false,eval a X.env)::starEach es X.env:=by rfl):PDA X M (a::es) (aC fa fs) :=
 (Qu ha hr hs).weak fun σ H Q ⟨S,ρ,d,hs,e,q⟩=>by
  obtain ⟨x,e1,e⟩:=qd e
  obtain ⟨xs,e2,e⟩:=qd e
  cases e
  exact ⟨S,ρ,x,hs,e1,fun v H1 g1 d1=>⟨S,ρ,xs,hs.same g1,e2,fun vs H2 g2 d2=>q _ H2 (g1.trans g2) (.cons (d1.same g2) d2)⟩⟩
noncomputable def tupD (ds:List Ka):Option Ka:=if ds.length<=1000 then some (.tuple ds) else none
noncomputable def lstD (ds:List Ka):Option Ka:=if ds.length<=1000 then some (.list ds) else none
theorem qfc {ds:List Ka}{d:Ka}(h:tupD ds=some d):ds.length<=1000/\d=.tuple ds:=by
 unfold tupD at h
 split at h
 ·rename_i q;cases h;exact ⟨q,rfl⟩
 ·cases h
theorem qao {ds:List Ka}{d:Ka}(h:lstD ds=some d):ds.length<=1000/\d=.list ds:=by
 unfold lstD at h
 split at h
 ·rename_i q;cases h;exact ⟨q,rfl⟩
 ·cases h
theorem qU {fs:Rho->Option (List Ka)}{x1}(h:PDA X M es fs):PD X M (.Tuple es x1 pos) (evA fs tupD) :=
 (qgx h).weak fun σ H Q ⟨S,ρ,d,hs,e,q⟩=>by
  obtain ⟨xs,e1,e⟩:=qd e
  obtain ⟨hz,rfl⟩:=qfc e
  refine ⟨S,ρ,xs,hs,e1,fun vs H1 g1 d1=>⟨VI (zj (by rw [d1.length];exact hz)),fun p hp=>?_⟩⟩
  exact q _ _ (g1.lay' hp) (.tuple (SqT.of qH) (d1.same (Same.lay hp)))
theorem qbf {fs:Rho->Option (List Ka)}(h:PDA X M es fs):PD X M (.List es pos) (evA fs lstD) :=
 (qgv h).weak fun σ H Q ⟨S,ρ,d,hs,e,q⟩=>by
  obtain ⟨xs,e1,e⟩:=qd e
  obtain ⟨hz,rfl⟩:=qao e
  refine ⟨S,ρ,xs,hs,e1,fun vs H1 g1 d1=>⟨VI (zj (by rw [d1.length];exact hz)),fun p hp=>?_⟩⟩
  exact q _ _ (g1.lay' hp) (.list (SqLS.new qH ((hs.1.same g1).free hp)) (d1.same (Same.lay hp)))
noncomputable def spF (K:Kd)(n:Nat)(f:List Ka->Option Ka):Sp:=fun vs H Q _=>∃ S ds d,Dm S H/\DenL K H S vs ds/\ds.length=n/\f ds=some d/\∀ v H',Same H H'->Den K H' S v d->Q v H'
theorem qin {CX:CXT}{k n:Nat}{fn:Kf}{fd:K7}{ps:List Str}{h:List Ka->Option Ka}{E:XK}{x:Str}{p:Pos}{fs:Rho->Option (List Ka)}(F:FnOk X.prog X.w X.K X.mg X.base CX k fn fd ps (spF X.K n h))(hr:Room k X.A)(hg:Gl X x)(hm:X.mg x=some (.ref fn))(hk:Vf X.K (.ref fn)=true)
  (hb:Binds X.K fd ps []) (hx:qaK CX X E) (ha:PDA X M (a::es) fs) (hl:(a::es).length=n) (hdb:(x==("__debug__" : Str))=false:=by decide +kernel) (he:starEach (a::es) X.env=(false,eval a X.env)::starEach es X.env:=by rfl) (hpl:(backTo pos (starEach es X.env)).any (·.1)=false:=by rfl) :
  PD X M (.Call (.Name x p) (a::es) [] pos) (evC n fs h) :=
 (qbk F hr hg hm hk hb .nil hx ha hdb he hpl).weak fun σ H Q ⟨S,ρ,d,hs,e,q⟩=>by
  obtain ⟨ds,e1,e⟩:=qd e
  have e:(if ds.length=n then h ds else none)=some d:=e
  split at e
  ·rename_i hn
   exact ⟨S,ρ,ds,hs,e1,fun vs H1 g1 d1=>⟨S,ds,d,hs.1.same g1,by rw [Vd];exact d1,hn,e,fun v H' g2 d2=>q v H' (g1.trans g2) d2⟩⟩
  ·cases e
theorem zf {id:String}{x:Str}{p:Pos}{h:List Ka->Option Ka}{fs:Rho->Option (List Ka)}(hc:CallD X (.builtin id) h)(hg:Gl X x)(hm:X.mg x=none)(hv:bootBuiltins x=some (.builtin id))(ha:PDA X M (a::es) fs)(hn:x ≠ "__name__" := by decide +kernel)(hdb:(x==("__debug__" : Str))=false:=by decide +kernel)
  (he:starEach (a::es) X.env=(false,eval a X.env)::starEach es X.env:=by rfl) (hpl:(backTo pos (starEach es X.env)).any (·.1)=false:=by rfl):PD X M (.Call (.Name x p) (a::es) [] pos) (evA fs h) :=
 (yx hc hg hm hv ha hn hdb he hpl).weak fun σ H Q ⟨S,ρ,d,hs,e,q⟩=>by
  obtain ⟨ds,e1,e⟩:=qd e
  exact ⟨S,ρ,ds,hs,e1,fun vs H1 g1 d1=>⟨S,ds,d,hs.1.same g1,d1,e,fun v H' g2 d2=>q v H' (g1.trans g2) d2⟩⟩
theorem QD {T:String}{x:Str}{p:Pos}{h:List Ka->Option Ka}{fs:Rho->Option (List Ka)}(hc:CallD X (.type T) h)(hg:Gl X x)(hm:X.mg x=none)(hv:bootBuiltins x=some (.type T))(ha:PDA X M (a::es) fs)(hn:x ≠ "__name__" := by decide +kernel)(hdb:(x==("__debug__" : Str))=false:=by decide +kernel)
  (he:starEach (a::es) X.env=(false,eval a X.env)::starEach es X.env:=by rfl) (hpl:(backTo pos (starEach es X.env)).any (·.1)=false:=by rfl):PD X M (.Call (.Name x p) (a::es) [] pos) (evA fs h) :=
 (qe5 hc hg hm hv ha hn hdb he hpl).weak fun σ H Q ⟨S,ρ,d,hs,e,q⟩=>by
  obtain ⟨ds,e1,e⟩:=qd e
  exact ⟨S,ρ,ds,hs,e1,fun vs H1 g1 d1=>⟨S,ds,d,hs.1.same g1,d1,e,fun v H' g2 d2=>q v H' (g1.trans g2) d2⟩⟩
noncomputable def tyS:Ka->String
 | .none => "NoneType" | .bool _ => "bool" | .int _ => "int" | .str _ => "str" | .list _ => "list" | .tuple _ => "tuple" | .dict _ => "dict"
noncomputable def isiT (T:String):Ka->Bool
 | .none=>T == "NoneType" || T == "object"
 | .bool _=>T == "bool" || T == "int" || T == "object"
 | .int _=>T == "int" || T == "object"
 | .str _=>T == "str" || T == "object"
 | .list _=>T == "list" || T == "object"
 | .tuple _=>T == "tuple" || T == "object"
 | .dict _=>T == "dict" || T == "object"
noncomputable def isiD (T:String)(d:Ka):Option Ka:=some (.bool (isiT T d))
def qdb (K:Kd)(T:String):Prop:=∀ d:Ka,KS K (.type (tyS d)) (.type T)=some (isiT T d)
theorem qdM (K:Kd):qdb K "int" := fun d=>by cases d<;>rfl
theorem qb3 (K:Kd):qdb K "bool" := fun d=>by cases d<;>rfl
theorem kit_tuple (K:Kd):qdb K "tuple" := fun d=>by cases d<;>rfl
theorem qdz {K:Kd}{T:String}{C:Kf}{c:Str}{d:Ka}(hT:T∈ye)(h:xcB K C=true):KS K (.ref C) (.type T)=some (isiT T (excD c d)):=by
 rw [(JS h).ts T hT]
 have:(T == "dict" || T == "object")=false:=by
  simp only [ye,Ko,Vt,or_false] at hT
  rcases hT with rfl|rfl|rfl|rfl|rfl<;>decide +kernel
 exact congrArg some this.symm
theorem qhQ {K:Kd}{T:String}{C:Kf}{c:Str}(hT:T∈ye)(h:icB K C=true):KS K (.ref C) (.type T)=some (isiT T (objD c)):=by
 rw [(qcI h).ts T hT]
 have:(T == "dict" || T == "object")=false:=by
  simp only [ye,Ko,Vt,or_false] at hT
  rcases hT with rfl|rfl|rfl|rfl|rfl<;>decide +kernel
 exact congrArg some this.symm
theorem JG {T:String}{p p2:Pos}(kit:qdb X.K T)(hg:Gl X "isinstance")(hm:X.mg "isinstance" = none)(hgT:Gl X (Kb T))(hmT:X.mg (Kb T)=none)(hvT:bootBuiltins (Kb T)=some (.type T))(hv:bootBuiltins "isinstance" = some (.builtin "isinstance"))(ha:PD X M a fa)(hnT:Kb T ≠ "__name__" := by decide +kernel)(hdT:(Kb T==("__debug__" : Str))=false:=by decide +kernel)(hT:T∈ye:=by decide +kernel)
  (he:starEach [a,.Name (Kb T) p2] X.env=(false,eval a X.env)::starEach [.Name (Kb T) p2] X.env:=by rfl) (hpl:(backTo pos (starEach [.Name (Kb T) p2] X.env)).any (·.1)=false:=by rfl)
  (hs2:starEach [.Name (Kb T) p2] X.env=(false,eval (.Name (Kb T) p2) X.env)::starEach [] X.env:=by rfl) :
  PD X M (.Call (.Name "isinstance" p) [a,.Name (Kb T) p2] [] pos) (ev1 fa (isiD T)) :=
 (yx (qfo.or (qem.or qek)) hg hm hv (Qu ha (Qu (qd1 (v:=.ty T) hgT hmT hvT rfl hnT hdT) Yk hs2) he) (by decide +kernel) (by decide +kernel) he hpl).weak fun σ H Q ⟨S,ρ,d,hs,e,q⟩=>by
  obtain ⟨x,e1,e⟩:=qd e
  cases e
  refine ⟨S,ρ,x,hs,e1,fun v H1 g1 d1=>?_⟩
  have fin:=q (.bl (isiT T x)) H1 g1 (.bool _)
  have k:=kit x
  show rIsi X.K [v,.ty T] H1 Q\/qji X.K [v,.ty T] H1 Q\/qjh X.K [v,.ty T] H1 Q
  cases d1 with
  | none=>exact .inl ⟨_,_,_,_,rfl,.non,k,fin⟩
  | bool y=>exact .inl ⟨_,_,_,_,rfl,.bl y,k,fin⟩
  | int y=>exact .inl ⟨_,_,_,_,rfl,.int y,k,fin⟩
  | str y=>exact .inl ⟨_,_,_,_,rfl,.str y,k,fin⟩
  | list h t=>exact .inl ⟨_,_,_,_,rfl,.lst h.sq,k,fin⟩
  | tuple h t=>exact .inl ⟨_,_,_,_,rfl,.tup h,k,fin⟩
  | dict h k2 t=>exact .inl ⟨_,_,_,_,rfl,.dct h.1,k,fin⟩
  | exc0 h o=>exact .inr (.inl ⟨_,_,_,_,rfl,⟨_,h,o⟩,fun C z=>qdz hT z,fin⟩)
  | exc1 h o x y t=>exact .inr (.inl ⟨_,_,_,_,rfl,⟨_,h,o⟩,fun C z=>qdz hT z,fin⟩)
  | ins h o=>exact .inr (.inr ⟨_,_,_,_,_,rfl,h,o.2,qhQ hT o.2,fin⟩)
theorem JF {f:Ke->Ke->Sem Ke}{g:Ka->Ka->Option Ka}{r:R2}(h:OpR X f r)(w:∀ x y dx dy d H S (Q:VK),Dm S H->Den X.K H S x dx->Den X.K H S y dy->g dx dy=some d->(∀ v H',Same H H'->Den X.K H' S v d->Q v H')->r x y H Q):OpD X f g :=
 fun pins s σ H x y v u Q I rx ry ⟨S,dx,dy,d,m,h1,h2,e,q⟩=>h pins s σ H x y v u Q I rx ry (w x y dx dy d H S Q m h1 h2 e q)
noncomputable def iiD (h:Int->Int->Option Ka):Ka->Ka->Option Ka
 | .int i,.int j=>h i j
 | _,_=>none
theorem wJ (e:iiD h x y=some d):∃ i j,x=.int i/\y=.int j/\h i j=some d:=by
 cases x<;>cases y<;>first|exact ⟨_,_,rfl,rfl,e⟩|cases e
theorem qif {f:Ke->Ke->Sem Ke}{gi:Int->Int->Int}(h:OpR X f (rI0 fun i j=>.int (gi i j))):OpD X f (iiD fun i j=>some (.int (gi i j))) :=
 JF h fun x y dx dy d H S Q m h1 h2 e q=>by
  obtain ⟨i,j,rfl,rfl,e⟩:=wJ e
  cases h1;cases h2;cases e
  exact ⟨i,j,rfl,rfl,q _ H (Same.refl H) (.int _)⟩
theorem yo {f:Ke->Ke->Sem Ke}{C:Int->Int->Prop}[∀ i j,Decidable (C i j)]{gi:Int->Int->Int}(h:OpR X f (rI C fun i j=>.int (gi i j))):OpD X f (iiD fun i j=>if C i j then some (.int (gi i j)) else none) :=
 JF h fun x y dx dy d H S Q m h1 h2 e q=>by
  obtain ⟨i,j,rfl,rfl,e'⟩:=wJ e
  split at e'
  ·rename_i c
   cases h1;cases h2;cases e'
   exact ⟨i,j,rfl,rfl,c,q _ H (Same.refl H) (.int _)⟩
  ·cases e'
theorem qgg {f:Ke->Ke->Sem Ke}{gi:Int->Int->Bool}(h:OpR X f (rI0 fun i j=>.bl (gi i j))):OpD X f (iiD fun i j=>some (.bool (gi i j))) :=
 JF h fun x y dx dy d H S Q m h1 h2 e q=>by
  obtain ⟨i,j,rfl,rfl,e⟩:=wJ e
  cases h1;cases h2;cases e
  exact ⟨i,j,rfl,rfl,q _ H (Same.refl H) (.bool _)⟩
noncomputable instance (i j:Int):Decidable (N3 i j):=by unfold N3;exact inferInstance
noncomputable instance (i j:Int):Decidable (CDiv i j):=by unfold CDiv;exact inferInstance
noncomputable instance (i j:Int):Decidable (CPow i j):=by unfold CPow;exact inferInstance
noncomputable def subD:Ka->Ka->Option Ka:=iiD fun i j=>some (.int (i-j))
noncomputable def mulD:Ka->Ka->Option Ka:=iiD fun i j=>if N3 i j then some (.int (i*j)) else none
noncomputable def j4:Ka->Ka->Option Ka:=iiD fun i j=>if CDiv i j then some (.int (i / j)) else none
noncomputable def modD:Ka->Ka->Option Ka:=iiD fun i j=>if 0<j then some (.int (i % j)) else none
noncomputable def powD:Ka->Ka->Option Ka:=iiD fun i j=>if CPow i j then some (.int (i ^ j.toNat)) else none
theorem ZJ:OpD X (binaryOp .Sub) subD:=qif qkh
theorem zP:OpD X (binaryOp .Mult) mulD:=yo qik
theorem jt:OpD X (binaryOp .FloorDiv) j4:=yo qij
theorem Qp:OpD X (binaryOp .Mod) modD:=yo (C:=fun _ j=>0<j) qke
theorem qdu:OpD X (binaryOp .Pow) powD:=yo qkg
noncomputable def gtD:Ka->Ka->Option Ka:=iiD fun i j=>some (.bool (decide (j<i)))
theorem d_gt:OpD X (compareOp .Gt) gtD:=qgg op_gt
noncomputable def eqD (x y:Ka):Option Ka:=if K5 x=true/\K5 y=true then some (.bool (Kq x y)) else none
noncomputable def neD (x y:Ka):Option Ka:=if K5 x=true/\K5 y=true then some (.bool (!PyData.eqv x y)) else none
theorem d_eq (hr:Room k X.A):OpD X (compareOp .Eq) eqD:=JF (qkc hr) fun x y dx dy d H S Q m h1 h2 e q=>by
 unfold eqD at e
 split at e
 ·rename_i c;cases e;exact ⟨S,dx,dy,h1,h2,c.1,c.2,q _ H (Same.refl H) (.bool _)⟩
 ·cases e
theorem d_ne (hr:Room k X.A):OpD X (compareOp .NotEq) neD:=JF (qkf hr) fun x y dx dy d H S Q m h1 h2 e q=>by
 unfold neD at e
 split at e
 ·rename_i c;cases e;exact ⟨S,dx,dy,h1,h2,c.1,c.2,q _ H (Same.refl H) (.bool _)⟩
 ·cases e
noncomputable def negD:Ka->Option Ka
 | .int i=>some (.int (-i))
 | _=>none
theorem jH:UnD X (unaryOp .USub) negD:=fun pins s σ H x v Q I rx ⟨S,dx,d,m,h1,e,q⟩=>qkX pins s σ H x v Q I rx (by
 cases h1<;>first|(cases e;exact ⟨_,rfl,q _ H (Same.refl H) (.int _)⟩)|cases e)
noncomputable def lenD:List Ka->Option Ka
 | [.list ds]=>some (.int ds.length)
 | [.tuple ds]=>some (.int ds.length)
 | _=>none
theorem ZZ:CallD X (.builtin "len") lenD:=fun pins s σ H xs us Q I r ⟨S,ds,d,m,h1,e,q⟩=>qaM pins s σ H xs us Q I r (by
 cases h1 with
 | nil=>cases e
 | cons a t =>
  cases t with
  | cons a' t'=>cases a<;>cases e
  | nil =>
   cases a with
   | list h t=>cases e;exact ⟨_,_,rfl,.inl h.sq,by rw [t.length];exact q _ H (Same.refl H) (.int _)⟩
   | tuple h t=>cases e;exact ⟨_,_,rfl,.inr h,by rw [t.length];exact q _ H (Same.refl H) (.int _)⟩
   | _=>cases e)
noncomputable def JM:List Ka->Option Ka
 | [.list ds]=>some (.tuple ds)
 | [.tuple ds]=>some (.tuple ds)
 | _=>none
theorem YK:CallD X (.type "tuple") JM:=fun pins s σ H xs us Q I r ⟨S,ds,d,m,h1,e,q⟩=>WL pins s σ H xs us Q I r (by
 cases h1 with
 | nil=>cases e
 | cons a t =>
  cases t with
  | cons a' t'=>cases a<;>cases e
  | nil =>
   cases a with
   | list h t=>cases e;exact ⟨_,_,rfl,.inl ⟨h.sq,fun l hl=>q _ _ (Same.lay hl) (.tuple (SqT.of qH) (t.same (Same.lay hl)))⟩⟩
   | tuple h t=>cases e;exact ⟨_,_,rfl,.inr ⟨h,q _ H (Same.refl H) (.tuple h t)⟩⟩
   | _=>cases e)
noncomputable def qan:List Ka->Option Ka
 | [.list ds]=>some (.list ds)
 | [.tuple ds]=>some (.list ds)
 | _=>none
theorem qcB:CallD X (.type "list") qan:=fun pins s σ H xs us Q I r ⟨S,ds,d,m,h1,e,q⟩=>qaN pins s σ H xs us Q I r (by
 cases h1 with
 | nil=>cases e
 | cons a t =>
  cases t with
  | cons a' t'=>cases a<;>cases e
  | nil =>
   cases a with
   | list h t=>cases e;exact ⟨_,_,rfl,.inl h.sq,fun l hl=>q _ _ (Same.lay hl) (.list (SqLS.new qH (m.free hl)) (t.same (Same.lay hl)))⟩
   | tuple h t=>cases e;exact ⟨_,_,rfl,.inr h,fun l hl=>q _ _ (Same.lay hl) (.list (SqLS.new qH (m.free hl)) (t.same (Same.lay hl)))⟩
   | _=>cases e)
end
noncomputable def wA:Ka->Option Bool
 | .bool b=>some b
 | _=>none
noncomputable def tV (f:Rho->Option Ka):Rho->Option Bool:=fun ρ=>ob (f ρ) wA
noncomputable def tN (p:Rho->Option Bool):Rho->Option Bool:=fun ρ=>ob (p ρ) fun b=>some (!b)
noncomputable def tA (p q:Rho->Option Bool):Rho->Option Bool:=fun ρ=>ob (p ρ) fun c=>if c=true then q ρ else some false
noncomputable def tO (p q:Rho->Option Bool):Rho->Option Bool:=fun ρ=>ob (p ρ) fun c=>if c=true then some true else q ρ
noncomputable def tT:Rho->Option Bool:=fun _=>some true
noncomputable def vA (fa fb:Rho->Option Ka):Rho->Option Ka:=fun ρ=>ob (fa ρ) fun x=>ob (wA x) fun c=>if c=true then fb ρ else some (.bool false)
noncomputable def vN (fa:Rho->Option Ka):Rho->Option Ka:=fun ρ=>ob (fa ρ) fun x=>ob (wA x) fun c=>some (.bool (!c))
noncomputable def vIf (p:Rho->Option Bool)(fa fb:Rho->Option Ka):Rho->Option Ka:=fun ρ=>ob (p ρ) fun x=>if x=true then fa ρ else fb ρ
noncomputable def evI (f:Rho->Option Ka)(h:Ka->Option (List Ka)):Rho->Option (List Ka):=fun ρ=>ob (f ρ) h
noncomputable def evR (fs:Rho->Option (List Ka))(h:List Ka->Option (List Ka)):Rho->Option (List Ka):=fun ρ=>ob (fs ρ) h
noncomputable def sN:Rho->Option Out:=fun ρ=>some (.nx ρ)
noncomputable def sRet (f:Rho->Option Ka):Rho->Option Out:=fun ρ=>ob (f ρ) fun d=>some (.rt d)
noncomputable def sIf (p:Rho->Option Bool)(u w:Rho->Option Out):Rho->Option Out:=fun ρ=>ob (p ρ) fun b=>if b=true then u ρ else w ρ
noncomputable def sSet (i:Nat)(f:Rho->Option Ka):Rho->Option Out:=fun ρ=>ob (f ρ) fun d=>some (.nx (ρ.set i (some d)))
noncomputable def sAsg (f:Rho->Option Ka)(g:Ka->Rho->Option Rho):Rho->Option Out:=fun ρ=>ob (f ρ) fun d=>ob (g d ρ) fun ρ'=>some (.nx ρ')
noncomputable def gNm (i:Nat):Ka->Rho->Option Rho:=fun d ρ=>some (ρ.set i (some d))
noncomputable def gsN:List Ka->Rho->Option Rho:=fun ds ρ=>match ds with | []=>some ρ|_=>none
noncomputable def gsC (g1:Ka->Rho->Option Rho)(g2:List Ka->Rho->Option Rho):List Ka->Rho->Option Rho:=fun ds ρ=>match ds with | d::r=>ob (g1 d ρ) fun ρ'=>g2 r ρ'|[]=>none
noncomputable def sBk:Rho->Option Out:=fun ρ=>some (.bk ρ)
noncomputable def sCt:Rho->Option Out:=fun ρ=>some (.ct ρ)
section
variable {X:Cx}{M:List Nat}{a b c:Ky}{es rest:List Ky}{f g fa fb:Rho->Option Ka}{p q:Rho->Option Bool}{pos:Pos}
theorem jq {d:Ka}{b:Bool}(h:wA d=some b):d=.bool b:=by cases d<;>first|(cases h;rfl)|cases h
theorem Q7 (h:PD X M a f)(he:∀ whole,isTrue a X.env whole=(do let v ← whole;standAt a.pos;holding [v] (truthy v)):=by intro _;rfl):PDT X M a (tV f) :=
 (qky h he).weak fun σ H Q ⟨S,ρ,d,hs,e,q⟩=>by
  obtain ⟨x,e1,e⟩:=qd e
  cases jq e
  exact ⟨S,ρ,_,hs,e1,fun v H1 g1 d1=>⟨d,d1.bool_inv,q H1 g1⟩⟩
theorem q8 {op:CmpOp}{g:Ka->Ka->Option Ka}(ho:OpD X (compareOp op) g)(ha:PD X M a fa)(hb:PD X M b fb)(hm:behindInMarks op b=false):PDT X M (.Compare a [op] [b] pos) (tV (ev2 fa fb g)) :=
 (qiB ho ha hb hm).weak fun σ H Q ⟨S,ρ,d,hs,e,q⟩=>by
  obtain ⟨x,e1,e⟩:=qd e
  cases jq e
  exact tD2 σ H _ ⟨S,ρ,_,hs,e1,fun v H1 g1 d1=>⟨d,d1.bool_inv,q H1 g1⟩⟩
theorem yu (h:PDT X M a p):PDT X M (.UnaryOp .Not a pos) (tN p) :=
 (qkx h).weak fun σ H Q ⟨S,ρ,d,hs,e,q⟩=>by
  obtain ⟨x,e1,e⟩:=qd e
  cases e
  exact ⟨S,ρ,x,hs,e1,fun H1 g1=>q H1 g1⟩
def PDW (X:Cx)(M:List Nat)(e:Ky)(f:Rho->Option Bool):Prop:=PW X e (tDT X.K M f)
theorem PDW.pdt (h:PDW X M a p):PDT X M a p:=PW.pt h
theorem qcj (h:PDT X M a p):PDW X M (.BoolOp .And [a] pos) p:=qiE h
theorem yw (h:PDT X M a p):PDW X M (.BoolOp .Or [a] pos) p:=qkA h
theorem qdZ (ha:PDT X M a p)(hb:PDW X M (.BoolOp .And (b::rest) pos) q):PDW X M (.BoolOp .And (a::b::rest) pos) (tA p q) :=
 (qkz ha hb).weak fun σ H Q ⟨S,ρ,d,hs,e,w⟩=>by
  obtain ⟨x,e1,e⟩:=qd e
  refine ⟨S,ρ,x,hs,e1,fun H1 g1=>?_⟩
  cases x with
  | true=>exact iteT ⟨S,ρ,d,hs.same g1,e,fun H2 g2=>w H2 (g1.trans g2)⟩
  | false=>cases e;exact iteF (w H1 g1)
theorem Wi (ha:PDT X M a p)(hb:PDW X M (.BoolOp .Or (b::rest) pos) q):PDW X M (.BoolOp .Or (a::b::rest) pos) (tO p q) :=
 (pw_or ha hb).weak fun σ H Q ⟨S,ρ,d,hs,e,w⟩=>by
  obtain ⟨x,e1,e⟩:=qd e
  refine ⟨S,ρ,x,hs,e1,fun H1 g1=>?_⟩
  cases x with
  | true=>cases e;exact iteT (w H1 g1)
  | false=>exact iteF ⟨S,ρ,d,hs.same g1,e,fun H2 g2=>w H2 (g1.trans g2)⟩
theorem qbh {op}(h:PD X M a f):PD X M (.BoolOp op [a] pos) f:=qks h
theorem qbd (ha:PD X M a fa)(hb:PD X M (.BoolOp .And (b::rest) pos) fb):PD X M (.BoolOp .And (a::b::rest) pos) (vA fa fb) :=
 (qko ha hb).weak fun σ H Q ⟨S,ρ,d,hs,e,w⟩=>by
  obtain ⟨x,e1,e⟩:=qd e
  obtain ⟨c,e2,e⟩:=qd e
  cases jq e2
  refine ⟨S,ρ,_,hs,e1,fun v H1 g1 d1=>⟨c,d1.bool_inv,?_⟩⟩
  cases c with
  | true=>exact iteT ⟨S,ρ,d,hs.same g1,e,fun v H2 g2 d2=>w v H2 (g1.trans g2) d2⟩
  | false=>cases e;exact iteF (w _ H1 g1 (.bool false))
theorem qgo (ha:PD X M a fa):PD X M (.UnaryOp .Not a pos) (vN fa) :=
 (qkr ha).weak fun σ H Q ⟨S,ρ,d,hs,e,w⟩=>by
  obtain ⟨x,e1,e⟩:=qd e
  obtain ⟨c,e2,e⟩:=qd e
  cases jq e2
  cases e
  exact ⟨S,ρ,_,hs,e1,fun v H1 g1 d1=>⟨c,d1.bool_inv,w _ H1 g1 (.bool _)⟩⟩
theorem qgl (hc:PDT X M c p)(ha:PD X M a fa)(hb:PD X M b fb):PD X M (.IfExp c a b pos) (vIf p fa fb) :=
 (qgu hc ha hb).weak fun σ H Q ⟨S,ρ,d,hs,e,w⟩=>by
  obtain ⟨x,e1,e⟩:=qd e
  refine ⟨S,ρ,x,hs,e1,fun H1 g1=>?_⟩
  cases x with
  | true=>exact iteT ⟨S,ρ,d,hs.same g1,e,fun v H2 g2 d2=>w v H2 (g1.trans g2) d2⟩
  | false=>exact iteF ⟨S,ρ,d,hs.same g1,e,fun v H2 g2 d2=>w v H2 (g1.trans g2) d2⟩
structure IsIt (K:Kd)(S:Av)(J:It)(H:Hp)(ds:List Ka):Prop where
 go:∀ (i:Nat) (H':Hp),Same H H'->i<ds.length->J.go i H'
 yld:∀ (i:Nat) (H':Hp) (x:V) (H2:Hp),Same H H'->J.yld i H' x H2->Same H' H2/\∀ d,ds[i]?=some d->∀ S':Av,(∀ y e,Den K H S y e->Den K H2 S' y e)->Den K H2 S' x d
 stop:∀ H':Hp,Same H H'->J.stop ds.length H'
theorem IsIt.lst {K:Kd}{H:Hp}{S:Av}{l:Kf}{xs:List V}{ds:List Ka}(h:SqL K H l xs)(t:DenL K H S xs ds):IsIt K S (Itl K l) H ds where
 go:=fun i H' e hi=>by
  have hi':i<xs.length:=by rw [t.length];exact hi
  exact ⟨xs,xs[i],e.seq h,Kn hi'⟩
 yld:=fun i H' x H2 e ⟨e2,q⟩=>⟨by rw [e2];exact Same.refl _,fun d hd S' w=>by
  obtain ⟨v,h1,h2⟩:=t.get hd
  have:=q xs (e.seq h)
  rw [h1] at this
  cases this
  exact w _ _ h2⟩
 stop:=fun H' e=>⟨xs,e.seq h,by rw [t.length];exact Kr _⟩
theorem IsIt.tup {K:Kd}{H:Hp}{S:Av}{l:Kf}{xs:List V}{ds:List Ka}(h:SqT K H l xs)(t:DenL K H S xs ds):IsIt K S (Itt K l) H ds where
 go:=fun i H' e hi=>by
  have hi':i<xs.length:=by rw [t.length];exact hi
  exact ⟨xs,xs[i],e.sqT h,Kn hi'⟩
 yld:=fun i H' x H2 e ⟨e2,q⟩=>⟨by rw [e2];exact Same.refl _,fun d hd S' w=>by
  obtain ⟨v,h1,h2⟩:=t.get hd
  have:=q xs (e.sqT h)
  rw [h1] at this
  cases this
  exact w _ _ h2⟩
 stop:=fun H' e=>⟨xs,e.sqT h,by rw [t.length];exact Kr _⟩
theorem SqLS.off {K:Kd}{H H':Hp}{S:Av}{a:Kf}{xs:List V}(e:Off S H H')(h:SqLS K H S a xs):SqLS K H' S a xs:=h.imp (fun q=>⟨q.1.off e q.2,q.2⟩) id
theorem SqT.off {K:Kd}{H H':Hp}{S:Av}{a:Kf}{xs:List V}(m:Dm S H)(e:Off S H H')(h:SqT K H a xs):SqT K H' a xs:=h.imp (fun q=>q.off e (m.tup q)) id
noncomputable def rngL:Int->Nat->List Ka
 | _,0=>[]
 | lo,n+1=>.int lo::rngL (lo+1) n
theorem j8:∀ (lo:Int) (n:Nat),(rngL lo n).length=n
 | _,0=>rfl
 | lo,n+1=>by rw [rngL,KA,j8]
theorem qcs:∀ (lo:Int) (n i:Nat) (d:Ka),(rngL lo n)[i]?=some d->d=.int (lo+i)
 | _,0,_,_,h=>by simp [rngL] at h
 | lo,n+1,0,d,h=>by simp [rngL] at h;subst h;simp
 | lo,n+1,i+1,d,h=>by
  have:=qcs (lo+1) n i d (by simpa [rngL] using h)
  rw [this]
  congr 1
  omega
theorem IsIt.rng {K:Kd}{H:Hp}{S:Av}(lo:Int)(n:Nat):IsIt K S (Itr lo n) H (rngL lo n) where
 go:=fun i H' e hi=>by rw [j8] at hi;exact hi
 yld:=fun i H' x H2 e ⟨e2,q⟩=>⟨by rw [e2];exact Same.refl _,fun d hd _ _=>by
  have q':x=.int (lo+i):=q
  rw [qcs lo n i d hd,q']
  exact .int _⟩
 stop:=fun H' e=>by rw [j8];exact Kr n
noncomputable def tDI (K:Kd)(M:List Nat)(f:Rho->Option (List Ka)):TI:=fun σ H R=>∃ S ρ ds,DenS K H S M σ ρ/\f ρ=some ds/\∀ J H',Same H H'->(∀ H2,Off S H' H2->IsIt K S J H2 ds)->R J H'
def PDI (X:Cx)(M:List Nat)(tg iter:Ky)(f:Rho->Option (List Ka)):Prop:=PI X tg iter (tDI X.K M f)
theorem PI.weak  (h:PI X tg e t) (w:∀ σ H R,t' σ H R->t σ H R):PI X tg e t':=fun pins s σ H Q I q=>h pins s σ H Q I (w σ H Q q)
noncomputable def iSeq (K:Kd)(tl:TE):TI:=fun σ H R=>tl σ H fun x H1=>∃ a,x=.ref a/\(((∃ xs,SqL K H1 a xs)/\R (Itl K a) H1)\/((∃ xs,SqT K H1 a xs)/\R (Itt K a) H1))
theorem qku (hl:PE X l tl):PI X tg l (iSeq X.K tl):=by
 intro pins s σ H R I h
 refine thn (hl pins s σ H _ I h) fun v s1 ⟨x,H1,I1,r1,q1⟩=>?_
 obtain ⟨a,e,q1⟩:=q1
 subst e
 cases r1
 have fp:∀ b∈[s1.heap.objs.size],FpOk X pins H1 b:=fun b hb=>by
  have e:b=s1.heap.objs.size:=by simpa using hb
  subst e
  exact I1.fpOk (Kr _) (I1.hok.fresh (Kr _))
 rcases q1 with ⟨⟨xs,hq⟩,q⟩|⟨⟨xs,hq⟩,q⟩
 ·obtain ⟨its,rv,p,hz⟩:=I1.list hq
  refine wpAny_pyIter_list p.isList ?_
  exact ⟨s1.heap.objs.size,[s1.heap.objs.size],_,_,H1,rfl,I1.kept (t':=s1.toks) fun b o e=>Kh _ e,qfd a _,⟨_,Kz _ rfl,rfl,rfl⟩,fp,q⟩
 ·obtain ⟨its,rv,p,hz⟩:=I1.tuple hq
  refine Eb (show s1.heap.IsTuple a its.toArray from p) ?_
  exact ⟨s1.heap.objs.size,[s1.heap.objs.size],_,_,H1,rfl,I1.kept (t':=s1.toks) fun b o e=>Kh _ e,qc9 a _,⟨_,Kz _ rfl,rfl,rfl⟩,fp,q⟩
noncomputable def seqD:Ka->Option (List Ka)
 | .list ds=>some ds
 | .tuple ds=>some ds
 | _=>none
theorem Qn (h:PD X M a f):PDI X M tg a (evI f seqD) :=
 (qku h).weak fun σ H R ⟨S,ρ,ds,hs,e,w⟩=>by
  obtain ⟨x,e1,e⟩:=qd e
  refine ⟨S,ρ,x,hs,e1,fun v H1 g1 d1=>?_⟩
  cases d1 with
  | list h t=>cases e;exact ⟨_,rfl,.inl ⟨⟨_,h.sq⟩,w _ _ g1 fun H2 o=>IsIt.lst (h.off o).sq (t.off (hs.1.same g1) o)⟩⟩
  | tuple h t=>cases e;exact ⟨_,rfl,.inr ⟨⟨_,h⟩,w _ _ g1 fun H2 o=>IsIt.tup (h.off (hs.1.same g1) o) (t.off (hs.1.same g1) o)⟩⟩
  | _=>cases e
noncomputable def jK:List Ka->Option (List Ka)
 | [.int j]=>if -1000<=j/\j<=1000 then some (rngL 0 j.toNat) else none
 | _=>none
theorem Wh {tg:Ky}{fs:Rho->Option (List Ka)}{p:Pos}(hg:Gl X "range")(hm:X.mg "range" = none)(ha:PDA X M [a] fs)(hs:starEach [a] X.env=[(false,eval a X.env)]:=by rfl):PDI X M tg (.Call (.Name "range" p) [a] [] pos) (evR fs jK) :=
 (qaz hg hm ha hs).weak fun σ H R ⟨S,ρ,ds,hs,e,w⟩=>by
  obtain ⟨xs,e1,e⟩:=qd e
  refine ⟨S,ρ,xs,hs,e1,fun vs H1 g1 d1=>?_⟩
  unfold jK at e
  split at e
  ·rename_i j
   split at e
   ·rename_i hj
    cases e
    obtain ⟨v,rfl,q⟩:=d1.inv1
    cases q
    exact ⟨j,rfl,by omega,by omega,w _ _ g1 fun _ _=>IsIt.rng 0 _⟩
   ·cases e
  ·cases e
noncomputable def QW (tt:Rho->Option Bool)(te:Rho->Option Ka)(ρ:Rho):List Ka->Option (List Ka)
 | []=>some []
 | d::ds=>ob (tt (ρ++[some d])) fun b=>if b=true then ob (te (ρ++[some d])) fun y=>ob (QW tt te ρ ds) fun ys=>some (y::ys) else QW tt te ρ ds
noncomputable def jG (n:Nat)(fi:Rho->Option (List Ka))(tt:Rho->Option Bool)(te:Rho->Option Ka)(ρ:Rho):Option Ka :=
 ob (fi ρ) fun ds=>if ρ.length=n/\ds.length<=1000 then ob (QW tt te ρ ds) fun ys=>some (.list ys) else none
def PDTs (X:Cx)(M:List Nat)(ifs:List Ky)(p:Rho->Option Bool):Prop:=PTs X ifs (tDT X.K M p)
theorem ZP:PDTs X M [] tT:=fun pins s σ H Q I ⟨S,ρ,b,hs,e,q⟩=>by
 cases e
 exact qiC pins s σ H Q I (q H (Same.refl H))
theorem qci (h:PDT X M c p):PDTs X M [c] p:=qiD h
noncomputable def lc1 (sc:Ua)(x:Str):Bool:=decide (sc.names.lookup x=some .local)||decide (sc.names.lookup x=some .cell)
theorem yG {env:Env}:∀ {names:List (Str×NameKind)} {x:Str},names.lookup x=some .cell->
  (names.map fun (n,k)=>if (k==Vk&&env.scope.kind==.function&&env.kindOf n==some .cell) then (n,VY) else (n,k)).lookup x=some .cell
 | [],_,h=>by simp at h
 | (n,k)::r,x,h=>by
  have ih:=@yG env r x
  show UV x ((if (k==Vk&&env.scope.kind==.function&&env.kindOf n==some .cell)=true then (n,VY) else (n,k))::_)=_
  rw [Vl] at h
  by_cases hx:(x==n)=true
  ·rw [hx] at h;cases h
   split<;>rw [Vl,hx]
  ·rw [Et.mpr hx] at h
   split<;>rw [Vl,Et.mpr hx]<;>exact ih h
noncomputable def tDGc (K:Kd)(M:List Nat)(g:Ka->Rho->Option Rho):TG:=fun v σ H Q=>∃ S ρ d ρ',DenS K H S M σ ρ/\Den K H S v d/\g d ρ=some ρ'/\∀ σ' H',Same H H'->DenS K H' S M σ' ρ'->Q σ' H'
noncomputable def tDGcs (K:Kd)(M:List Nat)(g:List Ka->Rho->Option Rho):TGs:=fun vs σ H Q=>∃ S ρ ds ρ',DenS K H S M σ ρ/\DenL K H S vs ds/\g ds ρ=some ρ'/\∀ σ' H',Same H H'->DenS K H' S M σ' ρ'->Q σ' H'
def PDGc (X:Cx)(M:List Nat)(t:Ky)(g:Ka->Rho->Option Rho):Prop:=PG X t (tDGc X.K M g)
def qde (X:Cx)(M:List Nat)(t:List Ky)(g:List Ka->Rho->Option Rho):Prop:=PGs X t (tDGcs X.K M g)
theorem PG.weak  (h:PG X e t) (w:∀ v σ H Q,t' v σ H Q->t v σ H Q):PG X e t':=fun pins s σ H v u Q I r q=>h pins s σ H v u Q I r (w v σ H Q q)
theorem PGs.weak  (h:PGs X e t) (w:∀ v σ H Q,t' v σ H Q->t v σ H Q):PGs X e t':=fun pins s σ H v u Q I r q=>h pins s σ H v u Q I r (w v σ H Q q)
noncomputable def unpD (n:Nat)(g:List Ka->Rho->Option Rho):Ka->Rho->Option Rho
 | .tuple ds,ρ=>if ds.length=n then g ds ρ else none
 | _,_=>none
theorem qav (i:Nat)(hN:X.N.Nodup)(hx:Loc X.env.scope x)(hi:X.N[i]?=some x)(hf:X.fn x=true\/X.env.scope.names.lookup x=some .local):PDGc X M (.Name x pos) (gNm i) :=
 (qd3 hN hi hx hf).weak fun v σ H Q ⟨S,ρ,d,ρ',hs,hd,e,q⟩=>by
  cases e
  exact q _ H (Same.refl H) (hs.set hd i)
theorem qaw:qde X M [] gsN :=
 qd4.weak fun v σ H Q ⟨S,ρ,d,ρ',hs,hd,e,q⟩=>by
  cases hd with
  | nil=>cases e;exact ⟨rfl,q _ H (Same.refl H) hs⟩
  | cons a t=>cases e
theorem QZ  (h1:PDGc X M t g1) (h2:qde X M ts g2) (hs:(assignEach (t::ts) X.env).map (·.2)=assign t X.env::(assignEach ts X.env).map (·.2):=by rfl) :
  qde X M (t::ts) (gsC g1 g2) :=
 (qcl h1 h2 hs).weak fun v σ H Q ⟨S,ρ,d,ρ',hs,hd,e,q⟩=>by
  cases hd with
  | nil=>cases e
  | cons a t =>
   obtain ⟨ρ1,e1,e⟩:=qd e
   exact ⟨_,_,rfl,S,ρ,_,ρ1,hs,a,e1,fun σ' H' g1 hs'=>⟨S,ρ1,_,ρ',hs',t.same g1,e,fun σ2 H2 g2 hs2=>q σ2 H2 (g1.trans g2) hs2⟩⟩
theorem qcf {ts:List Ky}{k:Nat}{n:Nat}{g:List Ka->Rho->Option Rho}(hc:X.calm=true)(h:qde X M ts g)(hn:(assignEach ts X.env).length=n:=by rfl)(hst:(assignEach ts X.env).findIdx? (·.1)=none:=by rfl):PDGc X M (.Tuple ts k pos) (unpD n g) :=
 (qgA hc h hn hst).weak fun v σ H Q ⟨S,ρ,d,ρ',hs,hd,e,q⟩=>by
  cases hd with
  | @tuple a xs ds h t =>
   have e:(if ds.length=n then g ds ρ else none)=some ρ':=e
   split at e
   ·rename_i hl
    exact ⟨_,_,rfl,h,by rw [t.length];exact hl,S,ρ,_,ρ',hs,t,e,q⟩
   ·cases e
  | _=>cases e
def GIn (n k:Nat)(g:Ka->Rho->Option Rho):Prop:=∀ d (ρ r ρ1:Rho),ρ.length=n->r.length=k->g d (ρ++r)=some ρ1->∃ r',r'.length=k/\ρ1=ρ++r'
def GIns (n k:Nat)(g:List Ka->Rho->Option Rho):Prop:=∀ d (ρ r ρ1:Rho),ρ.length=n->r.length=k->g d (ρ++r)=some ρ1->∃ r',r'.length=k/\ρ1=ρ++r'
theorem QM (h:n<=i):GIn n k (gNm i):=fun d ρ r ρ1 h1 h2 e=>by
 cases e
 refine ⟨r.set (i-n) (some d),by rw [Vx];exact h2,?_⟩
 rw [EZ _ _ (by omega),h1]
theorem qbN:GIns n k gsN:=fun d ρ r ρ1 h1 h2 e=>by
 cases d with
 | nil=>cases e;exact ⟨r,h2,rfl⟩
 | cons _ _=>cases e
theorem Zy  (a:GIn n k g1) (b:GIns n k g2):GIns n k (gsC g1 g2):=fun d ρ r ρ1 h1 h2 e=>by
 cases d with
 | nil=>cases e
 | cons d ds =>
  obtain ⟨ρ2,e1,e2⟩:=qd e
  obtain ⟨r1,l1,rfl⟩:=a d ρ r ρ2 h1 h2 e1
  exact b ds ρ r1 ρ1 h1 l1 e2
theorem qdF {n k m:Nat}{g:List Ka->Rho->Option Rho}(a:GIns n k g):GIn n k (unpD m g):=fun d ρ r ρ1 h1 h2 e=>by
 cases d with
 | tuple ds =>
  have e:(if ds.length=m then g ds (ρ++r) else none)=some ρ1:=e
  split at e
  ·exact a ds ρ r ρ1 h1 h2 e
  ·cases e
 | _=>cases e
noncomputable def Qf (k:Nat)(g:Ka->Rho->Option Rho)(tt:Rho->Option Bool)(te:Rho->Option Ka)(ρ:Rho):List Ka->Option (List Ka)
 | []=>some []
 | d::ds=>ob (g d (ρ++Vg k none)) fun ρ1=>ob (tt ρ1) fun b=>if b=true then ob (te ρ1) fun y=>ob (Qf k g tt te ρ ds) fun ys=>some (y::ys) else Qf k g tt te ρ ds
noncomputable def Z1 (n k:Nat)(fi:Rho->Option (List Ka))(g:Ka->Rho->Option Rho)(tt:Rho->Option Bool)(te:Rho->Option Ka)(ρ:Rho):Option Ka :=
 ob (fi ρ) fun ds=>if ρ.length=n/\ds.length<=1000 then ob (Qf k g tt te ρ ds) fun ys=>some (.list ys) else none
theorem wD {ρ:Rho}(hn:ρ.length=n):∀ ds,Qf 1 (gNm n) tt te ρ ds=QW tt te ρ ds
 | []=>rfl
 | d::ds=>by
  have e:gNm n d (ρ++Vg 1 none)=some (ρ++[some d]):=by
   show some ((ρ++[none]).set n (some d))=_
   rw [← hn,EZ _ _ (Kr _)]
   simp
  rw [Qf,QW,e]
  show (ob (tt (ρ++[some d])) fun b=>_)=_
  rw [wD hn ds]
theorem wC (n:Nat)(fi:Rho->Option (List Ka))(tt:Rho->Option Bool)(te:Rho->Option Ka):jG n fi tt te=Z1 n 1 fi (gNm n) tt te:=by
 funext ρ
 unfold jG Z1
 cases fi ρ with
 | none=>rfl
 | some ds =>
  show (if ρ.length=n/\ds.length<=1000 then _ else none)=(if ρ.length=n/\ds.length<=1000 then _ else none)
  split
  ·rename_i h
   rw [wD h.1]
  ·rfl
theorem DenS.forget {K:Kd}{H:Hp}{S:Av}{σ:St}{ρ r':Rho}{k:Nat}(h:DenS K H S M σ (ρ++r'))(hk:r'.length=k):DenS K H S M σ (ρ++Vg k none):=by
 refine ⟨h.1,by rw [h.2.1,KG,KG,VB,hk],fun i d hi e=>?_⟩
 by_cases hlt:i<ρ.length
 ·rw [Vh hlt] at e
  exact h.2.2 i d hi (by rw [Vh hlt];exact e)
 ·rw [VR (by omega)] at e
  have:=UD (a:=(none:Option Ka)) (n:=k) (i:=i-ρ.length)
  rw [this] at e
  split at e<;>cases e
theorem DenS.more {K:Kd}{H:Hp}{S:Av}{σ:St}{ρ:Rho}(k:Nat)(h:DenS K H S M σ ρ):DenS K H S M (σ++Vg k none) (ρ++Vg k none):=by
 refine ⟨h.1,by rw [KG,KG,h.2.1,VB,VB],fun i d hi e=>?_⟩
 by_cases hlt:i<ρ.length
 ·rw [Vh hlt] at e
  obtain ⟨v,a,b⟩:=h.2.2 i d hi e
  exact ⟨v,by rw [Vh (by rw [h.2.1];exact hlt)];exact a,b⟩
 ·rw [VR (by omega)] at e
  have:=UD (a:=(none:Option Ka)) (n:=k) (i:=i-ρ.length)
  rw [this] at e
  split at e<;>cases e
theorem qec {K:Kd}{n k:Nat}{fi:Rho->Option (List Ka)}{g:Ka->Rho->Option Rho}(hg:GIn n k g):∀ σ H Q S ρ ds ys,DenS K H S M σ ρ->fi ρ=some ds->ρ.length=n->ds.length<=1000->Qf k g p f ρ ds=some ys->(∀ H' zs,Same H H'->DenL K H' S zs ys->∀ D,H' D=none->Q (.ref D) (upd H' D (.lst zs)))->qaD k (tDI K M fi) (tDGc K M g) (tDT K M p) (tD K M f) σ H Q:=by
 intro σ H Q S ρ ds ys hs e1 hn hz e2 q
 refine ⟨S,ρ,ds,hs,e1,fun J H1 g1 hJ0=>?_⟩
 have hJ:=hJ0 H1 fun _ _ _ z=>z
 have z1000:1000<sizeLine:=zj (Kr _)
 refine ⟨fun i m zs σ' H'=>m=ds.length-i/\i<=ds.length/\zs.length<=i/\Same H1 H'/\DenS K H' S M σ' (ρ++Vg k none)/\∃ pre rest,DenL K H' S zs pre/\Qf k g p f ρ (ds.drop i)=some rest/\pre++rest=ys,⟨ds.length,by simp,Vv _,Kr _,Same.refl _,(hs.same g1).more k,[],ys,.nil,e2,rfl⟩,?_⟩
 rintro i m zs σ' H' ⟨rfl,hi,hzi,g2,hS,pre,rest,dl,er,rfl⟩
 by_cases hlt:i<ds.length
 ·refine .inr ⟨hJ.go i H' g2 hlt,fun x H2 y=>?_⟩
  obtain ⟨g2',yd⟩:=hJ.yld i H' x H2 g2 y
  have hd:=yd _ (Kn hlt) S fun y e q=>q.same (g2.trans g2')
  rw [VF hlt] at er
  obtain ⟨ρ1,r1,er⟩:=qd er
  obtain ⟨bb,b1,er⟩:=qd er
  obtain ⟨r',hr',rfl⟩:=hg _ ρ _ ρ1 hn (VB) r1
  have g2:=g2.trans g2'
  have dl:=dl.same g2'
  refine ⟨S,_,_,_,hS.same g2',hd,r1,fun σ3 H3 g3 hS3=>⟨S,_,bb,hS3,b1,fun H4 g4=>?_⟩⟩
  cases bb with
  | true =>
   rw [if_pos rfl] at er
   obtain ⟨y1,e3,er⟩:=qd er
   obtain ⟨ys1,e4,er⟩:=qd er
   cases er
   refine iteT ⟨S,_,y1,hS3.same g4,e3,fun v H5 g5 d5=>⟨by omega,ds.length-(i+1),by omega,rfl,hlt,by rw [KG,V1];omega,g2.trans (g3.trans (g4.trans g5)),(hS3.same (g4.trans g5)).forget hr',pre++[y1],ys1,(dl.same (g3.trans (g4.trans g5))).snoc d5,e4,by simp⟩⟩
  | false =>
   rw [if_neg US] at er
   exact iteF ⟨ds.length-(i+1),by omega,rfl,hlt,by omega,g2.trans (g3.trans g4),(hS3.same g4).forget hr',pre,rest,dl.same (g3.trans g4),er,rfl⟩
 ·have hi':i=ds.length:=by omega
  subst hi'
  rw [ND] at er
  cases er
  refine .inl ⟨hJ.stop H' g2,fun D hD=>q H' zs (g1.trans g2) (by rw [Vd];exact dl) D hD⟩
theorem Jx {n k:Nat}{fi:Rho->Option (List Ka)}{g:Ka->Rho->Option Rho}{tt:Rho->Option Bool}{te:Rho->Option Ka}{ρ:Rho}{d:Ka}(e:Z1 n k fi g tt te ρ=some d):∃ ds ys,fi ρ=some ds/\ρ.length=n/\ds.length<=1000/\Qf k g tt te ρ ds=some ys/\d=.list ys:=by
 obtain ⟨ds,e1,e⟩:=qd e
 split at e
 ·rename_i hc
  obtain ⟨ys,e2,e⟩:=qd e
  cases e
  exact ⟨ds,ys,e1,hc.1,hc.2,e2,rfl⟩
 ·cases e
theorem qkR {K:Kd}{n k:Nat}{fi:Rho->Option (List Ka)}{g:Ka->Rho->Option Rho}(hg:GIn n k g):∀ σ H Q,tD K M (Z1 n k fi g p f) σ H Q->qaD k (tDI K M fi) (tDGc K M g) (tDT K M p) (tD K M f) σ H Q:=by
 intro σ H Q ⟨S,ρ,d,hs,e,q⟩
 obtain ⟨ds,ys,e1,hn,hz,e2,rfl⟩:=Jx e
 exact qec hg σ H Q S ρ ds ys hs e1 hn hz e2 fun H' zs g2 dl D hD=>q _ _ (g2.lay' hD) (.list (SqLS.new qH ((hs.1.same g2).free hD)) (dl.same (Same.lay hD)))
section
variable {elt iter tg:Ky}{ifs:List Ky}{x:Str}{N':List Str}{px:Pos}{sc:Ua}{n k:Nat}{fi:Rho->Option (List Ka)}{g:Ka->Rho->Option Rho}
theorem Zt (O:CompOk X N' k sc)(hx:N'[i]?=some x)(hl:lc1 sc x=true)(cl:List (Str×Addr))(C:Kf)(fp:List Kf)(pins:List (Kf×Obj))(s:Kg)(H:Hp):PDGc (qQ X N' sc cl C fp pins s H) M (.Name x px) (gNm i) :=
 (Bool.or_eq_true_iff.mp hl).elim (fun hl =>
  have hloc:(relabel sc X.env).names.lookup x=some .local:=lookup_relabel_local (of_decide_eq_true hl)
  qav (X:=qQ X N' sc cl C fp pins s H) i O.nd' (.inl hloc) hx (.inr hloc)) fun hl =>
  have hloc:(relabel sc X.env).names.lookup x=some .cell:=yG (of_decide_eq_true hl)
  qav (X:=qQ X N' sc cl C fp pins s H) i O.nd' (.inr hloc) hx (.inl hl)
theorem We (O:CompOk X N' k sc)(gi:GIn n k g)(hi:PDI X M tg iter fi)(hg:∀ cl C fp pins s H,PDGc (qQ X N' sc cl C fp pins s H) M tg g)(hq:∀ cl C fp pins s H,PDTs (qQ X N' sc cl C fp pins s H) M ifs p)(he:∀ cl C fp pins s H,PD (qQ X N' sc cl C fp pins s H) M elt f)
  (hs:∀ v,foldedSetIterable iter X.env v=pure v:=by intro _;rfl):PD X M (.ListComp elt [⟨tg,iter,ifs,0⟩] sc pos) (Z1 n k fi g p f) :=
 (qiy (wg:=tDGc X.K M g) (tt:=tDT X.K M p) (te:=tD X.K M f) O hi hg hq he hs).weak (qkR gi)
theorem yp (O:CompOk X N' 1 sc)(hx:N'[n]?=some x)(hl:lc1 sc x=true)(hi:PDI X M (.Name x px) iter fi)(hq:∀ cl C fp pins s H,PDTs (qQ X N' sc cl C fp pins s H) M ifs p)(he:∀ cl C fp pins s H,PD (qQ X N' sc cl C fp pins s H) M elt f)
  (hs:∀ v,foldedSetIterable iter X.env v=pure v:=by intro _;rfl):PD X M (.ListComp elt [⟨.Name x px,iter,ifs,0⟩] sc pos) (jG n fi p f):=by
 rw [wC]
 exact We O (QM (Kr _)) hi (Zt O hx hl) hq he hs
end
end
structure Gm where
 H0:Hp
 S0:Av
 lk:Nat->Kf×PyData
noncomputable def insA (S:Av)(p:Kf):Av:=fun a=>S a\/a=p
inductive OwnO (K:Kd)(H:Hp)(S:Av)(p:Kf):Ka->Prop
 | lst {xs:List V} {ds:List Ka}:H p=some (.lst xs)->DenL K H S xs ds->OwnO K H S p (.list ds)
 | dct {kvs:List (KX×Addr×V)} {ep:Nat} {ds:List Ka}:H p=some (DctO p kvs ep)->DenL K H S (kvs.map fun p=>kxV p.1 p.2.1) (kvs.map fun p=>kxD p.1)->DenL K H S (kvs.map (·.2.2)) ds->OwnO K H S p (.dict (dkv kvs ds))
section
variable {K:Kd}{H H':Hp}{S S':Av}{p:Kf}{d:Ka}
theorem OwnO.same (e:Same H H')(h:OwnO K H S p d):OwnO K H' S p d:=by
 cases h with
 | lst h t=>exact .lst (e _ _ h) (t.same e)
 | dct h k t=>exact .dct (e _ _ h) (k.same e) (t.same e)
theorem OwnO.sub (e:∀ a,H a≠none->S' a->S a)(h:OwnO K H S p d):OwnO K H S' p d:=by
 cases h with
 | lst h t=>exact .lst h (t.sub e)
 | dct h k t=>exact .dct h (k.sub e) (t.sub e)
theorem OwnO.mut (h:OwnO K H S p d):∃ o,H p=some o/\j6 o=true:=by
 cases h with
 | lst h t=>exact ⟨_,h,rfl⟩
 | dct h k t=>exact ⟨_,h,rfl⟩
theorem OwnO.dom (h:OwnO K H S p d):H p≠none:=by
 obtain ⟨o,e,_⟩:=h.mut
 rw [e];exact fun z=>nomatch z
theorem OwnO.den (h:OwnO K H S p d)(n:¬ S' p)(e:∀ a,H a≠none->S' a->S a):Den K H S' (.ref p) d:=by
 cases h with
 | lst h t=>exact .list (SqLS.new h n) (t.sub e)
 | dct h k t=>exact .dict ⟨h,n⟩ (k.sub e) (t.sub e)
theorem OwnO.upd (m:Dm S H)(h:OwnO K H S p d)(hq:S q)(hm:j6 o=true)(ne:p≠q):OwnO K (upd H q o) S p d:=by
 have off:Off S H (L2.upd H q o):=fun b u n e=>by
  rw [qC (fun z=>n (by rw [z];exact hq))];exact e
 cases h with
 | lst h t=>exact .lst (by rw [qC ne];exact h) (t.off m off)
 | dct h k t=>exact .dct (by rw [qC ne];exact h) (k.off m off) (t.off m off)
theorem Dm.upd (m:Dm S H)(hm:j6 o=true):Dm S (upd H q o):=fun a ha=>by
 by_cases e:a=q
 ·subst e;exact ⟨o,qH,hm⟩
 ·rw [qC e];exact m a ha
theorem Dm.ins (m:Dm S H)(h:∃ o,H p=some o/\j6 o=true):Dm (insA S p) H:=fun a ha=>by
 rcases ha with ha|rfl
 ·exact m a ha
 ·exact h
end
inductive Kids (K:Kd)(H:Hp)(S:Av):List Kf->List Ka->Prop
 | nil:Kids K H S [] []
 | cons {q:Kf} {xs:List V} {es:List Ka} {qs:List Kf} {ds:List Ka}:H q=some (.lst xs)->DenL K H S xs es->q∉qs->Kids K H S qs ds->Kids K H S (q::qs) (.list es::ds)
inductive DeepO (K:Kd)(H:Hp)(S:Av):List Kf->Kf->Ka->Prop
 | tpl {p:Kf} {qs:List Kf} {ds:List Ka}:H p=some (.tup (qs.map V.ref))->Kids K H S qs ds->DeepO K H S qs p (.tuple ds)
 | lst {p:Kf} {qs:List Kf} {ds:List Ka}:H p=some (.lst (qs.map V.ref))->p∉qs->Kids K H S qs ds->DeepO K H S (p::qs) p (.list ds)
 | dct {p:Kf} {kvs:List (KX×Addr×V)} {ep:Nat} {qs:List Kf} {ds:List Ka}:H p=some (DctO p kvs ep)->DenL K H S (kvs.map fun p=>kxV p.1 p.2.1) (kvs.map fun p=>kxD p.1)->kvs.map (·.2.2)=qs.map V.ref->p∉qs->Kids K H S qs ds->DeepO K H S (p::qs) p (.dict (dkv kvs ds))
section
variable {K:Kd}{H H':Hp}{S S':Av}{p:Kf}{d:Ka}{fp qs:List Kf}{ds:List Ka}
theorem Kids.same (e:Same H H'):∀ {qs:List Kf} {ds:List Ka},Kids K H S qs ds->Kids K H' S qs ds
 | _,_,.nil=>.nil
 | _,_,.cons h t n r=>.cons (e _ _ h) (t.same e) n (r.same e)
theorem Kids.sub (e:∀ a,H a≠none->S' a->S a):∀ {qs:List Kf} {ds:List Ka},Kids K H S qs ds->Kids K H S' qs ds
 | _,_,.nil=>.nil
 | _,_,.cons h t n r=>.cons h (t.sub e) n (r.sub e)
theorem Kids.mut:∀ {qs:List Kf} {ds:List Ka},Kids K H S qs ds->∀ q∈qs,∃ o,H q=some o/\j6 o=true
 | _,_,.nil,q,hq=>absurd hq (by simp)
 | _,_,.cons h t n r,q,hq=>by
  rcases Ko.mp hq with e|hq
  ·rw [e];exact ⟨_,h,rfl⟩
  ·exact r.mut q hq
theorem Kids.den (e:∀ a,H a≠none->S' a->S a):∀ {qs:List Kf} {ds:List Ka},(∀ q∈qs,¬ S' q)->Kids K H S qs ds->DenL K H S' (qs.map V.ref) ds
 | _,_,_,.nil=>.nil
 | _,_,n,.cons h t _ r=>.cons (.list (SqLS.new h (n _ (.head _))) (t.sub e)) (r.den e fun q hq=>n q (.tail _ hq))
theorem Kids.upd (m:Dm S H)(hq:S q):∀ {qs:List Kf} {ds:List Ka},q∉qs->Kids K H S qs ds->Kids K (upd H q o) S qs ds
 | _,_,_,.nil=>.nil
 | _,_,n,.cons h t n' r=>.cons (by rw [qC (fun z=>n (by rw [z];exact .head _))];exact h) (t.off m fun b u z e=>by rw [qC (fun y=>z (by rw [y];exact hq))];exact e) n' (r.upd m hq fun z=>n (.tail _ z))
theorem DeepO.same (e:Same H H')(h:DeepO K H S fp p d):DeepO K H' S fp p d:=by
 cases h with
 | tpl h t=>exact .tpl (e _ _ h) (t.same e)
 | lst h n t=>exact .lst (e _ _ h) n (t.same e)
 | dct h k v n t=>exact .dct (e _ _ h) (k.same e) v n (t.same e)
theorem DeepO.sub (e:∀ a,H a≠none->S' a->S a)(h:DeepO K H S fp p d):DeepO K H S' fp p d:=by
 cases h with
 | tpl h t=>exact .tpl h (t.sub e)
 | lst h n t=>exact .lst h n (t.sub e)
 | dct h k v n t=>exact .dct h (k.sub e) v n (t.sub e)
theorem DeepO.mut (h:DeepO K H S fp p d):∀ q∈fp,∃ o,H q=some o/\j6 o=true:=by
 cases h with
 | tpl h t=>exact t.mut
 | lst h n t=>exact fun q hq=>(Ko.mp hq).elim (fun e=>by rw [e];exact ⟨_,h,rfl⟩) (t.mut q)
 | dct h k v n t=>exact fun q hq=>(Ko.mp hq).elim (fun e=>by rw [e];exact ⟨_,h,rfl⟩) (t.mut q)
theorem DeepO.den (h:DeepO K H S fp p d)(n:∀ q∈fp,¬ S' q)(e:∀ a,H a≠none->S' a->S a):Den K H S' (.ref p) d:=by
 cases h with
 | tpl h t=>exact .tuple (.inl (.inl h)) (t.den e n)
 | lst h _ t=>exact .list (SqLS.new h (n _ (.head _))) (t.den e fun q hq=>n q (.tail _ hq))
 | dct h k v _ t=>exact .dict ⟨h,n _ (.head _)⟩ (k.sub e) (by rw [v];exact t.den e fun q hq=>n q (.tail _ hq))
theorem DeepO.upd (m:Dm S H)(h:DeepO K H S fp p d)(hq:S q)(ne:q∉fp):DeepO K (upd H q o) S fp p d:=by
 have off:Off S H (L2.upd H q o):=fun b u n e=>by
  rw [qC (fun z=>n (by rw [z];exact hq))];exact e
 cases h with
 | tpl h t=>exact .tpl (by rw [qC (fun z=>m.tup (.inl h) (by rw [z];exact hq))];exact h) (t.upd m hq ne)
 | lst h n t=>exact .lst (by rw [qC (fun z=>ne (by rw [z];exact .head _))];exact h) n (t.upd m hq fun z=>ne (.tail _ z))
 | dct h k v n t=>exact .dct (by rw [qC (fun z=>ne (by rw [z];exact .head _))];exact h) (k.off m off) v n (t.upd m hq fun z=>ne (.tail _ z))
end
abbrev Flt (M:List Nat)(i:Nat):Prop:=i∈M/\i+1000∉M
abbrev Dp (M:List Nat)(i:Nat):Prop:=i∈M/\i+1000∈M
abbrev Out0 (M:List Nat)(i:Nat):Prop:=i∉M/\i+1000∉M/\i<1000
structure SubM (A B:List Nat):Prop where
 sub:∀ i∈A,i∈B
 dp:∀ i∈A,i+1000∈B->i+1000∈A
theorem SubM.flt (h:SubM A B)(q:Flt A i):Flt B i:=⟨h.sub i q.1,fun z=>q.2 (h.dp i q.1 z)⟩
theorem SubM.deep (h:SubM A B)(q:Dp A i):Dp B i:=⟨h.sub i q.1,h.sub _ q.2⟩
def Has (ρ:Rho)(i:Nat):Prop:=∃ d:Ka,ρ[i]?=some (some d)
structure DeepF (K:Kd)(G:Gm)(M:List Nat)(H:Hp)(S:Av)(σ:St)(ρ:Rho)(F:Nat->List Kf):Prop where
 own:∀ i,Dp M i->∀ d,ρ[i]?=some (some d)->∃ p,σ[i]?=some (some (.ref p))/\DeepO K H S (F i) p d/\∀ q∈F i,S q/\¬ G.S0 q/\G.H0 q=none
 disj:∀ i,Dp M i->∀ j,Dp M j->Has ρ i->Has ρ j->∀ q,q∈F i->q∈F j->i=j
 flat:∀ i,Flt M i->∀ j,Dp M j->Has ρ i->Has ρ j->∀ p,σ[i]?=some (some (.ref p))->p∉F j
structure OwnS (K:Kd)(G:Gm)(M L:List Nat)(H:Hp)(S:Av)(σ:St)(ρ:Rho):Prop where
 ds:DenS K H S M σ ρ
 s0:∀ a,G.S0 a->S a
 h0:Same G.H0 H
 own:∀ i,Flt M i->∀ d,ρ[i]?=some (some d)->∃ p,σ[i]?=some (some (.ref p))/\OwnO K H S p d/\S p/\¬ G.S0 p/\(i∉L->G.H0 p=none)/\(i∈L->(p,d)=G.lk i)
 apart:∀ i,Flt M i->∀ j,Flt M j->∀ d e p,ρ[i]?=some (some d)->ρ[j]?=some (some e)->σ[i]?=some (some (.ref p))->σ[j]?=some (some (.ref p))->i=j
 bnd:∀ a,S a->G.S0 a\/G.H0 a=none\/∃ i∈L,a=(G.lk i).1
 lkd:∀ i∈L,Flt M i/\ρ[i]?=some (some (G.lk i).2)
 deep:∃ F,DeepF K G M H S σ ρ F
section
variable {K:Kd}{G:Gm}{M M' L:List Nat}{H H':Hp}{S:Av}{σ:St}{ρ:Rho}{v:V}{d:Ka}
theorem OwnS.same (e:Same H H')(h:OwnS K G M L H S σ ρ):OwnS K G M L H' S σ ρ :=
 ⟨h.ds.same e,h.s0,h.h0.trans e,fun i hi d q=>let ⟨p,a,b,c⟩:=h.own i hi d q;⟨p,a,b.same e,c⟩,h.apart,h.bnd,h.lkd,let ⟨F,f⟩:=h.deep;⟨F,fun i hi d q=>let ⟨p,a,b,c⟩:=f.own i hi d q;⟨p,a,b.same e,c⟩,f.disj,f.flat⟩⟩
theorem OwnS.lks (h:OwnS K G M L H S σ ρ):∀ i∈L,S (G.lk i).1:=fun i hi=>by
 obtain ⟨hm,e⟩:=h.lkd i hi
 obtain ⟨p,_,_,c,_,_,w⟩:=h.own i hm _ e
 rw [← w hi];exact c
theorem OwnS.den (h:OwnS K G M L H S σ ρ):DenS K H G.S0 [] σ ρ:=by
 refine ⟨h.ds.1.sub h.s0,h.ds.2.1,fun i d _ q=>?_⟩
 by_cases hi:i∈M
 ·by_cases hk:i+1000∈M
  ·obtain ⟨F,f⟩:=h.deep
   obtain ⟨p,a,b,c⟩:=f.own i ⟨hi,hk⟩ d q
   exact ⟨_,a,b.den (fun q hq=>(c q hq).2.1) fun a _ z=>h.s0 a z⟩
  ·obtain ⟨p,a,b,c,n,_⟩:=h.own i ⟨hi,hk⟩ d q
   exact ⟨_,a,b.den n fun a _ z=>h.s0 a z⟩
 ·obtain ⟨v,a,b⟩:=h.ds.2.2 i d hi q
  exact ⟨v,a,b.sub fun a _ z=>h.s0 a z⟩
theorem qw {α:Type}{xs:List α}{i j:Nat}{x:α}(h:i≠j):(xs.set i x)[j]?=xs[j]?:=Vw h
theorem OwnS.set (h:OwnS K G M L H S σ ρ)(q:Den K H S v d){i:Nat}(hi:i∉M):OwnS K G M L H S (σ.set i (some v)) (ρ.set i (some d)):=by
 have ne:∀ j∈M,i≠j:=fun j hj e=>hi (by rw [e];exact hj)
 obtain ⟨F,f⟩:=h.deep
 refine ⟨h.ds.set q i,h.s0,h.h0,fun j hj e he=>?_,fun j hj k hk e e' p h1 h2 h3 h4=>?_,h.bnd,fun j hj=>⟨(h.lkd j hj).1,by rw [qw (ne j (h.lkd j hj).1.1)];exact (h.lkd j hj).2⟩,F,fun j hj e he=>?_,fun j hj k hk h1 h2=>?_,fun j hj k hk h1 h2 p h3=>?_⟩
 ·rw [qw (ne j hj.1)] at he ⊢
  exact h.own j hj e he
 ·rw [qw (ne j hj.1)] at h1 h3
  rw [qw (ne k hk.1)] at h2 h4
  exact h.apart j hj k hk e e' p h1 h2 h3 h4
 ·rw [qw (ne j hj.1)] at he ⊢
  exact f.own j hj e he
 ·unfold Has at h1 h2
  rw [qw (ne j hj.1)] at h1
  rw [qw (ne k hk.1)] at h2
  exact f.disj j hj k hk h1 h2
 ·unfold Has at h1 h2
  rw [qw (ne j hj.1)] at h1 h3
  rw [qw (ne k hk.1)] at h2
  exact f.flat j hj k hk h1 h2 p h3
theorem OwnS.frz (h:OwnS K G M L H S σ ρ)(hs:SubM M' M)(hl:∀ i∈L,i∈M->i∈M'):∃ S',OwnS K G M' L H S' σ ρ:=by
 obtain ⟨F,f⟩:=h.deep
 have sb:∀ a,(S a/\(¬ ∃ i,Flt M i/\i∉M'/\Has ρ i/\σ[i]?=some (some (.ref a)))/\¬ ∃ i,Dp M i/\i∉M'/\Has ρ i/\a∈F i)->S a:=fun a z=>z.1
 refine ⟨fun a=>S a/\(¬ ∃ i,Flt M i/\i∉M'/\Has ρ i/\σ[i]?=some (some (.ref a)))/\¬ ∃ i,Dp M i/\i∉M'/\Has ρ i/\a∈F i,⟨?_,?_,?_⟩,?_,h.h0,?_,?_,?_,fun i hi=>⟨⟨hl i hi (h.lkd i hi).1.1,fun z=>(h.lkd i hi).1.2 (hs.sub _ z)⟩,(h.lkd i hi).2⟩,F,?_,?_,?_⟩
 ·exact h.ds.1.sub fun a z=>z.1
 ·exact h.ds.2.1
 ·intro i d hi q
  by_cases hm:i∈M
  ·by_cases hk:i+1000∈M
   ·obtain ⟨p,a,b,c⟩:=f.own i ⟨hm,hk⟩ d q
    exact ⟨_,a,b.den (fun r hr z=>z.2.2 ⟨i,⟨hm,hk⟩,hi,⟨d,q⟩,hr⟩) fun a _ z=>z.1⟩
   ·obtain ⟨p,a,b,c,_⟩:=h.own i ⟨hm,hk⟩ d q
    exact ⟨_,a,b.den (fun z=>z.2.1 ⟨i,⟨hm,hk⟩,hi,⟨d,q⟩,a⟩) fun a _ z=>z.1⟩
  ·obtain ⟨v,a,b⟩:=h.ds.2.2 i d hm q
   exact ⟨v,a,b.sub fun a _ z=>z.1⟩
 ·intro a ha
  refine ⟨h.s0 a ha,fun ⟨i,hm,hi,⟨d,q⟩,e⟩=>?_,fun ⟨i,hm,hi,⟨d,q⟩,e⟩=>?_⟩
  ·obtain ⟨p,e',b,c,n,_⟩:=h.own i hm d q
   rw [e] at e';cases e'
   exact n ha
  ·obtain ⟨p,e',b,c⟩:=f.own i hm d q
   exact (c a e).2.1 ha
 ·intro i hi d q
  obtain ⟨p,a,b,c,n,w,w'⟩:=h.own i (hs.flt hi) d q
  refine ⟨p,a,b.sub fun a _ z=>z.1,⟨c,fun ⟨j,hj,hj',⟨e,q'⟩,a'⟩=>?_,fun ⟨j,hj,hj',q',a'⟩=>?_⟩,n,w,w'⟩
  ·have:=h.apart i (hs.flt hi) j hj d e p q q' a a'
   subst this
   exact hj' hi.1
  ·exact f.flat i (hs.flt hi) j hj ⟨d,q⟩ q' p a a'
 ·exact fun i hi j hj=>h.apart i (hs.flt hi) j (hs.flt hj)
 ·exact fun a z=>h.bnd a z.1
 ·intro i hi d q
  obtain ⟨p,a,b,c⟩:=f.own i (hs.deep hi) d q
  refine ⟨p,a,b.sub fun a _ z=>z.1,fun r hr=>⟨⟨(c r hr).1,fun ⟨j,hj,hj',q',a'⟩=>?_,fun ⟨j,hj,hj',q',a'⟩=>?_⟩,(c r hr).2⟩⟩
  ·exact f.flat j hj i (hs.deep hi) q' ⟨d,q⟩ r a' hr
  ·have:=f.disj i (hs.deep hi) j hj ⟨d,q⟩ q' r hr a'
   subst this
   exact hj' hi.1
 ·exact fun i hi j hj=>f.disj i (hs.deep hi) j (hs.deep hj)
 ·exact fun i hi j hj=>f.flat i (hs.flt hi) j (hs.deep hj)
theorem qjI (hi:Out0 M i)(hj:Flt M j):Flt (i::M) j:=⟨.tail _ hj.1,fun z=>by rcases Ko.mp z with e|z;(have:=hi.2.2;omega);exact hj.2 z⟩
theorem Yd (hj:Flt (i::M) j)(ne:i≠j):Flt M j:=⟨(Ko.mp hj.1).resolve_left fun z=>ne z.symm,fun z=>hj.2 (.tail _ z)⟩
theorem qdv (hi:Out0 M i)(hj:Dp (i::M) j):Dp M j:=by
 have q:j+1000∈M:=(Ko.mp hj.2).resolve_left fun z=>by have:=hi.2.2;omega
 refine ⟨(Ko.mp hj.1).resolve_left fun z=>hi.2.1 (by rw [← z];exact q),q⟩
theorem OwnS.take (h:OwnS K G M L H S σ ρ){p:Kf}{i:Nat}(hn:H p=none)(e:Same H H')(o:OwnO K H' (insA S p) p d)(hi:Out0 M i)(hl:i∉L)(hz:i<ρ.length):OwnS K G (i::M) L H' (insA S p) (σ.set i (some (.ref p))) (ρ.set i (some d)):=by
 have np:¬ S p:=h.ds.1.free hn
 have sub:∀ a,H a≠none->insA S p a->S a:=fun a ha z=>by
  rcases z with z|rfl
  ·exact z
  ·exact absurd hn ha
 have ne:∀ j∈M,i≠j:=fun j hj e=>hi.1 (by rw [e];exact hj)
 have hz':i<σ.length:=by rw [h.ds.2.1];exact hz
 have gi:(ρ.set i (some d))[i]?=some (some d):=Vp hz
 have gi':(σ.set i (some (.ref p)))[i]?=some (some (.ref p)):=Vp hz'
 obtain ⟨F,f⟩:=h.deep
 refine ⟨⟨(h.ds.1.same e).ins o.mut,by rw [Vx,Vx];exact h.ds.2.1,fun j d' hj q=>?_⟩,fun a z=>.inl (h.s0 a z),h.h0.trans e,fun j hj d' q=>?_,fun j hj k hk d1 d2 q h1 h2 h3 h4=>?_,fun a z=>?_,fun j hj=>⟨qjI hi (h.lkd j hj).1,by rw [qw (fun z=>hl (by rw [z];exact hj))];exact (h.lkd j hj).2⟩,
  F,fun j hj d' q=>?_,fun j hj k hk h1 h2=>?_,fun j hj k hk h1 h2 r h3=>?_⟩
 ·have hij:i≠j:=fun z=>hj (by rw [z];exact .head _)
  rw [qw hij] at q ⊢
  obtain ⟨v,a,b⟩:=h.ds.2.2 j d' (fun z=>hj (.tail _ z)) q
  exact ⟨v,a,(b.sub sub).same e⟩
 ·by_cases hij:i=j
  ·subst hij
   rw [gi] at q;cases q
   exact ⟨p,gi',o,.inr rfl,fun z=>np (h.s0 p z),fun _=>h.h0.free hn,fun z=>absurd z hl⟩
  ·rw [qw hij] at q ⊢
   obtain ⟨q',a,b,c,n,w⟩:=h.own j (Yd hj hij) d' q
   exact ⟨q',a,(b.sub sub).same e,.inl c,n,w⟩
 ·have key:∀ m,Flt M m->∀ (d':Ka) (q:Kf),(ρ.set i (some d))[m]?=some (some d')->(σ.set i (some (.ref p)))[m]?=some (some (.ref q))->q≠p:=fun m hm d' q e1 e2 z=>by
   rw [qw (ne m hm.1)] at e1 e2
   obtain ⟨q',a,b,_⟩:=h.own m hm d' e1
   rw [e2] at a;cases a
   subst z
   exact b.dom hn
  by_cases ej:i=j
  ·by_cases ek:i=k
   ·rw [← ej,← ek]
   ·rw [← ej,gi'] at h3
    cases h3
    exact absurd rfl (key k (Yd hk ek) d2 p h2 h4)
  ·by_cases ek:i=k
   ·rw [← ek,gi'] at h4
    cases h4
    exact absurd rfl (key j (Yd hj ej) d1 p h1 h3)
   ·rw [qw ej] at h1 h3
    rw [qw ek] at h2 h4
    exact h.apart j (Yd hj ej) k (Yd hk ek) d1 d2 q h1 h2 h3 h4
 ·rcases z with z|rfl
  ·exact h.bnd a z
  ·exact .inr (.inl (h.h0.free hn))
 ·have hj':=qdv hi hj
  rw [qw (ne j hj'.1)] at q ⊢
  obtain ⟨q',a,b,c⟩:=f.own j hj' d' q
  exact ⟨q',a,(b.sub sub).same e,fun r hr=>⟨.inl (c r hr).1,(c r hr).2⟩⟩
 ·have hj':=qdv hi hj
  have hk':=qdv hi hk
  unfold Has at h1 h2
  rw [qw (ne j hj'.1)] at h1
  rw [qw (ne k hk'.1)] at h2
  exact f.disj j hj' k hk' h1 h2
 ·have hk':=qdv hi hk
  unfold Has at h1 h2
  rw [qw (ne k hk'.1)] at h2
  by_cases ej:i=j
  ·rw [← ej,gi'] at h3
   cases h3
   obtain ⟨d2,e2⟩:=h2
   obtain ⟨q',a,b,c⟩:=f.own k hk' d2 e2
   intro z
   obtain ⟨o2,z2,_⟩:=b.mut p z
   rw [hn] at z2;cases z2
  ·rw [qw ej] at h1 h3
   exact f.flat j (Yd hj ej) k hk' h1 h2 r h3
noncomputable def insL (S:Av)(fp:List Kf):Av:=fun a=>S a\/a∈fp
theorem Dm.insL (m:Dm S H)(h:∀ q∈fp,∃ o,H q=some o/\j6 o=true):Dm (insL S fp) H:=fun a ha=>by
 rcases ha with ha|ha
 ·exact m a ha
 ·exact h a ha
theorem qg5 (hj:j∈i::(i+1000)::M)(ne:i≠j)(n2:j≠i+1000):j∈M:=(Ko.mp ((Ko.mp hj).resolve_left fun z=>ne z.symm)).resolve_left n2
theorem Y0 (hj:Flt (i::(i+1000)::M) j)(n2:j≠i+1000):i≠j/\Flt M j:=by
 have ne:i≠j:=fun z=>hj.2 (by rw [← z];exact .tail _ (.head _))
 exact ⟨ne,qg5 hj.1 ne n2,fun z=>hj.2 (.tail _ (.tail _ z))⟩
theorem qda (hi:i<1000)(hj:Dp (i::(i+1000)::M) j)(ne:i≠j)(n2:j≠i+1000):Dp M j:=by
 refine ⟨qg5 hj.1 ne n2,?_⟩
 rcases Ko.mp hj.2 with z|z
 ·omega
 ·rcases Ko.mp z with z|z
  ·omega
  ·exact z
theorem qkV (hi:i<1000)(hj:Flt M j)(ne:i≠j):Flt (i::(i+1000)::M) j:=⟨.tail _ (.tail _ hj.1),fun z=>by
 rcases Ko.mp z with z|z
 ·omega
 ·rcases Ko.mp z with z|z
  ·omega
  ·exact hj.2 z⟩
theorem qjL (h:Has ρ i):i<ρ.length:=by
 obtain ⟨d,e⟩:=h
 exact (KD.mp e).1
theorem OwnS.takeD (h:OwnS K G M L H S σ ρ){p:Kf}{fp:List Kf}{i:Nat}(hn:∀ q∈fp,H q=none)(e:Same H H')(o:DeepO K H' (insL S fp) fp p d)(hi:Out0 M i)(hl:i∉L)(hz:i<ρ.length)(hz2:ρ.length<=1000) :
  OwnS K G (i::(i+1000)::M) L H' (insL S fp) (σ.set i (some (.ref p))) (ρ.set i (some d)):=by
 have sub:∀ a,H a≠none->insL S fp a->S a:=fun a ha z=>by
  rcases z with z|z
  ·exact z
  ·exact absurd (hn a z) ha
 have hz':i<σ.length:=by rw [h.ds.2.1];exact hz
 have gi:(ρ.set i (some d))[i]?=some (some d):=Vp hz
 have gi':(σ.set i (some (.ref p)))[i]?=some (some (.ref p)):=Vp hz'
 have n2:∀ j,Has (ρ.set i (some d)) j->j≠i+1000:=fun j hj=>by
  have:=qjL hj
  rw [Vx] at this
  omega
 obtain ⟨F,f⟩:=h.deep
 have fne:∀ j,j≠i->(if j=i then fp else F j)=F j:=fun j hj=>if_neg hj
 refine ⟨⟨(h.ds.1.same e).insL o.mut,by rw [Vx,Vx];exact h.ds.2.1,fun j d' hj q=>?_⟩,fun a z=>.inl (h.s0 a z),h.h0.trans e,fun j hj d' q=>?_,fun j hj k hk d1 d2 q h1 h2 h3 h4=>?_,fun a z=>?_,fun j hj=>?_,
  fun j=>if j=i then fp else F j,fun j hj d' q=>?_,fun j hj k hk h1 h2=>?_,fun j hj k hk h1 h2 r h3=>?_⟩
 ·have hij:i≠j:=fun z=>hj (by rw [z];exact .head _)
  rw [qw hij] at q ⊢
  obtain ⟨v,a,b⟩:=h.ds.2.2 j d' (fun z=>hj (.tail _ (.tail _ z))) q
  exact ⟨v,a,(b.sub sub).same e⟩
 ·obtain ⟨hij,hj'⟩:=Y0 hj (n2 j ⟨d',q⟩)
  rw [qw hij] at q ⊢
  obtain ⟨q',a,b,c,n,w⟩:=h.own j hj' d' q
  exact ⟨q',a,(b.sub sub).same e,.inl c,n,w⟩
 ·obtain ⟨ej,hj'⟩:=Y0 hj (n2 j ⟨d1,h1⟩)
  obtain ⟨ek,hk'⟩:=Y0 hk (n2 k ⟨d2,h2⟩)
  rw [qw ej] at h1 h3
  rw [qw ek] at h2 h4
  exact h.apart j hj' k hk' d1 d2 q h1 h2 h3 h4
 ·rcases z with z|z
  ·exact h.bnd a z
  ·exact .inr (.inl (h.h0.free (hn a z)))
 ·have ne:i≠j:=fun z=>hl (by rw [z];exact hj)
  exact ⟨qkV hi.2.2 (h.lkd j hj).1 ne,by rw [qw ne];exact (h.lkd j hj).2⟩
 ·by_cases hij:i=j
  ·subst hij
   rw [gi] at q;cases q
   rw [if_pos rfl]
   exact ⟨p,gi',o,fun r hr=>⟨.inr hr,fun z=>h.ds.1.free (hn r hr) (h.s0 r z),h.h0.free (hn r hr)⟩⟩
  ·rw [fne j (VT hij)]
   have hj':=qda hi.2.2 hj hij (n2 j ⟨d',q⟩)
   rw [qw hij] at q ⊢
   obtain ⟨q',a,b,c⟩:=f.own j hj' d' q
   exact ⟨q',a,(b.sub sub).same e,fun r hr=>⟨.inl (c r hr).1,(c r hr).2⟩⟩
 ·have old:∀ j,i≠j->Dp (i::(i+1000)::M) j->Has (ρ.set i (some d)) j->Has ρ j/\Dp M j/\∀ r∈F j,r∉fp:=fun j ne hj h1=>by
   have hj':=qda hi.2.2 hj ne (n2 j h1)
   unfold Has at h1
   rw [qw ne] at h1
   refine ⟨h1,hj',fun r hr z=>?_⟩
   obtain ⟨d2,e2⟩:=h1
   obtain ⟨q',a,b,c⟩:=f.own j hj' d2 e2
   obtain ⟨o2,z2,_⟩:=b.mut r hr
   rw [hn r z] at z2;cases z2
  intro r hr hr'
  by_cases ej:i=j
  ·by_cases ek:i=k
   ·rw [← ej,← ek]
   ·rw [if_pos ej.symm] at hr
    rw [fne k (VT ek)] at hr'
    exact absurd hr ((old k ek hk h2).2.2 r hr')
  ·rw [fne j (VT ej)] at hr
   by_cases ek:i=k
   ·rw [if_pos ek.symm] at hr'
    exact absurd hr' ((old j ej hj h1).2.2 r hr)
   ·rw [fne k (VT ek)] at hr'
    exact f.disj j (old j ej hj h1).2.1 k (old k ek hk h2).2.1 (old j ej hj h1).1 (old k ek hk h2).1 r hr hr'
 ·obtain ⟨ej,hj'⟩:=Y0 hj (n2 j h1)
  obtain ⟨d1,e1⟩:=h1
  rw [qw ej] at e1 h3
  by_cases ek:i=k
  ·rw [if_pos ek.symm]
   intro z
   obtain ⟨q',a,b,c⟩:=h.own j hj' d1 e1
   rw [h3] at a;cases a
   exact b.dom (hn _ z)
  ·rw [fne k (VT ek)]
   have hk':=qda hi.2.2 hk ek (n2 k h2)
   unfold Has at h2
   rw [qw ek] at h2
   exact f.flat j hj' k hk' ⟨d1,e1⟩ h2 r h3
theorem OwnS.write (h:OwnS K G M L H S σ ρ){p:Kf}{i:Nat}{o:HO}{d₀:Ka}(hi:Flt M i)(hl:i∉L)(e0:ρ[i]?=some (some d₀))(e1:σ[i]?=some (some (.ref p)))(hm:j6 o=true)(ow:OwnO K (upd H p o) S p d):OwnS K G M L (upd H p o) S σ (ρ.set i (some d)):=by
 obtain ⟨p',a,b,c,n,w,_⟩:=h.own i hi d₀ e0
 rw [e1] at a;cases a
 have off:Off S H (upd H p o):=fun b u z e=>by
  rw [qC (fun y=>z (by rw [y];exact c))];exact e
 have hz:i<ρ.length:=(KD.mp e0).1
 have get:∀ m d',(ρ.set i (some d))[m]?=some (some d')->∃ d'',ρ[m]?=some (some d''):=fun m d' q=>by
  by_cases him:i=m
  ·subst him;exact ⟨_,e0⟩
  ·rw [qw him] at q;exact ⟨_,q⟩
 have get2:∀ m,Has (ρ.set i (some d)) m->Has ρ m:=fun m ⟨d',q⟩=>get m d' q
 have dne:∀ j,Dp M j->i≠j:=fun j hj z=>hi.2 (by rw [z];exact hj.2)
 obtain ⟨F,f⟩:=h.deep
 refine ⟨⟨h.ds.1.upd hm,by rw [Vx];exact h.ds.2.1,fun j d' hj q=>?_⟩,h.s0,fun a u q=>?_,fun j hj d' q=>?_,fun j hj k hk d1 d2 q h1 h2 h3 h4=>?_,h.bnd,fun j hj=>⟨(h.lkd j hj).1,by rw [qw (fun z=>hl (by rw [z];exact hj))];exact (h.lkd j hj).2⟩,
  F,fun j hj d' q=>?_,fun j hj k hk h1 h2=>f.disj j hj k hk (get2 j h1) (get2 k h2),fun j hj k hk h1 h2=>f.flat j hj k hk (get2 j h1) (get2 k h2)⟩
 ·have hij:i≠j:=fun z=>hj (by rw [← z];exact hi.1)
  rw [qw hij] at q
  obtain ⟨v,a,b⟩:=h.ds.2.2 j d' hj q
  exact ⟨v,a,b.off h.ds.1 off⟩
 ·have:a≠p:=fun z=>by subst z;rw [w hl] at q;cases q
  rw [qC this]
  exact h.h0 a u q
 ·by_cases hij:i=j
  ·subst hij
   rw [Vp hz] at q;cases q
   exact ⟨p,e1,ow,c,n,w,fun z=>absurd z hl⟩
  ·rw [qw hij] at q
   obtain ⟨q',a,b',c',n',w'⟩:=h.own j hj d' q
   have:q'≠p:=fun z=>by subst z;exact hij (h.apart i hi j hj d₀ d' q' e0 q e1 a)
   exact ⟨q',a,b'.upd h.ds.1 c hm this,c',n',w'⟩
 ·obtain ⟨x1,y1⟩:=get j d1 h1
  obtain ⟨x2,y2⟩:=get k d2 h2
  exact h.apart j hj k hk x1 x2 q y1 y2 h3 h4
 ·rw [qw (dne j hj)] at q
  obtain ⟨q',a,b',c'⟩:=f.own j hj d' q
  exact ⟨q',a,b'.upd h.ds.1 c (f.flat i hi j hj ⟨_,e0⟩ ⟨_,q⟩ p e1),c'⟩
theorem OwnS.writeD (h:OwnS K G M L H S σ ρ){F:Nat->List Kf}(f:DeepF K G M H S σ ρ F){p q2:Kf}{i:Nat}{o:HO}{d₀:Ka}(hi:Dp M i)(e0:ρ[i]?=some (some d₀))(e1:σ[i]?=some (some (.ref p)))(hq:q2∈F i)(hm:j6 o=true)(ow:DeepO K (upd H q2 o) S (F i) p d) :
  OwnS K G M L (upd H q2 o) S σ (ρ.set i (some d)):=by
 obtain ⟨p',a,b,cc⟩:=f.own i hi d₀ e0
 rw [e1] at a;cases a
 obtain ⟨c,n,w⟩:=cc q2 hq
 have off:Off S H (upd H q2 o):=fun b u z e=>by
  rw [qC (fun y=>z (by rw [y];exact c))];exact e
 have hz:i<ρ.length:=(KD.mp e0).1
 have get:∀ m d',(ρ.set i (some d))[m]?=some (some d')->∃ d'',ρ[m]?=some (some d''):=fun m d' q=>by
  by_cases him:i=m
  ·subst him;exact ⟨_,e0⟩
  ·rw [qw him] at q;exact ⟨_,q⟩
 have get2:∀ m,Has (ρ.set i (some d)) m->Has ρ m:=fun m ⟨d',q⟩=>get m d' q
 have dne:∀ j,Flt M j->i≠j:=fun j hj z=>hj.2 (by rw [← z];exact hi.2)
 refine ⟨⟨h.ds.1.upd hm,by rw [Vx];exact h.ds.2.1,fun j d' hj q=>?_⟩,h.s0,fun a u q=>?_,fun j hj d' q=>?_,fun j hj k hk d1 d2 q h1 h2 h3 h4=>?_,h.bnd,fun j hj=>⟨(h.lkd j hj).1,by rw [qw (dne j (h.lkd j hj).1)];exact (h.lkd j hj).2⟩,
  F,fun j hj d' q=>?_,fun j hj k hk h1 h2=>f.disj j hj k hk (get2 j h1) (get2 k h2),fun j hj k hk h1 h2=>f.flat j hj k hk (get2 j h1) (get2 k h2)⟩
 ·have hij:i≠j:=fun z=>hj (by rw [← z];exact hi.1)
  rw [qw hij] at q
  obtain ⟨v,a,b⟩:=h.ds.2.2 j d' hj q
  exact ⟨v,a,b.off h.ds.1 off⟩
 ·have e2:=h.h0 a u q
  by_cases ne:a=q2
  ·rw [ne,w] at q;cases q
  ·rw [qC ne];exact e2
 ·rw [qw (dne j hj)] at q
  obtain ⟨q',a,b',c',n',w'⟩:=h.own j hj d' q
  exact ⟨q',a,b'.upd h.ds.1 c hm (fun z=>by subst z;exact f.flat j hj i hi ⟨_,q⟩ ⟨_,e0⟩ _ a hq),c',n',w'⟩
 ·rw [qw (dne j hj)] at h1
  rw [qw (dne k hk)] at h2
  exact h.apart j hj k hk d1 d2 q h1 h2 h3 h4
 ·by_cases hij:i=j
  ·subst hij
   rw [Vp hz] at q;cases q
   exact ⟨p,e1,ow,cc⟩
  ·rw [qw hij] at q
   obtain ⟨q',a,b',c'⟩:=f.own j hj d' q
   exact ⟨q',a,b'.upd h.ds.1 c (fun z=>hij (f.disj i hi j hj ⟨_,e0⟩ ⟨_,q⟩ _ hq z)),c'⟩
noncomputable def cut (P:Prop)(o:Option HO):Option HO:=@ite _ P (Classical.propDecidable P) none o
theorem YM (h:P):cut P o=none:=if_pos h
theorem qaO (h:¬ P):cut P o=o:=if_neg h
noncomputable def Gm.base (G:Gm)(S:Av)(H:Hp):Gm:={ G with H0:=fun a=>cut (S a/\G.H0 a=none) (H a) }
theorem W5 (h:Same G.H0 H):Same G.H0 (G.base S H).H0:=fun a o q=>(qaO (fun z=>by rw [q] at z;cases z.2)).trans (h a o q)
theorem qbC:Off S H (G.base S H).H0:=fun a o n q=>(qaO (fun z=>n z.1)).trans q
theorem qhi:Same (G.base S H).H0 H:=fun a o q=>by
 have q:cut (S a/\G.H0 a=none) (H a)=some o:=q
 by_cases h:S a/\G.H0 a=none
 ·rw [YM h] at q;cases q
 ·rw [qaO h] at q;exact q
theorem OwnS.base (h:OwnS K G M L H S σ ρ):OwnS K (G.base S H) M L H S σ ρ:=by
 obtain ⟨F,f⟩:=h.deep
 refine ⟨h.ds,h.s0,qhi,fun i hi d q=>?_,h.apart,fun a z=>?_,h.lkd,F,fun i hi d q=>let ⟨p,a,b,c⟩:=f.own i hi d q;⟨p,a,b,fun r hr=>⟨(c r hr).1,(c r hr).2.1,YM ⟨(c r hr).1,(c r hr).2.2⟩⟩⟩,f.disj,f.flat⟩
 ·obtain ⟨p,a,b,c,n,w,w'⟩:=h.own i hi d q
  exact ⟨p,a,b,c,n,fun hl=>YM ⟨c,w hl⟩,w'⟩
 ·rcases h.bnd a z with y|y|y
  ·exact .inl y
  ·exact .inr (.inl (YM ⟨z,y⟩))
  ·exact .inr (.inr y)
theorem OwnS.unbase {G':Gm}(s:Same G.H0 G'.H0)(e:G'.S0=G.S0)(e':G'.lk=G.lk)(h:OwnS K G' M L H S σ ρ):OwnS K G M L H S σ ρ:=by
 obtain ⟨F,f⟩:=h.deep
 refine ⟨h.ds,by rw [← e];exact h.s0,s.trans h.h0,fun i hi d q=>?_,h.apart,fun a z=>?_,by rw [← e'];exact h.lkd,F,fun i hi d q=>let ⟨p,a,b,c⟩:=f.own i hi d q;⟨p,a,b,fun r hr=>⟨(c r hr).1,by rw [← e];exact (c r hr).2.1,s.free (c r hr).2.2⟩⟩,f.disj,f.flat⟩
 ·obtain ⟨p,a,b,c,n,w,w'⟩:=h.own i hi d q
  exact ⟨p,a,b,c,by rw [← e];exact n,fun hl=>s.free (w hl),by rw [← e'];exact w'⟩
 ·rcases h.bnd a z with y|y|y
  ·exact .inl (by rw [← e];exact y)
  ·exact .inr (.inl (s.free y))
  ·exact .inr (.inr (by rw [← e'];exact y))
theorem OwnS.turn {G':Gm}  (s0:∀ a,G'.S0 a->S a) (sl:∀ i∈L,S (G'.lk i).1) (h:OwnS K G' M L H S' σ ρ) (q:Den K G'.H0 S x d):Den K H S' x d:=by
 refine (q.sub fun a ha z=>?_).same h.h0
 rcases h.bnd a z with y|y|⟨i,hi,rfl⟩
 ·exact s0 a y
 ·exact absurd y ha
 ·exact sl i hi
end
inductive Fr where
 | pl|nw|dp
noncomputable def OutQ (K:Kd)(G:Gm)(M' Mb L:List Nat)(fr:Fr)(D:Ends):Out->Prop
 | .nx ρ=>∀ σ' H' S',OwnS K G M' L H' S' σ' ρ->D.nx σ' H'
 | .rt d=>match fr with
  | .nw=>∀ p H',Same G.H0 H'->G.H0 p=none->¬ G.S0 p->OwnO K H' (insA G.S0 p) p d->D.rt (.ref p) H'
  | .dp=>∀ p fp H',Same G.H0 H'->(∀ q∈fp,G.H0 q=none/\¬ G.S0 q)->DeepO K H' (insL G.S0 fp) fp p d->D.rt (.ref p) H'
  | .pl=>∀ v H',Same G.H0 H'->Den K H' G.S0 v d->D.rt v H'
 | .bk ρ=>∀ σ' H' S',OwnS K G Mb L H' S' σ' ρ->D.bk σ' H'
 | .ct ρ=>∀ σ' H' S',OwnS K G Mb L H' S' σ' ρ->D.ct σ' H'
noncomputable def tDS (K:Kd)(G:Gm)(M L M' Mb:List Nat)(fr:Fr)(f:Rho->Option Out):TS:=fun D σ H=>∃ S ρ o,OwnS K G M L H S σ ρ/\f ρ=some o/\OutQ K G M' Mb L fr D o
def PDS (X:Cx)(G:Gm)(M L M' Mb:List Nat)(fr:Fr)(s:KM)(f:Rho->Option Out):Prop:=PS X s (tDS X.K G M L M' Mb fr f)
def PDSs (X:Cx)(G:Gm)(M L M' Mb:List Nat)(fr:Fr)(s:List KM)(f:Rho->Option Out):Prop:=PSs X s (tDS X.K G M L M' Mb fr f)
noncomputable def tF (K:Kd)(M:List Nat)(f:Rho->Option Ka):TE:=fun σ H Q=>∃ S ρ d,DenS K H S M σ ρ/\f ρ=some d/\∀ p H',Same H H'->H p=none->OwnO K H' (insA S p) p d->Q (.ref p) H'
def PF (X:Cx)(M:List Nat)(e:Ky)(f:Rho->Option Ka):Prop:=PE X e (tF X.K M f)
noncomputable def qbK (f:Rho->Option Ka):Rho->Option Ka:=fun ρ=>ob (f ρ) fun d=>if flat d=true then some d else none
noncomputable def qfJ:Ka->Bool
 | .list ds=>yg ds
 | _=>false
noncomputable def seqO (u w:Rho->Option Out)(ρ:Rho):Option Out:=ob (u ρ) fun o=>match o with | .nx ρ'=>w ρ'|o=>some o
section
variable {X:Cx}{G:Gm}{M M1 M2 M' Mb L:List Nat}{fr:Fr}{a b c:Ky}{es:List Ky}{f g:Rho->Option Ka}{p:Rho->Option Bool}{pos:Pos}{s1:KM}{ss st1 st2:List KM}{u w:Rho->Option Out}
theorem Wg (h:PF X M a f):PD X M a f:=h.weak fun σ H Q ⟨S,ρ,d,hs,e,q⟩=>⟨S,ρ,d,hs,e,fun p H' g n o=>q _ H' g (o.den (hs.1.free n) fun a _ z=>.inl z)⟩
theorem OwnO.flat {K:Kd}{H:Hp}{S S':Av}{p:Kf}{d:Ka}(fl:qfJ d=true)(h:OwnO K H S p d):OwnO K H S' p d:=by
 cases h with
 | lst h t=>exact .lst h (t.flat fl)
 | dct h k t=>cases fl
theorem zb:PDSs X G M L M Mb fr [] sN:=qd6.weak fun D σ H ⟨S,ρ,o,hs,e,q⟩=>by cases e;exact q σ H S hs
theorem qi (h1:PDS X G M L M1 Mb fr s1 u)(h2:PDSs X G M1 L M2 Mb fr ss w):PDSs X G M L M2 Mb fr (s1::ss) (seqO u w) :=
 (qco h1 h2).weak fun D σ H ⟨S,ρ,o,hs,e,q⟩=>by
  obtain ⟨o1,e1,e⟩:=qd e
  refine ⟨S,ρ,o1,hs,e1,?_⟩
  cases o1 with
  | nx ρ'=>exact fun σ' H' S' hs'=>⟨S',ρ',o,hs',e,q⟩
  | rt d=>cases e;exact q
  | bk d=>cases e;exact q
  | ct d=>cases e;exact q
theorem ql (h1:PDS X G M L M' Mb fr s1 u):PDSs X G M L M' Mb fr [s1] u:=qd7 h1
noncomputable def subB (A B:List Nat):Bool:=A.all fun i=>B.contains i&&(!(B.contains (i+1000))||A.contains (i+1000))
theorem qgW (h:subB A B=true):∀ i∈A,i∈B:=fun i hi=>by
 have:=KW.mp h i hi
 rw [Kp] at this
 simpa using this.1
theorem qiR (h:subB A B=true):SubM A B:=⟨qgW h,fun i hi hk=>by
 have:=KW.mp h i hi
 rw [Kp,NQ] at this
 rcases this.2 with z|z
 ·rw [Nu,← Bool.not_eq_true] at z
  exact absurd (by simpa using hk) z
 ·simpa using z⟩
theorem qe3 (h:PDS X G M1 L M' Mb fr s1 u)(h1:subB M1 M=true:=by decide)(h2:subB L M1=true:=by decide):PDS X G M L M' Mb fr s1 u :=
 h.weak fun D σ H ⟨S,ρ,o,hs,e,q⟩=>let ⟨S',hs'⟩:=hs.frz (qiR h1) fun i hi _=>qgW h2 i hi;⟨S',ρ,o,hs',e,q⟩
theorem qF (h:PD X [] a f):PDS X G M L M' Mb .pl (.Return (some a) pos) (sRet f) :=
 (qgG h).weak fun D σ H ⟨S,ρ,o,hs,e,q⟩=>by
  obtain ⟨d,e1,e⟩:=qd e
  cases e
  exact ⟨G.S0,ρ,d,hs.den,e1,fun v H' g1 d1=>q v H' (hs.h0.trans g1) d1⟩
theorem JH (i:Nat)(hv:Vis X.env.scope x)(hN:X.N[i]?=some x:=by rfl)(hd:(x==("__debug__" : Str))=false:=by decide +kernel)
  (hcd:(x==("__classdict__" : Str))=false:=by decide +kernel):PE X (.Name x pos) (fun σ H Q=>∃ v,σ[i]?=some (some v)/\Q v H):=Yl hN hv hd hcd
theorem Qo  (e:vr i ρ=some d):ρ[i]?=some (some d):=by
 have e:(ρ[i]?).join=some d:=e
 cases h:ρ[i]? with
 | none=>rw [h] at e;cases e
 | some o=>rw [h] at e;exact congrArg some e
theorem qgt (i:Nat){px:Pos}(hv:Vis X.env.scope x)(hM:Flt M i)(hL:i∉L)(hN:X.N[i]?=some x:=by rfl)(hd:(x==("__debug__" : Str))=false:=by decide +kernel)
  (hcd:(x==("__classdict__" : Str))=false:=by decide +kernel):PDS X G M L M' Mb .nw (.Return (some (.Name x px)) pos) (sRet (vr i)) :=
 (qgG (JH i hv hN hd hcd)).weak fun D σ H ⟨S,ρ,o,hs,e,q⟩=>by
  obtain ⟨d,e1,e⟩:=qd e
  cases e
  obtain ⟨p,a,b,c,n,w,_⟩:=hs.own i hM d (Qo e1)
  exact ⟨_,a,q p H hs.h0 (w hL) n (b.sub fun a _ z=>z.elim (fun y=>hs.s0 a y) fun y=>by rw [y];exact c)⟩
theorem zx (hc:PDT X [] c p)(h1:PDSs X G M L M' Mb fr st1 u)(h2:PDSs X G M L M' Mb fr st2 w):PDS X G M L M' Mb fr (.If c st1 st2 pos) (sIf p u w) :=
 (qjf hc h1 h2).weak fun D σ H ⟨S,ρ,o,hs,e,q⟩=>by
  obtain ⟨d,e1,e⟩:=qd e
  refine ⟨G.S0,ρ,d,hs.den,e1,fun H1 g1=>?_⟩
  cases d with
  | true=>exact iteT ⟨S,ρ,o,hs.same g1,e,q⟩
  | false=>exact iteF ⟨S,ρ,o,hs.same g1,e,q⟩
noncomputable def tDG (K:Kd)(G:Gm)(M L:List Nat)(g:Ka->Rho->Option Rho):TG:=fun v σ H Q=>∃ S ρ d ρ',OwnS K G M L H S σ ρ/\Den K H S v d/\g d ρ=some ρ'/\∀ σ' H',Same H H'->OwnS K G M L H' S σ' ρ'->Q σ' H'
noncomputable def tDGs (K:Kd)(G:Gm)(M L:List Nat)(g:List Ka->Rho->Option Rho):TGs:=fun vs σ H Q=>∃ S ρ ds ρ',OwnS K G M L H S σ ρ/\DenL K H S vs ds/\g ds ρ=some ρ'/\∀ σ' H',Same H H'->OwnS K G M L H' S σ' ρ'->Q σ' H'
def PDG (X:Cx)(G:Gm)(M L:List Nat)(t:Ky)(g:Ka->Rho->Option Rho):Prop:=PG X t (tDG X.K G M L g)
def PDGs (X:Cx)(G:Gm)(M L:List Nat)(t:List Ky)(g:List Ka->Rho->Option Rho):Prop:=PGs X t (tDGs X.K G M L g)
theorem qgp (i:Nat)(hN:X.N.Nodup)(hx:Loc X.env.scope x)(hM:i∉M)(hi:X.N[i]?=some x:=by rfl)(hf:X.fn x=true\/X.env.scope.names.lookup x=some .local:=by first|exact .inl rfl|exact .inr rfl|assumption):PDG X G M L (.Name x pos) (gNm i) :=
 (qd3 hN hi hx hf).weak fun v σ H Q ⟨S,ρ,d,ρ',hs,hd,e,q⟩=>by
  cases e
  exact q _ H (Same.refl H) (hs.set hd hM)
theorem QQ:PDGs X G M L [] gsN :=
 qd4.weak fun v σ H Q ⟨S,ρ,d,ρ',hs,hd,e,q⟩=>by
  cases hd with
  | nil=>cases e;exact ⟨rfl,q _ H (Same.refl H) hs⟩
  | cons a t=>cases e
theorem qT  (h1:PDG X G M L t g1) (h2:PDGs X G M L ts g2) (hs:(assignEach (t::ts) X.env).map (·.2)=assign t X.env::(assignEach ts X.env).map (·.2):=by rfl) :
  PDGs X G M L (t::ts) (gsC g1 g2) :=
 (qcl h1 h2 hs).weak fun v σ H Q ⟨S,ρ,d,ρ',hs,hd,e,q⟩=>by
  cases hd with
  | nil=>cases e
  | cons a t =>
   obtain ⟨ρ1,e1,e⟩:=qd e
   exact ⟨_,_,rfl,S,ρ,_,ρ1,hs,a,e1,fun σ' H' g1 hs'=>⟨S,ρ1,_,ρ',hs',t.same g1,e,fun σ2 H2 g2 hs2=>q σ2 H2 (g1.trans g2) hs2⟩⟩
theorem Zr {ts:List Ky}{k:Nat}{n:Nat}{g:List Ka->Rho->Option Rho}(hc:X.calm=true)(h:PDGs X G M L ts g)(hn:(assignEach ts X.env).length=n:=by rfl)(hst:(assignEach ts X.env).findIdx? (·.1)=none:=by rfl):PDG X G M L (.Tuple ts k pos) (unpD n g) :=
 (qgA hc h hn hst).weak fun v σ H Q ⟨S,ρ,d,ρ',hs,hd,e,q⟩=>by
  cases hd with
  | @tuple a xs ds h t =>
   have e:(if ds.length=n then g ds ρ else none)=some ρ':=e
   split at e
   ·rename_i hl
    exact ⟨_,_,rfl,h,by rw [t.length];exact hl,S,ρ,_,ρ',hs,t,e,q⟩
   ·cases e
  | _=>cases e
theorem qbi {tg:Ky}{g:Ka->Rho->Option Rho}(he:PD X M a f)(hg:PDG X G M L tg g)(hs:swapsWithSole [tg] a pos.line X.env=pure false:=by rfl)(hw:swappedStores [tg] a X.env=pure none:=by rfl)
  (h1:(assignEach [tg] X.env).map (·.2)=[assign tg X.env]:=by rfl):PDS X G M L M Mb fr (.Assign [tg] a pos) (sAsg f g) :=
 (qgE he hg hs hw h1).weak fun D σ H ⟨S,ρ,o,hs,e,q⟩=>by
  obtain ⟨d,e1,e⟩:=qd e
  obtain ⟨ρ',e2,e⟩:=qd e
  cases e
  exact ⟨S,ρ,d,hs.ds,e1,fun v H1 g1 d1=>⟨S,ρ,d,ρ',hs.same g1,d1,e2,fun σ2 H2 g2 hs2=>q σ2 H2 S hs2⟩⟩
theorem qL (i:Nat)(hN:X.N.Nodup)(hx:Loc X.env.scope x)(hi:X.N[i]?=some x)(hs:swapsWith a (some (.Name x p')) pos.line X.env=pure false)(hf:X.fn x=true\/X.env.scope.names.lookup x=some .local)(hM:i∉M)(he:PD X M a f) :
  PDS X G M L M Mb fr (.Assign [.Name x p'] a pos) (sSet i f) :=
 (Wm hN hi hx he hs hf).weak fun D σ H ⟨S,ρ,o,hs,e,q⟩=>by
  obtain ⟨d,e1,e⟩:=qd e
  cases e
  exact ⟨S,ρ,d,hs.ds,e1,fun v H1 g1 d1=>q _ H1 S ((hs.same g1).set d1 hM)⟩
theorem qch (i:Nat)(hN:X.N.Nodup)(hx:Loc X.env.scope x)(hi:X.N[i]?=some x)(hs:swapsWith a (some (.Name x p')) pos.line X.env=pure false)(hf:X.fn x=true\/X.env.scope.names.lookup x=some .local)(hM:i∉M)(he:PD X [] a f) :
  PDS X G M L M Mb fr (.Assign [.Name x p'] a pos) (sSet i (qbK f)) :=
 (Wm hN hi hx he hs hf).weak fun D σ H ⟨S,ρ,o,hs,e,q⟩=>by
  obtain ⟨d,e1,e⟩:=qd e
  cases e
  obtain ⟨d',e3,e4⟩:=qd e1
  split at e4
  ·rename_i hf
   cases e4
   exact ⟨G.S0,ρ,d,hs.den,e3,fun v H1 g1 d1=>q _ H1 S ((hs.same g1).set (d1.flat hf) hM)⟩
  ·cases e4
noncomputable def Zk (i:Nat)(f:Rho->Option Ka):Rho->Option Out:=fun ρ=>if i<ρ.length then ob (f ρ) fun d=>some (.nx (ρ.set i (some d))) else none
theorem Zj (i:Nat)(hN:X.N.Nodup)(hx:Loc X.env.scope x)(hi:X.N[i]?=some x)(hs:swapsWith a (some (.Name x p')) pos.line X.env=pure false)(hf:X.fn x=true\/X.env.scope.names.lookup x=some .local)(hM:Out0 M i)(hL:i∉L)(he:PF X M a f) :
  PDS X G M L (i::M) Mb fr (.Assign [.Name x p'] a pos) (Zk i f) :=
 (Wm hN hi hx he hs hf).weak fun D σ H ⟨S,ρ,o,hs,e,q⟩=>by
  unfold Zk at e
  split at e
  ·rename_i hz
   obtain ⟨d,e1,e⟩:=qd e
   cases e
   exact ⟨S,ρ,d,hs.ds,e1,fun p H1 g1 n o=>q _ H1 _ (hs.take n g1 o hM hL hz)⟩
  ·cases e
noncomputable def forD (g:Ka->Rho->Option Rho)(body:Rho->Option Out):List Ka->Rho->Option Out
 | [],ρ=>some (.nx ρ)
 | d::ds,ρ=>ob (g d ρ) fun ρ1=>ob (body ρ1) fun o=>match o with
  | .nx ρ'=>forD g body ds ρ'
  | .ct ρ'=>forD g body ds ρ'
  | .bk ρ'=>some (.nx ρ')
  | .rt r=>some (.rt r)
noncomputable def sFor (fi:Rho->Option (List Ka))(g:Ka->Rho->Option Rho)(u:Rho->Option Out):Rho->Option Out:=fun ρ=>ob (fi ρ) fun ds=>forD g u ds ρ
theorem OutQ.based {K:Kd}{G':Gm}{D:Ends}{o:Out}(s:Same G.H0 G'.H0)(e:G'.S0=G.S0)(e':G'.lk=G.lk)(q:OutQ K G M' Mb L fr D o):OutQ K G' M' Mb L fr D o:=by
 cases o with
 | nx ρ=>exact fun σ' H' S' hs=>q σ' H' S' (hs.unbase s e e')
 | rt d =>
  cases fr with
  | nw=>exact fun p H' h0 n n' o=>q p H' (s.trans h0) (s.free n) (by rw [← e];exact n') (by rw [← e];exact o)
  | dp=>exact fun p fp H' h0 n o=>q p fp H' (s.trans h0) (fun r hr=>⟨s.free (n r hr).1,by rw [← e];exact (n r hr).2⟩) (by rw [← e];exact o)
  | pl=>exact fun v H' h0 d=>q v H' (s.trans h0) (by rw [← e];exact d)
 | bk ρ=>exact fun σ' H' S' hs=>q σ' H' S' (hs.unbase s e e')
 | ct ρ=>exact fun σ' H' S' hs=>q σ' H' S' (hs.unbase s e e')
theorem Z3 {tg iter:Ky}{body:List KM}{fi:Rho->Option (List Ka)}{g:Ka->Rho->Option Rho}(hp:PassesOwn (model X.prog X.w) X.A X.env X.xe)(hc:X.calm=true)(hi:PDI X M tg iter fi)(hg:∀ G,PDG X G M L tg g)(hb:∀ G,PDSs X G M L M M fr body u)
  (hs:∀ x,foldedSetIterable iter X.env x=pure x:=by intro _;rfl):PDS X G M L M Mb fr (.For tg iter body [] pos) (sFor fi g u):=by
 have hg':PG X tg (fun v σ H Q=>∃ G,tDG X.K G M L g v σ H Q):=fun pins s σ H v u Q I r ⟨G,q⟩=>hg G pins s σ H v u Q I r q
 have hb':PSs X body (fun D σ H=>∃ G,tDS X.K G M L M M fr u D σ H):=fun pins s σ H D I ⟨G,q⟩=>hb G pins s σ H D I q
 refine (qgF hp hc hi hg' hb' hs).weak fun D σ H ⟨S,ρ,o,os,e,q⟩=>?_
 obtain ⟨ds,e1,e⟩:=qd e
 refine ⟨S,ρ,ds,os.ds,e1,fun J H1 g1 hJ0=>?_⟩
 have os1:=os.same g1
 have hJ:IsIt X.K S J ((G.base S H1).H0) ds:=hJ0 _ qbC
 have bs:Same G.H0 (G.base S H1).H0:=W5 os1.h0
 have bo:=os1.base
 have sl:=os1.lks
 generalize hG:G.base S H1=G1 at hJ bs bo
 have eS:G1.S0=G.S0:=by rw [← hG];rfl
 have eL:G1.lk=G.lk:=by rw [← hG];rfl
 have sl1:∀ i∈L,S (G1.lk i).1:=by rw [eL];exact sl
 have s01:∀ a,G1.S0 a->S a:=by rw [eS];exact os.s0
 refine ⟨fun i m σ' H'=>m=ds.length-i/\i<=ds.length/\∃ S' ρ o,OwnS X.K G1 M L H' S' σ' ρ/\forD g u (ds.drop i) ρ=some o/\OutQ X.K G M Mb L fr D o,⟨ds.length,by simp,Vv _,S,ρ,o,bo,e,q⟩,?_⟩
 rintro i m σ' H' ⟨rfl,hi,S',ρ',o',hs',e',q'⟩
 by_cases hlt:i<ds.length
 ·rw [VF hlt] at e'
  obtain ⟨ρ1,e2,e'⟩:=qd e'
  obtain ⟨o1,e3,e'⟩:=qd e'
  have key:∀ N:St->Hp->Prop,OutQ X.K G1 M M L fr { D with nx:=N,ct:=N,bk:=D.nx } o1->∀ x H2,J.yld i H' x H2->∃ G,tDG X.K G M L g x σ' H2 fun σ2 H2=>∃ G,tDS X.K G M L M M fr u { D with nx:=N,ct:=N,bk:=D.nx } σ2 H2:=fun N hN x H2 y=>by
   obtain ⟨e4,yd⟩:=hJ.yld i H' x H2 hs'.h0 y
   exact ⟨G1,S',ρ',_,ρ1,hs'.same e4,yd _ (Kn hlt) S' fun y e q=>(hs'.turn s01 sl1 q).same e4,e2,fun σ2 H3 g3 hs3=>⟨G1,S',ρ1,o1,hs3,e3,hN⟩⟩
  refine .inr ⟨hJ.go i H' hs'.h0 hlt,?_⟩
  have next:∀ ρ2,forD g u (ds.drop (i+1)) ρ2=some o'->∃ N:St->Hp->Prop,(∀ σ' H'',N σ' H''->∃ m',m'<ds.length-i/\(m'=ds.length-(i+1)/\i+1<=ds.length/\∃ S' ρ o,OwnS X.K G1 M L H'' S' σ' ρ/\forD g u (ds.drop (i+1)) ρ=some o/\OutQ X.K G M Mb L fr D o))/\∀ σ2 H2 S2,OwnS X.K G1 M L H2 S2 σ2 ρ2->N σ2 H2:=fun ρ2 e4 =>
   ⟨fun σ2 H2=>∃ S2,OwnS X.K G1 M L H2 S2 σ2 ρ2,fun σ2 H2 ⟨S2,hs3⟩=>⟨ds.length-(i+1),by omega,rfl,hlt,S2,ρ2,o',hs3,e4,q'⟩,fun σ2 H2 S2 hs3=>⟨S2,hs3⟩⟩
  cases o1 with
  | nx ρ2 =>
   obtain ⟨N,n1,n2⟩:=next ρ2 e'
   exact ⟨N,n1,key N fun σ3 H3 S3 hs3=>n2 σ3 H3 S3 hs3⟩
  | ct ρ2 =>
   obtain ⟨N,n1,n2⟩:=next ρ2 e'
   exact ⟨N,n1,key N fun σ3 H3 S3 hs3=>n2 σ3 H3 S3 hs3⟩
  | bk ρ2 =>
   cases e'
   exact ⟨fun _ _=>False,fun _ _ z=>z.elim,key _ fun σ3 H3 S3 hs3=>q' σ3 H3 S3 (hs3.unbase bs eS eL)⟩
  | rt r =>
   cases e'
   refine ⟨fun _ _=>False,fun _ _ z=>z.elim,key _ ?_⟩
   have q2:OutQ X.K G1 M Mb L fr D (.rt r):=q'.based bs eS eL
   exact q2
 ·have hi':i=ds.length:=by omega
  subst hi'
  rw [ND] at e'
  cases e'
  exact .inl ⟨hJ.stop H' hs'.h0,q' σ' H' S' (hs'.unbase bs eS eL)⟩
end
noncomputable def outD:Out->Option Ka
 | .rt d=>some d
 | .nx _=>some .none
 | _=>none
noncomputable def outF:Out->Option Ka
 | .rt d=>some d
 | _=>none
noncomputable def rho0 (n:Nat)(ds:List Ka):Rho:=ds.map some++Vg (n-ds.length) none
noncomputable def G0 (H:Hp)(S:Av):Gm:=⟨H,S,fun _=>(0,.none)⟩
theorem OwnS.start {K:Kd}{H:Hp}{S:Av}{vs:List V}{ds:List Ka}(m:Dm S H)(h:DenL K H S vs ds)(N:List Str):OwnS K (G0 H S) [] [] H S (start N vs) (rho0 N.length ds) :=
 ⟨DenS.start m h N,fun _ z=>z,Same.refl _,(fun _ h=>nomatch h.1),(fun _ h=>nomatch h.1),fun _ z=>.inl z,(fun _ h=>nomatch h),fun _=>[],(fun _ h=>nomatch h.1),(fun _ h=>nomatch h.1),(fun _ h=>nomatch h.1)⟩
noncomputable def spN (K:Kd)(n:Nat)(f:List Ka->Option Ka):Sp:=fun vs H Q _=>∃ S ds d,Dm S H/\DenL K H S vs ds/\ds.length=n/\f ds=some d/\∀ p H',Same H H'->H p=none->OwnO K H' (insA S p) p d->Q (.ref p) H'
structure FunG (K:Kd)(x qual:Str)(st:KM)(f:Kf)(fd:K7):Prop where
 ex:∃ (oc dV:Ke) (od:Option Kf) (kV doc pm:Ke) (an:Option Kf) (cdv ct:Ke) (osl:Array (Option Ke)),
  fd=Uv x qual (Q5 st) (zp st) (qe st) dV kV doc pm an cdv ct/\K.lookup f=some ⟨oc,od,.func fd,osl⟩/\Xa K cdv qual=true
 kp:Vf K (.ref f)=true
theorem Fun.g {K:Kd}{x qual:Str}{st:KM}{f:Kf}{fd:K7}(F:Fun K x qual st f fd):FunG K x qual st f fd:=by
 obtain ⟨oc,od,kV,doc,pm,an,cdv,ct,osl,e,lk,hcd⟩:=F.ex
 exact ⟨⟨oc,_,od,kV,doc,pm,an,cdv,ct,osl,e,lk,hcd⟩,F.kp⟩
section
variable {P:Ku}{w:KI}{K:Kd}{mg:Str->Option Ke}{base:KC}
theorem FunG.ok {x qual:Str}{st:KM}{f:Kf}{fd:K7}{N ps:List Str}{k:Nat}{sp:Sp}(F:FunG K x qual st f fd)(S:FnScope N ps (qe st))(len:∀ vs H Q E,sp vs H Q E->vs.length=ps.length)
  (hbody:∀ (cdv:Ke) (A:KF) (outer:List Env) (s:Kg) (H:Hp) (vs:List V) (Q:VK) (E:XK),Room k (A.deeper (envOfC qual (qe st) s.heap.objs.size f cdv))->sp vs H Q E->
   ∃ t,PSs (cxOf CX0 P w K mg base N qual (qe st) f cdv A outer s H E).nox (zp st) t/\t { nx:=fun _ H'=>Q .non H',rt:=Q } (start N vs) H):FnOk P w K mg base CX0 (k+1) f fd ps sp:=by
 obtain ⟨oc,dV,od,kV,doc,pm,an,cdv,ct,osl,rfl,lk,hcd⟩:=F.ex
 refine qfM lk hcd S len fun A outer s H vs Q E hr hsp=>?_
 obtain ⟨t,h,q⟩:=hbody cdv A outer s H vs Q E hr hsp
 exact ⟨t,h.nox,q⟩
theorem FunG.pure {x qual:Str}{st:KM}{f:Kf}{fd:K7}{N ps:List Str}{k n:Nat}{u:Rho->Option Out}{M':List Nat}(F:FunG K x qual st f fd)(S:FnScope N ps (qe st))(hn:ps.length=n)
  (hbody:∀ (cdv:Ke) (A:KF) (outer:List Env) (s:Kg) (H:Hp) (E:XK),Room k (A.deeper (envOfC qual (qe st) s.heap.objs.size f cdv))->∀ G:Gm,
   PDSs (cxOf CX0 P w K mg base N qual (qe st) f cdv A outer s H E).nox G [] [] M' [] .pl (zp st) u) :
  FnOk P w K mg base CX0 (k+1) f fd ps (spF K n fun ds=>ob (u (rho0 N.length ds)) outD):=by
 refine F.ok S (fun vs H Q E h=>?_) (fun cdv A outer s H vs Q E hr h=>?_)
 ·obtain ⟨_,ds,d,_,h1,h2,_⟩:=h
  rw [h1.length,h2,hn]
 ·obtain ⟨Sv,ds,d,m,h1,h2,e,q⟩:=h
  obtain ⟨o,e1,e⟩:=qd e
  refine ⟨_,hbody cdv A outer s H E hr (G0 H Sv),Sv,rho0 N.length ds,o,OwnS.start m h1 N,e1,?_⟩
  cases o with
  | rt r=>cases e;exact q
  | nx ρ=>cases e;exact fun σ' H' S' hs=>q _ H' hs.h0 .none
  | bk ρ=>cases e
  | ct ρ=>cases e
theorem Fun.pure {x qual:Str}{st:KM}{f:Kf}{fd:K7}{N ps:List Str}{k n:Nat}{u:Rho->Option Out}{M':List Nat}(F:Fun K x qual st f fd)(S:FnScope N ps (qe st))(hn:ps.length=n)
  (hbody:∀ (cdv:Ke) (A:KF) (outer:List Env) (s:Kg) (H:Hp) (E:XK),Room k (A.deeper (envOfC qual (qe st) s.heap.objs.size f cdv))->∀ G:Gm,
   PDSs (cxOf CX0 P w K mg base N qual (qe st) f cdv A outer s H E).nox G [] [] M' [] .pl (zp st) u) :
  FnOk P w K mg base CX0 (k+1) f fd ps (spF K n fun ds=>ob (u (rho0 N.length ds)) outD) :=
 F.g.pure S hn hbody
theorem FunG.new {x qual:Str}{st:KM}{f:Kf}{fd:K7}{N ps:List Str}{k n:Nat}{u:Rho->Option Out}{M':List Nat}(F:FunG K x qual st f fd)(S:FnScope N ps (qe st))(hn:ps.length=n)
  (hbody:∀ (cdv:Ke) (A:KF) (outer:List Env) (s:Kg) (H:Hp) (E:XK),Room k (A.deeper (envOfC qual (qe st) s.heap.objs.size f cdv))->∀ G:Gm,
   PDSs (cxOf CX0 P w K mg base N qual (qe st) f cdv A outer s H E).nox G [] [] M' [] .nw (zp st) u) :
  FnOk P w K mg base CX0 (k+1) f fd ps (spN K n fun ds=>ob (u (rho0 N.length ds)) outF):=by
 refine F.ok S (fun vs H Q E h=>?_) (fun cdv A outer s H vs Q E hr h=>?_)
 ·obtain ⟨_,ds,d,_,h1,h2,_⟩:=h
  rw [h1.length,h2,hn]
 ·obtain ⟨Sv,ds,d,m,h1,h2,e,q⟩:=h
  obtain ⟨o,e1,e⟩:=qd e
  refine ⟨_,hbody cdv A outer s H E hr (G0 H Sv),Sv,rho0 N.length ds,o,OwnS.start m h1 N,e1,?_⟩
  cases o with
  | rt r=>cases e;exact fun p H' g n _ o=>q p H' g n o
  | nx ρ=>cases e
  | bk ρ=>cases e
  | ct ρ=>cases e
theorem Fun.new {x qual:Str}{st:KM}{f:Kf}{fd:K7}{N ps:List Str}{k n:Nat}{u:Rho->Option Out}{M':List Nat}(F:Fun K x qual st f fd)(S:FnScope N ps (qe st))(hn:ps.length=n)
  (hbody:∀ (cdv:Ke) (A:KF) (outer:List Env) (s:Kg) (H:Hp) (E:XK),Room k (A.deeper (envOfC qual (qe st) s.heap.objs.size f cdv))->∀ G:Gm,
   PDSs (cxOf CX0 P w K mg base N qual (qe st) f cdv A outer s H E).nox G [] [] M' [] .nw (zp st) u) :
  FnOk P w K mg base CX0 (k+1) f fd ps (spN K n fun ds=>ob (u (rho0 N.length ds)) outF) :=
 F.g.new S hn hbody
structure Known (P:Ku)(w:KI)(K:Kd)(mg:Str->Option Ke)(base:KC)(x:Str)(n k:Nat)(h:List Ka->Option Ka):Prop where
 ex:∃ (f:Kf) (fd:K7) (ps:List Str),FnOk P w K mg base CX0 k f fd ps (spF K n h)/\mg x=some (.ref f)/\Vf K (.ref f)=true/\Binds K fd ps []
structure KnownN (P:Ku)(w:KI)(K:Kd)(mg:Str->Option Ke)(base:KC)(x:Str)(n k:Nat)(h:List Ka->Option Ka):Prop where
 ex:∃ (f:Kf) (fd:K7) (ps:List Str),FnOk P w K mg base CX0 k f fd ps (spN K n h)/\mg x=some (.ref f)/\Vf K (.ref f)=true/\Binds K fd ps []
end
section
variable {X:Cx}{G:Gm}{M M' Mb L:List Nat}{fr:Fr}{a b c:Ky}{es:List Ky}{f g:Rho->Option Ka}{p:Rho->Option Bool}{pos:Pos}{u:Rho->Option Out}
theorem qj {p:Pos}  (F:Known X.prog X.w X.K X.mg X.base x n k h) (hr:Room k' X.A) (hk:k<=k') (hg:Gl X x) (ha:PDA X M (a::es) fs) (hl:(a::es).length=n)
  (hdb:(x==("__debug__" : Str))=false:=by decide +kernel) (he:starEach (a::es) X.env=(false,eval a X.env)::starEach es X.env:=by rfl) (hpl:(backTo pos (starEach es X.env)).any (·.1)=false:=by rfl) :
  PD X M (.Call (.Name x p) (a::es) [] pos) (evC n fs h):=by
 obtain ⟨f,fd,ps,F,m,kp,b⟩:=F.ex
 exact qin F (hr.mono hk) hg m kp b qdU ha hl hdb he hpl
theorem qgz {p:Pos}  (F:KnownN X.prog X.w X.K X.mg X.base x n k h) (hr:Room k' X.A) (hk:k<=k') (hg:Gl X x) (ha:PDA X M (a::es) fs) (hl:(a::es).length=n)
  (hdb:(x==("__debug__" : Str))=false:=by decide +kernel) (he:starEach (a::es) X.env=(false,eval a X.env)::starEach es X.env:=by rfl) (hpl:(backTo pos (starEach es X.env)).any (·.1)=false:=by rfl) :
  PF X M (.Call (.Name x p) (a::es) [] pos) (evC n fs h):=by
 obtain ⟨f,fd,ps,F,m,kp,b⟩:=F.ex
 refine (qbk F (hr.mono hk) hg m kp b .nil qdU ha hdb he hpl).weak fun σ H Q ⟨S,ρ,d,hs,e,q⟩=>?_
 obtain ⟨ds,e1,e⟩:=qd e
 have e:(if ds.length=n then h ds else none)=some d:=e
 split at e
 ·rename_i hn
  exact ⟨S,ρ,ds,hs,e1,fun vs H1 g1 d1=>⟨S,ds,d,hs.1.same g1,by rw [Vd];exact d1,hn,e,fun p H' g2 n o=>q p H' (g1.trans g2) (g1.free n) o⟩⟩
 ·cases e
theorem OwnO.laid {K:Kd}{H:Hp}{S:Av}{p:Kf}{vs:List V}{ds:List Ka}(n:H p=none)(t:DenL K H S vs ds):OwnO K (L2.upd H p (.lst vs)) (insA S p) p (.list ds) :=
 .lst qH ((t.sub fun a ha z=>z.elim id fun y=>absurd (by rw [y];exact n) ha).same (Same.lay n))
theorem JK (h:PDA X M es fs):PF X M (.List es pos) (evA fs lstD) :=
 (qgv h).weak fun σ H Q ⟨S,ρ,d,hs,e,q⟩=>by
  obtain ⟨xs,e1,e⟩:=qd e
  obtain ⟨hz,rfl⟩:=qao e
  exact ⟨S,ρ,xs,hs,e1,fun vs H1 g1 d1=>⟨VI (zj (by rw [d1.length];exact hz)),fun p hp=>q _ _ (g1.lay' hp) (g1.free hp) (OwnO.laid hp d1)⟩⟩
def qi1 (X:Cx)(f:Ke)(g:List Ka->Option Ka):Prop:=Zb X f (fun vs H Q=>∃ S ds d,Dm S H/\DenL X.K H S vs ds/\g ds=some d/\∀ p H',Same H H'->H p=none->OwnO X.K H' (insA S p) p d->Q (.ref p) H')
theorem Wl {id:String}{x:Str}{p:Pos}{h:List Ka->Option Ka}{fs:Rho->Option (List Ka)}(hc:qi1 X (.builtin id) h)(hg:Gl X x)(hm:X.mg x=none)(hv:bootBuiltins x=some (.builtin id))(ha:PDA X M (a::es) fs)(hn:x ≠ "__name__" := by decide +kernel)(hdb:(x==("__debug__" : Str))=false:=by decide +kernel)
  (he:starEach (a::es) X.env=(false,eval a X.env)::starEach es X.env:=by rfl) (hpl:(backTo pos (starEach es X.env)).any (·.1)=false:=by rfl):PF X M (.Call (.Name x p) (a::es) [] pos) (evA fs h) :=
 (yx hc hg hm hv ha hn hdb he hpl).weak fun σ H Q ⟨S,ρ,d,hs,e,q⟩=>by
  obtain ⟨ds,e1,e⟩:=qd e
  exact ⟨S,ρ,ds,hs,e1,fun vs H1 g1 d1=>⟨S,ds,d,hs.1.same g1,d1,e,fun p H' g2 n o=>q p H' (g1.trans g2) (g1.free n) o⟩⟩
noncomputable def appD:Ka->Ka->Option Ka
 | .list ds,d=>if ds.length<1000 then some (.list (ds++[d])) else none
 | _,_=>none
noncomputable def sApp (i:Nat)(f:Rho->Option Ka):Rho->Option Out:=fun ρ=>ob (vr i ρ) fun l=>ob (f ρ) fun d=>ob (appD l d) fun l'=>some (.nx (ρ.set i (some l')))
theorem yP (e:appD l d=some l'):∃ ds,l=.list ds/\ds.length<1000/\l'=.list (ds++[d]):=by
 unfold appD at e
 split at e
 ·split at e
  ·rename_i hz;cases e;exact ⟨_,rfl,hz,rfl⟩
  ·cases e
 ·cases e
theorem Off.upd {S:Av}{H:Hp}{p:Kf}{o:HO}(c:S p):Off S H (L2.upd H p o):=fun b u z e=>by
 rw [qC (fun y=>z (by rw [y];exact c))];exact e
theorem yr (i:Nat){px apos cpos:Pos}(hv:Vis X.env.scope x)(hM:Flt M i)(hL:i∉L)(he:PD X M a f)(hN:X.N[i]?=some x:=by rfl)(hd:(x==("__debug__" : Str))=false:=by decide +kernel)(hcd:(x==("__classdict__" : Str))=false:=by decide +kernel)
  (hbase:attributeBase (.Name x px) "append" X.env (eval (.Name x px) X.env)=eval (.Name x px) X.env:=by rfl)
  (hfew:((backTo cpos (starEach [a] X.env)).all (fun x=>!x.1)&&(backToKw cpos (keywordEach [] X.env)).all (fun x=>x.1.isSome)
   && decide ([a].length+([]:List Xu).length+(if ([]:List Xu).isEmpty then 0 else 1)<30))=true:=by rfl)
  (hline:(apos.endLine==cpos.line)=true:=by rfl) (hs:starEach [a] X.env=(false,eval a X.env)::starEach [] X.env:=by rfl) (hplain:(backTo cpos (starEach [] X.env)).any (·.1)=false:=by rfl)
  (hsw:swapsWith (.Call (.Attribute (.Name x px) "append" apos) [a] [] cpos) none pos.line X.env=pure false:=by rfl) :
  PDS X G M L M Mb fr (.Expr (.Call (.Attribute (.Name x px) "append" apos) [a] [] cpos) pos) (sApp i f) :=
 (yz (qay U5 XC Nj Yi (JH i hv hN hd hcd) (qG he zu hs) hbase hfew hline hs hplain) hsw).weak fun D σ H ⟨S,ρ,o,os,e,q⟩=>by
  obtain ⟨l,e1,e⟩:=qd e
  obtain ⟨d,e2,e⟩:=qd e
  obtain ⟨l',e3,e⟩:=qd e
  cases e
  obtain ⟨ds,rfl,hz,rfl⟩:=yP e3
  obtain ⟨pp,a1,b1,c1,n1,w1,_⟩:=os.own i hM _ (Qo e1)
  cases b1 with
  | @lst xs _ h t =>
   refine ⟨_,a1,.inl ⟨rfl,_,SqL.of h⟩,S,ρ,[d],os.ds,by show ob (f ρ) _=_;rw [e2];rfl,fun vs H2 g2 dl=>?_⟩
   obtain ⟨v,rfl,dv⟩:=dl.inv1
   have os2:=os.same g2
   refine ⟨pp,xs,v,rfl,rfl,g2 _ _ h,KP (by rw [t.length];exact hz) (VI (zj (Kr _))),?_⟩
   exact q _ _ _ (os2.write hM hL (Qo e1) a1 rfl (.lst qH (((t.same g2).snoc dv).off os2.ds.1 (Off.upd c1))))
noncomputable def isNone:Ka->Bool
 | .none=>true
 | _=>false
noncomputable def isD:Ka->Ka->Option Ka
 | x,.none=>some (.bool (isNone x))
 | .bool b,.bool c=>some (.bool (b==c))
 | _,_=>none
theorem qcK {K:Kd}{H:Hp}{S:Av}{v:V}{d:Ka}(h:Den K H S v d):decide (v=.non)=isNone d:=by cases h<;>rfl
theorem d_is:OpD X (compareOp .Is) isD:=by
 intro pins s σ H x y v u Q I rx ry ⟨S,dx,dy,d,m,h1,h2,e,q⟩
 unfold isD at e
 split at e
 ·cases e;cases h2
  exact qkd pins s σ H x _ v u Q I rx ry ⟨rfl,by rw [qcK h1];exact q _ H (Same.refl H) (.bool _)⟩
 ·cases e;cases h1;cases h2
  cases (show v=K8 _ from rx);cases (show u=K8 _ from ry)
  exact is_bool (ju I (q _ H (Same.refl H) (.bool _)) rfl)
 ·cases e
end
section
variable {X:Cx}{G:Gm}{M M' Mb L:List Nat}{fr:Fr}{a b c:Ky}{es:List Ky}{f g:Rho->Option Ka}{p:Rho->Option Bool}{pos:Pos}{u:Rho->Option Out}
noncomputable def intD:Ka->Option Int
 | .int i=>some i
 | _=>none
def PDO (X:Cx)(M:List Nat)(e:Option Ky)(f:Rho->Option (Option Int)):Prop:=PO X e (fun σ H Q=>∃ S ρ i,DenS X.K H S M σ ρ/\f ρ=some i/\∀ H',Same H H'->Q i H')
noncomputable def oN:Rho->Option (Option Int):=fun _=>some none
noncomputable def oS (f:Rho->Option Ka):Rho->Option (Option Int):=fun ρ=>ob (f ρ) fun d=>ob (intD d) fun i=>some (some i)
theorem qeB (h:intD d=some i):d=.int i:=by cases d<;>first|(cases h;rfl)|cases h
theorem yq:PDO X M none oN:=fun pins s σ H Q I ⟨S,ρ,i,hs,e,q⟩=>by
 cases e
 exact qiz pins s σ H Q I (q H (Same.refl H))
theorem Zi (h:PD X M a f):PDO X M (some a) (oS f):=fun pins s σ H Q I ⟨S,ρ,i,hs,e,q⟩=>by
 obtain ⟨d,e1,e⟩:=qd e
 obtain ⟨j,e2,e⟩:=qd e
 cases e
 cases qeB e2
 exact qiA h pins s σ H Q I ⟨S,ρ,_,hs,e1,fun v H' g d=>⟨j,d.int_inv,q H' g⟩⟩
noncomputable def cutD (ds:List Ka)(lo hi:Option Int):List Ka:=(ds.drop (HT.sIx ds.length 0 lo)).take (HT.sIx ds.length ds.length hi-HT.sIx ds.length 0 lo)
noncomputable def sliD (x:Ka)(lo hi:Option Int):Option Ka:=match x with
 | .list ds=>some (.list (cutD ds lo hi))
 | .tuple ds=>if HT.sIx ds.length 0 lo=0/\HT.sIx ds.length ds.length hi=ds.length then none else some (.tuple (cutD ds lo hi))
 | _=>none
noncomputable def evS (fa:Rho->Option Ka)(fl fh:Rho->Option (Option Int)):Rho->Option Ka:=fun ρ=>ob (fa ρ) fun x=>ob (fl ρ) fun l=>ob (fh ρ) fun h=>sliD x l h
theorem qbG {K:Kd}{H:Hp}{S:Av}{vs:List V}{ds:List Ka}(t:DenL K H S vs ds)(lo hi:Option Int):DenL K H S (cutV vs lo hi) (cutD ds lo hi):=by
 unfold cutV cutD
 rw [t.length]
 exact (t.drop _).take _
theorem jj {lo hi:Option Ky}{fl fh:Rho->Option (Option Int)}{p2:Pos}(ha:PD X M a f)(hl:PDO X M lo fl)(hh:PDO X M hi fh):PD X M (.Subscript a (.Slice lo hi none p2) pos) (evS f fl fh) :=
 (qgw (r:=fun x lo hi H Q=>rSlL X.K x lo hi H Q\/rSlT X.K x lo hi H Q) (qiP.or qkO) ha hl hh).weak fun σ H Q ⟨S,ρ,d,hs,e,q⟩=>by
  obtain ⟨x,e1,e⟩:=qd e
  obtain ⟨l,e2,e⟩:=qd e
  obtain ⟨h,e3,e⟩:=qd e
  refine ⟨S,ρ,x,hs,e1,fun v H1 g1 d1=>⟨S,ρ,l,hs.same g1,e2,fun H2 g2=>⟨S,ρ,h,hs.same (g1.trans g2),e3,fun H3 g3=>?_⟩⟩⟩
  have g13:=g1.trans (g2.trans g3)
  have d3:=d1.same (g2.trans g3)
  cases d3 with
  | list hq t =>
   cases e
   exact .inl ⟨_,_,rfl,hq.sq,fun p hp=>q _ _ (g13.lay' hp) (.list (SqLS.new qH ((hs.1.same g13).free hp)) ((qbG t l h).same (Same.lay hp)))⟩
  | @tuple a' xs ds hq t =>
   have e:(if HT.sIx ds.length 0 l=0/\HT.sIx ds.length ds.length h=ds.length then none else some (VL (cutD ds l h)))=some d:=e
   split at e
   ·cases e
   ·rename_i hc
    cases e
    refine .inr ⟨_,_,rfl,hq,by rw [t.length];exact hc,fun p hp=>q _ _ (g13.lay' hp) (.tuple (SqT.of qH) ((qbG t l h).same (Same.lay hp)))⟩
  | _=>cases e
noncomputable def qdf (x y:Ka):Option Ka:=match x,y with
 | .int i,.int j=>some (.int (i+j))
 | .tuple ds,.tuple es=>if ds.length+es.length<=1000 then some (.tuple (ds++es)) else none
 | _,_=>none
theorem qft {prog:Ku}{w:KI}{A:KF}{E:Ke->Kg->Prop}{s:Kg}{t b:Kf}{vs ws:List Ke}{Q:Ke->Kg->Prop}(ht:IsTup s.heap t vs.toArray)(hb:IsTup s.heap b ws.toArray)(hv:vs=[])(h:Q (.ref b) s) :
  wpAny (model prog w) A (binaryOp .Add (.ref t) (.ref b)) Q E s:=by
 obtain ⟨⟨cls,dd,data,sl⟩,ho,hc,n,hd⟩:=id ht
 obtain ⟨⟨cls2,dd2,data2,sl2⟩,ho2,hc2,n2,hd2⟩:=id hb
 simp only at hc hd hc2 hd2
 subst hc hd hc2 hd2
 exact EC ⟨_,ho,rfl⟩ ⟨_,ho2,rfl⟩ ED seq_tuple_add Nx Nt (Nh _ _) (tuple_addW0 t b vs.toArray ws.toArray n n2 dd dd2 sl sl2 (by simp [hv])) ⟨ho,ho2,h⟩
theorem qig:OpR X (binaryOp .Add) (fun x y H Q=>∃ a b ys,x=.ref a/\y=.ref b/\SqT X.K H a []/\SqT X.K H b ys/\Q (.ref b) H):=by
 intro pins s σ H x y v u Q I rx ry h
 obtain ⟨a,b,ys,rfl,rfl,ha,hb,q⟩:=h
 cases rx
 cases ry
 obtain ⟨its,r1,p1,_⟩:=I.tuple ha
 obtain ⟨its2,r2,p2,_⟩:=I.tuple hb
 exact qft p1 p2 (r1.nil_iff.mpr rfl) ⟨.ref b,H,I,rfl,q⟩
theorem qfy:OpD X (binaryOp .Add) qdf:=by
 refine JF (r:=fun x y H Q=>rI0 (fun i j=>.int (i+j)) x y H Q\/(qjg X.K x y H Q\/(∃ a b ys,x=.ref a/\y=.ref b/\SqT X.K H a []/\SqT X.K H b ys/\Q (.ref b) H))) (qkb.or (qii.or qig)) fun x y dx dy d H S Q m h1 h2 e q=>?_
 unfold qdf at e
 split at e
 ·cases e;cases h1;cases h2
  exact .inl ⟨_,_,rfl,rfl,q _ H (Same.refl H) (.int _)⟩
 ·split at e
  ·rename_i ds es hc
   cases e
   cases h1 with
   | tuple a1 t1 =>
    cases h2 with
    | tuple a2 t2 =>
     cases ds with
     | nil =>
      cases t1
      exact .inr (.inr ⟨_,_,_,rfl,rfl,a1,a2,q _ H (Same.refl H) (.tuple a2 t2)⟩)
     | cons d0 ds =>
      refine .inr (.inl ⟨_,_,_,_,rfl,rfl,a1,a2,fun z=>?_,?_,fun z=>?_,fun z p hp=>q _ _ (Same.lay hp) (.tuple (SqT.of qH) ((t1.append t2).same (Same.lay hp)))⟩)
      ·subst z;cases t1
      ·rw [t1.length,t2.length]
       exact VI (zj hc)
      ·subst z;cases t2
       rw [Vd] at q
       exact q _ H (Same.refl H) (.tuple a1 t1)
  ·cases e
 ·cases e
end
section
variable {X:Cx}{G:Gm}{M M1 M' Mb L:List Nat}{fr:Fr}{a b c:Ky}{es:List Ky}{f g:Rho->Option Ka}{p:Rho->Option Bool}{pos:Pos}{u:Rho->Option Out}{ss:List KM}{s1:KM}
def PDR (X:Cx)(tg iter:Ky)(f:Rho->Option (List Ka)):Prop:=PI X tg iter (fun σ H R=>∃ S ρ ds,DenS X.K H S [] σ ρ/\f ρ=some ds/\∀ J H',Same H H'->(∀ H2 S2,IsIt X.K S2 J H2 ds)->R J H')
theorem jA {tg:Ky}{fs:Rho->Option (List Ka)}{p:Pos}(hg:Gl X "range")(hm:X.mg "range" = none)(ha:PDA X [] [a] fs)(hs:starEach [a] X.env=[(false,eval a X.env)]:=by rfl):PDR X tg (.Call (.Name "range" p) [a] [] pos) (evR fs jK) :=
 (qaz hg hm ha hs).weak fun σ H R ⟨S,ρ,ds,hs,e,w⟩=>by
  obtain ⟨xs,e1,e⟩:=qd e
  refine ⟨S,ρ,xs,hs,e1,fun vs H1 g1 d1=>?_⟩
  unfold jK at e
  split at e
  ·rename_i j
   split at e
   ·rename_i hj
    cases e
    obtain ⟨v,rfl,q⟩:=d1.inv1
    cases q
    exact ⟨j,rfl,by omega,by omega,w _ _ g1 fun _ _=>IsIt.rng 0 _⟩
   ·cases e
  ·cases e
theorem yt {tg iter:Ky}{body:List KM}{fi:Rho->Option (List Ka)}{g:Ka->Rho->Option Rho}(hp:PassesOwn (model X.prog X.w) X.A X.env X.xe)(hc:X.calm=true)(hi:PDR X tg iter fi)(hg:PDG X G M L tg g)(hb:PDSs X G M L M M fr body u)
  (hs:∀ x,foldedSetIterable iter X.env x=pure x:=by intro _;rfl):PDS X G M L M Mb fr (.For tg iter body [] pos) (sFor fi g u):=by
 refine (qgF hp hc hi hg hb hs).weak fun D σ H ⟨S,ρ,o,os,e,q⟩=>?_
 obtain ⟨ds,e1,e⟩:=qd e
 refine ⟨G.S0,ρ,ds,os.den,e1,fun J H1 g1 hJ=>?_⟩
 refine ⟨fun i m σ' H'=>m=ds.length-i/\i<=ds.length/\∃ S' ρ o,OwnS X.K G M L H' S' σ' ρ/\forD g u (ds.drop i) ρ=some o/\OutQ X.K G M Mb L fr D o,⟨ds.length,by simp,Vv _,S,ρ,o,os.same g1,e,q⟩,?_⟩
 rintro i m σ' H' ⟨rfl,hi,S',ρ',o',hs',e',q'⟩
 by_cases hlt:i<ds.length
 ·rw [VF hlt] at e'
  obtain ⟨ρ1,e2,e'⟩:=qd e'
  obtain ⟨o1,e3,e'⟩:=qd e'
  have key:∀ N:St->Hp->Prop,OutQ X.K G M M L fr { D with nx:=N,ct:=N,bk:=D.nx } o1->∀ x H2,J.yld i H' x H2->tDG X.K G M L g x σ' H2 fun σ2 H2=>tDS X.K G M L M M fr u { D with nx:=N,ct:=N,bk:=D.nx } σ2 H2:=fun N hN x H2 y=>by
   obtain ⟨e4,yd⟩:=(hJ H' S').yld i H' x H2 (Same.refl _) y
   exact ⟨S',ρ',_,ρ1,hs'.same e4,yd _ (Kn hlt) S' fun y e q=>q.same e4,e2,fun σ2 H3 g3 hs3=>⟨S',ρ1,o1,hs3,e3,hN⟩⟩
  refine .inr ⟨(hJ H' S').go i H' (Same.refl _) hlt,?_⟩
  have next:∀ ρ2,forD g u (ds.drop (i+1)) ρ2=some o'->∃ N:St->Hp->Prop,(∀ σ' H'',N σ' H''->∃ m',m'<ds.length-i/\(m'=ds.length-(i+1)/\i+1<=ds.length/\∃ S' ρ o,OwnS X.K G M L H'' S' σ' ρ/\forD g u (ds.drop (i+1)) ρ=some o/\OutQ X.K G M Mb L fr D o))/\∀ σ2 H2 S2,OwnS X.K G M L H2 S2 σ2 ρ2->N σ2 H2:=fun ρ2 e4 =>
   ⟨fun σ2 H2=>∃ S2,OwnS X.K G M L H2 S2 σ2 ρ2,fun σ2 H2 ⟨S2,hs3⟩=>⟨ds.length-(i+1),by omega,rfl,hlt,S2,ρ2,o',hs3,e4,q'⟩,fun σ2 H2 S2 hs3=>⟨S2,hs3⟩⟩
  cases o1 with
  | nx ρ2 =>
   obtain ⟨N,n1,n2⟩:=next ρ2 e'
   exact ⟨N,n1,key N fun σ3 H3 S3 hs3=>n2 σ3 H3 S3 hs3⟩
  | ct ρ2 =>
   obtain ⟨N,n1,n2⟩:=next ρ2 e'
   exact ⟨N,n1,key N fun σ3 H3 S3 hs3=>n2 σ3 H3 S3 hs3⟩
  | bk ρ2 =>
   cases e'
   exact ⟨fun _ _=>False,fun _ _ z=>z.elim,key _ fun σ3 H3 S3 hs3=>q' σ3 H3 S3 hs3⟩
  | rt r =>
   cases e'
   have q2:OutQ X.K G M Mb L fr D (.rt r):=q'
   exact ⟨fun _ _=>False,fun _ _ z=>z.elim,key _ q2⟩
 ·have hi':i=ds.length:=by omega
  subst hi'
  rw [ND] at e'
  cases e'
  exact .inl ⟨(hJ H' S').stop H' (Same.refl _),q' σ' H' S' hs'⟩
theorem qax (M1:List Nat)(h1:subB M1 M=true)(h2:subB L M1=true)(h:PDS X G M1 L M' Mb fr s1 u):PDS X G M L M' Mb fr s1 u:=qe3 h h1 h2
end
noncomputable def intsOf:List Ka->Option (List Int)
 | []=>some []
 | .int i::r=>ob (intsOf r) fun ns=>some (i::ns)
 | _::_=>none
noncomputable def boolsOf:List Ka->Option (List Bool)
 | []=>some []
 | .bool i::r=>ob (boolsOf r) fun ns=>some (i::ns)
 | _::_=>none
theorem YB:∀ {ds:List Ka} {ns:List Int},intsOf ds=some ns->ds=ns.map .int
 | [],_,h=>by cases h;rfl
 | .int i::r,ns,h=>by
  obtain ⟨ms,e1,e2⟩:=qd h
  cases e2
  rw [YB e1]
  rfl
 | .none::_,_,h=>by cases h
 | .bool _::_,_,h=>by cases h
 | .str _::_,_,h=>by cases h
 | .list _::_,_,h=>by cases h
 | .tuple _::_,_,h=>by cases h
 | .dict _::_,_,h=>by cases h
theorem J7:∀ {ds:List Ka} {ns:List Bool},boolsOf ds=some ns->ds=ns.map .bool
 | [],_,h=>by cases h;rfl
 | .bool i::r,ns,h=>by
  obtain ⟨ms,e1,e2⟩:=qd h
  cases e2
  rw [J7 e1]
  rfl
 | .none::_,_,h=>by cases h
 | .int _::_,_,h=>by cases h
 | .str _::_,_,h=>by cases h
 | .list _::_,_,h=>by cases h
 | .tuple _::_,_,h=>by cases h
 | .dict _::_,_,h=>by cases h
noncomputable def inOk (ds:List Ka)(x:Ka):Bool:=Km ds&&(x.canLay0&&decide (x.depth<=63))
noncomputable def inL (ds:List Ka)(x:Ka):Bool:=ds.any fun y=>Kq y x
noncomputable def inD (x y:Ka):Option Ka:=match y with
 | .list ds=>if inOk ds x=true then some (.bool (inL ds x)) else none
 | .tuple ds=>if inOk ds x=true then some (.bool (inL ds x)) else none
 | _=>none
noncomputable def ninD (x y:Ka):Option Ka:=match y with
 | .list ds=>if inOk ds x=true then some (.bool (!inL ds x)) else none
 | .tuple ds=>if inOk ds x=true then some (.bool (!inL ds x)) else none
 | _=>none
noncomputable def allD:List Ka->Option Ka
 | [.list ds]=>ob (boolsOf ds) fun bs=>some (.bool (bs.all id))
 | _=>none
section
variable {X:Cx}
theorem QX {x:Ka}(h:inOk ds x=true):Km ds=true/\x.canLay0=true/\x.depth<=63:=by
 unfold inOk at h
 rw [Kp,Kp] at h
 exact ⟨h.1,h.2.1,of_decide_eq_true h.2.2⟩
theorem Jm {A:KF}{x:Ka}(hd:x.depth<=63)(hu:A.units+64<cLine):A.units+1+min (Kw ds) x.depth<cLine:=by
 have:=Nat.min_le_right (Kw ds) x.depth
 omega
theorem d_in (hr:Room k X.A):OpD X (compareOp .In) inD:=by
 intro pins s σ H x y v u Q I rx ry h
 obtain ⟨S,dx,dy,d,m,h1,h2,e,q⟩:=h
 unfold inD at e
 split at e
 ·split at e
  ·rename_i hc
   obtain ⟨c1,c2,c3⟩:=QX hc
   cases e
   obtain ⟨as,q1⟩:=h1.reads I c2 rx
   obtain ⟨bs,q2⟩:=h2.reads I (by rw [KL];exact c1) ry
   exact SeqAt.in_list_reads q2 q1 c1 c2 (Jm c3 hr.units) (ju I (q _ H (Same.refl H) (.bool _)) rfl)
  ·cases e
 ·split at e
  ·rename_i hc
   obtain ⟨c1,c2,c3⟩:=QX hc
   cases e
   obtain ⟨as,q1⟩:=h1.reads I c2 rx
   obtain ⟨bs,q2⟩:=h2.reads I (by rw [KL];exact c1) ry
   exact SeqAt.in_tuple_reads q2 q1 c1 c2 (Jm c3 hr.units) (ju I (q _ H (Same.refl H) (.bool _)) rfl)
  ·cases e
 ·cases e
theorem YQ (hr:Room k X.A):OpD X (compareOp .NotIn) ninD:=by
 intro pins s σ H x y v u Q I rx ry h
 obtain ⟨S,dx,dy,d,m,h1,h2,e,q⟩:=h
 unfold ninD at e
 split at e
 ·split at e
  ·rename_i hc
   obtain ⟨c1,c2,c3⟩:=QX hc
   cases e
   obtain ⟨as,q1⟩:=h1.reads I c2 rx
   obtain ⟨bs,q2⟩:=h2.reads I (by rw [KL];exact c1) ry
   exact SeqAt.notIn_list_reads q2 q1 c1 c2 (Jm c3 hr.units) (ju I (q _ H (Same.refl H) (.bool _)) rfl)
  ·cases e
 ·split at e
  ·rename_i hc
   obtain ⟨c1,c2,c3⟩:=QX hc
   cases e
   obtain ⟨as,q1⟩:=h1.reads I c2 rx
   obtain ⟨bs,q2⟩:=h2.reads I (by rw [KL];exact c1) ry
   exact SeqAt.notIn_tuple_reads q2 q1 c1 c2 (Jm c3 hr.units) (ju I (q _ H (Same.refl H) (.bool _)) rfl)
  ·cases e
 ·cases e
theorem DenL.bools_inv {K:Kd}{H:Hp}{S:Av}:∀ {vs:List V} {ns:List Bool},DenL K H S vs (ns.map X6)->vs=ns.map V.bl
 | _,[],h=>by cases h;rfl
 | _,n::ns,h=>by
  cases h with
  | cons a t=>cases a;rw [t.bools_inv];rfl
theorem Yx:∀ {ns:List Bool} {us:List Ke},Vals (ns.map V.bl) us->LSm.BoolsAre us ns
 | [],_,h=>by cases h;exact .nil
 | n::ns,_,h=>by
  cases h with
  | cons r t=>cases (show _=K8 n from r);exact .cons n (Yx t)
theorem qi4 (hc:X.calm=true):CallD X (.builtin "all") allD:=by
 intro pins s σ H xs us Q I r h
 obtain ⟨S,ds,d,m,h1,e,q⟩:=h
 unfold allD at e
 split at e
 ·rename_i ds
  obtain ⟨bs,e1,e2⟩:=qd e
  cases e2
  rw [J7 e1] at h1
  obtain ⟨v,rfl,hv⟩:=h1.inv1
  obtain ⟨a,ys,rfl,hs,ht⟩:=hv.list_inv
  rw [ht.bools_inv] at hs
  obtain ⟨u,rfl,ru⟩:=vals1 r
  cases (show u=KR a from ru)
  obtain ⟨its,rv,p,_⟩:=I.list hs.sq
  have hb:=Yx rv
  have hl:=p.isList
  have hlt:a<s.heap.objs.size:=by obtain ⟨_,e,_⟩:=hl;exact Ks e
  refine call_all_walk (wpAny_pyIter_list hl ?_)
  refine ⟨s.heap.objs.size,[s.heap.objs.size,a],[s.heap.objs.size],its.toArray.size,_,_,fun i=>(bs[i]?).getD true,rfl,Walks.list (A:=X.A.in1) (I.ok.hd hc) _ a (KN hlt) its.toArray,
   ⟨⟨_,Kz _ rfl,rfl,rfl⟩,hl.push _⟩,fun i v s' Q' E' hP hQ=>?_,fun h' tk hk=>?_⟩
  ·obtain ⟨b,e,rfl⟩:=hb.get i v (by simpa using hP)
   simp only [e,Option.getD_some] at hQ
   exact U1 hQ
  ·have e:((Xg its.toArray.size).all fun i=>(bs[i]?).getD true)=bs.all id:=by
    rw [KB,hb.length];exact LSm.range_all bs
   rw [e]
   exact ⟨.bl (bs.all id),H,I.kept (LSm.kept_iter hk),rfl,q _ H (Same.refl H) (.bool _)⟩
 ·cases e
end
section
variable {X:Cx}{G:Gm}{M M' Mb L:List Nat}{fr:Fr}{f:Rho->Option Ka}{p:Rho->Option Bool}{pos:Pos}
theorem qkS {K:Kd}{n k:Nat}{fi:Rho->Option (List Ka)}{g:Ka->Rho->Option Rho}(hg:GIn n k g):∀ σ H Q,tF K M (Z1 n k fi g p f) σ H Q->qaD k (tDI K M fi) (tDGc K M g) (tDT K M p) (tD K M f) σ H Q:=by
 intro σ H Q ⟨S,ρ,d,hs,e,q⟩
 obtain ⟨ds,ys,e1,hn,hz,e2,rfl⟩:=Jx e
 exact qec hg σ H Q S ρ ds ys hs e1 hn hz e2 fun H' zs g2 dl D hD=>q _ _ (g2.lay' hD) (g2.free hD) (OwnO.laid hD dl)
variable {elt iter tg:Ky}{ifs:List Ky}{x:Str}{N':List Str}{px:Pos}{sc:Ua}{n k:Nat}{fi:Rho->Option (List Ka)}{g:Ka->Rho->Option Rho}
noncomputable def swB (sc₀ sc:Ua)(t:Str)(pt p:Pos):Bool:=decide (sc₀.names.lookup t=some .local)&&(pt.line==p.line)&&!(sc.names.any fun (n,k)=>n==t&&(k==.local||k==.cell))
theorem Wv  (hsc:X.env.scope=sc₀) (h:swB sc₀ sc y py pos=true):X.env.scope.names.lookup y=some .local:=by
 subst hsc
 unfold swB at h
 rw [Kp,Kp] at h
 exact of_decide_eq_true h.1.1
theorem qjk    (hsc:X.env.scope=sc₀) (h:swB sc₀ sc y py pos=true) (hbk:X.env.blockKind=.function):swapsWith (.ListComp elt gens sc pos) (some (.Name y py)) line X.env=pure true:=by
 have h0:=Wv hsc h
 subst hsc
 unfold swB at h
 rw [Kp,Kp] at h
 show pure (X.env.blockKind==.function&&X.env.kindOf y==some .local&&py.line==pos.line&&!(sc.names.any fun (n,k)=>n==y&&(k==.local||k==.cell)))=pure true
 have e1:(X.env.blockKind==Vy)=true:=by rw [hbk];rfl
 have e2:(X.env.kindOf y==some NameKind.local)=true:=by
  show (X.env.scope.names.lookup y==some NameKind.local)=true
  rw [h0];rfl
 rw [e1,e2,h.1.2,h.2]
 rfl
theorem qe1 (j:Nat){py spos:Pos}(O:CompOk X N' k sc)(gi:GIn n k g)(sc₀:Ua)(hsc:X.env.scope=sc₀)(hB:swB sc₀ sc y py pos=true)(hM:Out0 M j)(hL:j∉L)(hi:PDI X M tg iter fi)(hg:∀ cl C fp pins s H,PDGc (qQ X N' sc cl C fp pins s H) M tg g)(hq:∀ cl C fp pins s H,PDTs (qQ X N' sc cl C fp pins s H) M ifs p)(he:∀ cl C fp pins s H,PD (qQ X N' sc cl C fp pins s H) M elt f)
  (hj:X.N[j]?=some y:=by rfl) (hbk:X.env.blockKind=.function:=by rfl)
  (hs:∀ v,foldedSetIterable iter X.env v=pure v:=by intro _;rfl):PDS X G M L (j::M) Mb fr (.Assign [.Name y py] (.ListComp elt [⟨tg,iter,ifs,0⟩] sc pos) spos) (Zk j (Z1 n k fi g p f)) :=
 (qd5 (wg:=tDGc X.K M g) (tt:=tDT X.K M p) (te:=tD X.K M f) O hj (Wv hsc hB) hi hg hq he (qjk hsc hB hbk) hs).weak fun D σ H ⟨S,ρ,o,hs,e,q⟩=>by
  unfold Zk at e
  split at e
  ·rename_i hz
   obtain ⟨d,e1,e⟩:=qd e
   cases e
   exact qkS gi σ H _ ⟨S,ρ,d,hs.ds,e1,fun p H1 g1 n o=>q _ H1 _ (hs.take n g1 o hM hL hz)⟩
  ·cases e
theorem qgr (j:Nat){py spos:Pos}(O:CompOk X N' 1 sc)(hx:N'[n]?=some x)(hl:lc1 sc x=true)(sc₀:Ua)(hsc:X.env.scope=sc₀)(hB:swB sc₀ sc y py pos=true)(hM:Out0 M j)(hL:j∉L)(hi:PDI X M (.Name x px) iter fi)(hq:∀ cl C fp pins s H,PDTs (qQ X N' sc cl C fp pins s H) M ifs p)(he:∀ cl C fp pins s H,PD (qQ X N' sc cl C fp pins s H) M elt f)
  (hj:X.N[j]?=some y:=by rfl) (hbk:X.env.blockKind=.function:=by rfl)
  (hs:∀ v,foldedSetIterable iter X.env v=pure v:=by intro _;rfl):PDS X G M L (j::M) Mb fr (.Assign [.Name y py] (.ListComp elt [⟨.Name x px,iter,ifs,0⟩] sc pos) spos) (Zk j (jG n fi p f)):=by
 rw [wC]
 exact qe1 j O (QM (Kr _)) sc₀ hsc hB hM hL hi (Zt O hx hl) hq he hj hbk hs
end
noncomputable def qdr (N N':List Str)(k:Nat)(sc₀ sc:Ua):Bool :=
 decide (sc.kind=.function)&&decide N.Nodup&&decide N'.Nodup&&decide (N'.length=N.length+k)&&sc.names.all (fun y=>decide (y.2≠.cell)||decide (sc.names.lookup y.1=some .cell))&&sc.names.all (fun y=>decide (y.2≠.local)||decide (sc.names.lookup y.1=some .local)) &&
 (N.zip N').all (fun y=>(decide (y.1=y.2)&&(decide (sc.names.lookup y.2≠some .local)&&decide (sc.names.lookup y.2≠some .cell)))||decide (sc.names.lookup y.2=none)) &&
 sc.names.all (fun y=>decide (y.2≠.free)||decide (sc₀.names.lookup y.1=some .cell)||decide (sc₀.names.lookup y.1=some .free))
theorem CompOk.of {X:Cx}  (N N':List Str) (sc₀:Ua) (hc:X.calm=true) (hN:X.N=N) (hs:X.env.scope=sc₀) (h:qdr N N' k sc₀ sc=true):CompOk X N' k sc:=by
 subst hN
 subst hs
 unfold qdr at h
 simp only [Kp,decide_eq_true_eq,KW,NQ] at h
 obtain ⟨⟨⟨⟨⟨⟨⟨h1,h2⟩,h2'⟩,h2l⟩,h3⟩,h4⟩,h7⟩,h8⟩:=h
 refine ⟨hc,h1,h2,h2',h2l,fun y hy q=>(h3 y hy).resolve_left (fun z=>z q),fun y hy q=>(h4 y hy).resolve_left (fun z=>z q),fun i y hi e=>?_,fun y hy q=>?_⟩
 ·have hz:(X.N.zip N')[i]?=some (X.N[i],y):=by
   rw [Ex]
   exact ⟨Kn hi,e⟩
  rcases h7 _ (Vs hz) with ⟨q,w⟩|q
  ·refine .inl ⟨?_,w⟩
   rw [Kn hi]
   exact congrArg some q
  ·exact .inr q
 ·rcases h8 y hy with (z|z)|z
  ·exact absurd q z
  ·exact .inl z
  ·exact .inr z
theorem WF:∀ {ns:List Int} {n:Int},n∈ns->PySem.W.WData.weight (.int n)<=PySem.W.WData.weightAll (ns.map .int)
 | m::ns,n,h=>by
  rw [Kt,PySem.W.WData.weightAll]
  rcases Ko.mp h with rfl|h
  ·omega
  ·have:=WF h
   omega
theorem wz {ns:List Int}(h:PySem.W.WData.layableAll [.list (ns.map .int)]=true):∀ n∈ns,V0 n<=2 ^ 20:=by
 intro n hn
 have h1:PySem.W.WData.layable (.list (ns.map .int))=true:=by
  unfold PySem.W.WData.layableAll at h
  simpa using h
 unfold PySem.W.WData.layable at h1
 rw [Kp] at h1
 have h2:=of_decide_eq_true h1.2
 rw [PySem.W.WData.weight] at h2
 have h3:=Vo (WF hn) h2
 rw [PySem.W.WData.weight] at h3
 exact h3
end L2
namespace Att
open PySem PySem.W PySem.Calls PyProof.Rows
theorem attach_callB {l:Es}{n:Nat}{q:Ku}{loose:List Str}{XP:(Str->Option Ke)->KC->Prop}{YP:KI->KC->Prop}{d:DefRec}
  (hn:l.most=some n) (hdf:d.params.defaults=[])
  (call:∀ (w:KI) (s₀ s₁:Kg) (mg mb:Str->Option Ke) (fa:Kf) (o:Obj) (pm cd doc:Ke) (a:Kf) (vs:List Ke) (ns:List Int),
   Ground q loose [] XP w s₀ mg mb s₁.heap->YP w s₁.heap->
   s₁.heap.get? fa=some o->o.data=.func (docDef d.name d.params d.body d.scope pm cd doc)->s₁.heap.CodeRec cd d.name->mg d.name=some (.ref fa)->
   s₁.heap.get? a=some { cls:=.type "list", data:=.seq vs.toArray }->IntsAre vs ns->ns.length<=n->(∀ k∈ns,V0 k<=2 ^ 20)->s₁.gens=#[]->
   codeAny (model l.prog w) callerA (.call (.ref fa) ⟨[.ref a],[]⟩) (fun r s'=>r=.ok (.ret (.bool true))/\OldK s₁.heap s'.heap/\s'.os=s₁.os/\XQ s'.gens) s₁) :
  WalkO q loose XP YP l.row.toRowW d [] (fun f vs=>PySem.call f vs):=by
 intro w s₀ s₁ mg mb G Y fa o pm cd doc dV kV ho hd hcd hD hmg hg args vals as hpre hlay hrd hwl hlo
 obtain rfl:dV=.none:=Dflts.none hD hdf
 obtain rfl:kV=.none:=Dflts.noKw hD
 obtain ⟨a,vs,ns,rfl,rfl,hobj,hints,hlen⟩:=qfa hn hpre hwl
 refine enter_call (Ng (call w s₀ s₁ mg mb fa o pm cd doc a vs ns G Y ho (fd_plain hd) hcd hmg hobj hints hlen (L2.wz hlay) hg) fun r s' hq=>?_)
 obtain ⟨rfl,h2,h3,h4⟩:=hq
 exact ⟨.inl ⟨.bool true,.bool true,[],rfl,fun _=>rfl,.bool true,qe7 l _,fun _=>⟨List.Pairwise.nil,fun _ hm=>(nomatch hm)⟩⟩,h2,h3,h4⟩
end Att
namespace L2
open PySem PySem.Spec PyProof.Rows
noncomputable def qc7 (K:Kd)(n:Nat):Sp:=fun vs H Q _=>∃ (a:Kf) (ns:List Int),vs=[.ref a]/\SqL K H a (ns.map V.int)/\ns.length<=n/\(∀ k∈ns,V0 k<=2 ^ 20)/\∀ H',Q (.bl true) H'
theorem qf2 {P:Ku}{w:KI}{K:Kd}{mg:Str->Option Ke}{base:KC}{CX:CXT}{k n:Nat}{f:Kf}{fd:K7}{ps:List Str}{h:List Ka->Option Ka}(F:FnOk P w K mg base CX k f fd ps (spF K 1 h))
  (e:∀ ns:List Int,ns.length<=n->(∀ k∈ns,V0 k<=2 ^ 20)->h [.list (ns.map .int)]=some (.bool true)):FnOk P w K mg base CX k f fd ps (qc7 K n) :=
 F.imp fun vs H Q E ⟨a,ns,h1,h2,h3,h4,q⟩=>by
  subst h1
  exact ⟨fun _=>False,[.list (ns.map .int)],.bool true,(fun _ z=>z.elim),.cons (.list (h2.imp (fun y=>⟨y,id⟩) id) (DenL.ints ns)) .nil,rfl,e ns h3 h4,fun v H' _ d=>by rw [d.bool_inv];exact q H'⟩
theorem qfe {l:Es}{n k:Nat}{q:Ku}{loose:List Str}{XP:(Str->Option Ke)->KC->Prop}{YP:KI->KC->Prop}{d:DefRec}{K:Params->Kd}{x:Str}
  (hn:l.most=some n) (hn2:n<=sizeLine) (hdf:d.params.defaults=[]) (hr:Room k callerA)
  (hY:∀ (w:KI) (h:KC),YP w h->(K w.params).In h)
  (F:∀ (w:KI) (mg:Str->Option Ke) (fa:Kf) (h:KC),(K w.params).In h->h.Ns mainGlobals mg->mg d.name=some (.ref fa)->
   ∃ fd:K7,(∀ (s:Kg) (u:Ke),BindsTo s fd ⟨[u],[]⟩ [(x,u)])/\
    ∀ base:KC,(K w.params).In base->base.Ns mainGlobals mg->FnOk l.prog w (K w.params) mg base CX0 k fa fd [x] (qc7 (K w.params) n)) :
  PySem.W.WalkO q loose XP YP l.row.toRowW d [] (fun f vs=>PySem.call f vs):=by
 refine Att.attach_callB hn hdf fun w s₀ s₁ mg mb fa o pm cd doc a vs ns G Y ho hd hcd hmg hobj hints hlen hbits hg=>?_
 have KX:=hY w _ Y
 obtain ⟨fd,hb,hF⟩:=F w mg fa _ KX G.T.g hmg
 exact qf1 KX G.T.g G.T.b G.T.builtins G.T.nolimit hg hobj hints (Vo hlen hn2) hr hF hb (fun H hO hS=>⟨a,ns,rfl,hS,hlen,hbits,fun _=>rfl⟩) fun H e s' h=>h
mutual
def ltX:Ka->Ka->Option Bool
 | .int i,.int j=>some (decide (i<j))
 | .tuple xs,.tuple ys=>ltXs xs ys
 | .list xs,.list ys=>ltXs xs ys
 | _,_=>none
def ltXs:List Ka->List Ka->Option Bool
 | [],[]=>some false
 | [],_::_=>some true
 | _::_,[]=>some false
 | x::xs,y::ys=>if Kq x y=true then ltXs xs ys else ltX x y
end
def LtAt (A:KF)(s:Kg)(y x:Ke)(b:Bool):Prop:=∀ (prog:Ku) (w:KI) (E Q:Ke->Kg->Prop),Q (.bool b) s->wpAny (model prog w) A (richCompare .Lt y x) Q E s
noncomputable def Yr (A:KF)(s:Kg):List Ke->List Ke->Bool->Prop
 | [],[],r=>r=false
 | [],_::_,r=>r=true
 | _::_,[],r=>r=false
 | y::ys,x::xs,r=>∃ e,SeqAt.EqAt A s y x e/\(e=true->Yr A s ys xs r)/\(e=false->LtAt A s y x r)
section
open PySem.SeqAt
open PySem.AutoSeq1 (wpAny_loadPart')
open PySem.MeetsSeq PySem.MeetsSeq2 PySem.MeetsSeq3
theorem qbt (l b:Kf)(items items2:Array Ke)(n n2:Nat)(dd dd2:Option Kf)(sl sl2:Array (Option Ke)) :
  Meets (UA.«tuple.__lt__» ⟨[.ref l,.ref b],[]⟩)
   (fun A R s=>s.heap.get? l=some { cls:=.type "tuple", dict:=dd,data:=.seq items n,slots:=sl }/\s.heap.get? b=some { cls:=.type "tuple", dict:=dd2,data:=.seq items2 n2,slots:=sl2 }/\
    ∃ r,Yr A.in1 s items.toList items2.toList r/\R (.ok (.ret (.bool r))) s) :=
 .of_wp fun prog w A R s h=>by
  obtain ⟨hp,g,d,tk,os⟩:=s;obtain ⟨hl,hb,r,hx,h⟩:=h
  have f2:=AutoSeq1.sub_tuple_tuple
  wp_walk using wpAny_loadPart' hl,wpAny_loadPart' hb,XY _ (fun rest b s'=>b.1=none/\s'=⟨hp,g,d,tk,os⟩/\∃ (vs ws:List Ke),rest=vs.zip ws/\
   Yr A.in1 ⟨hp,g,d,tk,os⟩ vs ws r/\vs.length+items2.size=ws.length+items.size) _
  case turn =>
   rintro ⟨y,x⟩ rest b s' ⟨hb',rfl,vs,ws,hz,hlx,hlen⟩
   cases vs with
   | nil=>rw [Eu] at hz;cases hz
   | cons v vs =>
    cases ws with
    | nil=>rw [Ec] at hz;cases hz
    | cons u ws =>
     rw [XG] at hz
     injection hz with hyx hrest
     injection hyx with hy hx'
     subst hy hx'
     simp only [KA] at hlen
     obtain ⟨e,he,h1,h2⟩:=hlx
     refine Kc (he prog w _ _ ?_)
     cases e with
     | true =>
      wp_walk
      exact ⟨rfl,rfl,_,_,hrest,h1 rfl,by omega⟩
     | false =>
      have hri:=h2 rfl prog w
      wp_walk using hri
      exact ⟨_,rfl,by simpa using h⟩
  case fin =>
   rintro ⟨b1,b2⟩ s' ⟨hb',rfl,vs,ws,hz,hlx,hlen⟩
   simp only at hb'
   subst hb'
   have hv:r=decide (items.size<items2.size):=by
    cases vs with
    | nil =>
     cases ws with
     | nil =>
      simp only [UY] at hlen
      rw [show r=false from hlx]
      exact (decide_eq_false (by omega)).symm
     | cons c hw =>
      simp only [UY,KA] at hlen
      rw [show r=true from hlx]
      exact (decide_eq_true (by omega)).symm
    | cons a hv =>
     cases ws with
     | nil =>
      simp only [UY,KA] at hlen
      rw [show r=false from hlx]
      exact (decide_eq_false (by omega)).symm
     | cons c hw =>
      rw [XG] at hz
      cases hz
   rw [hv] at h
   wp_walk
   exact ⟨_,rfl,by simpa [NI] using h⟩
  case h =>
   exact ⟨rfl,rfl,items.toList,items2.toList,rfl,hx,by simp [Fi]⟩
end
theorem qf8 {A:KF}{s:Kg}{items items2:Array Ke}(hl:IsTup s.heap l items)(hb:IsTup s.heap b items2)(hu:A.units<cLine)(h:Yr A.in1 s items.toList items2.toList r):LtAt A s (.ref l) (.ref b) r:=fun prog w E Q q=>by
 obtain ⟨⟨cls,dd,data,sl⟩,ho,hc,n,hd⟩:=id hl
 obtain ⟨⟨cls2,dd2,data2,sl2⟩,ho2,hc2,n2,hd2⟩:=id hb
 simp only at hc hd hc2 hd2
 subst hc hd hc2 hd2
 exact Ny (op:=.Lt) ⟨_,ho,rfl⟩ ⟨_,ho2,rfl⟩ PySem.F.slot_tuple_lt PySem.F.entry_tuple_lt (PySem.F.args_tuple_lt_2 _ _) (qbt l b items items2 n n2 dd dd2 sl sl2)
  ⟨ho,ho2,r,h,show K8 r≠NR/\Q (.bool r) s from ⟨(fun x=>nomatch x),q⟩⟩ hu
section
open PySem.SeqAt
open PySem.AutoSeq1 (wpAny_loadPart')
open PySem.MeetsSeq PySem.MeetsSeq2 PySem.MeetsSeq3
theorem qbc (l b:Kf)(xs ys:Array Ke)(n n2:Nat)(dd dd2:Option Kf)(sl sl2:Array (Option Ke)):∀ (k i:Nat),xs.size=i+k->i<=ys.size->Meets (UA.«list.__eq__.loop» ⟨[.ref l,.ref b,rawInt i,rawInt 0],[]⟩)
   (fun A R s=>s.heap.get? l=some ⟨.type "list", dd,.seq xs n,sl⟩/\s.heap.get? b=some ⟨.type "list", dd2,.seq ys n2,sl2⟩/\∃ r,Yr A.in1 s (xs.toList.drop i) (ys.toList.drop i) r/\R (.ok (.ret (.bool r))) s):=by
 intro k
 induction k with
 | zero =>
  intro i hx hy prog w A R s ⟨hl,hb,r,hq,hR⟩
  obtain ⟨hp,g,d,tk,os⟩:=s
  have e1:xs.toList.drop i=[]:=Nz (by rw [K6];omega)
  have e2:xs[((i:Nat):Int).toNat]?=none:=by rw [UE];exact UJ (by omega)
  rw [e1] at hq
  have hr:r=decide (xs.size<ys.size):=by
   by_cases h:i<ys.size
   ·have e3:ys.toList.drop i=ys[i]::ys.toList.drop (i+1):=by rw [VF (by rw [K6];exact h),NS]
    rw [e3] at hq
    rw [show r=true from hq];exact (decide_eq_true (by omega)).symm
   ·rw [Nz (by rw [K6];omega)] at hq
    rw [show r=false from hq];exact (decide_eq_false (by omega)).symm
  rw [hr] at hR
  wp_walk using wpAny_loadPart' hl,wpAny_loadPart' hb
  rw [e2]
  wp_walk using wpAny_loadPart' hl,wpAny_loadPart' hb
  exact hR
 | succ k ih =>
  intro i hx hy prog w A R s ⟨hl,hb,r,hq,hR⟩
  obtain ⟨hp,g,d,tk,os⟩:=s
  have h1:i<xs.size:=by omega
  have e1:xs.toList.drop i=xs[i]::xs.toList.drop (i+1):=by rw [VF (by rw [K6];exact h1),NS]
  have e2:xs[((i:Nat):Int).toNat]?=some xs[i]:=by rw [UE];exact Na h1
  rw [e1] at hq
  wp_walk using wpAny_loadPart' hl,wpAny_loadPart' hb
  by_cases h2:i<ys.size
  ·have e3:ys.toList.drop i=ys[i]::ys.toList.drop (i+1):=by rw [VF (by rw [K6];exact h2),NS]
   have e4:ys[((i:Nat):Int).toNat]?=some ys[i]:=by rw [UE];exact Na h2
   rw [e3] at hq
   obtain ⟨e,he,q1,q2⟩:=hq
   rw [e2,e4]
   refine Kc (he prog w _ _ ?_)
   cases e with
   | true =>
    wp_walk
    refine ⟨UO plain_eq_loop _,UF entry_eq_loop ?_⟩
    rw [Uc plain_eq_loop _]
    exact ih (i+1) (by omega) h2 prog w A R _ ⟨hl,hb,r,q1 rfl,hR⟩
   | false =>
    wp_walk using wpAny_loadPart' hl,wpAny_loadPart' hb
    rw [e2,e4]
    have hri:=q2 rfl prog w
    wp_walk using hri
    exact hR
  ·rw [Nz (as:=ys.toList) (by rw [K6];omega)] at hq
   have e4:ys[((i:Nat):Int).toNat]?=none:=by rw [UE];exact UJ (by omega)
   have hr:r=decide (xs.size<ys.size):=by rw [show r=false from hq];exact (decide_eq_false (by omega)).symm
   rw [hr] at hR
   rw [e2,e4]
   wp_walk using wpAny_loadPart' hl,wpAny_loadPart' hb
   exact hR
theorem qb7 (l b:Kf)(xs ys:Array Ke)(n n2:Nat)(dd dd2:Option Kf)(sl sl2:Array (Option Ke)):Meets (UA.«list.__lt__» ⟨[.ref l,.ref b],[]⟩)
   (fun A R s=>s.heap.get? l=some ⟨.type "list", dd,.seq xs n,sl⟩/\s.heap.get? b=some ⟨.type "list", dd2,.seq ys n2,sl2⟩/\∃ r,Yr A.in1 s xs.toList ys.toList r/\R (.ok (.ret (.bool r))) s):=by
 intro prog w A R s ⟨hl,hb,r,hq,hR⟩
 obtain ⟨hp,g,d,tk,os⟩:=s
 have f3:=AutoSeq1.sub_list_list
 wp_walk using wpAny_loadPart' hl,wpAny_loadPart' hb
 refine ⟨UO plain_eq_loop _,UF entry_eq_loop ?_⟩
 rw [Uc plain_eq_loop _]
 exact qbc l b xs ys n n2 dd dd2 sl sl2 xs.size 0 (Fj _).symm (Vv _) prog w A R _ ⟨hl,hb,r,hq,hR⟩
end
theorem qeS {A:KF}{s:Kg}{o o2:Obj}{xs ys:Array Ke}  (h1:s.heap.get? l=some o) (c1:o.cls=.type "list") (d1:o.data=.seq xs n) (h2:s.heap.get? b=some o2) (c2:o2.cls=.type "list") (d2:o2.data=.seq ys n2) (hu:A.units<cLine) (h:Yr A.in1 s xs.toList ys.toList r):LtAt A s (.ref l) (.ref b) r:=fun prog w E Q q=>by
 obtain ⟨cls,dd,data,sl⟩:=o
 obtain ⟨cls2,dd2,data2,sl2⟩:=o2
 simp only at c1 d1 c2 d2
 subst c1 d1 c2 d2
 exact Ny (op:=.Lt) ⟨_,h1,rfl⟩ ⟨_,h2,rfl⟩ PySem.F.slot_list_lt PySem.F.entry_list_lt (PySem.F.args_list_lt_2 _ _) (qb7 l b xs ys n n2 dd dd2 sl sl2)
  ⟨h1,h2,r,h,show K8 r≠NR/\Q (.bool r) s from ⟨(fun x=>nomatch x),q⟩⟩ hu
theorem YC {A:KF}{s:Kg}(hu:A.units+m+1<cLine)(hit:∀ (x y:Ka) (a b:Ke) (as bs:List Kf) (r:Bool),x.depth<=m->Xi s.heap a x as->Xi s.heap b y bs->x.canLay0=true->y.canLay0=true->ltX x y=some r->LtAt A s a b r) :
  ∀ (xs ys:List Ka) (vs ws:List Ke) (as bs:List Kf) (r:Bool),Kw xs<=m->Uk s.heap vs xs as->Uk s.heap ws ys bs->Km xs=true->Km ys=true->ltXs xs ys=some r->Yr A s vs ws r:=by
 intro xs
 induction xs with
 | nil =>
  intro ys vs ws as bs r _ h1 h2 _ _ e
  cases h1
  cases ys with
  | nil=>cases h2;rw [ltXs] at e;cases e;rfl
  | cons y ys=>cases h2;rw [ltXs] at e;cases e;rfl
 | cons x xs ih =>
  intro ys vs ws as bs r hm h1 h2 c1 c2 e
  cases h1 with
  | cons rx rxs =>
   cases ys with
   | nil=>cases h2;rw [ltXs] at e;cases e;rfl
   | cons y ys =>
    cases h2 with
    | cons ry rys =>
     have c1':x.canLay0=true/\Km xs=true:=by simpa [Km] using c1
     have c2':y.canLay0=true/\Km ys=true:=by simpa [Km] using c2
     have hd:max x.depth (Kw xs)<=m:=by rw [Kw] at hm;exact hm
     have m1:=Vo (NT x.depth (Kw xs)) hd
     have m2:=Vo (NF x.depth (Kw xs)) hd
     rw [ltXs] at e
     refine ⟨Kq x y,NC x y A s _ _ _ _ rx ry c1'.1 c2'.1 (by have:=NP x.depth y.depth;omega),fun q=>?_,fun q=>?_⟩
     ·rw [if_pos q] at e
      exact ih ys _ _ _ _ r m2 rxs rys c1'.2 c2'.2 e
     ·rw [if_neg (by rw [q];exact US)] at e
      exact hit x y _ _ _ _ r m1 rx ry c1'.1 c2'.1 e
theorem JC:∀ (n:Nat) (da db:Ka) (A:KF) (s:Kg) (a b:Ke) (as bs:List Kf) (r:Bool),da.depth<=n->Xi s.heap a da as->Xi s.heap b db bs->da.canLay0=true->db.canLay0=true->A.units+n+1<cLine->ltX da db=some r->LtAt A s a b r:=by
 intro n
 induction n with
 | zero =>
  intro da db A s a b as bs r hd ra rb ca cb hu e
  cases da with
  | int i =>
   cases db with
   | int j =>
    cases ra;cases rb
    rw [ltX] at e
    cases e
    exact fun prog w E Q q=>HT.qcr A s i _ j _ prog w E Q q
   | _=>simp [ltX] at e
  | tuple xs =>
   rw [UZ] at hd
   omega
  | list xs =>
   rw [UZ] at hd
   omega
  | _=>simp [ltX] at e
 | succ n ih =>
  intro da db A s a b as bs r hd ra rb ca cb hu e
  cases da with
  | int i =>
   cases db with
   | int j =>
    cases ra;cases rb
    rw [ltX] at e
    cases e
    exact fun prog w E Q q=>HT.qcr A s i _ j _ prog w E Q q
   | _=>simp [ltX] at e
  | tuple xs =>
   cases db with
   | tuple ys =>
    rw [UZ] at hd
    rw [ltX] at e
    cases ra with
    | tuple e1 c1 d1 t1 =>
     cases rb with
     | tuple e2 c2 d2 t2 =>
      refine qf8 ⟨_,e1,c1,_,d1⟩ ⟨_,e2,c2,_,d2⟩ (by omega) ?_
      exact YC (m:=n) (by show A.units+1+n+1<cLine;omega) (fun x y a b as bs r hx r1 r2 k1 k2 e=>ih x y A.in1 s a b as bs r hx r1 r2 k1 k2 (by show A.units+1+n+1<cLine;omega) e)
       xs ys _ _ _ _ r (by omega) t1 t2 (by simpa [KL] using ca) (by simpa [KL] using cb) e
   | _=>simp [ltX] at e
  | list xs =>
   cases db with
   | list ys =>
    rw [UZ] at hd
    rw [ltX] at e
    cases ra with
    | list e1 c1 d1 t1 =>
     cases rb with
     | list e2 c2 d2 t2 =>
      refine qeS e1 c1 d1 e2 c2 d2 (by omega) ?_
      exact YC (m:=n) (by show A.units+1+n+1<cLine;omega) (fun x y a b as bs r hx r1 r2 k1 k2 e=>ih x y A.in1 s a b as bs r hx r1 r2 k1 k2 (by show A.units+1+n+1<cLine;omega) e)
       xs ys _ _ _ _ r (by omega) t1 t2 (by simpa [KL] using ca) (by simpa [KL] using cb) e
   | _=>simp [ltX] at e
  | _=>simp [ltX] at e
noncomputable def ltD2 (x y:Ka):Option Ka:=if K5 x=true/\K5 y=true/\x.depth<=60 then ob (ltX x y) fun r=>some (.bool r) else none
theorem qi7 {X:Cx}(hr:Room k X.A):OpD X (compareOp .Lt) ltD2:=by
 intro pins s σ H x y v u Q I rx ry ⟨S,dx,dy,d,m,h1,h2,e,q⟩
 unfold ltD2 at e
 split at e
 ·rename_i hc
  obtain ⟨as,q1⟩:=h1.reads I (KY hc.1) rx
  obtain ⟨bs,q2⟩:=h2.reads I (KY hc.2.1) ry
  obtain ⟨r,e1,e⟩:=qd e
  cases e
  have hu:=hr.units
  exact JC 60 dx dy X.A s v u as bs r hc.2.2 q1 q2 (KY hc.1) (KY hc.2.1) (by omega) e1 X.prog X.w X.xe _ (ju I (q _ H (Same.refl H) (.bool r)) rfl)
 ·cases e
end L2
namespace L2
open PySem PySem.Spec PyProof.Rows PySem.W
noncomputable def runC {α:Type}(lt:Nat->Nat->Option Bool):KasT α->Option α
 | .ret a=>some a
 | .ask i j k=>ob (lt i j) fun b=>runC lt (k b)
theorem qea {α:Type}  {Q:α->Kg->Prop} (hc:∀ i j b C,lt i j=some b->C b s->cmp i j C s) :
  ∀ (t:KasT α) (a:α),runC lt t=some a->Q a s->t.kasWp cmp Q s
 | .ret x,a,e,q=>by cases e;exact q
 | .ask i j k,a,e,q=>by
  obtain ⟨b,e1,e2⟩:=qd e
  exact hc i j b _ e1 (qea hc (k b) a e2 q)
section
variable {prog:Ku}{w:KI}{A:KF}{E:Ke->Kg->Prop}{s:Kg}
def Kept (a:Kf)(s s':Kg):Prop:=∀ b o,b≠a->s.heap.get? b=some o->s'.heap.get? b=some o
theorem qc5 {vs:List Ke}{P:PySem.Fin->Kg->Prop}{κ:SortKind}{p:Array Nat}(ho:s.heap.get? a=some (seqObj "list" vs.toArray n))(h2:2<=vs.length)(h64:vs.length<64)
  (hk:∀ (s':Kg) (Q:SortKind->Kg->Prop),Kept a s s'->Q κ s'->wpAny (model prog w) A (keyKind' vs.toArray) Q E s')
  (hr:∀ (s':Kg) (G:Array Nat->Kg->Prop),Kept a s s'->G p s'->(EE vs.length).kasWp (kas_ask prog w A κ vs) G s')
  (h:P (.done (.ret .none)) { s with heap:=sortedHeap s.heap a vs (p.toList.map fun i=>vs.getD i VC).toArray }) :
  wpAny (model prog w) A (UA.«list.sort» ⟨[.ref a],[]⟩) P E s:=by
 have small:vs.length<=sizeLine:=by rw [Xh];omega
 have lt:=Ks ho
 obtain ⟨e1,o1⟩:∃ e1,(s.heap.update a (UC fun _=>#[])).get? a=some (seqObj "list" #[] e1):=⟨_,get?_update_seq ho fun _=>#[]⟩
 rw [list_sort_plain]
 refine Kc (listItems_at ho rfl (Kc (Ei ho rfl (Kc (ER o1 rfl (Kc ?_))) (by simpa using small) (Vv _))))
 refine Nr (Kc (Ej (VG ?_) (Vv _))) (by simpa using small)
 obtain ⟨h6,hE⟩:∃ h6,h6=((s.heap.update a (UC fun _=>(#[]:Array Ke))).push (seqObj "tuple" vs.toArray 0)).push (seqObj "list" #[] 0):=⟨_,rfl⟩
 have kp:Kept a s { s with heap:=h6 }:=fun b o ne e=>by
  show h6.get? b=some o
  rw [hE]
  refine Kh _ (Kh _ ?_)
  rw [U6 _ _ _ _ ne]
  exact e
 have o6:h6.get? a=some (seqObj "list" #[] e1):=by
  rw [hE]
  exact Kh _ (Kh _ o1)
 show wpAny (model prog w) A _ P E { s with heap:=((s.heap.update a (UC fun _=>(#[]:Array Ke))).push (seqObj "tuple" vs.toArray 0)).push (seqObj "list" #[] 0) }
 rw [← hE]
 have n2:¬ vs.toArray.size<2:=by rw [KB];omega
 dsimp only
 rw [if_neg n2,if_neg n2]
 refine Kc (hk _ _ kp ?_)
 refine Kc (K3 (kat_run (Q:=fun st' s'=>s'={ s with heap:=h6 }/\arrOf st'=p.map (kas_item (vs.toArray.zip vs.toArray))/\failedOf st'=none/\p.size=vs.length) rfl h2 h64
  (fun p' st' s' z har hf hg=>⟨hg.1,by rw [← hg.2];exact har,hf,by rw [← hg.2];exact z⟩) (hr _ (fun p' s'=>s'={ s with heap:=h6 }/\p'=p) kp ⟨rfl,rfl⟩)) ?_ fun _ _ e=>e)
 rintro ⟨⟨⟩,st'⟩ s' ⟨rfl,har,hf,hz⟩
 dsimp only
 rw [kat_snds rfl har]
 refine Kc (ER o6 rfl (Kc (Ei o6 rfl ?_ (Vv _) (by rw [KB,Kj,K6,hz];omega))))
 rw [hf]
 simp only [bne_self_eq_false,VA,if_false]
 refine Kl ?_
 rw [hE]
 exact h
theorem qc6 {vs:List Ke}{P:PySem.Fin->Kg->Prop}(ho:s.heap.get? a=some (seqObj "list" vs.toArray n))(h2:vs.length<2)
  (h:P (.done (.ret .none)) { s with heap:=sortedHeap s.heap a vs vs.toArray }):wpAny (model prog w) A (UA.«list.sort» ⟨[.ref a],[]⟩) P E s:=by
 have small:vs.length<=sizeLine:=by rw [Xh];omega
 obtain ⟨e1,o1⟩:∃ e1,(s.heap.update a (UC fun _=>#[])).get? a=some (seqObj "list" #[] e1):=⟨_,get?_update_seq ho fun _=>#[]⟩
 rw [list_sort_plain]
 refine Kc (listItems_at ho rfl (Kc (Ei ho rfl (Kc (ER o1 rfl (Kc ?_))) (by simpa using small) (Vv _))))
 refine Nr (Kc (Ej (VG ?_) (Vv _))) (by simpa using small)
 obtain ⟨h6,hE⟩:∃ h6,h6=((s.heap.update a (UC fun _=>(#[]:Array Ke))).push (seqObj "tuple" vs.toArray 0)).push (seqObj "list" #[] 0):=⟨_,rfl⟩
 have o6:h6.get? a=some (seqObj "list" #[] e1):=by
  rw [hE]
  exact Kh _ (Kh _ o1)
 show wpAny (model prog w) A _ P E { s with heap:=((s.heap.update a (UC fun _=>(#[]:Array Ke))).push (seqObj "tuple" vs.toArray 0)).push (seqObj "list" #[] 0) }
 rw [← hE]
 have n2:vs.toArray.size<2:=by rw [KB];omega
 dsimp only
 rw [if_pos n2,if_pos n2]
 refine Kc (Kl ?_)
 rw [StateT.run_pure]
 refine Kc (Kl ?_)
 dsimp only
 have eo:Array.map (fun x=>x.2) (vs.toArray.zip vs.toArray)=vs.toArray:=by
  apply Array.toList_inj.mp
  simp [List.map_snd_zip]
 show wpAny (model prog w) A (seqEpoch a >>= _) P E { s with heap:=h6 }
 refine Kc (ER o6 rfl (Kc ?_))
 rw [show Array.map (fun x=>x.2) (arrOf (SortSt.mk' general' (vs.toArray.zip vs.toArray) #[] 7 none))=vs.toArray from eo]
 refine Ei o6 rfl ?_ (Vv _) (by rw [KB];omega)
 simp only [bne_self_eq_false,VA,if_false]
 refine Kl ?_
 rw [hE]
 exact h
theorem qbp {vs:List Ke}{Q:Ke->Kg->Prop}{κ:SortKind}{p:Array Nat}(hl:s.heap.IsList l vs.toArray)(h2:2<=vs.length)(h64:vs.length<64)
  (hk:∀ (s':Kg) (Q:SortKind->Kg->Prop),(∀ b o,s.heap.get? b=some o->s'.heap.get? b=some o)->Q κ s'->wpAny (model prog w) A.in1.in1 (keyKind' vs.toArray) Q (fun _ _=>False) s')
  (hr:∀ (s':Kg) (G:Array Nat->Kg->Prop),(∀ b o,s.heap.get? b=some o->s'.heap.get? b=some o)->G p s'->(EE vs.length).kasWp (kas_ask prog w A.in1.in1 κ vs) G s')
  (h:Q (.ref (s.heap.objs.size+1)) { s with heap:=sortedAll s.heap vs (p.toList.map fun i=>vs.getD i VC).toArray }) :
  wpAny (model prog w) A (call (.builtin "sorted") [.ref l]) Q E s:=by
 have small:vs.length<=sizeLine:=by rw [Xh];omega
 refine Calls.call_function_entry kind_sorted plain_sorted entry_sorted (args_sorted1 _) ?_
 unfold UA.«sorted»
 refine Kc (m:=checkCount "sorted" 1 1 _) (Kl (Kc (collect_list hl (Kc (Ej ?_ (by simpa using small))) (by simpa using small))))
 have zz:((s.heap.push (seqObj "list" #[] 0)).update s.heap.objs.size (UC (·++vs.toArray))).objs.size=s.heap.objs.size+1:=by rw [Heap.size_update,size_push']
 obtain ⟨h3,hH⟩:∃ h3,h3=((s.heap.push (seqObj "list" #[] 0)).update s.heap.objs.size (UC (·++vs.toArray))).push (seqObj "list" vs.toArray 0):=⟨_,rfl⟩
 have oL:h3.get? (s.heap.objs.size+1)=some (seqObj "list" vs.toArray 0):=by
  rw [hH,← zz]
  exact Kz _ rfl
 have keep:∀ b o,s.heap.get? b=some o->h3.get? b=some o:=fun b o e=>by
  rw [hH]
  have hlt:=Ks e
  refine Kh _ ?_
  rw [U6 _ _ _ _ (KN hlt)]
  exact Kh _ e
 show wpAny _ _ _ _ _ { s with heap:=((s.heap.push (seqObj "list" #[] 0)).update s.heap.objs.size (UC (·++vs.toArray))).push (seqObj "list" vs.toArray 0) }
 rw [zz,← hH]
 have k2:∀ s':Kg,Kept (s.heap.objs.size+1) { s with heap:=h3 } s'->∀ b o,s.heap.get? b=some o->s'.heap.get? b=some o:=fun s' kp b o e=>kp b o (KN (K4 (Ks e))) (keep b o e)
 refine Kc (VG (UR slot_list_sort ⟨_,oL,rfl⟩ entry_list_sort (qc5 (κ:=κ) (p:=p) oL h2 h64 (fun s' Q kp q=>K3 (hk s' Q (k2 s' kp) q) (fun _ _ z=>z) fun _ _ z=>z.elim) (fun s' G kp q=>hr s' G (k2 s' kp) q) ⟨_,rfl,?_⟩) (args_list_sort _)))
 refine Kl ⟨_,rfl,?_⟩
 have hA:sortedHeap h3 (s.heap.objs.size+1) vs (p.toList.map fun i=>vs.getD i VC).toArray=sortedAll s.heap vs (p.toList.map fun i=>vs.getD i VC).toArray:=by
  rw [hH]
  rfl
 rw [hA]
 exact h
theorem qbq {vs:List Ke}{Q:Ke->Kg->Prop}(hl:s.heap.IsList l vs.toArray)(h2:vs.length<2)
  (h:Q (.ref (s.heap.objs.size+1)) { s with heap:=sortedAll s.heap vs vs.toArray }) :
  wpAny (model prog w) A (call (.builtin "sorted") [.ref l]) Q E s:=by
 have small:vs.length<=sizeLine:=by rw [Xh];omega
 refine Calls.call_function_entry kind_sorted plain_sorted entry_sorted (args_sorted1 _) ?_
 unfold UA.«sorted»
 refine Kc (m:=checkCount "sorted" 1 1 _) (Kl (Kc (collect_list hl (Kc (Ej ?_ (by simpa using small))) (by simpa using small))))
 have zz:((s.heap.push (seqObj "list" #[] 0)).update s.heap.objs.size (UC (·++vs.toArray))).objs.size=s.heap.objs.size+1:=by rw [Heap.size_update,size_push']
 obtain ⟨h3,hH⟩:∃ h3,h3=((s.heap.push (seqObj "list" #[] 0)).update s.heap.objs.size (UC (·++vs.toArray))).push (seqObj "list" vs.toArray 0):=⟨_,rfl⟩
 have oL:h3.get? (s.heap.objs.size+1)=some (seqObj "list" vs.toArray 0):=by
  rw [hH,← zz]
  exact Kz _ rfl
 show wpAny _ _ _ _ _ { s with heap:=((s.heap.push (seqObj "list" #[] 0)).update s.heap.objs.size (UC (·++vs.toArray))).push (seqObj "list" vs.toArray 0) }
 rw [zz,← hH]
 refine Kc (VG (UR slot_list_sort ⟨_,oL,rfl⟩ entry_list_sort (qc6 oL h2 ⟨_,rfl,?_⟩) (args_list_sort _)))
 refine Kl ⟨_,rfl,?_⟩
 have hA:sortedHeap h3 (s.heap.objs.size+1) vs vs.toArray=sortedAll s.heap vs vs.toArray:=by
  rw [hH]
  rfl
 rw [hA]
 exact h
end
noncomputable def qb8 (ds:List Ka)(i j:Nat):Option Bool:=match ds[i]?,ds[j]? with
 | some x,some y=>ltX x y
 | _,_=>none
noncomputable def keyD:Ka->Nat
 | .tuple (.int _::_)=>0
 | .tuple (.tuple _::_)=>1
 | .int _=>2
 | _=>3
noncomputable def qcm (ds:List Ka)(p:Array Nat):Option Ka:=if (p.toList.all fun i=>decide (i<ds.length))=true/\p.toList.length<=1000 then some (.list (p.toList.map fun i=>ds.getD i .none)) else none
noncomputable def Z9 (k:Nat)(ds:List Ka):Bool:=(ds.all fun d=>keyD d==k)&&(decide (2<=ds.length)&&(decide (ds.length<64)&&(Km ds&&decide (Kw ds<=50))))
noncomputable def Q8:List Ka->Option Ka
 | [.list ds]=>if ds.length<2 then some (.list ds) else if Z9 0 ds=true\/Z9 1 ds=true then ob (runC (qb8 ds) (EE ds.length)) fun p=>qcm ds p else none
 | _=>none
section
variable {prog:Ku}{w:KI}{A:KF}{s:Kg}
theorem qa9 {b fin:Bool}  (hu:A.units+m+1<cLine) (q:Q r s) :
  ∀ (xs ys:List Ka) (vs ws:List Ke) (as bs:List Kf) (i:Nat),Kw xs<=m->Uk s.heap vs xs as->Uk s.heap ws ys bs->Km xs=true->Km ys=true->ltXs xs ys=some r->
   (b=true->i=0->∀ x y,xs.head?=some x->ys.head?=some y->∃ n k,x=.int n/\y=.int k)->fin=decide (xs.length<ys.length)->KatLex prog w A b fin Q (vs.zip ws) i s:=by
 intro xs
 induction xs with
 | nil =>
  intro ys vs ws as bs i _ h1 h2 _ _ e _ hf
  cases h1
  rw [Eu]
  refine kat_nil ?_
  cases ys with
  | nil=>rw [ltXs] at e;cases e;rw [hf];simpa using q
  | cons y ys=>rw [ltXs] at e;cases e;rw [hf];simpa using q
 | cons x xs ih =>
  intro ys vs ws as bs i hm h1 h2 c1 c2 e hb hf
  cases h1 with
  | cons rx rxs =>
   cases ys with
   | nil =>
    cases h2
    rw [Ec]
    refine kat_nil ?_
    rw [ltXs] at e;cases e;rw [hf];simpa using q
   | cons y ys =>
    cases h2 with
    | cons ry rys =>
     have c1':x.canLay0=true/\Km xs=true:=by simpa [Km] using c1
     have c2':y.canLay0=true/\Km ys=true:=by simpa [Km] using c2
     have hd:max x.depth (Kw xs)<=m:=by rw [Kw] at hm;exact hm
     have m1:=Vo (NT x.depth (Kw xs)) hd
     have m2:=Vo (NF x.depth (Kw xs)) hd
     rw [ltXs] at e
     rw [XG]
     refine kat_cons (NC x y A s _ _ _ _ rx ry c1'.1 c2'.1 (by have:=NP x.depth y.depth;omega) prog w _ _ (kat_go (fun z=>?_) fun z=>?_))
     ·rw [if_pos z] at e
      refine kat_yes (ih ys _ _ _ _ (i+1) m2 rxs rys c1'.2 c2'.2 e (fun _ z=>by omega) ?_)
      rw [hf,KA,KA]
      exact decide_eq_decide.mpr (by omega)
     ·rw [if_neg (by rw [z];exact US)] at e
      refine kat_no ?_
      cases hbi:(b&&i==0) with
      | true =>
       rw [Kp] at hbi
       obtain ⟨n,k,rfl,rfl⟩:=hb hbi.1 (by simpa using hbi.2) x y rfl rfl
       cases rx;cases ry
       rw [ltX] at e
       cases e
       exact oneLt_int q
      | false =>
       exact kat_one _ _ (JC m x y A s _ _ _ _ r m1 rx ry c1'.1 c2'.1 hu e prog w _ _ q)
theorem yD:∀ {vs:List Ke} {ds:List Ka} {as:List Kf},Uk h vs ds as->vs.length=ds.length
 | _,_,_,.nil=>rfl
 | _,_,_,.cons _ t=>by rw [KA,KA,yD t]
theorem yC:∀ {vs:List Ke} {ds:List Ka} {as:List Kf} {i:Nat} {d:Ka},Uk h vs ds as->ds[i]?=some d->∃ v bs,vs[i]?=some v/\Xi h v d bs
 | _,_,_,_,_,.nil,e=>by simp at e
 | _,_,_,0,_,.cons r _,e=>by simp at e;subst e;exact ⟨_,_,rfl,r⟩
 | _,_,_,i+1,d,.cons _ t,e=>by
  obtain ⟨v,bs,h1,h2⟩:=yC (i:=i) (d:=d) t (by simpa using e)
  exact ⟨v,bs,by simpa using h1,h2⟩
theorem Jw:∀ {ds:List Ka} {i:Nat} {d:Ka},Km ds=true->ds[i]?=some d->d.canLay0=true/\d.depth<=Kw ds
 | [],_,_,_,e=>by simp at e
 | x::xs,0,d,h,e=>by
  have h':x.canLay0=true/\Km xs=true:=by simpa [Km] using h
  simp at e
  subst e
  exact ⟨h'.1,by rw [Kw];exact NT _ _⟩
 | x::xs,i+1,d,h,e=>by
  have h':x.canLay0=true/\Km xs=true:=by simpa [Km] using h
  obtain ⟨h1,h2⟩:=Jw (i:=i) (d:=d) h'.2 (by simpa using e)
  exact ⟨h1,Vo h2 (by rw [Kw];exact NF _ _)⟩
theorem wU (hk:k<2):∀ {vs:List Ke} {ds:List Ka} {as:List Kf},Uk h vs ds as->(ds.all fun d=>keyD d==k)=true->∃ fs:List Ke,KatTups h vs fs/\fs.length=vs.length/\∀ (M:Model),∀ f∈fs,UH M h (typeOf f) (if k=0 then V5 "int" else V5 "tuple")
 | _,_,_,.nil,_=>⟨[],trivial,rfl,fun _ _ z=>nomatch z⟩
 | _,d::ds,_,.cons (d:=_) r t,e=>by
  rw [List.all_cons,Kp] at e
  obtain ⟨fs,h1,h2,h3⟩:=wU hk t e.2
  have e1:keyD d=k:=by simpa using e.1
  cases d with
  | tuple xs =>
   cases r with
   | @tuple a o its n xs' as' g1 g2 g3 g4 =>
    cases xs with
    | nil=>rw [show keyD (.tuple [])=3 from rfl] at e1;omega
    | cons x xs =>
     obtain ⟨v,rv,q1,rx⟩:=yC (i:=0) g4 rfl
     have h0:its[0]?=some v:=by rw [← Array.getElem?_toList];exact q1
     refine ⟨v::fs,KatTups.cons g1 g2 g3 h0 h1,by rw [KA,KA,h2],fun M f hf=>?_⟩
     rcases Ko.mp hf with rfl|hf
     ·cases x with
      | int n =>
       cases rx
       rw [show keyD (.tuple (.int n::xs))=0 from rfl] at e1
       rw [if_pos e1.symm]
       exact Ft rfl
      | tuple ys =>
       rw [show keyD (.tuple (.tuple ys::xs))=1 from rfl] at e1
       cases rx with
       | tuple k1 k2 k3 k4 =>
        rw [if_neg (by omega),← k2]
        exact (XJ k1).andThen .now
      | none=>rw [show keyD (.tuple (.none::xs))=3 from rfl] at e1;omega
      | bool _=>rw [show keyD (.tuple (.bool _::xs))=3 from rfl] at e1;omega
      | str _=>rw [show keyD (.tuple (.str _::xs))=3 from rfl] at e1;omega
      | list _=>rw [show keyD (.tuple (.list _::xs))=3 from rfl] at e1;omega
      | dict _=>rw [show keyD (.tuple (.dict _::xs))=3 from rfl] at e1;omega
     ·exact h3 M f hf
  | int n=>rw [show keyD (.int n)=2 from rfl] at e1;omega
  | none=>rw [show keyD .none=3 from rfl] at e1;omega
  | bool _=>rw [show keyD (.bool _)=3 from rfl] at e1;omega
  | str _=>rw [show keyD (.str _)=3 from rfl] at e1;omega
  | list _=>rw [show keyD (.list _)=3 from rfl] at e1;omega
  | dict _=>rw [show keyD (.dict _)=3 from rfl] at e1;omega
end
section
variable {h h':KC}
mutual
theorem qe9 (k:∀ b o,h.get? b=some o->h'.get? b=some o):∀ {d:Ka} {v:Ke} {as:List Kf},Xi h v d as->d.canLay0=true->Xi h' v d as
 | .none,_,_,r,_=>by cases r;exact .none
 | .bool _,_,_,r,_=>by cases r;exact .bool _
 | .int _,_,_,r,_=>by cases r;exact .int _ _
 | .str _,_,_,r,_=>by cases r;exact .str _ _
 | .list xs,_,_,r,c=>by
  cases r with
  | list e q g t=>exact .list (k _ _ e) q g (QR k t (by simpa [KL] using c))
 | .tuple xs,_,_,r,c=>by
  cases r with
  | tuple e q g t=>exact .tuple (k _ _ e) q g (QR k t (by simpa [KL] using c))
 | .dict _,_,_,_,c=>by simp [KL] at c
theorem QR (k:∀ b o,h.get? b=some o->h'.get? b=some o):∀ {ds:List Ka} {vs:List Ke} {as:List Kf},Uk h vs ds as->Km ds=true->Uk h' vs ds as
 | [],_,_,r,_=>by cases r;exact .nil
 | d::ds,_,_,r,c=>by
  have c':d.canLay0=true/\Km ds=true:=by simpa [Km] using c
  cases r with
  | cons r t=>exact .cons (qe9 k r c'.1) (QR k t c'.2)
end
end
theorem qga (hx:keyD x<2)(e:ltX x y=some r):∃ xs ys,x=.tuple xs/\y=.tuple ys/\ltXs xs ys=some r:=by
 cases x with
 | tuple xs =>
  cases y with
  | tuple ys=>rw [ltX] at e;exact ⟨xs,ys,rfl,rfl,e⟩
  | _=>simp [ltX] at e
 | int n=>simp [keyD] at hx
 | list xs=>simp [keyD] at hx
 | _=>simp [ltX] at e
theorem qai {xs:List Ka}(e:keyD (.tuple xs)=k)(h0:k=0):∀ x,xs.head?=some x->∃ n,x=.int n:=by
 intro x hx
 cases xs with
 | nil=>cases hx
 | cons y ys =>
  cases hx
  cases x with
  | int n=>exact ⟨n,rfl⟩
  | _=>(first|(simp [keyD] at e;omega)|(simp only [keyD] at e;omega))
theorem getD_some {α:Type}{xs:List α}{i:Nat}{x d:α}(e:xs[i]?=some x):xs.getD i d=x:=by rw [Ug,e];rfl
theorem w6 {X:Cx}{k:Nat}(hr:Room k X.A):qi1 X (.builtin "sorted") Q8:=by
 intro pins s σ H xs us Q I r ⟨S,ds,d,m,h1,e,q⟩
 unfold Q8 at e
 split at e
 ·rename_i ds
  split at e
  ·rename_i hlt
   cases e
   obtain ⟨v,rfl,hv⟩:=h1.inv1
   obtain ⟨a,ys,rfl,hs,ht⟩:=hv.list_inv
   obtain ⟨u,rfl,ru⟩:=vals1 r
   cases (show u=KR a from ru)
   obtain ⟨its,rv,pl,hz⟩:=I.list hs.sq
   have hlen:=rv.length
   have hl2:=ht.length
   refine qbq pl.isList (by omega) ?_
   obtain ⟨en,ob⟩:=sortedAll_at s.heap its its.toArray
   have hfr:H (s.heap.objs.size+1)=none:=I.hok.fresh (UW _)
   exact ⟨.ref (s.heap.objs.size+1),_,I.laid (t':=s.toks) (o:=.lst ys) (fun b o e=>sortedAll_old e) (UW _) ⟨hz,_,en,rv,ob⟩,rfl,q _ _ (Same.lay hfr) hfr (OwnO.laid hfr ht)⟩
  split at e
  ·rename_i hok
   obtain ⟨p,e1,e2⟩:=qd e
   obtain ⟨v,rfl,hv⟩:=h1.inv1
   obtain ⟨a,ys,rfl,hs,ht⟩:=hv.list_inv
   obtain ⟨u,rfl,ru⟩:=vals1 r
   cases (show u=KR a from ru)
   obtain ⟨its,rv,pl,hz⟩:=I.list hs.sq
   obtain ⟨kk,hk2,hk⟩:∃ kk,kk<2/\Z9 kk ds=true:=hok.elim (fun z=>⟨0,by decide,z⟩) fun z=>⟨1,by decide,z⟩
   unfold Z9 at hk
   simp only [Kp,decide_eq_true_eq] at hk
   obtain ⟨hall,l2,l64,hcan,hdep⟩:=hk
   obtain ⟨as,ra⟩:=ht.reads I hcan rv
   have hlen:=yD ra
   unfold qcm at e2
   split at e2
   ·rename_i hin
    cases e2
    have hin':∀ i∈p.toList,i<ds.length:=fun i hi=>by
     have:=KW.mp hin.1 i hi
     simpa using this
    have hu:=hr.units
    obtain ⟨T,hT⟩:∃ T,T=(if kk=0 then V5 "int" else V5 "tuple"):=⟨_,rfl⟩
    have hT2:(T==T)=true:=by rw [hT];split<;>rfl
    have hb:(T != V5 "tuple")=true->kk=0:=fun z=>by
     rw [hT] at z
     by_cases h0:kk=0
     ·exact h0
     ·rw [if_neg h0] at z;exact absurd z (by decide)
    refine qbp (κ:=tuples' (T != V5 "tuple")) (p:=p) pl.isList (by omega) (by omega) (fun s' Q' keep q'=>?_) (fun s' G keep g=>?_) ?_
    ·obtain ⟨fs,t1,t2,t3⟩:=wU hk2 (QR keep ra hcan) hall
     exact kat_kind t1 (by omega) (fun f hf=>by rw [hT];exact t3 _ f hf) hT2 q'
    ·have ra':=QR keep ra hcan
     rw [hlen]
     refine qea (fun i j b C el hC=>?_) _ p e1 g
     unfold qb8 at el
     split at el
     ·rename_i x y ex ey
      obtain ⟨vx,bx,gx,rx⟩:=yC ra' ex
      obtain ⟨vy,byy,gy,ry⟩:=yC ra' ey
      obtain ⟨cx,dx⟩:=Jw hcan ex
      obtain ⟨cy,dy⟩:=Jw hcan ey
      have kx:keyD x=kk:=by
       have:=KW.mp hall x (Vs ex)
       simpa using this
      have ky:keyD y=kk:=by
       have:=KW.mp hall y (Vs ey)
       simpa using this
      obtain ⟨xs,ys',rfl,rfl,elx⟩:=qga (by omega) el
      show kas_ask X.prog X.w X.A.in1.in1 _ its i j C s'
      unfold kas_ask
      rw [getD_some gx,getD_some gy]
      cases rx with
      | @tuple ax ox ax1 nx _ _ x1 x2 x3 x4 =>
       cases ry with
       | @tuple ay oy ay1 ny _ _ y1 y2 y3 y4 =>
        have dxs:Kw xs<=50:=by rw [UZ] at dx;omega
        refine kat_lt x1 x3 y1 y3 (qa9 (m:=50) (by show X.A.units+1+1+50+1<cLine;omega) hC xs ys' _ _ _ _ 0 dxs x4 y4 (by simpa [KL] using cx) (by simpa [KL] using cy) elx (fun hbb _ x y hx hy=>?_) ?_)
        ·have h0:=hb hbb
         obtain ⟨n1,rfl⟩:=qai kx h0 x hx
         obtain ⟨n2,rfl⟩:=qai ky h0 y hy
         exact ⟨n1,n2,rfl,rfl⟩
        ·have z1:=yD x4
         have z2:=yD y4
         rw [K6] at z1 z2
         rw [z1,z2]
     ·cases el
    ·obtain ⟨en,ob⟩:=sortedAll_at s.heap its (p.toList.map fun i=>its.getD i VC).toArray
     have hfr:H (s.heap.objs.size+1)=none:=I.hok.fresh (UW _)
     have dl:DenL X.K H S (p.toList.map fun i=>ys.getD i .non) (p.toList.map fun i=>ds.getD i .none):=by
      generalize p.toList=pl at hin'
      induction pl with
      | nil=>exact .nil
      | cons i pl ih =>
       have hi:=hin' i (.head _)
       obtain ⟨vy,gy,dy⟩:=ht.get (Kn hi)
       rw [Kt,Kt,getD_some gy,getD_some (Kn hi)]
       exact .cons dy (ih fun j hj=>hin' j (.tail _ hj))
     have vl:Vals (p.toList.map fun i=>ys.getD i .non) (p.toList.map fun i=>its.getD i VC):=by
      generalize p.toList=pl at hin'
      induction pl with
      | nil=>exact .nil
      | cons i pl ih =>
       have hi:i<ys.length:=by rw [ht.length];exact hin' i (.head _)
       obtain ⟨w,gw,rw'⟩:=rv.get (Kn hi)
       rw [Kt,Kt,getD_some (Kn hi),getD_some gw]
       exact .cons rw' (ih fun j hj=>hin' j (.tail _ hj))
     have zz:(p.toList.map fun i=>ys.getD i V.non).length<=sizeLine:=by rw [Kj];exact VI (zj hin.2)
     refine ⟨.ref (s.heap.objs.size+1),_,I.laid (t':=s.toks) (o:=.lst (p.toList.map fun i=>ys.getD i .non)) (fun b o e=>sortedAll_old e) (UW _) ⟨zz,_,en,vl,ob⟩,rfl,q _ _ (Same.lay hfr) hfr (OwnO.laid hfr dl)⟩
   ·cases e2
  ·cases e
 ·cases e
end L2
namespace L2
open PySem PySem.Spec PyProof.Rows
def qcx (K:Kd)(mg:Str->Option Ke)(x:Str)(d:Ka):Prop:=∃ v u,mg x=some u/\RelV v u/\∀ H S,Den K H S v d
theorem qgk {X:Cx}   (C:qcx X.K X.mg x d) (hg:Gl X x) (hdb:(x==("__debug__" : Str))=false:=by decide +kernel):PD X M (.Name x pos) (kd d):=by
 obtain ⟨v,u,m,r,hd⟩:=C
 exact qio hg m r hd hdb
end L2
namespace L2
open PySem
theorem jr:bootBuiltins "sorted" = some (.builtin "sorted"):=by decide +kernel
end L2
namespace L2
open PySem PySem.Spec PyProof.Rows
theorem ob_s {α β:Type}(x:α)(f:α->Option β):ob (some x) f=f x:=rfl
theorem vr_z (o:Option Ka)(ρ:Rho):vr 0 (o::ρ)=o:=rfl
theorem vr_s (n:Nat)(o:Option Ka)(ρ:Rho):vr (n+1) (o::ρ)=vr n ρ:=rfl
theorem atI0 {α:Type}(x:α)(xs:List α):atI (x::xs) 0=some x:=by simp [atI,ixN]
theorem jV {α:Type}(x:α)(xs:List α)(k:Nat):atI (x::xs) ((k:Int)+1)=atI xs (k:Int):=by
 unfold atI ixN
 have h1:(0:Int)<=(k:Int)+1:=by omega
 have h2:(0:Int)<=(k:Int):=by omega
 rw [if_pos h1,if_pos h2]
 by_cases h:(k:Int)<xs.length
 ·have h':(k:Int)+1<((x::xs).length:Int):=by rw [KA];omega
  rw [if_pos h,if_pos h']
  have e1:((k:Int)+1).toNat=k+1:=by omega
  have e2:(k:Int).toNat=k:=by omega
  rw [e1,e2]
  rfl
 ·have h':¬ (k:Int)+1<((x::xs).length:Int):=by rw [KA];omega
  rw [if_neg h,if_neg h']
  rfl
theorem atI1 {α:Type}(x y:α)(xs:List α):atI (x::y::xs) 1=some y:=(jV x (y::xs) 0).trans (atI0 y xs)
theorem atI2 {α:Type}(x y z:α)(xs:List α):atI (x::y::z::xs) 2=some z:=(jV x (y::z::xs) 1).trans (atI1 y z xs)
theorem atI3 {α:Type}(x y z a:α)(xs:List α):atI (x::y::z::a::xs) 3=some a:=(jV x (y::z::a::xs) 2).trans (atI2 y z a xs)
theorem atI4 {α:Type}(x y z a b:α)(xs:List α):atI (x::y::z::a::b::xs) 4=some b:=(jV x (y::z::a::b::xs) 3).trans (atI3 y z a b xs)
theorem atI5 {α:Type}(x y z a b c:α)(xs:List α):atI (x::y::z::a::b::c::xs) 5=some c:=(jV x (y::z::a::b::c::xs) 4).trans (atI4 y z a b c xs)
theorem qY (h:N3 i j):mulD (.int i) (.int j)=some (.int (i*j)):=by
 show (if N3 i j then some (KJ (i*j)) else none)=_
 rw [if_pos h]
def Bd (n:Nat)(i:Int):Prop:=V0 i<=n
theorem Bd.ok (h:Bd n i)(g:Bd m j)(e:n+m<=134217728:=by decide):N3 i j:=IntMulOk.of_le h g e
theorem Bd.mul (h:Bd n i)(g:Bd m j):Bd (n+m) (i*j):=intBits_mul_le h g
theorem Bd.add (h:Bd n i)(g:Bd m j):Bd (max n m+1) (i+j):=intBits_add_le h g
theorem Bd.mono (h:Bd n i)(e:n<=m:=by decide):Bd m i:=Vo h e
theorem Bd.of {i:Int}(h:i.natAbs<2 ^ n):Bd n i:=intBits_le_iff.mpr h
theorem natLit (n:Nat):((no_index (OfNat.ofNat n):Nat):Int)=(OfNat.ofNat n:Int):=rfl
theorem qhz (i j:Int):eqD (.int i) (.int j)=some (.bool (i==j)):=rfl
theorem qh7 (i j:Int):neD (.int i) (.int j)=some (.bool (!(i==j))):=rfl
theorem pow_a:powD (.int 7919) (.int 8)=some (.int (7919 ^ 8)):=rfl
theorem pow_b:powD (.int 10) (.int 30)=some (.int (10 ^ 30)):=rfl
theorem Q6 (i:Int)(h:0<j):modD (.int i) (.int j)=some (.int (i % j)):=by
 show (if 0<j then some (KJ (i % j)) else none)=_
 rw [if_pos h]
theorem qfH (i:Int)(h:0<j)(h2:j<1073741824):j4 (.int i) (.int j)=some (.int (i / j)):=by
 show (if CDiv i j then some (KJ (i / j)) else none)=_
 rw [if_pos ⟨h,h2⟩]
noncomputable def qaa (o:Option Out)(w:Rho->Option Out):Option Out:=match o with | some (.nx ρ')=>w ρ'|o=>o
theorem qgT (u w:Rho->Option Out)(ρ:Rho):seqO u w ρ=qaa (u ρ) w:=by
 unfold seqO ob qaa
 cases u ρ with
 | none=>rfl
 | some o=>cases o<;>rfl
theorem qbD (ρ:Rho)(w:Rho->Option Out):qaa (some (.nx ρ)) w=w ρ:=rfl
theorem qfl (d:Ka)(w:Rho->Option Out):qaa (some (.rt d)) w=some (.rt d):=rfl
theorem qfj (ρ:Rho)(w:Rho->Option Out):qaa (some (.bk ρ)) w=some (.bk ρ):=rfl
theorem qfk (ρ:Rho)(w:Rho->Option Out):qaa (some (.ct ρ)) w=some (.ct ρ):=rfl
noncomputable def ifO {α:Type}(b:Option Bool)(u w:Rho->Option α)(ρ:Rho):Option α:=match b with | some true=>u ρ|some false=>w ρ|none=>none
theorem ifO_t {α:Type}(u w:Rho->Option α)(ρ:Rho):ifO (some true) u w ρ=u ρ:=rfl
theorem ifO_f {α:Type}(u w:Rho->Option α)(ρ:Rho):ifO (some false) u w ρ=w ρ:=rfl
theorem sIf_b (p:Rho->Option Bool)(u w:Rho->Option Out)(ρ:Rho):sIf p u w ρ=ifO (p ρ) u w ρ:=by
 unfold sIf ob ifO
 cases p ρ with
 | none=>rfl
 | some b=>cases b<;>rfl
theorem vIf_b (p:Rho->Option Bool)(u w:Rho->Option Ka)(ρ:Rho):vIf p u w ρ=ifO (p ρ) u w ρ:=by
 unfold vIf ob ifO
 cases p ρ with
 | none=>rfl
 | some b=>cases b<;>rfl
theorem tA_b (p q:Rho->Option Bool)(ρ:Rho):tA p q ρ=ifO (p ρ) q (fun _=>some false) ρ:=by
 unfold tA ob ifO
 cases p ρ with
 | none=>rfl
 | some b=>cases b<;>rfl
theorem tO_b (p q:Rho->Option Bool)(ρ:Rho):tO p q ρ=ifO (p ρ) (fun _=>some true) q ρ:=by
 unfold tO ob ifO
 cases p ρ with
 | none=>rfl
 | some b=>cases b<;>rfl
theorem vA_b (f g:Rho->Option Ka)(ρ:Rho):vA f g ρ=ifO (ob (f ρ) wA) g (fun _=>some (.bool false)) ρ:=by
 unfold vA ob ifO
 cases f ρ with
 | none=>rfl
 | some x =>
  dsimp only
  cases wA x with
  | none=>rfl
  | some b=>cases b<;>rfl
noncomputable def setO (o:Option Ka)(i:Nat)(ρ:Rho):Option Out:=match o with | some d=>some (.nx (ρ.set i (some d)))|none=>none
theorem qkI (i:Nat)(f:Rho->Option Ka)(ρ:Rho):sSet i f ρ=setO (f ρ) i ρ:=by
 unfold sSet ob setO
 cases f ρ<;>rfl
theorem qkN (d:Ka)(i:Nat)(ρ:Rho):setO (some d) i ρ=some (.nx (ρ.set i (some d))):=rfl
noncomputable def binO (a b:Option Ka)(g:Ka->Ka->Option Ka):Option Ka:=match a,b with | some x,some y=>g x y|_,_=>none
theorem ev2_b (fa fb:Rho->Option Ka)(g:Ka->Ka->Option Ka)(ρ:Rho):ev2 fa fb g ρ=binO (fa ρ) (fb ρ) g:=by
 unfold ev2 ob binO
 cases fa ρ<;>cases fb ρ<;>rfl
theorem qjx (x y:Ka)(g:Ka->Ka->Option Ka):binO (some x) (some y) g=g x y:=rfl
noncomputable def Jv (a:Option Ka)(b:Option (List Ka)):Option (List Ka):=match a,b with | some x,some xs=>some (x::xs)|_,_=>none
theorem aC_b (fa:Rho->Option Ka)(fs:Rho->Option (List Ka))(ρ:Rho):aC fa fs ρ=Jv (fa ρ) (fs ρ):=by
 unfold aC ob Jv
 cases fa ρ<;>cases fs ρ<;>rfl
theorem qhu (x:Ka)(xs:List Ka):Jv (some x) (some xs)=some (x::xs):=rfl
noncomputable def qfm (n:Nat)(a:Option (List Ka))(h:List Ka->Option Ka):Option Ka:=match a with | some ds=>if ds.length=n then h ds else none|none=>none
theorem evC_b (n:Nat)(fs:Rho->Option (List Ka))(h:List Ka->Option Ka)(ρ:Rho):evC n fs h ρ=qfm n (fs ρ) h:=by
 unfold evC ob qfm
 cases fs ρ<;>rfl
theorem qhl (n:Nat)(ds:List Ka)(h:List Ka->Option Ka):qfm n (some ds) h=if ds.length=n then h ds else none:=rfl
noncomputable def qdo (b:Option Bool)(tt:Rho->Option Bool)(te:Rho->Option Ka)(ρ:Rho)(d:Ka)(ds:List Ka):Option (List Ka):=match b with | some true=>Jv (te (ρ++[some d])) (QW tt te ρ ds)|some false=>QW tt te ρ ds|none=>none
theorem qdn (tt:Rho->Option Bool)(te:Rho->Option Ka)(ρ:Rho)(d:Ka)(ds:List Ka):QW tt te ρ (d::ds)=qdo (tt (ρ++[some d])) tt te ρ d ds:=by
 rw [QW]
 unfold ob qdo Jv
 cases tt (ρ++[some d]) with
 | none=>rfl
 | some b =>
  cases b with
  | false=>rfl
  | true =>
   dsimp only [if_true]
   rw [if_pos rfl]
   cases te (ρ++[some d])<;>cases QW tt te ρ ds<;>rfl
theorem qhq (tt:Rho->Option Bool)(te:Rho->Option Ka)(ρ:Rho):QW tt te ρ []=some []:=rfl
theorem qdq (tt:Rho->Option Bool)(te:Rho->Option Ka)(ρ:Rho)(d:Ka)(ds:List Ka):qdo (some true) tt te ρ d ds=Jv (te (ρ++[some d])) (QW tt te ρ ds):=rfl
theorem qdp (tt:Rho->Option Bool)(te:Rho->Option Ka)(ρ:Rho)(d:Ka)(ds:List Ka):qdo (some false) tt te ρ d ds=QW tt te ρ ds:=rfl
noncomputable def wW (a:Option (List Ka)):Option Ka:=match a with | some ys=>some (.list ys)|none=>none
noncomputable def qfw (a:Option (List Ka))(n:Nat)(tt:Rho->Option Bool)(te:Rho->Option Ka)(ρ:Rho):Option Ka:=match a with | some ds=>if ρ.length=n/\ds.length<=1000 then wW (QW tt te ρ ds) else none|none=>none
theorem qhs (n:Nat)(fi:Rho->Option (List Ka))(tt:Rho->Option Bool)(te:Rho->Option Ka)(ρ:Rho):jG n fi tt te ρ=qfw (fi ρ) n tt te ρ:=by
 unfold jG ob qfw wW
 cases fi ρ with
 | none=>rfl
 | some ds =>
  dsimp only
  split
  ·cases QW tt te ρ ds<;>rfl
  ·rfl
theorem qho (ds:List Ka)(n:Nat)(tt:Rho->Option Bool)(te:Rho->Option Ka)(ρ:Rho):qfw (some ds) n tt te ρ=if ρ.length=n/\ds.length<=1000 then wW (QW tt te ρ ds) else none:=rfl
theorem qh5 (ds:List Ka):wW (some ds)=some (.list ds):=rfl
noncomputable def forI (a:Option (List Ka))(g:Ka->Rho->Option Rho)(u:Rho->Option Out)(ρ:Rho):Option Out:=match a with | some ds=>forD g u ds ρ|none=>none
theorem qkF (fi:Rho->Option (List Ka))(g:Ka->Rho->Option Rho)(u:Rho->Option Out)(ρ:Rho):sFor fi g u ρ=forI (fi ρ) g u ρ:=by
 unfold sFor ob forI
 cases fi ρ<;>rfl
theorem qjJ (ds:List Ka)(g:Ka->Rho->Option Rho)(u:Rho->Option Out)(ρ:Rho):forI (some ds) g u ρ=forD g u ds ρ:=rfl
noncomputable def forO (o:Option Out)(g:Ka->Rho->Option Rho)(u:Rho->Option Out)(ds:List Ka):Option Out:=match o with
 | some (.nx ρ')=>forD g u ds ρ'
 | some (.ct ρ')=>forD g u ds ρ'
 | some (.bk ρ')=>some (.nx ρ')
 | some (.rt r)=>some (.rt r)
 | none=>none
theorem j5 (g:Ka->Rho->Option Rho)(u:Rho->Option Out)(d:Ka)(ds:List Ka)(ρ:Rho):forD g u (d::ds) ρ=forO (ob (g d ρ) u) g u ds:=by
 rw [forD]
 unfold ob forO
 cases g d ρ with
 | none=>rfl
 | some ρ1 =>
  dsimp only
  cases u ρ1 with
  | none=>rfl
  | some o=>cases o<;>rfl
theorem qcF (g:Ka->Rho->Option Rho)(u:Rho->Option Out)(ρ:Rho):forD g u [] ρ=some (.nx ρ):=rfl
theorem yj (ρ:Rho)(g:Ka->Rho->Option Rho)(u:Rho->Option Out)(ds:List Ka):forO (some (.nx ρ)) g u ds=forD g u ds ρ:=rfl
theorem qhK (ρ:Rho)(g:Ka->Rho->Option Rho)(u:Rho->Option Out)(ds:List Ka):forO (some (.ct ρ)) g u ds=forD g u ds ρ:=rfl
theorem qhJ (ρ:Rho)(g:Ka->Rho->Option Rho)(u:Rho->Option Out)(ds:List Ka):forO (some (.bk ρ)) g u ds=some (.nx ρ):=rfl
theorem qdD (d:Ka)(g:Ka->Rho->Option Rho)(u:Rho->Option Out)(ds:List Ka):forO (some (.rt d)) g u ds=some (.rt d):=rfl
noncomputable def nxO (o:Option Rho):Option Out:=match o with | some ρ=>some (.nx ρ)|none=>none
noncomputable def asgO (o:Option Ka)(g:Ka->Rho->Option Rho)(ρ:Rho):Option Out:=match o with | some d=>nxO (g d ρ)|none=>none
theorem qkE (f:Rho->Option Ka)(g:Ka->Rho->Option Rho)(ρ:Rho):sAsg f g ρ=asgO (f ρ) g ρ:=by
 unfold sAsg ob asgO nxO
 cases f ρ with
 | none=>rfl
 | some d=>dsimp only;cases g d ρ<;>rfl
theorem qju (d:Ka)(g:Ka->Rho->Option Rho)(ρ:Rho):asgO (some d) g ρ=nxO (g d ρ):=rfl
theorem nxO_s (ρ:Rho):nxO (some ρ)=some (.nx ρ):=rfl
noncomputable def retO (o:Option Ka):Option Out:=match o with | some d=>some (.rt d)|none=>none
theorem qkH (f:Rho->Option Ka)(ρ:Rho):sRet f ρ=retO (f ρ):=by
 unfold sRet ob retO
 cases f ρ<;>rfl
theorem qkC (d:Ka):retO (some d)=some (.rt d):=rfl
theorem gsN_n (ρ:Rho):gsN [] ρ=some ρ:=rfl
theorem gsC_c (g1:Ka->Rho->Option Rho)(g2:List Ka->Rho->Option Rho)(d:Ka)(r:List Ka)(ρ:Rho):gsC g1 g2 (d::r) ρ=ob (g1 d ρ) (g2 r):=rfl
theorem qkY (n:Nat)(g:List Ka->Rho->Option Rho)(ds:List Ka)(ρ:Rho):unpD n g (.tuple ds) ρ=if ds.length=n then g ds ρ else none:=rfl
theorem qkL (ds:List Ka):seqD (.list ds)=some ds:=rfl
theorem qkM (ds:List Ka):seqD (.tuple ds)=some ds:=rfl
theorem ixD_l (ds:List Ka)(i:Int):ixD (.list ds) (.int i)=atI ds i:=rfl
theorem ixD_t (ds:List Ka)(i:Int):ixD (.tuple ds) (.int i)=atI ds i:=rfl
theorem qj1 (ds:List Ka):lenD [.list ds]=some (.int ds.length):=rfl
theorem qj2 (ds:List Ka):lenD [.tuple ds]=some (.int ds.length):=rfl
theorem qg3 (ds:List Ka):JM [.list ds]=some (.tuple ds):=rfl
theorem qg4 (ds:List Ka):JM [.tuple ds]=some (.tuple ds):=rfl
theorem qh3 (ds:List Ka):qan [.list ds]=some (.list ds):=rfl
theorem qh4 (ds:List Ka):qan [.tuple ds]=some (.list ds):=rfl
theorem qhk (b:Bool):wA (.bool b)=some b:=rfl
theorem qkj (d:Ka):outD (.rt d)=some d:=rfl
theorem qki (ρ:Rho):outD (.nx ρ)=some .none:=rfl
theorem qjp (i j:Int):qdf (.int i) (.int j)=some (.int (i+j)):=rfl
noncomputable def takO (b:Bool)(o:Option Ka)(i:Nat)(ρ:Rho):Option Out:=match b,o with | true,some d=>some (.nx (ρ.set i (some d)))|_,_=>none
theorem qiL (i:Nat)(f:Rho->Option Ka)(ρ:Rho):Zk i f ρ=takO (decide (i<ρ.length)) (f ρ) i ρ:=by
 unfold Zk ob takO
 by_cases h:i<ρ.length
 ·rw [if_pos h,decide_eq_true h]
  cases f ρ<;>rfl
 ·rw [if_neg h,decide_eq_false h]
theorem qkT (d:Ka)(i:Nat)(ρ:Rho):takO true (some d) i ρ=some (.nx (ρ.set i (some d))):=rfl
noncomputable def flaO (o:Option Ka):Option Ka:=match o with | some d=>if flat d=true then some d else none|none=>none
theorem qhG (f:Rho->Option Ka)(ρ:Rho):qbK f ρ=flaO (f ρ):=by
 unfold qbK ob flaO
 cases f ρ<;>rfl
theorem qjH (d:Ka):flaO (some d)=if flat d=true then some d else none:=rfl
noncomputable def appO (l d:Option Ka)(i:Nat)(ρ:Rho):Option Out:=match l,d with | some x,some y=>setO (appD x y) i ρ|_,_=>none
theorem qkD (i:Nat)(f:Rho->Option Ka)(ρ:Rho):sApp i f ρ=appO (vr i ρ) (f ρ) i ρ:=by
 unfold sApp ob appO setO
 cases vr i ρ with
 | none=>rfl
 | some x =>
  cases f ρ with
  | none=>rfl
  | some y=>dsimp only;cases appD x y<;>rfl
theorem qjt (x y:Ka)(i:Nat)(ρ:Rho):appO (some x) (some y) i ρ=setO (appD x y) i ρ:=rfl
theorem qcA (ds:List Ka)(d:Ka):appD (.list ds) d=if ds.length<1000 then some (.list (ds++[d])) else none:=rfl
theorem qkk (d:Ka):outF (.rt d)=some d:=rfl
theorem isD_n (x:Ka):isD x .none=some (.bool (isNone x)):=by cases x<;>rfl
theorem isD_b (b c:Bool):isD (.bool b) (.bool c)=some (.bool (b==c)):=rfl
noncomputable def sliO (a:Option Ka)(l h:Option (Option Int)):Option Ka:=match a,l,h with | some x,some l,some h=>sliD x l h|_,_,_=>none
theorem evS_b (fa:Rho->Option Ka)(fl fh:Rho->Option (Option Int))(ρ:Rho):evS fa fl fh ρ=sliO (fa ρ) (fl ρ) (fh ρ):=by
 unfold evS ob sliO
 cases fa ρ<;>cases fl ρ<;>cases fh ρ<;>rfl
theorem qkP (x:Ka)(l h:Option Int):sliO (some x) (some l) (some h)=sliD x l h:=rfl
noncomputable def prtO (a:Option Ka):Option (Option Int):=match a with | some (.int i)=>some (some i)|_=>none
theorem oS_b (f:Rho->Option Ka)(ρ:Rho):oS f ρ=prtO (f ρ):=by
 unfold oS ob prtO
 cases f ρ with
 | none=>rfl
 | some d=>cases d<;>rfl
theorem qkw (i:Int):prtO (some (.int i))=some (some i):=rfl
theorem qkQ (i j:Int):subD (.int i) (.int j)=some (.int (i-j)):=rfl
theorem qj8 (i:Int):negD (.int i)=some (.int (-i)):=rfl
theorem qj4 (i j:Int):ltD2 (.int i) (.int j)=some (.bool (decide (i<j))):=by
 show (if _ then ob (ltX (.int i) (.int j)) _ else none)=_
 rw [if_pos ⟨rfl,rfl,Vv 60⟩,ltX]
 rfl
theorem gtD_i (i j:Int):gtD (.int i) (.int j)=some (.bool (decide (j<i))):=rfl
theorem qjU (T:String)(ds:List Ka):isiT T (.tuple ds)=(T == "tuple" || T == "object"):=rfl
theorem qjR (T:String)(ds:List Ka):isiT T (.list ds)=(T == "list" || T == "object"):=rfl
theorem qjQ (T:String)(i:Int):isiT T (.int i)=(T == "int" || T == "object"):=rfl
theorem qjP (T:String)(b:Bool):isiT T (.bool b)=(T == "bool" || T == "int" || T == "object"):=rfl
theorem qjT (T:String)(x:Str):isiT T (.str x)=(T == "str" || T == "object"):=rfl
theorem qjS (T:String):isiT T .none=(T == "NoneType" || T == "object"):=rfl
theorem qiI (j:Int):jK [.int j]=if -1000<=j/\j<=1000 then some (rngL 0 j.toNat) else none:=rfl
noncomputable def S3 (a b c:Int):Ka:=.tuple [.int a,.int b,.int c]
noncomputable def T3 (p q r:Ka):Ka:=.tuple [p,q,r]
theorem qjC (a b c:Int):Kq (S3 a b c) (S3 a b c)=true:=by
 show ((a==a)&&((b==b)&&((c==c)&&true)))=true
 simp
section
variable {X:Cx}{G:Gm}{M M' Mb L:List Nat}{fr:Fr}{a b c:Ky}{es:List Ky}{f fk g:Rho->Option Ka}{pos:Pos}{u:Rho->Option Out}
noncomputable def setD:Ka->Ka->Ka->Option Ka
 | .list ds,.int k,d=>ob (ixN ds.length k) fun j=>some (.list (ds.set j d))
 | _,_,_=>none
end
end L2
namespace L2
open PySem
noncomputable def putO (d l k:Option Ka)(i:Nat)(ρ:Rho):Option Out:=match d,l,k with | some d,some l,some k=>setO (setD l k d) i ρ|_,_,_=>none
end L2
namespace L2
open PySem PySem.Spec PyProof.Rows
section
variable {X:Cx}
noncomputable def absD:List Ka->Option Ka
 | [.int i]=>some (.int (if i<0 then -i else i))
 | _=>none
theorem b_abs:CallD X (.builtin "abs") absD:=fun pins s σ H xs us Q I r ⟨S,ds,d,m,h1,e,q⟩=>qfn pins s σ H xs us Q I r (by
 unfold absD at e
 split at e
 ·cases e
  obtain ⟨v,rfl,hv⟩:=h1.inv1
  exact ⟨_,by rw [hv.int_inv],q _ H (Same.refl H) (.int _)⟩
 ·cases e)
theorem qef:bootBuiltins "abs" = some (.builtin "abs"):=by decide +kernel
theorem qeg:bootBuiltins "max" = some (.builtin "max"):=by decide +kernel
theorem qeh:bootBuiltins "min" = some (.builtin "min"):=by decide +kernel
theorem qjo (i:Int):absD [.int i]=some (.int (if i<0 then -i else i)):=rfl
end
noncomputable def jw (l x:Ka):Option Ka:=match l with
 | .list ds=>if inOk ds x=true/\ds.length<=1000 then ob (ds.findIdx? fun y=>Kq y x) fun j=>some (.int (j:Nat)) else none
 | _=>none
section
variable {X:Cx}{G:Gm}{M M' Mb L:List Nat}{fr:Fr}{a b c:Ky}{es:List Ky}{f fk g:Rho->Option Ka}{pos:Pos}{u:Rho->Option Out}
noncomputable def qiG (K:Kd):V->List V->Hp->VK->Prop:=fun x vs H Q=>∃ S dx y dy d,vs=[y]/\Den K H S x dx/\Den K H S y dy/\jw dx dy=some d/\Dm S H/\∀ v H',Same H H'->Den K H' S v d->Q v H'
theorem qge (hr:Room k X.A):MtR X "list.index" (qiG X.K):=by
 intro pins s σ H x vs v us Q I rx rv h
 obtain ⟨S,dx,y,dy,d,rfl,h1,h2,e,m,q⟩:=h
 obtain ⟨u,rfl,ru⟩:=rv.one
 unfold jw at e
 split at e
 ·rename_i ds
  split at e
  ·rename_i hc
   obtain ⟨⟨c1,c2,c3⟩,hz⟩:=And.intro (QX hc.1) hc.2
   obtain ⟨j,ej,e⟩:=qd e
   cases e
   obtain ⟨bs,q2⟩:=h2.reads I c2 ru
   obtain ⟨as,q1⟩:=h1.reads I (by rw [KL];exact c1) rx
   obtain ⟨a,xs,rfl,hsq,ht⟩:=h1.list_inv
   cases (show v=KR a from rx)
   cases q1 with
   | @list _ o items n _ _ g1 g2 g3 g4 =>
    obtain ⟨cls,dd,data,sl⟩:=o
    simp only at g2 g3
    subst g2 g3
    have hm:=SeqAt.readsAll_map _ _ _ c1 g4
    obtain ⟨hj,hp,hno⟩:=NA.mp ej
    have hlen:items.size=ds.length:=by
     have:=congrArg N7 hm
     simpa using this
    have hat:∀ i (h:i<items.size),Nk s.heap items[i]=ds[i]'(by omega):=fun i h=>by
     have:=congrArg (fun l=>l[i]?) hm
     simp only [K1] at this
     rw [Kn (by simpa using h),Kn (by omega)] at this
     simpa using this
    refine call_meets EJ ⟨_,g1,rfl⟩ PySem.F.entry_list_index (PySem.F.args_list_index_2 _ _) (SeqAt.list_indexAt a items n dd sl u (fun y=>Kq (Nk s.heap y) dy) j (by omega) (by omega) ?_ ?_) ⟨g1,SeqAt.items_eqAt g4 q2 c1 c2 (Jm c3 hr.units),?_⟩
    ·rw [hat j (by omega)];exact hp
    ·intro i hi hij
     rw [hat i hi]
     simpa using hno i hij
    ·exact ⟨.int j,H,I.tok _,⟨_,rfl⟩,q _ H (Same.refl H) (.int _)⟩
  ·cases e
 ·cases e
theorem qce {apos cpos:Pos}(hr:Room k X.A)(ho:PD X M o f)(he:PD X M a g)
  (hbase:attributeBase o "index" X.env (eval o X.env)=eval o X.env:=by rfl)
  (hfew:((backTo cpos (starEach [a] X.env)).all (fun x=>!x.1)&&(backToKw cpos (keywordEach [] X.env)).all (fun x=>x.1.isSome)
   && decide ([a].length+([]:List Xu).length+(if ([]:List Xu).isEmpty then 0 else 1)<30))=true:=by rfl)
  (hline:(apos.endLine==cpos.line)=true:=by rfl) (hs:starEach [a] X.env=(false,eval a X.env)::starEach [] X.env:=by rfl) (hplain:(backTo cpos (starEach [] X.env)).any (·.1)=false:=by rfl) :
  PD X M (.Call (.Attribute o "index" apos) [a] [] cpos) (ev2 f g jw) :=
 (qay U5 EJ PySem.F.type_list_index (qge hr) ho (qG he zu hs) hbase hfew hline hs hplain).weak fun σ H Q ⟨S,ρ,d,hs,e,q⟩=>by
  obtain ⟨dx,e1,e⟩:=qd e
  obtain ⟨dy,e2,e⟩:=qd e
  refine ⟨S,ρ,dx,hs,e1,fun v H1 g1 d1=>?_⟩
  have:∃ ds,dx=.list ds:=by
   unfold jw at e
   split at e
   ·exact ⟨_,rfl⟩
   ·cases e
  obtain ⟨ds,rfl⟩:=this
  obtain ⟨p,xs,rfl,hsq,ht⟩:=d1.list_inv
  refine ⟨.inl ⟨rfl,_,hsq.sq⟩,S,ρ,[dy],hs.same g1,by show ob (g ρ) _=_;rw [e2];rfl,fun vs H2 g2 dl=>?_⟩
  obtain ⟨w,rfl,dw⟩:=dl.inv1
  exact ⟨S,_,w,dy,d,rfl,d1.same g2,dw,e,hs.1.same (g1.trans g2),fun v3 H3 g3 d3=>q v3 H3 (g1.trans (g2.trans g3)) d3⟩
noncomputable def Qe (x y:Ka):Option Ka:=match x,y with
 | .int i,.int j=>some (.int (i+j))
 | .list ds,.list es=>if ds.length+es.length<=1000 then some (.list (ds++es)) else none
 | x,y=>qdf x y
noncomputable def rCatL (K:Kd):R2:=fun x y H Q=>∃ l b xs zs,x=.ref l/\y=.ref b/\SqL K H l xs/\SqL K H b zs/\xs.length+zs.length<=sizeLine/\∀ p,H p=none->Q (.ref p) (upd H p (.lst (xs++zs)))
theorem qih:OpR X (binaryOp .Add) (rCatL X.K):=by
 intro pins s σ H x y v u Q I rx ry h
 obtain ⟨l,b,xs,zs,rfl,rfl,hH,hB,hz,q⟩:=h
 cases rx
 cases ry
 obtain ⟨its,r,⟨⟨cls,dd,data,sl⟩,n,g1,g2,_,g3⟩,_⟩:=I.list hH
 obtain ⟨its2,r2,⟨⟨cls2,dd2,data2,sl2⟩,n2,k1,k2,_,k3⟩,_⟩:=I.list hB
 simp only at g2 g3 k2 k3
 subst g2 g3 k2 k3
 have ea:its.toArray++its2.toArray=(its++its2).toArray:=by simp
 have l1:=r.length
 have l2:=r2.length
 refine EC ⟨_,g1,rfl⟩ ⟨_,k1,rfl⟩ noFill_list_add seq_list_add PySem.F.slot_list_add PySem.F.entry_list_add (PySem.F.args_list_add_2 _ _) (list_addW l b its.toArray its2.toArray n n2 dd dd2 sl sl2 (by rw [KB,KB];omega)) ⟨g1,k1,?_⟩
 rw [ea]
 exact ⟨.ref _,_,I.lnew (t':=s.toks) (r.append r2) (by rw [KG];omega),rfl,q _ I.fresh⟩
theorem qjA:OpD X (binaryOp .Add) (fun x y=>match x,y with | .list ds,.list es=>if ds.length+es.length<=1000 then some (.list (ds++es)) else none|_,_=>none):=by
 refine JF qih fun x y dx dy d H S Q m h1 h2 e q=>?_
 split at e
 ·split at e
  ·rename_i ds es hc
   cases e
   cases h1 with
   | list a1 t1 =>
    cases h2 with
    | list a2 t2 =>
     exact ⟨_,_,_,_,rfl,rfl,a1.sq,a2.sq,by rw [t1.length,t2.length];exact VI (zj hc),fun p hp=>q _ _ (Same.lay hp) (.list (SqLS.new qH (m.free hp)) ((t1.append t2).same (Same.lay hp)))⟩
  ·cases e
 ·cases e
theorem zV:OpD X (binaryOp .Add) Qe:=by
 intro pins s σ H x y v u Q I rx ry h
 obtain ⟨S,dx,dy,d,m,h1,h2,e,q⟩:=h
 unfold Qe at e
 split at e
 ·exact qfy pins s σ H x y v u Q I rx ry ⟨S,_,_,d,m,h1,h2,e,q⟩
 ·exact qjA pins s σ H x y v u Q I rx ry ⟨S,_,_,d,m,h1,h2,e,q⟩
 ·exact qfy pins s σ H x y v u Q I rx ry ⟨S,_,_,d,m,h1,h2,e,q⟩
theorem qhd (i j:Int):Qe (.int i) (.int j)=some (.int (i+j)):=rfl
noncomputable def qbr:List Ka->Option Ka
 | [.int i]=>some (.int i)
 | [.bool k]=>some (.int (if k then 1 else 0))
 | _=>none
theorem b_int:CallD X (.type "int") qbr:=fun pins s σ H xs us Q I r ⟨S,ds,d,m,h1,e,q⟩=>qej pins s σ H xs us Q I r (by
 unfold qbr at e
 split at e
 ·cases e
  obtain ⟨v,rfl,hv⟩:=h1.inv1
  exact .inl ⟨_,by rw [hv.int_inv],q _ H (Same.refl H) (.int _)⟩
 ·cases e
  obtain ⟨v,rfl,hv⟩:=h1.inv1
  exact .inr ⟨_,by rw [hv.bool_inv],q _ H (Same.refl H) (.int _)⟩
 ·cases e)
end
theorem qcv (k:Bool):qbr [.bool k]=some (.int (if k then 1 else 0)):=rfl
def ItB (h:KC)(b:Bool)(it a:Kf)(i:Nat):Prop:=if b=true then h.IsTupleIter it a i else h.IsListIter it a i
section
variable {X:Cx}{pins:List (Kf×Obj)}{σ:St}{H:Hp}{s:Kg}
theorem ItB.obj {h:KC}  (q:ItB h b it a i):∃ o,h.get? it=some o/\∀ v,o.data≠.cell v:=by
 cases b with
 | true=>obtain ⟨o,ho,c,d⟩:=(show h.IsTupleIter it a i from q);exact ⟨o,ho,fun v z=>by rw [d] at z;cases z⟩
 | false=>obtain ⟨o,ho,c,d⟩:=(show h.IsListIter it a i from q);exact ⟨o,ho,fun v z=>by rw [d] at z;cases z⟩
end
theorem YF:bootBuiltins "enumerate" = some (.type "enumerate"):=by decide +kernel
section
variable {X:Cx}{M:List Nat}{a:Ky}{es:List Ky}{f:Rho->Option Ka}{pos:Pos}
noncomputable def enL:Nat->List Ka->List Ka
 | _,[]=>[]
 | n,d::ds=>.tuple [.int (n:Nat),d]::enL (n+1) ds
theorem Jy:∀ (n:Nat) (ds:List Ka),(enL n ds).length=ds.length
 | _,[]=>rfl
 | n,_::ds=>by rw [enL,KA,KA,Jy]
theorem qdy:∀ (n i:Nat) (ds:List Ka) (d:Ka),(enL n ds)[i]?=some d->∃ e,ds[i]?=some e/\d=.tuple [.int ((n+i:Nat)),e]
 | _,_,[],_,h=>by simp [enL] at h
 | n,0,e::ds,d,h=>by simp [enL] at h;subst h;exact ⟨e,rfl,rfl⟩
 | n,i+1,e::ds,d,h=>by
  obtain ⟨e',h1,h2⟩:=qdy (n+1) i ds d (by simpa [enL] using h)
  refine ⟨e',by simpa using h1,?_⟩
  rw [h2]
  congr 3
  congr 1
  omega
theorem enL_n (n:Nat):enL n []=[]:=rfl
theorem enL_c (n:Nat)(d:Ka)(ds:List Ka):enL n (d::ds)=.tuple [.int (n:Nat),d]::enL (n+1) ds:=rfl
noncomputable def qdl (o:Option Rho)(k:Nat)(g:Ka->Rho->Option Rho)(tt:Rho->Option Bool)(te:Rho->Option Ka)(ρ:Rho)(ds:List Ka):Option (List Ka):=match o with
 | some ρ1=>(match tt ρ1 with | some true=>Jv (te ρ1) (Qf k g tt te ρ ds)|some false=>Qf k g tt te ρ ds|none=>none)
 | none=>none
theorem qds (k:Nat)(g:Ka->Rho->Option Rho)(tt:Rho->Option Bool)(te:Rho->Option Ka)(ρ:Rho)(d:Ka)(ds:List Ka):Qf k g tt te ρ (d::ds)=qdl (g d (ρ++Vg k none)) k g tt te ρ ds:=by
 rw [Qf]
 unfold ob qdl Jv
 cases g d (ρ++Vg k none) with
 | none=>rfl
 | some ρ1 =>
  dsimp only
  cases tt ρ1 with
  | none=>rfl
  | some b =>
   cases b with
   | false=>rfl
   | true=>cases te ρ1<;>cases Qf k g tt te ρ ds<;>rfl
theorem qht (k:Nat)(g:Ka->Rho->Option Rho)(tt:Rho->Option Bool)(te:Rho->Option Ka)(ρ:Rho):Qf k g tt te ρ []=some []:=rfl
noncomputable def qbF (b:Option Bool)(y:Option Ka)(r:Option (List Ka)):Option (List Ka):=match b with | some true=>Jv y r|some false=>r|none=>none
theorem qdm (ρ1:Rho)(k:Nat)(g:Ka->Rho->Option Rho)(tt:Rho->Option Bool)(te:Rho->Option Ka)(ρ:Rho)(ds:List Ka):qdl (some ρ1) k g tt te ρ ds=qbF (tt ρ1) (te ρ1) (Qf k g tt te ρ ds):=by
 unfold qdl qbF
 rfl
theorem qdk (y:Option Ka)(r:Option (List Ka)):qbF (some true) y r=Jv y r:=rfl
theorem qhp (y:Option Ka)(r:Option (List Ka)):qbF (some false) y r=r:=rfl
noncomputable def qfv (a:Option (List Ka))(n k:Nat)(g:Ka->Rho->Option Rho)(tt:Rho->Option Bool)(te:Rho->Option Ka)(ρ:Rho):Option Ka:=match a with | some ds=>if ρ.length=n/\ds.length<=1000 then wW (Qf k g tt te ρ ds) else none|none=>none
theorem qhr (n k:Nat)(fi:Rho->Option (List Ka))(g:Ka->Rho->Option Rho)(tt:Rho->Option Bool)(te:Rho->Option Ka)(ρ:Rho):Z1 n k fi g tt te ρ=qfv (fi ρ) n k g tt te ρ:=by
 unfold Z1 ob qfv wW
 cases fi ρ with
 | none=>rfl
 | some ds =>
  dsimp only
  split
  ·cases Qf k g tt te ρ ds<;>rfl
  ·rfl
theorem qhn (ds:List Ka)(n k:Nat)(g:Ka->Rho->Option Rho)(tt:Rho->Option Bool)(te:Rho->Option Ka)(ρ:Rho):qfv (some ds) n k g tt te ρ=if ρ.length=n/\ds.length<=1000 then wW (Qf k g tt te ρ ds) else none:=rfl
end
noncomputable def k1Of:Ka->Option (Int ⊕ List Int)
 | .int i=>some (.inl i)
 | .tuple ds=>ob (intsOf ds) fun js=>some (.inr js)
 | _=>none
noncomputable def qfV:List Ka->Option K2
 | []=>some []
 | d::ds=>ob (k1Of d) fun k=>ob (qfV ds) fun ks=>some (k::ks)
noncomputable def k2Of:Ka->Option K2
 | .tuple ds=>qfV ds
 | _=>none
theorem qeE (e:k1Of d=some k):d=k2D k:=by
 unfold k1Of at e
 split at e
 ·cases e;rfl
 ·obtain ⟨js,e1,e⟩:=qd e
  cases e
  rw [YB e1];rfl
 ·cases e
theorem wK:∀ {ds:List Ka} {ks:K2},qfV ds=some ks->ds=ks.map k2D
 | [],_,e=>by cases e;rfl
 | d::ds,_,e=>by
  obtain ⟨k,e1,e⟩:=qd e
  obtain ⟨ks,e2,e⟩:=qd e
  cases e
  rw [qeE e1,wK e2];rfl
theorem qeF (e:k2Of d=some ks):d=k2T ks:=by
 unfold k2Of at e
 split at e
 ·rw [wK e];rfl
 ·cases e
noncomputable def kxOf:Ka->Option KX
 | .int i=>some (.inl i)
 | d=>ob (k2Of d) fun ks=>some (.inr ks)
theorem Yg (e:kxOf d=some k):d=kxD k:=by
 unfold kxOf at e
 split at e
 ·cases e;rfl
 ·obtain ⟨ks,e1,e⟩:=qd e
  cases e
  exact qeF e1
noncomputable def kOk (kvs:List (Ka×PyData))(k:KX):Bool:=kvs.all fun p=>qfU p.1==kxI k
theorem qbS:∀ js:List Int,Km (js.map .int)=true
 | []=>rfl
 | j::js=>by rw [Kt,Km,KL,qbS js];rfl
theorem qcL:∀ ks:K2,Km (ks.map k2D)=true
 | []=>rfl
 | .inl i::ks=>by rw [Kt,Km,qcL ks];rfl
 | .inr js::ks=>by
  rw [Kt,Km,qcL ks]
  show (KL (.tuple (js.map .int))&&true)=true
  rw [KL,qbS];rfl
theorem qdI (ks:K2):(k2T ks).canLay0=true:=by unfold k2T;rw [KL];exact qcL ks
theorem qhW (c:Str)(z:Int)(d:Ka)(ks:KX):kOk [(.str c,d),(.int z,.none)] ks=false:=by
 cases ks with
 | inl i=>rfl
 | inr k=>rfl
theorem yW {α β:Type}{a:Option β}{g:β->KX}{F:β->Option α}{c:Str}{z:Int}{d:Ka}{r:α}(e:(ob a fun ks=>if kOk [(.str c,d),(.int z,.none)] (g ks)=true then F ks else none)=some r):False:=by
 obtain ⟨ks,_,e⟩:=qd e
 rw [qhW] at e
 cases e
noncomputable def zL (kvs:List (Ka×PyData))(ks:KX):Option Ka:=(kvs.find? fun p=>Kq p.1 (kxD ks)).map (·.2)
noncomputable def putD (kvs:List (Ka×PyData))(ks:KX)(v:Ka):List (Ka×PyData) :=
 if (zL kvs ks).isSome=true then kvs.map (fun p=>if Kq p.1 (kxD ks)=true then (p.1,v) else p) else kvs++[(kxD ks,v)]
noncomputable def putV (kvs:List (KX×Addr×V))(ks:KX)(b:Kf)(v:V):List (KX×Addr×V) :=
 if (kvs.any fun p=>decide (p.1=ks))=true then kvs.map (fun p=>if p.1=ks then (p.1,p.2.1,v) else p) else kvs++[(ks,b,v)]
section
variable {K:Kd}{H:Hp}{S:Av}
theorem jg (p:KX×Addr×V)(kvs:List (KX×Addr×V))(d:Ka)(ds:List Ka):dkv (p::kvs) (d::ds)=(kxD p.1,d)::dkv kvs ds:=rfl
theorem Yb  (e:k=ks):zL ((kxD k,d)::kvs) ks=some d:=by
 unfold zL
 rw [Uo,qaT,decide_eq_true e];rfl
theorem yZ  (e:k≠ks):zL ((kxD k,d)::kvs) ks=zL kvs ks:=by
 unfold zL
 rw [Uo,qaT,decide_eq_false e]
theorem JL {α β:Type}{R:α->β->Prop}{a:α}{b:β}:∀ {as:List α} {bs:List β},Vz R as bs->R a b->Vz R (as++[a]) (bs++[b])
 | _,_,.nil,h=>.cons h .nil
 | _,_,.cons h t,q=>.cons h (JL t q)
theorem qd8  (dv:Den K H S v d):∀ {kvs:List (KX×Addr×V)} {ds:List Ka},DenL K H S (kvs.map (·.2.2)) ds->∃ ds',DenL K H S ((kvs.map fun p=>if p.1=ks then (p.1,p.2.1,v) else p).map (·.2.2)) ds'/\dkv (kvs.map fun p=>if p.1=ks then (p.1,p.2.1,v) else p) ds'=(dkv kvs ds).map (fun p=>if Kq p.1 (kxD ks)=true then (p.1,d) else p)
 | [],_,t=>by cases t;exact ⟨[],.nil,rfl⟩
 | p::kvs,_,t=>by
  cases t with
  | @cons _ d0 _ ds dv0 t' =>
   obtain ⟨ds',h1,h2⟩:=qd8 dv t'
   rw [Kt,Kt,jg,Kt,qaT]
   by_cases e:p.1=ks
   ·refine ⟨d::ds',?_,?_⟩
    ·rw [if_pos e];exact .cons dv h1
    ·rw [if_pos e,jg,h2,if_pos (decide_eq_true e)]
   ·refine ⟨d0::ds',?_,?_⟩
    ·rw [if_neg e];exact .cons dv0 h1
    ·rw [if_neg e,jg,h2,if_neg (fun z=>e (of_decide_eq_true z))]
theorem qfD {kvs:List (KX×Addr×V)}{ds:List Ka}(hl:kvs.length=ds.length)(p:KX×Addr×V)(d:Ka):dkv (kvs++[p]) (ds++[d])=dkv kvs ds++[(kxD p.1,d)]:=by
 unfold dkv
 rw [Ve,List.zip_append (by rw [Kj,hl])]
 rfl
theorem qgK {b:Kf}  {kvs:List (KX×Addr×V)} (t:DenL K H S (kvs.map (·.2.2)) ds) (dv:Den K H S v d) (he:(kvs.any fun p=>decide (p.1=ks))=(zL (dkv kvs ds) ks).isSome) :
  ∃ ds',DenL K H S ((putV kvs ks b v).map (·.2.2)) ds'/\dkv (putV kvs ks b v) ds'=putD (dkv kvs ds) ks d:=by
 have hl:kvs.length=ds.length:=by
  have:=t.length
  rwa [Kj] at this
 unfold putV putD
 rw [he]
 split
 ·exact qd8 dv t
 ·refine ⟨ds++[d],?_,qfD hl _ _⟩
  rw [Ve]
  exact t.append (.cons dv .nil)
theorem qgH  {kvs:List (KX×Addr×V)} (k:DenL K H S (kvs.map fun p=>kxV p.1 p.2.1) (kvs.map fun p=>kxD p.1)) (dk:Den K H S (kxV ks b) (kxD ks)):DenL K H S ((putV kvs ks b v).map fun p=>kxV p.1 p.2.1) ((putV kvs ks b v).map fun p=>kxD p.1):=by
 unfold putV
 split
 ·have e1:(kvs.map fun p=>if p.1=ks then (p.1,p.2.1,v) else p).map (fun p=>kxV p.1 p.2.1)=kvs.map fun p=>kxV p.1 p.2.1:=by
   rw [VD]
   refine UG fun p _=>?_
   show kxV (if p.1=ks then (p.1,p.2.1,v) else p).1 (if p.1=ks then (p.1,p.2.1,v) else p).2.1=_
   split<;>rfl
  have e2:(kvs.map fun p=>if p.1=ks then (p.1,p.2.1,v) else p).map (fun p=>kxD p.1)=kvs.map fun p=>kxD p.1:=by
   rw [VD]
   refine UG fun p _=>?_
   show kxD (if p.1=ks then (p.1,p.2.1,v) else p).1=_
   split<;>rfl
  rw [e1,e2];exact k
 ·rw [Ve,Ve]
  exact k.append (.cons dk .nil)
end
section
variable {K:Kd}{H:Hp}{S:Av}
theorem qa2 {kvs:List (KX×Addr×V)}{ds:List Ka}(hl:kvs.length=ds.length)(h:kOk (dkv kvs ds) k=true):∀ p∈kvs,kxI p.1=kxI k:=by
 intro p hp
 have hm:kxD p.1∈(dkv kvs ds).map (·.1):=by rw [qfC hl];exact VM.mpr ⟨p,hp,rfl⟩
 obtain ⟨q,hq,e⟩:=VM.mp hm
 have:=KW.mp h q hq
 rw [e,qcJ] at this
 simpa using this
theorem Jl (ks:K2):∀ {kvs:List (KX×Addr×V)} {xs:List (K2×Addr×Value)} {ds:List Ka},Vz PkT kvs xs->DenL K H S (kvs.map (·.2.2)) ds->
  (zL (dkv kvs ds) (.inr ks)=none/\atKey xs ks=none/\(kvs.any fun p=>decide (p.1=.inr ks))=false)\/∃ d b y u,zL (dkv kvs ds) (.inr ks)=some d/\atKey xs ks=some (b,u)/\RelV y u/\Den K H S y d/\(kvs.any fun p=>decide (p.1=.inr ks))=true
 | [],_,_,r,t=>by
  cases r
  cases t
  exact .inl ⟨rfl,rfl,rfl⟩
 | p::kvs,_,_,r,t=>by
  cases r with
  | @cons _ q _ qs h r' =>
   cases t with
   | @cons _ d _ ds dv t' =>
    rw [jg]
    by_cases e:p.1=.inr ks
    ·refine .inr ⟨d,q.2.1,p.2.2,q.2.2,Yb e,?_,h.2.2,dv,by rw [Uz,decide_eq_true e,NU]⟩
     unfold atKey
     have eq:q.1=ks:=Sum.inr.inj (h.1.symm.trans e)
     rw [Uo,decide_eq_true eq];rfl
    ·have e':¬ q.1=ks:=fun z=>e (by rw [h.1,z])
     have ea:atKey (q::qs) ks=atKey qs ks:=by
      unfold atKey
      rw [Uo,decide_eq_false e']
     rw [yZ e,ea,Uz,decide_eq_false e,X3]
     exact Jl ks r' t'
theorem Yc (i:Int):∀ {kvs:List (KX×Addr×V)} {vs:List (Int×Value)} {ds:List Ka},Vz PkI kvs vs->DenL K H S (kvs.map (·.2.2)) ds->
  (zL (dkv kvs ds) (.inl i)=none/\valueAt vs i=none/\(kvs.any fun p=>decide (p.1=.inl i))=false)\/∃ d y u,zL (dkv kvs ds) (.inl i)=some d/\valueAt vs i=some u/\RelV y u/\Den K H S y d/\(kvs.any fun p=>decide (p.1=.inl i))=true
 | [],_,_,r,t=>by
  cases r
  cases t
  exact .inl ⟨rfl,rfl,rfl⟩
 | p::kvs,_,_,r,t=>by
  cases r with
  | @cons _ q _ qs h r' =>
   cases t with
   | @cons _ d _ ds dv t' =>
    rw [jg]
    by_cases e:p.1=.inl i
    ·refine .inr ⟨d,p.2.2,q.2,Yb e,?_,h.2,dv,by rw [Uz,decide_eq_true e,NU]⟩
     unfold valueAt
     have eq:q.1=i:=Sum.inl.inj (h.1.symm.trans e)
     rw [Uo,decide_eq_true eq];rfl
    ·have e':¬ q.1=i:=fun z=>e (by rw [h.1,z])
     have ea:valueAt (q::qs) i=valueAt qs i:=by
      unfold valueAt
      rw [Uo,decide_eq_false e']
     rw [yZ e,ea,Uz,decide_eq_false e,X3]
     exact Yc i r' t'
theorem Wo  (rv:RelV v u):∀ {kvs:List (KX×Addr×V)} {xs:List (K2×Addr×Value)},Vz PkT kvs xs->Vz PkT (kvs.map fun p=>if p.1=.inr ks then (p.1,p.2.1,v) else p) (xs.map (putAt ks u))
 | [],_,r=>by cases r;exact .nil
 | p::kvs,_,r=>by
  cases r with
  | @cons _ q _ qs h r' =>
   rw [Kt,Kt]
   refine .cons ?_ (Wo rv r')
   unfold putAt
   by_cases e:p.1=.inr ks
   ·have eq:q.1=ks:=Sum.inr.inj (h.1.symm.trans e)
    rw [if_pos e,if_pos eq];exact ⟨h.1,h.2.1,rv⟩
   ·rw [if_neg e,if_neg (fun z=>e (by rw [h.1,z]))];exact h
theorem qgJ {ks:K2}{b:Kf}{v:V}{u:Ke}{kvs:List (KX×Addr×V)}{xs:List (K2×Addr×Value)}(r:Vz PkT kvs xs)(rv:RelV v u)(he:(kvs.any fun p=>decide (p.1=.inr ks))=(atKey xs ks).isSome):Vz PkT (putV kvs (.inr ks) b v) (storedH xs ks b u):=by
 unfold putV storedH
 rw [he]
 split
 ·exact Wo rv r
 ·exact JL r ⟨rfl,rfl,rv⟩
theorem Wn  (rv:RelV v u):∀ {kvs:List (KX×Addr×V)} {xs:List (Int×Value)},Vz PkI kvs xs->Vz PkI (kvs.map fun p=>if p.1=.inl i then (p.1,p.2.1,v) else p) (xs.map fun q=>if q.1=i then (q.1,u) else q)
 | [],_,r=>by cases r;exact .nil
 | p::kvs,_,r=>by
  cases r with
  | @cons _ q _ qs h r' =>
   rw [Kt,Kt]
   refine .cons ?_ (Wn rv r')
   by_cases e:p.1=.inl i
   ·have eq:q.1=i:=Sum.inl.inj (h.1.symm.trans e)
    rw [if_pos e,if_pos eq];exact ⟨h.1,rv⟩
   ·rw [if_neg e,if_neg (fun z=>e (by rw [h.1,z]))];exact h
theorem qdg (i:Int):∀ {kvs:List (KX×Addr×V)} {xs:List (Int×Value)},Vz PkI kvs xs->(kvs.any fun p=>decide (p.1=.inl i))=xs.any fun q=>decide (q.1=i)
 | _,_,.nil=>rfl
 | _,_,@Paired.cons _ _ _ p q _ _ h t=>by
  rw [Uz,Uz,qdg i t]
  by_cases e:p.1=.inl i
  ·rw [decide_eq_true e,decide_eq_true (Sum.inl.inj (h.1.symm.trans e):q.1=i)]
  ·rw [decide_eq_false e,decide_eq_false (fun z=>e (by rw [h.1,z]):¬ q.1=i)]
theorem qgI {i:Int}{b:Kf}{v:V}{u:Ke}{kvs:List (KX×Addr×V)}{xs:List (Int×Value)}(r:Vz PkI kvs xs)(rv:RelV v u):Vz PkI (putV kvs (.inl i) b v) (stored xs i u):=by
 unfold putV stored
 rw [qdg i r]
 split
 ·exact Wn rv r
 ·exact JL r ⟨rfl,rv⟩
end
section
variable {X:Cx}{pins:List (Kf×Obj)}{σ:St}{H:Hp}{s:Kg}{S:Av}
theorem qdK (I:Inv X pins σ H s):∀ {kvs:List (KX×Addr×V)} {xs:List (K2×Addr×Value)},Vz PkT kvs xs->DenL X.K H S (kvs.map fun p=>kxV p.1 p.2.1) (kvs.map fun p=>kxD p.1)->∀ x∈xs,Is2 s.heap x.1 x.2.1
 | _,_,.nil,_,x,hx=>by cases hx
 | _,_,@Paired.cons _ _ _ p q kvs qs h t,k,x,hx=>by
  cases k with
  | cons dk k' =>
   have dk:Den X.K H S (kxV p.1 p.2.1) (kxD p.1):=dk
   rcases Ko.mp hx with rfl|hx
   ·rw [h.1] at dk
    obtain ⟨as,r⟩:=Den.reads I dk (qdI _) (u:=KR x.2.1) (by rw [h.2.1];rfl)
    exact ⟨as,r⟩
   ·exact qdK I t k' x hx
theorem qaR (I:Inv X pins σ H s){kvs:List (KX×Addr×V)}(h:H a=some (DctO a kvs ep))(k:DenL X.K H S (kvs.map fun p=>kxV p.1 p.2.1) (kvs.map fun p=>kxD p.1))(hk:∀ p∈kvs,kxI p.1=false) :
  kvs.length<=sizeLine/\(a==sysModules)=false/\∃ xs:List (K2×Addr×Value),Vz PkT kvs xs/\s.heap.DictOfH (qdL X.prog X.w) a xs:=by
 have d:=QV.of (I.hok a _ h)
 obtain ⟨xs,pk,o,es,h1,h2,h3,h4,h5⟩:=d.tup hk
 exact ⟨d.1,d.2.1,xs,pk,o,es,ep,h1,h2,h3,h4,qdK I pk k,h5⟩
theorem qcc:∀ {es:List Nb} {vs:List (Int×Value)},Vz EnI es vs->Pairs (intKind P w) es vs
 | _,_,.nil=>.nil
 | _,_,.cons h t=>by
  obtain ⟨_,⟨tk,h2⟩,h3⟩:=h
  exact .cons (by rw [h2];exact Ey P w _ tk) h3 (qcc t)
theorem qeL {es:Array Nb}(h:Vz EnI es.toList vs):PySem.KeysOf (intKind P w) es:=by
 intro e he
 have he:e∈es.toList:=NJ.mpr he
 generalize es.toList=l at h he
 induction h with
 | nil=>cases he
 | @cons a b as bs h t ih =>
  rcases Ko.mp he with rfl|he
  ·obtain ⟨h1,⟨tk,h2⟩,_⟩:=h
   exact ⟨b.1,by rw [h2];exact Ey P w _ tk,h1⟩
  ·exact ih he
theorem Wd:∀ {es:List Nb} {vs:List (Int×Value)},Pairs (intKind P w) es vs->(∀ e∈es,∃ k,(intKind P w).is k e.key=true/\e.hash=(intKind P w).hash k)->Vz EnI es vs
 | _,_,.nil,_=>.nil
 | _,_,.cons h1 h2 t,hk=>by
  refine .cons ?_ (Wd t fun e he=>hk e (.tail _ he))
  obtain ⟨k,g1,g2⟩:=hk _ (.head _)
  obtain ⟨tk,e⟩:=Value.isInt_shape h1
  have hkk:=(intKind P w).inj _ _ _ g1 h1
  exact ⟨by rw [g2,hkk];rfl,⟨tk,e⟩,h2⟩
theorem qaQ (I:Inv X pins σ H s)  (h:H a=some (DctO a kvs ep)) (hk:∀ p∈kvs,kxI p.1=true) :
  kvs.length<=sizeLine/\(a==sysModules)=false/\∃ vs:List (Int×Value),Vz PkI kvs vs/\s.heap.DictOf (intKind X.prog X.w) a vs:=by
 have d:=QV.of (I.hok a _ h)
 obtain ⟨vs,pk,o,es,h1,h2,h3,h4,h5⟩:=d.int hk
 exact ⟨d.1,d.2.1,vs,pk,o,es,ep,h1,h2,h3,qeL h4,qcc h4,h5⟩
theorem key_is (I:Inv X pins σ H s)  (d:Den X.K H S y (k2T ks)) (r:RelV y u):∃ b,y=.ref b/\u=.ref b/\Is2 s.heap ks b:=by
 obtain ⟨a,xs,e,_,_⟩:=d.tuple_inv
 subst e
 cases (show u=KR a from r)
 obtain ⟨as,q⟩:=d.reads I (qdI ks) (u:=.ref a) rfl
 exact ⟨a,rfl,rfl,as,q⟩
theorem qba  (d:Den X.K H S y (.int i)) (r:RelV y u):y=.int i/\∃ t,u=.int i t:=by
 cases d
 exact ⟨rfl,r⟩
end
noncomputable def dgetD (d k:Ka):Option Ka:=match d with
 | .dict kvs=>ob (kxOf k) fun ks=>if kOk kvs ks=true then zL kvs ks else none
 | _=>none
noncomputable def ix2D (d k:Ka):Option Ka:=match d with
 | .dict kvs=>dgetD (.dict kvs) k
 | d=>ixD d k
noncomputable def qas (k d:Ka):Option Ka:=match d with
 | .dict kvs=>ob (kxOf k) fun ks=>if kOk kvs ks=true then some (.bool (!(zL kvs ks).isSome)) else none
 | d=>ninD k d
noncomputable def wH (d k v:Ka):Option Ka:=match d with
 | .dict kvs=>ob (kxOf k) fun ks=>if kOk kvs ks=true/\kvs.length<1000 then some (.dict (putD kvs ks v)) else none
 | _=>none
section
variable {X:Cx}{pins:List (Kf×Obj)}{σ:St}{H:Hp}{s:Kg}{S:Av}{A:KF}{E:Ke->Kg->Prop}{a:Kf}{kvs:List (KX×Addr×V)}{ep:Nat}{ds:List Ka}{ks:KX}{y x v:V}{u r:Ke}{d dx:Ka}
theorem qgP {A:KF}(hu:A.units+64<cLine):A.in1.units+3<cLine:=by show A.units+1+3<cLine;omega
theorem qfz (I:Inv X pins σ H s)(h:H a=some (DctO a kvs ep)):s.TypeIs (.ref a) "dict"/\∃ o,s.heap.get? a=some o/\o.dict=none:=by
 obtain ⟨o,es,h1,h2,_⟩:=(QV.of (I.hok a _ h)).vals
 exact ⟨⟨o,h1,h2.1⟩,o,h1,h2.2.1⟩
theorem qhw {Q:Ke->Kg->Prop}(hu:A.units+64<cLine)(I:Inv X pins σ H s)(h:H a=some (DctO a kvs ep))(k:DenL X.K H S (kvs.map fun p=>kxV p.1 p.2.1) (kvs.map fun p=>kxD p.1))(t:DenL X.K H S (kvs.map (·.2.2)) ds)(hk:∀ p∈kvs,kxI p.1=kxI ks)
  (dy:Den X.K H S y (kxD ks)) (ry:RelV y u) (e:zL (dkv kvs ds) ks=some d) (q:∀ v w' s',Inv X pins σ H s'->RelV v w'->Den X.K H S v d->Q w' s'):wpAny (model X.prog X.w) A (getItem (.ref a) u) Q E s:=by
 cases ks with
 | inr ks =>
  obtain ⟨z,hs,xs,pk,dd⟩:=qaR I h k hk
  obtain ⟨b,rfl,rfl,hk⟩:=key_is I dy ry
  rcases Jl ks pk t with ⟨e1,_,_⟩|⟨d',b',v,w',e1,e2,rv,dv,_⟩
  ·rw [e] at e1;cases e1
  ·rw [e] at e1
   cases e1
   exact wpAny_getItem_heap (knd:=qdL X.prog X.w) (qgP hu) hk dd e2 (q v w' _ (I.tok _) rv dv)
 | inl i =>
  obtain ⟨z,hs,vs,pk,dd⟩:=qaQ I h hk
  obtain ⟨rfl,t',rfl⟩:=qba dy ry
  rcases Yc i pk t with ⟨e1,_,_⟩|⟨d',v,w',e1,e2,rv,dv,_⟩
  ·rw [e] at e1;cases e1
  ·rw [e] at e1
   cases e1
   exact wpAny_getItem_of (Ey _ _ i t') dd.mapOf e2 (q v w' _ (I.tok _) rv dv)
theorem qfB {Q:Ke->Kg->Prop}(hu:A.units+64<cLine)(I:Inv X pins σ H s)(h:H a=some (DctO a kvs ep))(k:DenL X.K H S (kvs.map fun p=>kxV p.1 p.2.1) (kvs.map fun p=>kxD p.1))(t:DenL X.K H S (kvs.map (·.2.2)) ds)(hk:∀ p∈kvs,kxI p.1=kxI ks)
  (dy:Den X.K H S y (kxD ks)) (ry:RelV y u) (q:∀ s',Inv X pins σ H s'->Q (.bool (!(zL (dkv kvs ds) ks).isSome)) s'):wpAny (model X.prog X.w) A (compareOp .NotIn u (.ref a)) Q E s:=by
 cases ks with
 | inr ks =>
  obtain ⟨z,hs,xs,pk,dd⟩:=qaR I h k hk
  obtain ⟨b,rfl,rfl,hk⟩:=key_is I dy ry
  refine wpAny_notIn_heap (knd:=qdL X.prog X.w) (qgP hu) hk hs dd ?_
  rcases Jl ks pk t with ⟨e1,e2,_⟩|⟨d',b',v,w',e1,e2,rv,dv,_⟩
  ·rw [e1] at q;rw [e2];exact q _ (I.tok _)
  ·rw [e1] at q;rw [e2];exact q _ (I.tok _)
 | inl i =>
  obtain ⟨z,hs,vs,pk,dd⟩:=qaQ I h hk
  obtain ⟨rfl,t',rfl⟩:=qba dy ry
  refine wpAny_notIn_of (Ey _ _ i t') hs dd.mapOf ?_
  rcases Yc i pk t with ⟨e1,e2,_⟩|⟨d',v,w',e1,e2,rv,dv,_⟩
  ·rw [e1] at q;rw [e2];exact q _ (I.tok _)
  ·rw [e1] at q;rw [e2];exact q _ (I.tok _)
noncomputable def qkB (K:Kd):TSet:=fun o i v H Q=>∃ S p kvs ep ks ds d,o=.ref p/\H p=some (DctO p kvs ep)/\DenL K H S (kvs.map fun p=>kxV p.1 p.2.1) (kvs.map fun p=>kxD p.1)/\DenL K H S (kvs.map (·.2.2)) ds/\(∀ p∈kvs,kxI p.1=kxI ks)/\Den K H S i (kxD ks)/\Den K H S v d/\kvs.length<1000/\∀ b ep',i=kxV ks b->Q (upd H p (DctO p (putV kvs ks b v) ep'))
theorem qcp (kvs:List (KX×Addr×V))(ks:KX)(b:Kf)(v:V):(putV kvs ks b v).length<=kvs.length+1:=by
 unfold putV
 split
 ·rw [Kj];omega
 ·rw [KG,V1];omega
theorem set_dict (hu:X.A.units+64<cLine):PSet X (qkB X.K):=by
 intro pins s σ H o i v ov iv u Q I ro ri rv h
 obtain ⟨S,p,kvs,ep,ks,ds,d,rfl,hp,k,t,hk,di,dv,hz,q⟩:=h
 cases ro
 have z1000:1000<sizeLine:=zj (Kr _)
 cases ks with
 | inr ks =>
  obtain ⟨z,hs,xs,pk,dd⟩:=qaR I hp k hk
  obtain ⟨b,rfl,rfl,hk⟩:=key_is I di ri
  have hxl:xs.length<=sizeLine:=by rw [← Paired.length pk];exact z
  have he:(kvs.any fun p=>decide (p.1=.inr ks))=(atKey xs ks).isSome:=by
   rcases Jl ks pk t with ⟨_,e2,e3⟩|⟨_,_,_,_,_,e2,_,_,e3⟩
   ·rw [e2,e3];rfl
   ·rw [e2,e3];rfl
  refine wpAny_setItem_heap (knd:=qdL X.prog X.w) (hsz:=hxl) (qgP hu) hk dd fun h' dd' hs'=>?_
  obtain ⟨o,es,ep',g1,g2,g3,g4,_,g5⟩:=dd'
  have dct:QV p (putV kvs (.inr ks) b v) ep' h':=⟨by have:=qcp kvs (.inr ks) b v;omega,hs,.inl ⟨_,qgJ pk rv he,o,es,g1,g2,g3,g4,g5⟩⟩
  exact ⟨_,I.write (x:=p) (e:=p) (by rw [hp];exact Um) (.inl rfl) (fun c o' hc e=>(hs'.2 c hc).trans e) ⟨o,g1⟩ dct.ok,q b ep' rfl⟩
 | inl i =>
  obtain ⟨z,hs,vs,pk,dd⟩:=qaQ I hp hk
  obtain ⟨rfl,t',rfl⟩:=qba di ri
  have hxl:vs.length<=sizeLine:=by rw [← Paired.length pk];exact z
  refine wpAny_setItem_pairs (hsz:=hxl) (Ey _ _ i t') dd fun h' dd' hs'=>?_
  obtain ⟨o,es,ep',g1,g2,g3,g4,g4',g5⟩:=dd'
  have dct:QV p (putV kvs (.inl i) 0 v) ep' h':=⟨by have:=qcp kvs (.inl i) 0 v;omega,hs,.inr ⟨_,qgI pk rv,o,es,g1,g2,g3,Wd g4' fun e he=>g4 e (NJ.mp he),g5⟩⟩
  exact ⟨_,I.write (x:=p) (e:=p) (by rw [hp];exact Um) (.inl rfl) (fun c o' hc e=>(hs'.2 c hc).trans e) ⟨o,g1⟩ dct.ok,q 0 ep' rfl⟩
end
noncomputable def qjj (K:Kd):R2:=fun x y H Q=>∃ S a kvs ep ks ds d,x=.ref a/\H a=some (DctO a kvs ep)/\DenL K H S (kvs.map fun p=>kxV p.1 p.2.1) (kvs.map fun p=>kxD p.1)/\DenL K H S (kvs.map (·.2.2)) ds/\(∀ p∈kvs,kxI p.1=kxI ks)/\Den K H S y (kxD ks)/\zL (dkv kvs ds) ks=some d/\∀ v,Den K H S v d->Q v H
section
variable {X:Cx}{G:Gm}{M M' Mb L:List Nat}{fr:Fr}{a b c:Ky}{es:List Ky}{f fk fx g fa fb:Rho->Option Ka}{pos:Pos}{u:Rho->Option Out}
theorem qhS (hu:X.A.units+64<cLine):IxR X (qjj X.K):=by
 intro value slice pins s σ H x y v u Q I rx ry h hs
 obtain ⟨S,p,kvs,ep,ks,ds,d,rfl,hp,k,t,hk,dy,e,q⟩:=h
 cases rx
 exact tail_any (qfz I hp).1 PySem.F.slot_dict_getitem.lookup (qhw hu I hp k t hk dy ry e fun v' w' s' I' r' d'=>⟨v',H,I',r',q v' d'⟩) hs
theorem qc0 (hr:Room k X.A)(ha:PD X M a fa)(hb:PD X M b fb)(hs:J5 b:=by intro _ _;rfl):PD X M (.Subscript a b pos) (ev2 fa fb ix2D) :=
 (qd2 (r:=fun x y H Q=>(rIxL X.K x y H Q\/rIxT X.K x y H Q)\/qjj X.K x y H Q) ((YS.or qa1).or (qhS hr.units)) ha hb hs).weak fun σ H Q ⟨S,ρ,d,hs,e,q⟩=>by
  obtain ⟨x,e1,e⟩:=qd e
  obtain ⟨y,e2,e⟩:=qd e
  refine ⟨S,ρ,x,hs,e1,fun v H1 g1 d1=>⟨S,ρ,y,hs.same g1,e2,fun w H2 g2 d2=>?_⟩⟩
  have d1':=d1.same g2
  cases d1' with
  | list h t =>
   cases d2 with
   | int i =>
    obtain ⟨z,h1,h2⟩:=t.atI e
    exact .inl (.inl ⟨_,_,i,z,rfl,rfl,h.sq,h1,q z H2 (g1.trans g2) h2⟩)
   | _=>cases e
  | tuple h t =>
   cases d2 with
   | int i =>
    obtain ⟨z,h1,h2⟩:=t.atI e
    exact .inl (.inr ⟨_,_,i,z,rfl,rfl,h,h1,q z H2 (g1.trans g2) h2⟩)
   | _=>cases e
  | @dict p kvs ep ds h k t =>
   have e:ob (kxOf y) (fun ks=>if kOk (dkv kvs ds) ks=true then zL (dkv kvs ds) ks else none)=some d:=e
   obtain ⟨ks,e3,e⟩:=qd e
   have hl:kvs.length=ds.length:=by
    have:=t.length
    rwa [Kj] at this
   split at e
   case isFalse=>cases e
   rename_i hok
   rw [Yg e3] at d2
   exact .inr ⟨S,p,kvs,ep,ks,ds,d,rfl,h.1,k,t,qa2 hl hok,d2,e,fun v' d'=>q v' H2 (g1.trans g2) d'⟩
  | exc0 h o=>exact (yW (g:=id) e).elim
  | exc1 h o x z t=>exact (yW (g:=id) e).elim
  | ins h o=>exact (yW (g:=id) e).elim
  | _=>cases e
theorem jY (hr:Room k X.A):OpD X (compareOp .NotIn) qas:=by
 intro pins s σ H x y v u Q I rx ry h
 obtain ⟨S,dx,dy,d,m,h1,h2,e,q⟩:=h
 cases h2 with
 | @dict p kvs ep ds hp kk t =>
  have e:ob (kxOf dx) (fun ks=>if kOk (dkv kvs ds) ks=true then some (X6 (!(zL (dkv kvs ds) ks).isSome)) else none)=some d:=e
  obtain ⟨ks,e3,e⟩:=qd e
  have hl:kvs.length=ds.length:=by
   have:=t.length
   rwa [Kj] at this
  split at e
  case isFalse=>cases e
  rename_i hok
  cases e
  rw [Yg e3] at h1
  cases (show u=KR p from ry)
  exact qfB hr.units I hp.1 kk t (qa2 hl hok) h1 rx fun s' I'=>⟨.bl _,H,I',rfl,q _ H (Same.refl H) (.bool _)⟩
 | list a b=>exact YQ hr pins s σ H x _ v u Q I rx ry ⟨S,dx,_,d,m,h1,.list a b,e,q⟩
 | tuple a b=>exact YQ hr pins s σ H x _ v u Q I rx ry ⟨S,dx,_,d,m,h1,.tuple a b,e,q⟩
 | exc0 h o=>exact (yW (g:=id) e).elim
 | exc1 h o x z t=>exact (yW (g:=id) e).elim
 | ins h o=>exact (yW (g:=id) e).elim
 | _=>cases e
theorem qgy:PF X M (.Dict [] [] pos) (kd (.dict [])):=fun pins s σ H Q I ⟨S,ρ,d,hs,e,q⟩=>by
 cases e
 have hb:sysModules<s.heap.objs.size:=Fh (by decide) (show mainGlobals<s.heap.objs.size from (I.mod.glob.keeps I.bk).lt)
 have hn:=I.hok.fresh (Kr s.heap.objs.size)
 have dct:QV s.heap.objs.size [] 0 (s.heap.push { cls:=.type "dict", data:=.dict #[] }):=⟨Vv _,beq_eq_false_iff_ne.mpr (VT (KN hb)),.inl ⟨[],.nil,_,#[],Kz _ rfl,⟨rfl,rfl,rfl⟩,rfl,rfl,N2⟩⟩
 exact wpAny_Dict_empty ⟨.ref s.heap.objs.size,_,I.laid (a:=s.heap.objs.size) (o:=DctO s.heap.objs.size [] 0) (t':=s.toks) (fun _ _ q=>Kh _ q) (Kr _) dct.ok,rfl,q _ _ (Same.lay hn) hn (.dct (kvs:=[]) (ds:=[]) qH .nil .nil)⟩
noncomputable def qeb (i:Nat)(fk f:Rho->Option Ka):Rho->Option Out:=fun ρ=>ob (f ρ) fun d=>ob (vr i ρ) fun l=>ob (fk ρ) fun k=>ob (wH l k d) fun l'=>some (.nx (ρ.set i (some l')))
theorem qhI (js:List Int):yg (js.map .int)=true:=by
 induction js with
 | nil=>rfl
 | cons j js ih=>exact ih
theorem qaX:∀ ks:K2,yg (ks.map k2D)=true
 | []=>rfl
 | .inl _::ks=>qaX ks
 | .inr js::ks=>by
  show (yg (js.map .int)&&yg (ks.map k2D))=true
  rw [qhI,qaX];rfl
theorem qfL (k:KX):flat (kxD k)=true:=by
 cases k with
 | inl i=>rfl
 | inr ks=>exact qaX ks
theorem qcD (e:wH l k d=some l'):∃ kvs ks,l=.dict kvs/\k=kxD ks/\kOk kvs ks=true/\kvs.length<1000/\l'=.dict (putD kvs ks d):=by
 unfold wH at e
 split at e
 ·obtain ⟨ks,e1,e⟩:=qd e
  split at e
  ·rename_i hc;cases e;exact ⟨_,ks,rfl,Yg e1,hc.1,hc.2,rfl⟩
  ·cases e
 ·cases e
theorem qgi {kvs:List (KX×Addr×V)}{ep:Nat}{ds:List Ka}{S:Av}{σ:St}{ρ:Rho}{H:Hp}{i:Nat}{pp b:Kf}{ks:KX}{v:V}{d:Ka}{ep':Nat}(os:OwnS X.K G M L H S σ ρ)(hM:Flt M i)(hL:i∉L)(e0:ρ[i]?=some (some (.dict (dkv kvs ds))))(a1:σ[i]?=some (some (.ref pp)))(c1:S pp)(h:H pp=some (DctO pp kvs ep))(k:DenL X.K H S (kvs.map fun p=>kxV p.1 p.2.1) (kvs.map fun p=>kxD p.1))(t:DenL X.K H S (kvs.map (·.2.2)) ds)(dk:Den X.K H S (kxV ks b) (kxD ks))(dv:Den X.K H S v d)
  (he:(kvs.any fun p=>decide (p.1=ks))=(zL (dkv kvs ds) ks).isSome):OwnS X.K G M L (upd H pp (DctO pp (putV kvs ks b v) ep')) S σ (ρ.set i (some (.dict (putD (dkv kvs ds) ks d)))):=by
 obtain ⟨ds',t',ed⟩:=qgK (b:=b) t dv he
 refine os.write hM hL e0 a1 rfl ?_
 rw [← ed]
 exact .dct qH ((qgH k dk).off os.ds.1 (Off.upd c1)) (t'.off os.ds.1 (Off.upd c1))
theorem qbB {K:Kd}{H:Hp}{S:Av}(ks:KX):∀ {kvs:List (KX×Addr×V)} {ds:List Ka},DenL K H S (kvs.map (·.2.2)) ds->(kvs.any fun p=>decide (p.1=ks))=(zL (dkv kvs ds) ks).isSome
 | [],_,t=>by cases t;rfl
 | p::kvs,_,t=>by
  cases t with
  | @cons _ d _ ds dv t' =>
   rw [jg,Uz]
   by_cases e:p.1=ks
   ·rw [Yb e,decide_eq_true e];rfl
   ·rw [yZ e,decide_eq_false e,X3];exact qbB ks t'
theorem qhx {kvs:List (KX×Addr×V)}{ds:List Ka}(h:kvs.length=ds.length):(dkv kvs ds).length=kvs.length:=by
 unfold dkv
 rw [EO,Kj,h,Nat.min_self]
theorem qgs (hr:Room k X.A)(i:Nat){px sp:Pos}(hv:Vis X.env.scope x)(hM:Flt M i)(hL:i∉L)(hk:PD X [] b fk)(he:PD X M a f)(hN:X.N[i]?=some x:=by rfl)(hd:(x==("__debug__" : Str))=false:=by decide +kernel)(hcd:(x==("__classdict__" : Str))=false:=by decide +kernel)
  (ha:∀ v,assign (.Subscript (.Name x px) b sp) X.env v=(do
   let ov ← holding [v] (eval (.Name x px) X.env)
   let iv ← holding [v,ov] (eval b X.env)
   standAt sp
   holding [v,ov,iv] (setItem ov iv v)
   release [v,ov,iv] []):=by intro _;rfl)
  (hs:swapsWithSole [.Subscript (.Name x px) b sp] a pos.line X.env=pure false:=by rfl) (hw:swappedStores [.Subscript (.Name x px) b sp] a X.env=pure none:=by rfl)
  (h1:(assignEach [.Subscript (.Name x px) b sp] X.env).map (·.2)=[assign (.Subscript (.Name x px) b sp) X.env]:=by rfl) :
  PDS X G M L M Mb fr (.Assign [.Subscript (.Name x px) b sp] a pos) (qeb i fk f) :=
 (qgE he (qkt (JH i hv hN hd hcd) hk (set_dict hr.units) ha) hs hw h1).weak fun D σ H ⟨S,ρ,o,os,e,q⟩=>by
  obtain ⟨d,e1,e⟩:=qd e
  obtain ⟨l,e2,e⟩:=qd e
  obtain ⟨kd,e3,e⟩:=qd e
  obtain ⟨l',e4,e⟩:=qd e
  cases e
  obtain ⟨kvs0,ks,rfl,rfl,hok,hz,rfl⟩:=qcD e4
  refine ⟨S,ρ,d,os.ds,e1,fun v H1 g1 d1=>?_⟩
  have os1:=os.same g1
  obtain ⟨pp,a1,b1,c1,n1,w1,_⟩:=os1.own i hM _ (Qo e2)
  cases b1 with
  | @dct kvs ep ds h kk t =>
   refine ⟨_,a1,G.S0,ρ,_,os1.den,e3,fun kv H2 g2 dk=>?_⟩
   have os2:=os1.same g2
   have dk:Den X.K H2 S kv (kxD ks):=dk.flat (qfL ks)
   have hl:kvs.length=ds.length:=by
    have:=t.length
    rwa [Kj] at this
   rw [qhx hl] at hz
   refine ⟨S,pp,kvs,ep,ks,ds,d,rfl,g2 _ _ h,kk.same g2,t.same g2,qa2 hl hok,dk,d1.same g2,hz,fun b' ep' eb=>?_⟩
   subst eb
   exact q _ _ _ (qgi os2 hM hL (Qo e2) a1 c1 (g2 _ _ h) (kk.same g2) (t.same g2) dk (d1.same g2) (qbB ks t))
end
section
variable {X:Cx}{G:Gm}{M M' Mb L:List Nat}{fr:Fr}{a b c:Ky}{es:List Ky}{f fk g:Rho->Option Ka}{pos:Pos}{u:Rho->Option Out}
noncomputable def sNo:Rho->Option Out:=fun _=>none
theorem jk:PDS X G M L M' Mb fr (.Raise e1 e2 pos) sNo:=fun pins s σ H D I ⟨S,ρ,o,os,e,q⟩=>by cases e
end
open AutoSeq1 (wpAny_loadPart') in
theorem qcw (l:Kf)(items:Array Ke)(n:Nat)(dd:Option Kf)(sl:Array (Option Ke))(x:Ke)(e:Ke->Bool)(j:Nat)(hj:j<items.size)(hit:e items[j]=true)(hno:∀ m (hm:m<items.size),m<j->e items[m]=false) :
  Meets (UA.«tuple.index» ⟨[.ref l,x],[]⟩) (fun A R s=>s.heap.get? l=some { cls:=.type "tuple", dict:=dd,data:=.seq items n,slots:=sl }/\(∀ y,y∈items->SeqAt.EqAt A.in1 s y x (e y))/\R (.ok (.ret (.int j s.toks))) { s with toks:=s.toks+1 }) :=
 .of_wp fun prog w A R s h=>by
  obtain ⟨hp,g,d,tk,os⟩:=s
  obtain ⟨hl,he,h⟩:=h
  unfold UA.«tuple.index»
  simp only [Std.Legacy.Range.forIn_eq_forIn_range']
  wp_walk using wpAny_loadPart' hl,XY _ (fun rest b s'=>b.1=none/\s'=⟨hp,g,d,tk,os⟩/\∃ i,i<=j/\rest=List.range' i (items.size-i)) _
  case turn =>
   rintro k rest b s' ⟨hb,rfl,i,hi,hr⟩
   have hlt:i<items.size:=by omega
   have e1:items.size-i=(items.size-(i+1))+1:=by omega
   rw [e1,List.range'_succ] at hr
   injection hr with hk hr
   subst hk
   rw [Na hlt]
   refine Kc (he _ (Array.getElem_mem hlt) prog w _ _ (id ?_))
   by_cases hij:k=j
   ·subst hij
    rw [hit]
    wp_walk
    exact ⟨_,rfl,h⟩
   ·rw [hno k hlt (by omega)]
    wp_walk
    exact ⟨rfl,rfl,k+1,by omega,hr⟩
  case fin =>
   rintro b s' ⟨hb,rfl,i,hi,hr⟩
   have:=congrArg N7 hr
   rw [List.length_range'] at this
   have:(0:Nat)=items.size-i:=this
   omega
  case h=>exact ⟨rfl,rfl,0,Vv _,by simp [Std.Legacy.Range.size]⟩
noncomputable def tVd (K:Kd)(M:List Nat)(f:Rho->Option Ka):TE:=fun σ H Q=>∃ S ρ d,DenS K H S M σ ρ/\f ρ=some d/\∀ p fp H',Same H H'->(∀ q∈fp,H q=none)->DeepO K H' (insL S fp) fp p d->Q (.ref p) H'
noncomputable def qdH:Ka->Bool
 | .list _=>true
 | _=>false
theorem Kids.length {K:Kd}{H:Hp}{S:Av}:∀ {qs:List Kf} {ds:List Ka},Kids K H S qs ds->qs.length=ds.length
 | _,_,.nil=>rfl
 | _,_,.cons _ _ _ r=>by rw [KA,KA,r.length]
theorem Kids.get {K:Kd}{H:Hp}{S:Av}:∀ {qs:List Kf} {ds:List Ka} {i:Nat} {d:Ka},Kids K H S qs ds->ds[i]?=some d->∃ q xs es,qs[i]?=some q/\d=.list es/\H q=some (.lst xs)/\DenL K H S xs es
 | _,_,_,_,.nil,e=>by simp at e
 | _,_,0,_,.cons h t _ _,e=>by simp at e;subst e;exact ⟨_,_,_,rfl,rfl,h,t⟩
 | _,_,i+1,d,.cons _ _ _ r,e=>by
  obtain ⟨q,xs,es,h1,h2⟩:=Kids.get (i:=i) (d:=d) r (by simpa using e)
  exact ⟨q,xs,es,by simpa using h1,h2⟩
theorem Kids.put {K:Kd}{H:Hp}{S:Av}{q:Kf}{xs:List V}{es:List Ka}(m:Dm S H)(hq:S q)(t:DenL K (L2.upd H q (.lst xs)) S xs es):∀ {qs:List Kf} {ds:List Ka} {i:Nat},Kids K H S qs ds->qs[i]?=some q->Kids K (L2.upd H q (.lst xs)) S qs (ds.set i (.list es))
 | _,_,_,.nil,e=>by simp at e
 | _,_,0,.cons h t' n r,e=>by
  simp at e;subst e
  exact .cons qH t n (r.upd m hq n)
 | _,_,i+1,.cons h t' n r,e=>by
  have e':=(List.getElem?_cons_succ ..).symm.trans e
  have hm:q∈_:=Vs e'
  refine .cons ?_ (t'.off m fun b u z e=>by rw [qC (fun y=>z (by rw [y];exact hq))];exact e) n (Kids.put m hq t r e')
  rw [qC (fun z=>n (by rw [z];exact hm))];exact h
section
variable {X:Cx}{G:Gm}{M M' Mb L:List Nat}{fr:Fr}{a b c:Ky}{es:List Ky}{f fk g:Rho->Option Ka}{pos:Pos}{u:Rho->Option Out}{fs:Rho->Option (List Ka)}
theorem DenS.insO {K:Kd}{H H':Hp}{S:Av}{σ:St}{ρ:Rho}{p:Kf}{d:Ka}(hs:DenS K H S M σ ρ)(e:Same H H')(n:H p=none)(o:OwnO K H' (insA S p) p d):DenS K H' (insA S p) M σ ρ :=
 ⟨(hs.1.same e).ins o.mut,hs.2.1,fun i d hi q=>let ⟨v,a,b⟩:=hs.2.2 i d hi q;⟨v,a,(b.sub fun a ha z=>z.elim id fun y=>absurd (by rw [y];exact n) ha).same e⟩⟩
noncomputable def Wr (i:Nat)(f:Rho->Option Ka):Rho->Option Out:=fun ρ=>if i<ρ.length/\ρ.length<=1000 then ob (f ρ) fun d=>some (.nx (ρ.set i (some d))) else none
noncomputable def ym:Ka->Ka->Option Nat
 | .tuple ds,.int k=>ixN ds.length k
 | .list ds,.int k=>ixN ds.length k
 | _,_=>none
noncomputable def qaj:Ka->Nat->Option Ka
 | .tuple ds,j=>ds[j]?
 | .list ds,j=>ds[j]?
 | _,_=>none
noncomputable def qbb:Ka->Nat->Ka->Ka
 | .tuple ds,j,l=>.tuple (ds.set j l)
 | .list ds,j,l=>.list (ds.set j l)
 | d,_,_=>d
theorem DeepF.same {K:Kd}{H H':Hp}{S:Av}{σ:St}{ρ:Rho}{F:Nat->List Kf}(e:Same H H')(f:DeepF K G M H S σ ρ F):DeepF K G M H' S σ ρ F :=
 ⟨fun i hi d q=>let ⟨p,a,b,c⟩:=f.own i hi d q;⟨p,a,b.same e,c⟩,f.disj,f.flat⟩
theorem Q4 {qs:List Kf}{j:Nat}{k:Int}{q:Kf}{n:Nat}(h:n=qs.length)(e:ixN n k=some j)(e':qs[j]?=some q):atI (qs.map V.ref) k=some (.ref q):=by
 unfold atI
 rw [Kj,← h,e]
 show (qs.map V.ref)[j]?=_
 rw [K1,e'];rfl
theorem DeepO.kid {K:Kd}{H:Hp}{S:Av}{fp:List Kf}{p:Kf}{d0 l:Ka}{j:Nat}(b:DeepO K H S fp p d0)(e:qaj d0 j=some l):∃ q xs es,q∈fp/\l=.list es/\H q=some (.lst xs)/\DenL K H S xs es/\
  (∀ k,ym d0 (.int k)=some j->∀ Q:VK,Q (.ref q) H->(rIxL K (.ref p) (.int k) H Q\/rIxT K (.ref p) (.int k) H Q))/\
  ∀ H2,Same H H2->∀ xs' es',S q->Dm S H2->DenL K (L2.upd H2 q (.lst xs')) S xs' es'->DeepO K (L2.upd H2 q (.lst xs')) S fp p (qbb d0 j (.list es')):=by
 cases b with
 | @tpl _ qs ds h t =>
  obtain ⟨q,xs,es,h1,rfl,h2,h3⟩:=t.get (show ds[j]?=some l from e)
  refine ⟨q,xs,es,Vs h1,rfl,h2,h3,fun k hk Q hQ=>.inr ⟨p,_,k,_,rfl,rfl,.inl (.inl h),Q4 t.length.symm hk h1,hQ⟩,fun H2 g xs' es' hS m t'=>?_⟩
  exact .tpl (by rw [qC (fun z=>m.tup (.inl (g _ _ h)) (by rw [z];exact hS))];exact g _ _ h) (Kids.put m hS t' (t.same g) h1)
 | @lst _ qs ds h n t =>
  obtain ⟨q,xs,es,h1,rfl,h2,h3⟩:=t.get (show ds[j]?=some l from e)
  have hm:=Vs h1
  refine ⟨q,xs,es,.tail _ hm,rfl,h2,h3,fun k hk Q hQ=>.inl ⟨p,_,k,_,rfl,rfl,SqL.of h,Q4 t.length.symm hk h1,hQ⟩,fun H2 g xs' es' hS m t'=>?_⟩
  exact .lst (by rw [qC (fun z=>n (by rw [z];exact hm))];exact g _ _ h) n (Kids.put m hS t' (t.same g) h1)
 | dct h k v n t=>cases e
noncomputable def qct (i:Nat)(fk f:Rho->Option Ka):Rho->Option Out:=fun ρ=>ob (vr i ρ) fun c=>ob (fk ρ) fun k=>ob (ym c k) fun j=>ob (qaj c j) fun l=>ob (f ρ) fun d=>ob (appD l d) fun l'=>some (.nx (ρ.set i (some (qbb c j l'))))
theorem qeM {c k:Ka}{j:Nat}(e:ym c k=some j):∃ n,k=.int n:=by
 unfold ym at e
 split at e
 ·exact ⟨_,rfl⟩
 ·exact ⟨_,rfl⟩
 ·cases e
theorem qcg (i:Nat){x:Str}{px sp apos cpos:Pos}(hv:Vis X.env.scope x)(hM:Dp M i)(hb:PD X M b fk)(he:PD X M a f)(hpx:J5 b:=by intro _ _;rfl)(hN:X.N[i]?=some x:=by rfl)(hd:(x==("__debug__" : Str))=false:=by decide +kernel)(hcd:(x==("__classdict__" : Str))=false:=by decide +kernel)
  (hbase:attributeBase (.Subscript (.Name x px) b sp) "append" X.env (eval (.Subscript (.Name x px) b sp) X.env)=eval (.Subscript (.Name x px) b sp) X.env:=by rfl)
  (hfew:((backTo cpos (starEach [a] X.env)).all (fun x=>!x.1)&&(backToKw cpos (keywordEach [] X.env)).all (fun x=>x.1.isSome)
   && decide ([a].length+([]:List Xu).length+(if ([]:List Xu).isEmpty then 0 else 1)<30))=true:=by rfl)
  (hline:(apos.endLine==cpos.line)=true:=by rfl) (hs:starEach [a] X.env=(false,eval a X.env)::starEach [] X.env:=by rfl) (hplain:(backTo cpos (starEach [] X.env)).any (·.1)=false:=by rfl)
  (hsw:swapsWith (.Call (.Attribute (.Subscript (.Name x px) b sp) "append" apos) [a] [] cpos) none pos.line X.env=pure false:=by rfl) :
  PDS X G M L M Mb fr (.Expr (.Call (.Attribute (.Subscript (.Name x px) b sp) "append" apos) [a] [] cpos) pos) (qct i fk f) :=
 (yz (qay U5 XC Nj Yi (qd2 (r:=fun x y H Q=>rIxL X.K x y H Q\/rIxT X.K x y H Q) (YS.or qa1) (JH i hv hN hd hcd) hb hpx) (qG he zu hs) hbase hfew hline hs hplain) hsw).weak fun D σ H ⟨S,ρ,o,os,e,q⟩=>by
  obtain ⟨c0,e1,e⟩:=qd e
  obtain ⟨k0,e2,e⟩:=qd e
  obtain ⟨j,e3,e⟩:=qd e
  obtain ⟨l,e4,e⟩:=qd e
  obtain ⟨d,e5,e⟩:=qd e
  obtain ⟨l',e6,e⟩:=qd e
  cases e
  obtain ⟨k,rfl⟩:=qeM e3
  obtain ⟨F,f0⟩:=os.deep
  obtain ⟨pp,a1,b1,c1⟩:=f0.own i hM _ (Qo e1)
  refine ⟨_,a1,S,ρ,.int k,os.ds,e2,fun w H1 g1 d1=>?_⟩
  cases d1.int_inv
  obtain ⟨q0,xs,es,m0,rfl,h0,t0,ix,put⟩:=(b1.same g1).kid e4
  refine ix k e3 _ ⟨.inl ⟨rfl,_,SqL.of h0⟩,S,ρ,[d],os.ds.same g1,by show ob (f ρ) _=_;rw [e5];rfl,fun vs H2 g2 dl=>?_⟩
  obtain ⟨v,rfl,dv⟩:=dl.inv1
  have os2:=os.same (g1.trans g2)
  obtain ⟨ds,e7,hz,rfl⟩:=yP e6
  cases e7
  refine ⟨q0,xs,v,rfl,rfl,g2 _ _ h0,KP (by rw [t0.length];exact hz) (VI (zj (Kr _))),?_⟩
  exact q _ _ _ (os2.writeD (f0.same (g1.trans g2)) hM (Qo e1) a1 m0 rfl (put H2 g2 _ _ (c1 q0 m0).1 os2.ds.1 (((t0.same g2).snoc dv).off os2.ds.1 (Off.upd (c1 q0 m0).1))))
end
theorem qei:bootBuiltins "zip" = some (.type "zip"):=by decide +kernel
section
variable {X:Cx}{pins:List (Kf×Obj)}{σ:St}{H:Hp}{s:Kg}
theorem Inv.turnedL {h':KC}{t':Nat}{fp:List Kf}(I:Inv X pins σ H s)(k:∀ b o,b∉fp->s.heap.get? b=some o->h'.get? b=some o)(ff:∀ b∈fp,FpOk X pins H b):Inv X pins σ H { s with heap:=h',toks:=t' }:=by
 have nit:∀ b u,H b=some u->b∉fp:=fun b u q z=>by rw [(ff b z).1] at q;cases q
 refine I.step (g':=s.gens) (d':=s.drawn) (ch:=fp) (fun b hb=>⟨(ff b hb).2.2.2.1,(ff b hb).2.1,(ff b hb).2.2.2.2.1,(ff b hb).2.2.2.2.2⟩) (fun b o _ _ hc e _=>k b o hc e) (fun b o _ _ hc e _=>⟨o.slots,k b o hc e⟩) (fun _ _ _ _ n=>n)
  (fun b o hc e=>⟨o,k b o hc e⟩) (fun _ _ e=>e) (fun _ _ _ e=>e) (fun b ps e=>⟨#[],by rw [e];simp⟩) (fun m hm=>?_) (fun b u q=>?_) I.bare
 ·obtain ⟨o,es,ep,ho,r⟩:=hm
  exact ⟨o,es,ep,k _ o (fun z=>(ff _ z).2.1 rfl) ho,r⟩
 ·refine (I.hok b u q).stay (fun c v hc q'=>k c v ?_ q') (fun _ q=>q) fun _ _ q=>q
  rcases hc with z|z
  ·rw [z];exact nit b u q
  ·exact nit c _ z
end
noncomputable def Itz (K:Kd)(a b:Kf):It :=
 ⟨fun i H=>∃ xs ys x y,SqL K H a xs/\SqL K H b ys/\xs[i]?=some x/\ys[i]?=some y,
  fun i H v H'=>∃ p x y,H p=none/\v=.ref p/\H'=upd H p (.tup [x,y])/\(∀ xs,SqL K H a xs->xs[i]?=some x)/\∀ ys,SqL K H b ys->ys[i]?=some y,
  fun i H=>∃ xs ys,SqL K H a xs/\SqL K H b ys/\(xs[i]?=none\/ys[i]?=none)⟩
theorem qff {n p1 p2:Nat}(h1:p1<n)(h2:p2<n):N4 (n+4) (n+2) (n+3) n (n+1) p1 p2:=by
 constructor<;>first|exact KN (by omega)|exact VZ (by omega)
section
variable {X:Cx}{M:List Nat}{a b:Ky}{es:List Ky}{f fa fb:Rho->Option Ka}{pos:Pos}
noncomputable def zpL:List Ka->List Ka->List Ka
 | d::ds,e::es=>.tuple [d,e]::zpL ds es
 | _,_=>[]
theorem yM:∀ (ds es:List Ka) (i:Nat) (d:Ka),(zpL ds es)[i]?=some d->∃ x y,ds[i]?=some x/\es[i]?=some y/\d=.tuple [x,y]
 | [],_,_,_,h=>by simp [zpL] at h
 | _::_,[],_,_,h=>by simp [zpL] at h
 | x::ds,y::es,0,d,h=>by simp [zpL] at h;exact ⟨x,y,rfl,rfl,h.symm⟩
 | x::ds,y::es,i+1,d,h=>by
  obtain ⟨x',y',h1,h2,h3⟩:=yM ds es i d (by simpa [zpL] using h)
  exact ⟨x',y',by simpa using h1,by simpa using h2,h3⟩
theorem qbw:∀ (ds es:List Ka),ds[(zpL ds es).length]?=none\/es[(zpL ds es).length]?=none
 | [],_=>.inl rfl
 | _::_,[]=>.inr rfl
 | x::ds,y::es=>by
  rcases qbw ds es with h|h
  ·left;simpa [zpL] using h
  ·right;simpa [zpL] using h
theorem IsIt.zip {K:Kd}{H:Hp}{S:Av}{l m:Kf}{xs ys:List V}{ds es:List Ka}(h:SqL K H l xs)(t:DenL K H S xs ds)(h':SqL K H m ys)(t':DenL K H S ys es):IsIt K S (Itz K l m) H (zpL ds es) where
 go:=fun i H' e hi=>by
  obtain ⟨d,hd⟩:∃ d,(zpL ds es)[i]?=some d:=⟨_,Kn hi⟩
  obtain ⟨x,y,h1,h2,_⟩:=yM ds es i d hd
  obtain ⟨v,h3,_⟩:=t.get h1
  obtain ⟨w,h4,_⟩:=t'.get h2
  exact ⟨xs,ys,v,w,e.seq h,e.seq h',h3,h4⟩
 yld:=fun i H' x H2 e ⟨p,y1,y2,hp,ex,e2,q1,q2⟩=>by
  subst ex e2
  refine ⟨Same.lay hp,fun d hd S' w=>?_⟩
  obtain ⟨d1,d2,h1,h2,rfl⟩:=yM ds es i d hd
  obtain ⟨v1,h3,r1⟩:=t.get h1
  obtain ⟨v2,h4,r2⟩:=t'.get h2
  have e3:=q1 xs (e.seq h)
  have e4:=q2 ys (e.seq h')
  rw [h3] at e3
  rw [h4] at e4
  cases e3
  cases e4
  exact .tuple (SqT.of qH) (.cons (w _ _ r1) (.cons (w _ _ r2) .nil))
 stop:=fun H' e=>⟨xs,ys,e.seq h,e.seq h',by
  have a:=t.length
  have b:=t'.length
  rcases qbw ds es with z|z
  ·left;rw [Uq] at z ⊢;omega
  ·right;rw [Uq] at z ⊢;omega⟩
noncomputable def zipD:Ka->Ka->Option (List Ka)
 | .list ds,.list es=>some (zpL ds es)
 | _,_=>none
noncomputable def evI2 (fa fb:Rho->Option Ka)(g:Ka->Ka->Option (List Ka))(ρ:Rho):Option (List Ka):=ob (fa ρ) fun x=>ob (fb ρ) fun y=>g x y
theorem qiZ (ds es:List Ka):zipD (.list ds) (.list es)=some (zpL ds es):=rfl
theorem qjn (d e:Ka)(ds es:List Ka):zpL (d::ds) (e::es)=.tuple [d,e]::zpL ds es:=rfl
theorem qha (es:List Ka):zpL [] es=[]:=by cases es<;>rfl
theorem qhb (ds:List Ka):zpL ds []=[]:=by cases ds<;>rfl
end
def qcy (K:Kd)(mg:Str->Option Ke)(x:Str)(d:Ka):Prop:=∃ a o,mg x=some (.ref a)/\K.lookup a=some o/\o.cls=.type "tuple"/\o.dict=none/\∀ H S,Den K H S (.ref a) d
noncomputable def Q9 (l x:Ka):Option Ka:=match l with
 | .tuple ds=>if inOk ds x=true/\ds.length<=1000 then ob (ds.findIdx? fun y=>Kq y x) fun j=>some (.int (j:Nat)) else none
 | _=>none
section
variable {X:Cx}{G:Gm}{M M' Mb L:List Nat}{fr:Fr}{a b c:Ky}{es:List Ky}{f fk g:Rho->Option Ka}{pos:Pos}{u:Rho->Option Out}
noncomputable def qiH (K:Kd):V->List V->Hp->VK->Prop:=fun x vs H Q=>∃ S dx y dy d,vs=[y]/\Den K H S x dx/\Den K H S y dy/\Q9 dx dy=some d/\Dm S H/\∀ v H',Same H H'->Den K H' S v d->Q v H'
theorem qeV (hr:Room k X.A):MtR X "tuple.index" (qiH X.K):=by
 intro pins s σ H x vs v us Q I rx rv h
 obtain ⟨S,dx,y,dy,d,rfl,h1,h2,e,m,q⟩:=h
 obtain ⟨u,rfl,ru⟩:=rv.one
 unfold Q9 at e
 split at e
 ·rename_i ds
  split at e
  ·rename_i hc
   obtain ⟨⟨c1,c2,c3⟩,hz⟩:=And.intro (QX hc.1) hc.2
   obtain ⟨j,ej,e⟩:=qd e
   cases e
   obtain ⟨bs,q2⟩:=h2.reads I c2 ru
   obtain ⟨as,q1⟩:=h1.reads I (by rw [KL];exact c1) rx
   obtain ⟨a,xs,rfl,hsq,ht⟩:=h1.tuple_inv
   cases (show v=KR a from rx)
   cases q1 with
   | @tuple _ o items n _ _ g1 g2 g3 g4 =>
    obtain ⟨cls,dd,data,sl⟩:=o
    simp only at g2 g3
    subst g2 g3
    have hm:=SeqAt.readsAll_map _ _ _ c1 g4
    obtain ⟨hj,hp,hno⟩:=NA.mp ej
    have hlen:items.size=ds.length:=by
     have:=congrArg N7 hm
     simpa using this
    have hat:∀ i (h:i<items.size),Nk s.heap items[i]=ds[i]'(by omega):=fun i h=>by
     have:=congrArg (fun l=>l[i]?) hm
     simp only [K1] at this
     rw [Kn (by simpa using h),Kn (by omega)] at this
     simpa using this
    refine call_meets EF ⟨_,g1,rfl⟩ PySem.F.entry_tuple_index (PySem.F.args_tuple_index_2 _ _) (qcw a items n dd sl u (fun y=>Kq (Nk s.heap y) dy) j (by omega) ?_ ?_) ⟨g1,SeqAt.items_eqAt g4 q2 c1 c2 (Jm c3 hr.units),?_⟩
    ·show Kq (Nk s.heap items[j]) dy=true
     rw [hat j (by omega)];exact hp
    ·intro i hi hij
     show Kq (Nk s.heap items[i]) dy=false
     rw [hat i hi]
     simpa using hno i hij
    ·exact ⟨.int j,H,I.tok _,⟨_,rfl⟩,q _ H (Same.refl H) (.int _)⟩
  ·cases e
 ·cases e
theorem qeZ {px apos cpos:Pos}(C:qcy X.K X.mg x d)(hr:Room k X.A)(hg:Gl X x)(he:PD X M a g)(hdb:(x==("__debug__" : Str))=false:=by decide +kernel)
  (hbase:attributeBase (.Name x px) "index" X.env (eval (.Name x px) X.env)=eval (.Name x px) X.env:=by rfl)
  (hfew:((backTo cpos (starEach [a] X.env)).all (fun x=>!x.1)&&(backToKw cpos (keywordEach [] X.env)).all (fun x=>x.1.isSome)
   && decide ([a].length+([]:List Xu).length+(if ([]:List Xu).isEmpty then 0 else 1)<30))=true:=by rfl)
  (hline:(apos.endLine==cpos.line)=true:=by rfl) (hs:starEach [a] X.env=(false,eval a X.env)::starEach [] X.env:=by rfl) (hplain:(backTo cpos (starEach [] X.env)).any (·.1)=false:=by rfl) :
  PD X M (.Call (.Attribute (.Name x px) "index" apos) [a] [] cpos) (ev1 g (Q9 d)):=by
 obtain ⟨l,o,hm,hl,hc,hd,hD⟩:=C
 refine (qay PySem.F.plainAttrs_tuple EF PySem.F.type_tuple_index (qeV hr) (YW (v:=.ref l) hg hm rfl hdb) (qG he zu hs) hbase hfew hline hs hplain).weak fun σ H Q ⟨S,ρ,d',hs,e,q⟩=>?_
 obtain ⟨dy,e2,e⟩:=qd e
 refine ⟨.inr (.inl ⟨rfl,o,hl,hc,hd⟩),S,ρ,[dy],hs,by show ob (g ρ) _=_;rw [e2];rfl,fun vs H2 g2 dl=>?_⟩
 obtain ⟨w,rfl,dw⟩:=dl.inv1
 exact ⟨S,_,w,dy,d',rfl,hD H2 S,dw,e,hs.1.same g2,fun v3 H3 g3 d3=>q v3 H3 (g2.trans g3) d3⟩
end
theorem qcq (A:KF)(s:Kg)(a:Int)(t:Tok)(c:Int)(u:Tok)(prog:Ku)(w:KI)(E:Ke->Kg->Prop)(Q:Ke->Kg->Prop)(h:Q (.bool (decide (a > c))) s):wpAny (model prog w) A (richCompare .Gt (.int a t) (.int c u)) Q E s :=
 (PyProof.Rows.gt_int h:wpAny (model prog w) A (compareOp .Gt (.int a t) (.int c u)) Q E s)
mutual
def gtX:Ka->Ka->Option Bool
 | .int i,.int j=>some (decide (i > j))
 | .tuple xs,.tuple ys=>gtXs xs ys
 | _,_=>none
def gtXs:List Ka->List Ka->Option Bool
 | [],[]=>some false
 | [],_::_=>some false
 | _::_,[]=>some true
 | x::xs,y::ys=>if Kq x y=true then gtXs xs ys else gtX x y
end
def GtAt (A:KF)(s:Kg)(y x:Ke)(b:Bool):Prop:=∀ (prog:Ku) (w:KI) (E Q:Ke->Kg->Prop),Q (.bool b) s->wpAny (model prog w) A (richCompare .Gt y x) Q E s
noncomputable def qbx (A:KF)(s:Kg):List Ke->List Ke->Bool->Prop
 | [],[],r=>r=false
 | [],_::_,r=>r=false
 | _::_,[],r=>r=true
 | y::ys,x::xs,r=>∃ e,SeqAt.EqAt A s y x e/\(e=true->qbx A s ys xs r)/\(e=false->GtAt A s y x r)
section
open PySem.SeqAt
open PySem.AutoSeq1 (wpAny_loadPart')
open PySem.MeetsSeq PySem.MeetsSeq2 PySem.MeetsSeq3
theorem qbs (l b:Kf)(items items2:Array Ke)(n n2:Nat)(dd dd2:Option Kf)(sl sl2:Array (Option Ke)) :
  Meets (UA.«tuple.__gt__» ⟨[.ref l,.ref b],[]⟩)
   (fun A R s=>s.heap.get? l=some { cls:=.type "tuple", dict:=dd,data:=.seq items n,slots:=sl }/\s.heap.get? b=some { cls:=.type "tuple", dict:=dd2,data:=.seq items2 n2,slots:=sl2 }/\∃ r,qbx A.in1 s items.toList items2.toList r/\R (.ok (.ret (.bool r))) s) :=
 .of_wp fun prog w A R s h=>by
  obtain ⟨hp,g,d,tk,os⟩:=s;obtain ⟨hl,hb,r,hx,h⟩:=h
  have f2:=AutoSeq1.sub_tuple_tuple;wp_walk using wpAny_loadPart' hl,wpAny_loadPart' hb,XY _ (fun rest b s'=>b.1=none/\s'=⟨hp,g,d,tk,os⟩/\∃ (vs ws:List Ke),rest=vs.zip ws/\
   qbx A.in1 ⟨hp,g,d,tk,os⟩ vs ws r/\vs.length+items2.size=ws.length+items.size) _
  case turn =>
   rintro ⟨y,x⟩ rest b s' ⟨hb',rfl,vs,ws,hz,hlx,hlen⟩
   cases vs with
   | nil=>rw [Eu] at hz;cases hz
   | cons v vs =>
    cases ws with
    | nil=>rw [Ec] at hz;cases hz
    | cons u ws =>
     rw [XG] at hz
     injection hz with hyx hrest
     injection hyx with hy hx'
     subst hy hx'
     simp only [KA] at hlen
     obtain ⟨e,he,h1,h2⟩:=hlx
     refine Kc (he prog w _ _ ?_)
     cases e with
     | true =>
      wp_walk
      exact ⟨rfl,rfl,_,_,hrest,h1 rfl,by omega⟩
     | false =>
      have hri:=h2 rfl prog w
      wp_walk using hri
      exact ⟨_,rfl,by simpa using h⟩
  case fin =>
   rintro ⟨b1,b2⟩ s' ⟨hb',rfl,vs,ws,hz,hlx,hlen⟩
   simp only at hb'
   subst hb'
   have hv:r=decide (items.size > items2.size):=by
    cases vs with
    | nil =>
     cases ws with
     | nil =>
      simp only [UY] at hlen
      rw [show r=false from hlx]
      exact (decide_eq_false (by omega)).symm
     | cons c hw =>
      simp only [UY,KA] at hlen
      rw [show r=false from hlx]
      exact (decide_eq_false (by omega)).symm
    | cons a hv =>
     cases ws with
     | nil =>
      simp only [UY,KA] at hlen
      rw [show r=true from hlx]
      exact (decide_eq_true (by omega)).symm
     | cons c hw =>
      rw [XG] at hz
      cases hz
   rw [hv] at h
   wp_walk
   exact ⟨_,rfl,by simpa [NI] using h⟩
  case h =>
   exact ⟨rfl,rfl,items.toList,items2.toList,rfl,hx,by simp [Fi]⟩
end
theorem qfR {A:KF}{s:Kg}{items items2:Array Ke}(hl:IsTup s.heap l items)(hb:IsTup s.heap b items2)(hu:A.units<cLine)(h:qbx A.in1 s items.toList items2.toList r):GtAt A s (.ref l) (.ref b) r:=fun prog w E Q q=>by
 obtain ⟨⟨cls,dd,data,sl⟩,ho,hc,n,hd⟩:=id hl;obtain ⟨⟨cls2,dd2,data2,sl2⟩,ho2,hc2,n2,hd2⟩:=id hb
 simp only at hc hd hc2 hd2
 subst hc hd hc2 hd2
 exact Ny (op:=.Gt) ⟨_,ho,rfl⟩ ⟨_,ho2,rfl⟩ PySem.F.slot_tuple_gt PySem.F.entry_tuple_gt (PySem.F.args_tuple_gt_2 _ _) (qbs l b items items2 n n2 dd dd2 sl sl2)
  ⟨ho,ho2,r,h,show K8 r≠NR/\Q (.bool r) s from ⟨(fun x=>nomatch x),q⟩⟩ hu
theorem qb5 {A:KF}{s:Kg}(hu:A.units+m+1<cLine)(hit:∀ (x y:Ka) (a b:Ke) (as bs:List Kf) (r:Bool),x.depth<=m->Xi s.heap a x as->Xi s.heap b y bs->x.canLay0=true->y.canLay0=true->gtX x y=some r->GtAt A s a b r) :
  ∀ (xs ys:List Ka) (vs ws:List Ke) (as bs:List Kf) (r:Bool),Kw xs<=m->Uk s.heap vs xs as->Uk s.heap ws ys bs->Km xs=true->Km ys=true->gtXs xs ys=some r->qbx A s vs ws r:=by
 intro xs
 induction xs with
 | nil =>
  intro ys vs ws as bs r _ h1 h2 _ _ e
  cases h1
  cases ys with
  | nil=>cases h2;rw [gtXs] at e;cases e;rfl
  | cons y ys=>cases h2;rw [gtXs] at e;cases e;rfl
 | cons x xs ih =>
  intro ys vs ws as bs r hm h1 h2 c1 c2 e
  cases h1 with
  | cons rx rxs =>
   cases ys with
   | nil=>cases h2;rw [gtXs] at e;cases e;rfl
   | cons y ys =>
    cases h2 with
    | cons ry rys =>
     have c1':x.canLay0=true/\Km xs=true:=by simpa [Km] using c1
     have c2':y.canLay0=true/\Km ys=true:=by simpa [Km] using c2
     have hd:max x.depth (Kw xs)<=m:=by rw [Kw] at hm;exact hm
     have m1:=Vo (NT x.depth (Kw xs)) hd
     have m2:=Vo (NF x.depth (Kw xs)) hd
     rw [gtXs] at e
     refine ⟨Kq x y,NC x y A s _ _ _ _ rx ry c1'.1 c2'.1 (by have:=NP x.depth y.depth;omega),fun q=>?_,fun q=>?_⟩
     ·rw [if_pos q] at e
      exact ih ys _ _ _ _ r m2 rxs rys c1'.2 c2'.2 e
     ·rw [if_neg (by rw [q];exact US)] at e
      exact hit x y _ _ _ _ r m1 rx ry c1'.1 c2'.1 e
theorem qcH:∀ (n:Nat) (da db:Ka) (A:KF) (s:Kg) (a b:Ke) (as bs:List Kf) (r:Bool),da.depth<=n->Xi s.heap a da as->Xi s.heap b db bs->da.canLay0=true->db.canLay0=true->A.units+n+1<cLine->gtX da db=some r->GtAt A s a b r:=by
 intro n
 induction n with
 | zero =>
  intro da db A s a b as bs r hd ra rb ca cb hu e
  cases da with
  | int i =>
   cases db with
   | int j =>
    cases ra;cases rb
    rw [gtX] at e
    cases e
    exact fun prog w E Q q=>qcq A s i _ j _ prog w E Q q
   | _=>simp [gtX] at e
  | tuple xs =>
   rw [UZ] at hd
   omega
  | _=>simp [gtX] at e
 | succ n ih =>
  intro da db A s a b as bs r hd ra rb ca cb hu e
  cases da with
  | int i =>
   cases db with
   | int j =>
    cases ra;cases rb
    rw [gtX] at e
    cases e
    exact fun prog w E Q q=>qcq A s i _ j _ prog w E Q q
   | _=>simp [gtX] at e
  | tuple xs =>
   cases db with
   | tuple ys =>
    rw [UZ] at hd
    rw [gtX] at e
    cases ra with
    | tuple e1 c1 d1 t1 =>
     cases rb with
     | tuple e2 c2 d2 t2 =>
      refine qfR ⟨_,e1,c1,_,d1⟩ ⟨_,e2,c2,_,d2⟩ (by omega) ?_
      exact qb5 (m:=n) (by show A.units+1+n+1<cLine;omega) (fun x y a b as bs r hx r1 r2 k1 k2 e=>ih x y A.in1 s a b as bs r hx r1 r2 k1 k2 (by show A.units+1+n+1<cLine;omega) e)
       xs ys _ _ _ _ r (by omega) t1 t2 (by simpa [KL] using ca) (by simpa [KL] using cb) e
   | _=>simp [gtX] at e
  | _=>simp [gtX] at e
noncomputable def bestOf (bt:Nat->Nat->Bool):Nat->Nat
 | 0=>0
 | k+1=>if bt (k+1) (bestOf bt k) then k+1 else bestOf bt k
theorem yR (bt:Nat->Nat->Bool):∀ k,bestOf bt k<=k
 | 0=>Kr _
 | k+1=>by
  have:=yR bt k
  rw [bestOf]
  split<;>omega
def WX (prog:Ku)(w:KI)(A:KF)(h0:KC)(P:Nat->Ke->Prop)(bt:Nat->Nat->Bool):Prop :=
 ∀ (i j:Nat) (x y:Ke) (s:Kg) (Q E:Ke->Kg->Prop),j<i->(∀ b o,h0.get? b=some o->s.heap.get? b=some o)->P i x->P j y->Q (.bool (bt i j)) s->wpAny (model prog w) A (richCompare .Lt x y) Q E s
section
variable {prog:Ku}{w:KI}{A:KF}{R:Result->Kg->Prop}{it:Kf}{fp wr:List Kf}{n:Nat}{P:Nat->Ke->Prop}{St:Nat->KC->Prop}{h0:KC}
theorem qf7 (W:Walks prog w A.in1 it fp wr n P St)(bt:Nat->Nat->Bool)(hc:WX prog w A.in1 h0 P bt)(Z:Kf)(hZ:Z∉fp)(hw:∀ b o,h0.get? b=some o->b∉wr/\b≠Z)(kw:List (Str×Value)) :
  ∀ (m j:Nat) (s:Kg) (x:Ke) (c:Nat),n-(j+1)=m->j+1<=n->St (j+1) s.heap->P (bestOf bt j) x->(∀ b o,h0.get? b=some o->s.heap.get? b=some o)->
  s.heap.get? Z=some { cls:=.type "list", dict:=none,data:=.seq #[x,x] c,slots:=#[] }->
  (∀ v g tk,P (bestOf bt (n-1)) v->(∀ b o,b∉wr->b≠Z->s.heap.get? b=some o->g.get? b=some o)->R (.ok (.ret v)) { s with heap:=g,toks:=tk })->
  codeAny (model prog w) A (.builtin "min.loop" ⟨[.ref it,.none,.ref Z],kw⟩) R s:=by
 have zw:Z∉wr:=fun h=>hZ (W.sub _ h)
 have nm:(toString "min" ++ toString ".loop" : String) = "min.loop" := by decide
 intro m
 induction m with
 | zero =>
  intro j s x c hm hj st hP hb hz hR
  have last:j+1=n:=by omega
  refine UF EG ?_;rw [Uc Xb _]
  show wpAny _ A.in1 (seqItems? (.ref Z) >>= _) _ _ s
  refine Kc (V4 hz rfl ?_)
  show wpAny _ A.in1 (tryCatch (pyNext (.ref it)) _ >>= _) _ _ s
  refine Kc (Xc (W.done s _ _ (last ▸ st) fun g tk k=>?_))
  have hz':=k Z _ zw hz
  show wpAny _ A.in1 (updateSeq Z (fun _=>#[]) >>= _) _ _ _
  refine Kc (XH hz' rfl (Kc (UK (Kl ?_))))
  exact hR x _ tk (by rw [← last];exact hP) fun b o h1 h2 e=>(KU _ _ (fun z=>h2 z.symm)).trans (k b o h1 e)
 | succ m ih =>
  intro j s x c hm hj st hP hb hz hR
  have more:j+1<n:=by omega
  refine UF EG ?_;rw [Uc Xb _]
  show wpAny _ A.in1 (seqItems? (.ref Z) >>= _) _ _ s
  refine Kc (V4 hz rfl ?_)
  show wpAny _ A.in1 (tryCatch (pyNext (.ref it)) _ >>= _) _ _ s
  refine Kc (Xc (W.item (j+1) s _ _ more st fun y g tk hy st' k=>?_))
  have hz':=k Z _ zw hz
  have hb':∀ b o,h0.get? b=some o->g.get? b=some o:=fun b o e=>k b o (hw b o e).1 (hb b o e)
  show wpAny _ A.in1 (tryCatch (holding [y,y] (richCompare .Lt y x >>= _)) _ >>= _) _ _ _
  refine Kc (Xc (VG (Kc (hc (j+1) (bestOf bt j) y x _ _ _ (Nat.lt_succ_of_le (yR bt j)) hb' hy hP ?_))))
  refine Kc (VG (U1 (Kc (UK (Kl ?_)))))
  cases hh:bt (j+1) (bestOf bt j) with
  | true =>
   simp only [if_true]
   refine Kc (XH hz' rfl (Kc (UK ?_)))
   rw [nm]
   refine Kl ⟨UO Xb _,ih (j+1) _ y _ (by omega) more (W.frame _ _ _ st' fun b h1 o e=>(KU _ _ (fun h:Z=b=>hZ (by rw [h];exact h1))).trans e) (by simp only [bestOf,hh,if_true];exact hy)
    (fun b o e=>(KU _ _ (fun h:Z=b=>(hw b o e).2 h.symm)).trans (hb' b o e)) (Ur _ hz' rfl) fun v g2 tk2 h1 h2=>?_⟩
   exact hR v g2 tk2 h1 fun b o n1 n2 e=>h2 b o n1 n2 ((KU _ _ (fun z=>n2 z.symm)).trans (k b o n1 e))
  | false =>
   simp only [VA,if_false];refine Kc (UK ?_)
   rw [nm]
   refine Kl ⟨UO Xb _,ih (j+1) _ x c (by omega) more st' (by simp only [bestOf,hh,VA,if_false];exact hP) hb' hz' fun v g2 tk2 h1 h2=>?_⟩
   exact hR v g2 tk2 h1 fun b o n1 n2 e=>h2 b o n1 n2 (k b o n1 e)
theorem qeR (W:Walks prog w A.in1 it fp wr n P St)(bt:Nat->Nat->Bool)(hc:WX prog w A.in1 h0 P bt)(Z:Kf)(hZ:Z∉fp)(hw:∀ b o,h0.get? b=some o->b∉wr/\b≠Z)(kw:List (Str×Value))(hn:0<n){s:Kg}{c:Nat}(st:St 0 s.heap)(hb:∀ b o,h0.get? b=some o->s.heap.get? b=some o)
  (hz:s.heap.get? Z=some { cls:=.type "list", dict:=none,data:=.seq #[] c,slots:=#[] })
  (hR:∀ v g tk,P (bestOf bt (n-1)) v->(∀ b o,b∉wr->b≠Z->s.heap.get? b=some o->g.get? b=some o)->R (.ok (.ret v)) { s with heap:=g,toks:=tk }) :
  codeAny (model prog w) A (.builtin "min.loop" ⟨[.ref it,.none,.ref Z],kw⟩) R s:=by
 have zw:Z∉wr:=fun h=>hZ (W.sub _ h)
 have nm:(toString "min" ++ toString ".loop" : String) = "min.loop" := by decide
 refine UF EG ?_;rw [Uc Xb _]
 show wpAny _ A.in1 (seqItems? (.ref Z) >>= _) _ _ s
 refine Kc (V4 hz rfl ?_)
 show wpAny _ A.in1 (tryCatch (pyNext (.ref it)) _ >>= _) _ _ s
 refine Kc (Xc (W.item 0 s _ _ hn st fun y g tk hy st' k=>?_))
 have hz':=k Z _ zw hz
 show wpAny _ A.in1 (updateSeq Z (fun _=>#[y,y]) >>= _) _ _ _
 refine Kc (XH hz' rfl ?_)
 rw [nm]
 refine Kl ⟨UO Xb _,qf7 W bt hc Z hZ hw kw _ 0 _ y _ rfl hn (W.frame _ _ _ st' fun b h1 o e=>(KU _ _ (fun h:Z=b=>hZ (by rw [h];exact h1))).trans e) hy
  (fun b o e=>(KU _ _ (fun h:Z=b=>(hw b o e).2 h.symm)).trans (k b o (hw b o e).1 (hb b o e))) (Ur _ hz' rfl) fun v g2 tk2 h1 h2=>?_⟩
 exact hR v g2 tk2 h1 fun b o n1 n2 e=>h2 b o n1 n2 ((KU _ _ (fun z=>n2 z.symm)).trans (k b o n1 e))
end
section
variable {s:Kg}{prog:Ku}{w:KI}{A:KF}{E:Ke->Kg->Prop}
theorem qiX {Q:Ke->Kg->Prop}(hh:A.handled=none)(hc:∀ (s':Kg) (Q' E':Ke->Kg->Prop),(∀ b o,s.heap.get? b=some o->s'.heap.get? b=some o)->Q' (.bool b) s'->wpAny (model prog w) A.in1 (richCompare .Lt y x) Q' E' s')
  (h:∀ g tk,(∀ b o,s.heap.get? b=some o->g.get? b=some o)->Q (if b=true then y else x) { s with heap:=g,toks:=tk }):wpAny (model prog w) A (call (.builtin "min") [x,y]) Q E s:=by
 have nm:(toString "min" ++ toString ".loop" : String) = "min.loop" := by decide
 have hT:(s.heap.push { cls:=.type "tuple", data:=.seq #[x,y] }).IsTuple s.heap.objs.size #[x,y]:=⟨_,Kz _ rfl,rfl,0,rfl⟩
 have z1:(s.heap.push { cls:=.type "tuple", data:=.seq #[x,y] }).objs.size=s.heap.objs.size+1:=Vb ..
 refine call_function_tree (id := "min") F.kind_min F.plain_min F.entry_min (F.args_min2 x y) ?_
 have par:Xm "min" ["key", "default"] 0 ⟨[],[]⟩=pure [none,none]:=rfl
 refine (Kc (wpAny_of_eq par ?_):wpAny _ A.in1 (Xm "min" _ 0 _ >>= _) _ _ s)
 refine Kc (Ub ?_);refine Kc (Eb hT (Kc (Ub ?_)))
 rw [nm]
 have lt:∀ {b:Kf} {o:Obj},s.heap.get? b=some o->b<s.heap.objs.size:=fun e=>Ks e
 refine Kl ⟨UO Xb _,qeR (h0:=s.heap) (Walks.tuple (A:=A.in1) hh _ s.heap.objs.size (by rw [z1];exact KN (U8 _)) #[x,y]) (fun _ _=>b) (fun i j u v s' Q' E' hij k hu hv q=>?_) _ ?_ (fun b o e=>?_) [] (by simp)
  ⟨⟨_,Kh _ (Kz _ rfl),rfl,rfl⟩,(hT.push _).push _⟩ (fun b o e=>Kh _ (Kh _ (Kh _ e))) (Kz _ rfl) fun v g tk hv k=>?_⟩
 ·dsimp only at hu hv
  have hi:i<2:=by
   rcases Nat.lt_or_ge i 2 with z|z
   ·exact z
   ·rw [UJ (by simpa using z)] at hu;cases hu
  obtain rfl:i=1:=by omega
  obtain rfl:j=0:=by omega
  cases hu
  cases hv
  exact hc s' Q' E' k q
 ·dsimp only
  simp only [Vb]
  intro hm;simp only [Ko,Vt,or_false] at hm
  rcases hm with hm|hm
  ·exact X0 _ hm
  ·exact absurd hm (VZ (K4 (U8 _)))
 ·have:=lt e
  simp only [Vb]
  exact ⟨fun hm=>absurd (Vm.mp hm) (KN (K4 this)),KN (K4 (K4 this))⟩
 ·have hv':v=if b=true then y else x:=by
   cases b with
   | true=>cases hv;rfl
   | false=>cases hv;rfl
  rw [hv']
  refine h g tk fun b o e=>k b o ?_ ?_ (Kh _ (Kh _ (Kh _ e)))
  ·have:=lt e
   simp only [Vb]
   exact fun hm=>absurd (Vm.mp hm) (KN (K4 this))
  ·have:=lt e
   simp only [Vb]
   exact KN (K4 (K4 this))
end
def WW (prog:Ku)(w:KI)(A:KF)(h0:KC)(P:Nat->Ke->Prop)(bt:Nat->Nat->Bool):Prop :=
 ∀ (i j:Nat) (x y:Ke) (s:Kg) (Q E:Ke->Kg->Prop),j<i->(∀ b o,h0.get? b=some o->s.heap.get? b=some o)->P i x->P j y->Q (.bool (bt i j)) s->wpAny (model prog w) A (richCompare .Gt x y) Q E s
section
variable {prog:Ku}{w:KI}{A:KF}{R:Result->Kg->Prop}{it:Kf}{fp wr:List Kf}{n:Nat}{P:Nat->Ke->Prop}{St:Nat->KC->Prop}{h0:KC}
theorem qf6 (W:Walks prog w A.in1 it fp wr n P St)(bt:Nat->Nat->Bool)(hc:WW prog w A.in1 h0 P bt)(Z:Kf)(hZ:Z∉fp)(hw:∀ b o,h0.get? b=some o->b∉wr/\b≠Z)(kw:List (Str×Value)) :
  ∀ (m j:Nat) (s:Kg) (x:Ke) (c:Nat),n-(j+1)=m->j+1<=n->St (j+1) s.heap->P (bestOf bt j) x->(∀ b o,h0.get? b=some o->s.heap.get? b=some o)->
  s.heap.get? Z=some { cls:=.type "list", dict:=none,data:=.seq #[x,x] c,slots:=#[] }->
  (∀ v g tk,P (bestOf bt (n-1)) v->(∀ b o,b∉wr->b≠Z->s.heap.get? b=some o->g.get? b=some o)->R (.ok (.ret v)) { s with heap:=g,toks:=tk })->
  codeAny (model prog w) A (.builtin "max.loop" ⟨[.ref it,.none,.ref Z],kw⟩) R s:=by
 have zw:Z∉wr:=fun h=>hZ (W.sub _ h)
 have nm:(toString "max" ++ toString ".loop" : String) = "max.loop" := by decide
 intro m
 induction m with
 | zero =>
  intro j s x c hm hj st hP hb hz hR
  have last:j+1=n:=by omega
  refine UF EH ?_;rw [Uc Xd _]
  show wpAny _ A.in1 (seqItems? (.ref Z) >>= _) _ _ s
  refine Kc (V4 hz rfl ?_)
  show wpAny _ A.in1 (tryCatch (pyNext (.ref it)) _ >>= _) _ _ s
  refine Kc (Xc (W.done s _ _ (last ▸ st) fun g tk k=>?_))
  have hz':=k Z _ zw hz
  show wpAny _ A.in1 (updateSeq Z (fun _=>#[]) >>= _) _ _ _
  refine Kc (XH hz' rfl (Kc (UK (Kl ?_))))
  exact hR x _ tk (by rw [← last];exact hP) fun b o h1 h2 e=>(KU _ _ (fun z=>h2 z.symm)).trans (k b o h1 e)
 | succ m ih =>
  intro j s x c hm hj st hP hb hz hR
  have more:j+1<n:=by omega
  refine UF EH ?_;rw [Uc Xd _]
  show wpAny _ A.in1 (seqItems? (.ref Z) >>= _) _ _ s
  refine Kc (V4 hz rfl ?_)
  show wpAny _ A.in1 (tryCatch (pyNext (.ref it)) _ >>= _) _ _ s
  refine Kc (Xc (W.item (j+1) s _ _ more st fun y g tk hy st' k=>?_))
  have hz':=k Z _ zw hz
  have hb':∀ b o,h0.get? b=some o->g.get? b=some o:=fun b o e=>k b o (hw b o e).1 (hb b o e)
  show wpAny _ A.in1 (tryCatch (holding [y,y] (richCompare .Gt y x >>= _)) _ >>= _) _ _ _
  refine Kc (Xc (VG (Kc (hc (j+1) (bestOf bt j) y x _ _ _ (Nat.lt_succ_of_le (yR bt j)) hb' hy hP ?_))))
  refine Kc (VG (U1 (Kc (UK (Kl ?_)))))
  cases hh:bt (j+1) (bestOf bt j) with
  | true =>
   simp only [if_true]
   refine Kc (XH hz' rfl (Kc (UK ?_)))
   rw [nm]
   refine Kl ⟨UO Xd _,ih (j+1) _ y _ (by omega) more (W.frame _ _ _ st' fun b h1 o e=>(KU _ _ (fun h:Z=b=>hZ (by rw [h];exact h1))).trans e) (by simp only [bestOf,hh,if_true];exact hy)
    (fun b o e=>(KU _ _ (fun h:Z=b=>(hw b o e).2 h.symm)).trans (hb' b o e)) (Ur _ hz' rfl) fun v g2 tk2 h1 h2=>?_⟩
   exact hR v g2 tk2 h1 fun b o n1 n2 e=>h2 b o n1 n2 ((KU _ _ (fun z=>n2 z.symm)).trans (k b o n1 e))
  | false =>
   simp only [VA,if_false];refine Kc (UK ?_)
   rw [nm]
   refine Kl ⟨UO Xd _,ih (j+1) _ x c (by omega) more st' (by simp only [bestOf,hh,VA,if_false];exact hP) hb' hz' fun v g2 tk2 h1 h2=>?_⟩
   exact hR v g2 tk2 h1 fun b o n1 n2 e=>h2 b o n1 n2 (k b o n1 e)
theorem qeQ (W:Walks prog w A.in1 it fp wr n P St)(bt:Nat->Nat->Bool)(hc:WW prog w A.in1 h0 P bt)(Z:Kf)(hZ:Z∉fp)(hw:∀ b o,h0.get? b=some o->b∉wr/\b≠Z)(kw:List (Str×Value))(hn:0<n){s:Kg}{c:Nat}(st:St 0 s.heap)(hb:∀ b o,h0.get? b=some o->s.heap.get? b=some o)
  (hz:s.heap.get? Z=some { cls:=.type "list", dict:=none,data:=.seq #[] c,slots:=#[] })
  (hR:∀ v g tk,P (bestOf bt (n-1)) v->(∀ b o,b∉wr->b≠Z->s.heap.get? b=some o->g.get? b=some o)->R (.ok (.ret v)) { s with heap:=g,toks:=tk }) :
  codeAny (model prog w) A (.builtin "max.loop" ⟨[.ref it,.none,.ref Z],kw⟩) R s:=by
 have zw:Z∉wr:=fun h=>hZ (W.sub _ h)
 have nm:(toString "max" ++ toString ".loop" : String) = "max.loop" := by decide
 refine UF EH ?_;rw [Uc Xd _]
 show wpAny _ A.in1 (seqItems? (.ref Z) >>= _) _ _ s
 refine Kc (V4 hz rfl ?_)
 show wpAny _ A.in1 (tryCatch (pyNext (.ref it)) _ >>= _) _ _ s
 refine Kc (Xc (W.item 0 s _ _ hn st fun y g tk hy st' k=>?_))
 have hz':=k Z _ zw hz
 show wpAny _ A.in1 (updateSeq Z (fun _=>#[y,y]) >>= _) _ _ _
 refine Kc (XH hz' rfl ?_)
 rw [nm]
 refine Kl ⟨UO Xd _,qf6 W bt hc Z hZ hw kw _ 0 _ y _ rfl hn (W.frame _ _ _ st' fun b h1 o e=>(KU _ _ (fun h:Z=b=>hZ (by rw [h];exact h1))).trans e) hy
  (fun b o e=>(KU _ _ (fun h:Z=b=>(hw b o e).2 h.symm)).trans (k b o (hw b o e).1 (hb b o e))) (Ur _ hz' rfl) fun v g2 tk2 h1 h2=>?_⟩
 exact hR v g2 tk2 h1 fun b o n1 n2 e=>h2 b o n1 n2 ((KU _ _ (fun z=>n2 z.symm)).trans (k b o n1 e))
end
section
variable {s:Kg}{prog:Ku}{w:KI}{A:KF}{E:Ke->Kg->Prop}
theorem qiW {Q:Ke->Kg->Prop}(hh:A.handled=none)(hc:∀ (s':Kg) (Q' E':Ke->Kg->Prop),(∀ b o,s.heap.get? b=some o->s'.heap.get? b=some o)->Q' (.bool b) s'->wpAny (model prog w) A.in1 (richCompare .Gt y x) Q' E' s')
  (h:∀ g tk,(∀ b o,s.heap.get? b=some o->g.get? b=some o)->Q (if b=true then y else x) { s with heap:=g,toks:=tk }):wpAny (model prog w) A (call (.builtin "max") [x,y]) Q E s:=by
 have nm:(toString "max" ++ toString ".loop" : String) = "max.loop" := by decide
 have hT:(s.heap.push { cls:=.type "tuple", data:=.seq #[x,y] }).IsTuple s.heap.objs.size #[x,y]:=⟨_,Kz _ rfl,rfl,0,rfl⟩
 have z1:(s.heap.push { cls:=.type "tuple", data:=.seq #[x,y] }).objs.size=s.heap.objs.size+1:=Vb ..
 refine call_function_tree (id := "max") F.kind_max F.plain_max F.entry_max (F.args_max2 x y) ?_
 have par:Xm "max" ["key", "default"] 0 ⟨[],[]⟩=pure [none,none]:=rfl
 refine (Kc (wpAny_of_eq par ?_):wpAny _ A.in1 (Xm "max" _ 0 _ >>= _) _ _ s)
 refine Kc (Ub ?_);refine Kc (Eb hT (Kc (Ub ?_)))
 rw [nm]
 have lt:∀ {b:Kf} {o:Obj},s.heap.get? b=some o->b<s.heap.objs.size:=fun e=>Ks e
 refine Kl ⟨UO Xd _,qeQ (h0:=s.heap) (Walks.tuple (A:=A.in1) hh _ s.heap.objs.size (by rw [z1];exact KN (U8 _)) #[x,y]) (fun _ _=>b) (fun i j u v s' Q' E' hij k hu hv q=>?_) _ ?_ (fun b o e=>?_) [] (by simp)
  ⟨⟨_,Kh _ (Kz _ rfl),rfl,rfl⟩,(hT.push _).push _⟩ (fun b o e=>Kh _ (Kh _ (Kh _ e))) (Kz _ rfl) fun v g tk hv k=>?_⟩
 ·dsimp only at hu hv
  have hi:i<2:=by
   rcases Nat.lt_or_ge i 2 with z|z
   ·exact z
   ·rw [UJ (by simpa using z)] at hu;cases hu
  obtain rfl:i=1:=by omega
  obtain rfl:j=0:=by omega
  cases hu
  cases hv
  exact hc s' Q' E' k q
 ·dsimp only
  simp only [Vb]
  intro hm;simp only [Ko,Vt,or_false] at hm
  rcases hm with hm|hm
  ·exact X0 _ hm
  ·exact absurd hm (VZ (K4 (U8 _)))
 ·have:=lt e
  simp only [Vb]
  exact ⟨fun hm=>absurd (Vm.mp hm) (KN (K4 this)),KN (K4 (K4 this))⟩
 ·have hv':v=if b=true then y else x:=by
   cases b with
   | true=>cases hv;rfl
   | false=>cases hv;rfl
  rw [hv']
  refine h g tk fun b o e=>k b o ?_ ?_ (Kh _ (Kh _ (Kh _ e)))
  ·have:=lt e
   simp only [Vb]
   exact fun hm=>absurd (Vm.mp hm) (KN (K4 this))
  ·have:=lt e
   simp only [Vb]
   exact KN (K4 (K4 this))
end
section
variable {X:Cx}
noncomputable def jz:List Ka->Option Ka
 | [x,y]=>if K5 x=true/\K5 y=true/\y.depth<=50 then ob (ltX y x) fun r=>some (if r=true then y else x) else none
 | _=>none
noncomputable def jy:List Ka->Option Ka
 | [x,y]=>if K5 x=true/\K5 y=true/\y.depth<=50 then ob (gtX y x) fun r=>some (if r=true then y else x) else none
 | _=>none
theorem qhh (hr:Room k X.A):CallD X (.builtin "min") jz:=fun pins s σ H xs us Q I r ⟨S,ds,d,m,h1,e,q⟩=>by
 unfold jz at e
 split at e
 ·split at e
  ·rename_i hc
   obtain ⟨b,e1,e⟩:=qd e
   cases e
   obtain ⟨v1,v2,rfl,d1,d2⟩:=h1.inv2
   obtain ⟨u1,u2,rfl,r1,r2⟩:=vals2 r
   obtain ⟨as,q1⟩:=d1.reads I (KY hc.1) r1
   obtain ⟨bs,q2⟩:=d2.reads I (KY hc.2.1) r2
   have hu:=hr.units
   refine qiX (b:=b) hr.hd (fun s' Q' E' k q'=>JC 50 _ _ X.A.in1 s' u2 u1 bs as b hc.2.2 (Reads.keeps k q2) (Reads.keeps k q1) (KY hc.2.1) (KY hc.1) (by show X.A.units+1+50+1<cLine;omega) e1 X.prog X.w E' Q' q') fun g tk k=>?_
   cases b with
   | true=>exact ⟨v2,H,I.kept k,r2,q _ H (Same.refl H) d2⟩
   | false=>exact ⟨v1,H,I.kept k,r1,q _ H (Same.refl H) d1⟩
  ·cases e
 ·cases e
theorem qhg (hr:Room k X.A):CallD X (.builtin "max") jy:=fun pins s σ H xs us Q I r ⟨S,ds,d,m,h1,e,q⟩=>by
 unfold jy at e
 split at e
 ·split at e
  ·rename_i hc
   obtain ⟨b,e1,e⟩:=qd e
   cases e
   obtain ⟨v1,v2,rfl,d1,d2⟩:=h1.inv2
   obtain ⟨u1,u2,rfl,r1,r2⟩:=vals2 r
   obtain ⟨as,q1⟩:=d1.reads I (KY hc.1) r1
   obtain ⟨bs,q2⟩:=d2.reads I (KY hc.2.1) r2
   have hu:=hr.units
   refine qiW (b:=b) hr.hd (fun s' Q' E' k q'=>qcH 50 _ _ X.A.in1 s' u2 u1 bs as b hc.2.2 (Reads.keeps k q2) (Reads.keeps k q1) (KY hc.2.1) (KY hc.1) (by show X.A.units+1+50+1<cLine;omega) e1 X.prog X.w E' Q' q') fun g tk k=>?_
   cases b with
   | true=>exact ⟨v2,H,I.kept k,r2,q _ H (Same.refl H) d2⟩
   | false=>exact ⟨v1,H,I.kept k,r1,q _ H (Same.refl H) d1⟩
  ·cases e
 ·cases e
theorem wZ (x y:Ka):jz [x,y]=if K5 x=true/\K5 y=true/\y.depth<=50 then ob (ltX y x) fun r=>some (if r=true then y else x) else none:=rfl
theorem wY (x y:Ka):jy [x,y]=if K5 x=true/\K5 y=true/\y.depth<=50 then ob (gtX y x) fun r=>some (if r=true then y else x) else none:=rfl
theorem qgc (i j:Int):jz [.int i,.int j]=some (.int (if j<i then j else i)):=by
 have c:K5 (.int i)=true/\K5 (.int j)=true/\(KJ j).depth<=50:=⟨rfl,rfl,Vv _⟩
 rw [wZ,if_pos c,ltX]
 by_cases h:j<i
 ·rw [if_pos h,decide_eq_true h];rfl
 ·rw [if_neg h,decide_eq_false h];rfl
theorem qgb (i j:Int):jy [.int i,.int j]=some (.int (if j > i then j else i)):=by
 have c:K5 (.int i)=true/\K5 (.int j)=true/\(KJ j).depth<=50:=⟨rfl,rfl,Vv _⟩
 rw [wY,if_pos c,gtX]
 by_cases h:j > i
 ·rw [if_pos h,decide_eq_true h];rfl
 ·rw [if_neg h,decide_eq_false h];rfl
end
noncomputable def rIns:V->List V->Hp->VK->Prop:=fun x vs H Q=>∃ l xs k y,x=.ref l/\vs=[.int (Int.ofNat k),y]/\H l=some (.lst xs)/\k<=xs.length/\k<=1000/\xs.length<sizeLine/\Q .non (upd H l (.lst (xs.take k++y::xs.drop k)))
theorem qg6 (r:Vals [y,z] us):∃ u w,us=[u,w]/\RelV y u/\RelV z w:=by
 cases r with
 | cons a t =>
  cases t with
  | cons b t'=>cases t';exact ⟨_,_,rfl,a,b⟩
theorem Vals.takes:∀ {vs:List V} {us:List Ke} (k:Nat),Vals vs us->Vals (vs.take k) (us.take k)
 | _,_,0,_=>by rw [N5,N5];exact .nil
 | _,_,_+1,.nil=>.nil
 | _,_,k+1,.cons r t=>.cons r (Vals.takes k t)
theorem Vals.drops:∀ {vs:List V} {us:List Ke} (k:Nat),Vals vs us->Vals (vs.drop k) (us.drop k)
 | _,_,0,r=>r
 | _,_,_+1,.nil=>.nil
 | _,_,k+1,.cons _ t=>Vals.drops k t
theorem qeW:MtM X "list.insert" rIns:=by
 intro pins s σ H x vs v us Q I rx rv h
 obtain ⟨l,xs,k,y,rfl,rfl,hH,hk,hk',hz,q⟩:=h
 cases rx
 obtain ⟨u,w,rfl,ru,rw'⟩:=qg6 rv
 obtain ⟨t,rfl⟩:=ru
 obtain ⟨z,its,n,r,hl,e⟩:=I.lstM hH
 obtain ⟨x,hx⟩:∃ x:Int,x=Int.ofNat k:=⟨_,rfl⟩
 have hx0:0<=x:=by rw [hx];exact Nl k
 have hx1:x.toNat=k:=by rw [hx];rfl
 rw [← hx]
 have hf:¬(!Builtin.List.listFitsIndex x)=true:=by
  have:=fitsIndex_both (k:=x) (by omega) (by omega)
  simpa using this
 refine call_meets E1 ⟨_,e,rfl⟩ F.entry_list_insert (F.args_list_insert_3 _ _ _) (PySem.AutoSeq1.list_insert_list_int_val_1 l its.toArray n x t w hf (by rw [KB];omega)) ⟨e,?_⟩
 refine ⟨.non,_,I.lset (its':=its.take k++w::its.drop k) hH e ?_ ((r.takes k).append (.cons rw' (r.drops k))) ?_,rfl,q⟩
 ·have hm:(if x<0 then (x+(its.toArray.size:Int)).toNat else min x.toNat its.toArray.size)=k:=by
   rw [if_neg (by omega),KB,hx1]
   omega
  show (its.toArray.extract 0 (if x<0 then (x+(its.toArray.size:Int)).toNat else min x.toNat its.toArray.size)).push w++its.toArray.extract (if x<0 then (x+(its.toArray.size:Int)).toNat else min x.toNat its.toArray.size)=_
  rw [hm]
  refine Array.toList_inj.mp ?_
  simp;exact ES (by simp)
 ·rw [KG,KA,U9,UQ]
  omega
section
variable {X:Cx}{G:Gm}{M Mb L:List Nat}{fr:Fr}{a b:Ky}{f fk:Rho->Option Ka}{pos:Pos}{K:Kd}{H:Hp}{S:Av}
theorem DenL.takes:∀ {vs:List V} {ds:List Ka} (k:Nat),DenL K H S vs ds->DenL K H S (vs.take k) (ds.take k)
 | _,_,0,_=>by rw [N5,N5];exact .nil
 | _,_,_+1,.nil=>.nil
 | _,_,k+1,.cons r t=>.cons r (DenL.takes k t)
theorem DenL.drops:∀ {vs:List V} {ds:List Ka} (k:Nat),DenL K H S vs ds->DenL K H S (vs.drop k) (ds.drop k)
 | _,_,0,r=>r
 | _,_,_+1,.nil=>.nil
 | _,_,k+1,.cons _ t=>DenL.drops k t
noncomputable def insD:Ka->Ka->Ka->Option Ka
 | .list ds,.int (.ofNat k),d=>if k<=ds.length/\ds.length<1000 then some (.list (ds.take k++d::ds.drop k)) else none
 | _,_,_=>none
theorem qeA (e:insD l k d=some l'):∃ ds n,l=.list ds/\k=.int (.ofNat n)/\n<=ds.length/\ds.length<1000/\l'=.list (ds.take n++d::ds.drop n):=by
 unfold insD at e
 split at e
 ·split at e
  ·rename_i h
   cases e
   exact ⟨_,_,rfl,rfl,h.1,h.2,rfl⟩
  ·cases e
 ·cases e
noncomputable def sIns (i:Nat)(fk f:Rho->Option Ka):Rho->Option Out:=fun ρ=>ob (vr i ρ) fun l=>ob (fk ρ) fun k=>ob (f ρ) fun d=>ob (insD l k d) fun l'=>some (.nx (ρ.set i (some l')))
theorem qit (i:Nat){px apos cpos:Pos}(hv:Vis X.env.scope x)(hM:Flt M i)(hL:i∉L)(hk:PD X [] b fk)(he:PD X M a f)(hN:X.N[i]?=some x:=by rfl)(hd:(x==("__debug__" : Str))=false:=by decide +kernel)(hcd:(x==("__classdict__" : Str))=false:=by decide +kernel)
  (hbase:attributeBase (.Name x px) "insert" X.env (eval (.Name x px) X.env)=eval (.Name x px) X.env:=by rfl)
  (hfew:((backTo cpos (starEach [b,a] X.env)).all (fun x=>!x.1)&&(backToKw cpos (keywordEach [] X.env)).all (fun x=>x.1.isSome)
   && decide ([b,a].length+([]:List Xu).length+(if ([]:List Xu).isEmpty then 0 else 1)<30))=true:=by rfl)
  (hline:(apos.endLine==cpos.line)=true:=by rfl) (hs:starEach [b,a] X.env=(false,eval b X.env)::starEach [a] X.env:=by rfl) (hs2:starEach [a] X.env=(false,eval a X.env)::starEach [] X.env:=by rfl) (hplain:(backTo cpos (starEach [a] X.env)).any (·.1)=false:=by rfl)
  (hsw:swapsWith (.Call (.Attribute (.Name x px) "insert" apos) [b,a] [] cpos) none pos.line X.env=pure false:=by rfl) :
  PDS X G M L M Mb fr (.Expr (.Call (.Attribute (.Name x px) "insert" apos) [b,a] [] cpos) pos) (sIns i fk f) :=
 (yz (qay U5 E1 PySem.F.type_list_insert qeW (JH i hv hN hd hcd) (Qu hk (qG he zu hs2) hs) hbase hfew hline hs hplain) hsw).weak fun D σ H ⟨S,ρ,o,os,e,q⟩=>by
  obtain ⟨l,e1,e⟩:=qd e
  obtain ⟨k,e2,e⟩:=qd e
  obtain ⟨d,e3,e⟩:=qd e
  obtain ⟨l',e4,e⟩:=qd e
  cases e
  obtain ⟨ds,n,rfl,rfl,hn,hz,rfl⟩:=qeA e4
  obtain ⟨pp,a1,b1,c1,n1,w1,_⟩:=os.own i hM _ (Qo e1)
  cases b1 with
  | @lst xs _ h t =>
   refine ⟨_,a1,.inl ⟨rfl,_,SqL.of h⟩,G.S0,ρ,_,os.den,e2,fun kv H1 g1 dk=>?_⟩
   refine ⟨S,ρ,[d],(os.same g1).ds,by show ob (f ρ) _=_;rw [e3];rfl,fun vs H2 g2 dl=>?_⟩
   obtain ⟨v,rfl,dv⟩:=dl.inv1
   have g:=g1.trans g2
   have os2:=os.same g
   have ht:=t.length
   refine ⟨pp,xs,n,v,rfl,by rw [dk.int_inv],g _ _ h,by omega,by omega,KP (by rw [ht];exact hz) (VI (zj (Kr _))),?_⟩
   exact q _ _ _ (os2.write hM hL (Qo e1) a1 rfl (.lst qH ((((t.same g).takes n).append (.cons dv ((t.same g).drops n))).off os2.ds.1 (Off.upd c1))))
end
end L2
namespace L2
open PySem
theorem qgR (i:Nat)(f:Rho->Option Ka)(ρ:Rho):Wr i f ρ=takO (decide (i<ρ.length/\ρ.length<=1000)) (f ρ) i ρ:=by
 unfold Wr ob takO
 by_cases h:i<ρ.length/\ρ.length<=1000
 ·rw [if_pos h,decide_eq_true h]
  cases f ρ<;>rfl
 ·rw [if_neg h,decide_eq_false h]
noncomputable def bi2O (a b:Option Ka)(g:Ka->Ka->Option (List Ka)):Option (List Ka):=match a,b with | some x,some y=>g x y|_,_=>none
theorem qjE (fa fb:Rho->Option Ka)(g:Ka->Ka->Option (List Ka))(ρ:Rho):evI2 fa fb g ρ=bi2O (fa ρ) (fb ρ) g:=by
 unfold evI2 ob bi2O
 cases fa ρ<;>cases fb ρ<;>rfl
theorem qjw (x y:Ka)(g:Ka->Ka->Option (List Ka)):bi2O (some x) (some y) g=g x y:=rfl
noncomputable def kapO (c k d:Option Ka)(i:Nat)(ρ:Rho):Option Out:=match c,k,d with
 | some c,some k,some d=>ob (ym c k) fun j=>ob (qaj c j) fun l=>ob (appD l d) fun l'=>some (.nx (ρ.set i (some (qbb c j l'))))
 | _,_,_=>none
theorem qiK (i:Nat)(fk f:Rho->Option Ka)(ρ:Rho):qct i fk f ρ=kapO (vr i ρ) (fk ρ) (f ρ) i ρ:=by
 unfold qct kapO
 cases vr i ρ with
 | none=>rfl
 | some c =>
  cases fk ρ with
  | none=>rfl
  | some k =>
   cases f ρ with
   | some d=>rfl
   | none =>
    show ob (ym c k) _=none
    cases ym c k with
    | none=>rfl
    | some j =>
     show ob (qaj c j) _=none
     cases qaj c j<;>rfl
noncomputable def nxdO (o:Option Ka)(i:Nat)(ρ:Rho):Option Out:=match o with | some l=>some (.nx (ρ.set i (some l)))|none=>none
theorem qj9 (l:Ka)(i:Nat)(ρ:Rho):nxdO (some l) i ρ=some (.nx (ρ.set i (some l))):=rfl
noncomputable def dpO (d l k:Option Ka)(i:Nat)(ρ:Rho):Option Out:=match d,l,k with | some d,some l,some k=>nxdO (wH l k d) i ρ|_,_,_=>none
theorem dpO_s (d l k:Ka)(i:Nat)(ρ:Rho):dpO (some d) (some l) (some k) i ρ=nxdO (wH l k d) i ρ:=rfl
theorem qiJ (i:Nat)(fk f:Rho->Option Ka)(ρ:Rho):qeb i fk f ρ=dpO (f ρ) (vr i ρ) (fk ρ) i ρ:=by
 unfold qeb dpO ob
 cases f ρ with
 | none=>rfl
 | some d =>
  cases vr i ρ with
  | none=>rfl
  | some l =>
   cases fk ρ with
   | none=>rfl
   | some k =>
    dsimp only
    unfold nxdO
    cases wH l k d<;>rfl
theorem qhZ (a b:List Ka)(d:Ka)(i:Nat)(ρ:Rho):kapO (some (.tuple [.list a,.list b])) (some (.int 0)) (some d) i ρ=if a.length<1000 then some (.nx (ρ.set i (some (.tuple [.list (a++[d]),.list b])))) else none:=by
 show ob (appD (.list a) d) _=_
 rw [qcA]
 split<;>rfl
theorem qh0 (a b:List Ka)(d:Ka)(i:Nat)(ρ:Rho):kapO (some (.tuple [.list a,.list b])) (some (.int 1)) (some d) i ρ=if b.length<1000 then some (.nx (ρ.set i (some (.tuple [.list a,.list (b++[d])])))) else none:=by
 show ob (appD (.list b) d) _=_
 rw [qcA]
 split<;>rfl
end L2
namespace L2
open PySem PySem.Spec PyProof.Rows
theorem Kids.snoc {K:Kd}{H:Hp}{S:Av}{p:Kf}{xs:List V}{es:List Ka}(h:H p=some (.lst xs))(t:DenL K H S xs es):∀ {qs:List Kf} {ds:List Ka},p∉qs->Kids K H S qs ds->Kids K H S (qs++[p]) (ds++[.list es])
 | _,_,_,.nil=>.cons h t (fun z=>nomatch z) .nil
 | _,_,n,.cons h' t' n' r=>.cons h' t' (fun z=>(VN.mp z).elim n' fun z=>n (by rw [Vm.mp z];exact .head _)) (Kids.snoc h t (fun z=>n (.tail _ z)) r)
theorem qi9  : insL S (qs++[p])=insA (insL S qs) p:=by
 funext a
 unfold insL insA
 rw [VN,Vm,or_assoc]
section
variable {X:Cx}{G:Gm}{M M' Mb L:List Nat}{fr:Fr}{f:Rho->Option Ka}{p:Rho->Option Bool}{pos:Pos}
noncomputable def qdt (n k:Nat)(fi:Rho->Option (List Ka))(g:Ka->Rho->Option Rho)(p:Rho->Option Bool)(f:Rho->Option Ka):Rho->Option Ka:=fun ρ=>ob (Z1 n k fi g p f ρ) fun d=>match d with | .list ds=>if ds.all qdH=true then some (.list ds) else none|_=>none
theorem qiT {K:Kd}{n k:Nat}{fi:Rho->Option (List Ka)}{g:Ka->Rho->Option Rho}(hg:GIn n k g):∀ σ H Q,tVd K M (qdt n k fi g p f) σ H Q->qaD k (tDI K M fi) (tDGc K M g) (tDT K M p) (tF K M f) σ H Q:=by
 intro σ H Q ⟨S,ρ,d,hs,e,q⟩
 obtain ⟨d',e0,e⟩:=qd e
 obtain ⟨ds,ys,e1,hn,hz,e2,rfl⟩:=Jx e0
 have e:(if ys.all qdH=true then some (VQ ys) else none)=some d:=e
 split at e
 case isFalse=>cases e
 rename_i hall
 cases e
 refine ⟨S,ρ,ds,hs,e1,fun J H1 g1 hJ0=>?_⟩
 have hJ:=hJ0 H1 fun _ _ _ z=>z
 have z1000:1000<sizeLine:=zj (Kr _)
 refine ⟨fun i m zs σ' H'=>m=ds.length-i/\i<=ds.length/\zs.length<=i/\Same H1 H'/\∃ qs pre rest,zs=qs.map V.ref/\(∀ r∈qs,H1 r=none)/\DenS K H' (insL S qs) M σ' (ρ++Vg k none)/\Kids K H' (insL S qs) qs pre/\Qf k g p f ρ (ds.drop i)=some rest/\pre++rest=ys,
  ⟨ds.length,by simp,Vv _,Kr _,Same.refl _,[],[],ys,rfl,(fun _ z=>nomatch z),?_,.nil,e2,rfl⟩,?_⟩
 ·have h0:=(hs.same g1).more k
  have sb:∀ a,insL S [] a->S a:=fun a z=>z.elim id fun y=>absurd y (by simp)
  exact ⟨h0.1.sub sb,h0.2.1,fun i d hi q=>let ⟨v,a,b⟩:=h0.2.2 i d hi q;⟨v,a,b.sub fun a _ z=>sb a z⟩⟩
 rintro i m zs σ' H' ⟨rfl,hi,hzi,g2,qs,pre,rest,rfl,new,hS,kids,er,rfl⟩
 by_cases hlt:i<ds.length
 ·refine .inr ⟨hJ.go i H' g2 hlt,fun x H2 y=>?_⟩
  obtain ⟨g2',yd⟩:=hJ.yld i H' x H2 g2 y
  have hd:=yd _ (Kn hlt) (insL S qs) fun y e q=>(q.sub fun a ha z=>z.elim id fun y=>absurd (new a y) ha).same (g2.trans g2')
  rw [VF hlt] at er
  obtain ⟨ρ1,r1,er⟩:=qd er
  obtain ⟨bb,b1,er⟩:=qd er
  obtain ⟨r',hr',rfl⟩:=hg _ ρ _ ρ1 hn (VB) r1
  have g2:=g2.trans g2'
  have kids:=kids.same g2'
  refine ⟨insL S qs,_,_,_,hS.same g2',hd,r1,fun σ3 H3 g3 hS3=>⟨insL S qs,_,bb,hS3,b1,fun H4 g4=>?_⟩⟩
  cases bb with
  | true =>
   rw [if_pos rfl] at er
   obtain ⟨y1,e3,er⟩:=qd er
   obtain ⟨ys1,e4,er⟩:=qd er
   cases er
   refine iteT ⟨insL S qs,_,y1,hS3.same g4,e3,fun r H5 g5 n5 o5=>⟨by rw [Kj] at hzi;rw [Kj];omega,ds.length-(i+1),by omega,rfl,hlt,?_,g2.trans (g3.trans (g4.trans g5)),qs++[r],pre++[y1],ys1,by simp,?_,?_,?_,e4,by simp⟩⟩
   ·rw [KG,V1];exact Nat.succ_le_succ hzi
   ·intro a ha
    rcases VN.mp ha with z|z
    ·exact new a z
    ·rw [Vm.mp z];exact (g2.trans (g3.trans g4)).free n5
   ·rw [qi9]
    exact ((hS3.same g4).insO g5 n5 o5).forget hr'
   ·rw [qi9]
    have k4:Kids K H5 (insA (insL S qs) r) qs pre:=((kids.same (g3.trans g4)).sub fun a ha z=>z.elim id fun y=>absurd (by rw [y];exact n5) ha).same g5
    have nr:r∉qs:=fun z=>by
     obtain ⟨o,ho,_⟩:=(kids.same (g3.trans g4)).mut r z
     rw [n5] at ho;cases ho
    cases o5 with
    | lst h t=>exact Kids.snoc h t nr k4
    | dct h kk t =>
     rw [List.all_append,List.all_cons] at hall
     simp [qdH] at hall
  | false =>
   rw [if_neg US] at er
   exact iteF ⟨ds.length-(i+1),by omega,rfl,hlt,by omega,g2.trans (g3.trans g4),qs,pre,rest,rfl,new,(hS3.same g4).forget hr',kids.same (g3.trans g4),er,rfl⟩
 ·have hi':i=ds.length:=by omega
  subst hi'
  rw [ND] at er
  cases er
  refine .inl ⟨hJ.stop H' g2,fun D hD=>?_⟩
  have nD:D∉qs:=fun z=>by
   obtain ⟨o,ho,_⟩:=kids.mut D z
   rw [hD] at ho;cases ho
  refine q D (D::qs) _ ((g1.trans g2).lay' hD) (fun r hr=>?_) ?_
  ·rcases Ko.mp hr with e|hr
   ·rw [e];exact (g1.trans g2).free hD
   ·exact g1.free (new r hr)
  ·rw [Vd]
   refine .lst qH nD ((kids.sub fun a ha z=>?_).same (Same.lay hD))
   rcases z with z|z
   ·exact .inl z
   ·rcases Ko.mp z with e|z
    ·rw [e] at ha;exact absurd hD ha
    ·exact .inr z
variable {elt iter tg:Ky}{ifs:List Ky}{x:Str}{N':List Str}{px:Pos}{sc:Ua}{n k:Nat}{fi:Rho->Option (List Ka)}{g:Ka->Rho->Option Rho}
theorem qe2 (j:Nat){py spos:Pos}(O:CompOk X N' k sc)(gi:GIn n k g)(sc₀:Ua)(hsc:X.env.scope=sc₀)(hB:swB sc₀ sc y py pos=true)(hM:Out0 M j)(hL:j∉L)(hi:PDI X M tg iter fi)(hg:∀ cl C fp pins s H,PDGc (qQ X N' sc cl C fp pins s H) M tg g)(hq:∀ cl C fp pins s H,PDTs (qQ X N' sc cl C fp pins s H) M ifs p)(he:∀ cl C fp pins s H,PF (qQ X N' sc cl C fp pins s H) M elt f)
  (hj:X.N[j]?=some y:=by rfl) (hbk:X.env.blockKind=.function:=by rfl)
  (hs:∀ v,foldedSetIterable iter X.env v=pure v:=by intro _;rfl):PDS X G M L (j::(j+1000)::M) Mb fr (.Assign [.Name y py] (.ListComp elt [⟨tg,iter,ifs,0⟩] sc pos) spos) (Wr j (qdt n k fi g p f)) :=
 (qd5 (wg:=tDGc X.K M g) (tt:=tDT X.K M p) (te:=tF X.K M f) O hj (Wv hsc hB) hi hg hq he (qjk hsc hB hbk) hs).weak fun D σ H ⟨S,ρ,o,hs,e,q⟩=>by
  unfold Wr at e
  split at e
  ·rename_i hz
   obtain ⟨d,e1,e⟩:=qd e
   cases e
   exact qiT gi σ H _ ⟨S,ρ,d,hs.ds,e1,fun p fp H1 g1 n o=>q _ H1 _ (hs.takeD n g1 o hM hL hz.1 hz.2)⟩
  ·cases e
end
noncomputable def scB (N P G:List Str)(sc:Ua):Bool :=
 decide (sc.kind=.function)&&(decide (sc.isCoroutine=false)&&(decide (sc.isGenerator=false)&&(decide N.Nodup&&(decide (N.take P.length=P)&&(P.all (locB sc)&&(sc.names.all (fun y=>decide (y.2≠.free))&&(N.all (fun x=>visB sc x&&locB sc x)&&(G.all (glB sc)&&N.all fun x=>!(x==("__debug__" : Str))&&!(x==("__classdict__" : Str))))))))))
structure ScOk (N P G:List Str)(sc:Ua):Prop where
 fs:FnScope N P sc
 nm:∀ x∈N,visB sc x=true/\locB sc x=true
 gb:∀ x∈G,glB sc x=true
 db:∀ x∈N,(x==("__debug__" : Str))=false/\(x==("__classdict__" : Str))=false
theorem scmk (h:scB N P G sc=true):ScOk N P G sc:=by
 unfold scB at h
 simp only [Kp,decide_eq_true_eq,KW,Nu] at h
 obtain ⟨h1,h2,h3,h4,h5,h6,h7,h8,h9,h10⟩:=h
 exact ⟨⟨h1,h2,h3,h4,h5,fun x hx=>qf4 (h6 x hx),h7⟩,h8,h9,h10⟩
section
variable {N P G:List Str}{sc:Ua}{x:Str}
theorem ScOk.vis (S:ScOk N P G sc)(i:Nat)(e:N[i]?=some x):Vis sc x:=Yq (S.nm x (Vs e)).1
theorem ScOk.loc (S:ScOk N P G sc)(i:Nat)(e:N[i]?=some x):Loc sc x:=qf4 (S.nm x (Vs e)).2
theorem ScOk.gl {X:Cx}(S:ScOk N P G sc)(i:Nat)(e:G[i]?=some x)(hs:X.env.scope=sc):Gl X x:=qi8 sc hs (S.gb x (Vs e))
end
section
variable {X:Cx}{G:Gm}{P Gn:List Str}{M L:List Nat}{x:Str}{pos:Pos}{a b c d:Ky}{fa fb fc fd:Rho->Option Ka}
theorem pd_v (A:ScOk X.N P Gn X.env.scope)(i:Nat)(e:X.N[i]?=some x:=by rfl)(hM:i∉M:=by decide):PD X M (.Name x pos) (vr i):=za i (A.vis i e) hM e (A.db x (Vs e)).1 (A.db x (Vs e)).2
theorem zF (A:ScOk X.N P Gn X.env.scope)(i:Nat)(e:X.N[i]?=some x:=by rfl)(hM:i∉M:=by decide)(hf:X.fn x=true\/X.env.scope.names.lookup x=some .local:=by first|exact .inl rfl|exact .inr rfl|assumption):PDG X G M L (.Name x pos) (gNm i):=qgp i A.fs.nd (A.loc i e) hM e hf
theorem pda1 (ha:PD X M a fa)(ea:starEach [a] X.env=(false,eval a X.env)::starEach [] X.env:=by rfl):PDA X M [a] (aC fa aN):=qG ha zu ea
theorem pda2 (ha:PD X M a fa)(hb:PD X M b fb)(ea:starEach [a,b] X.env=(false,eval a X.env)::starEach [b] X.env:=by rfl)(eb:starEach [b] X.env=(false,eval b X.env)::starEach [] X.env:=by rfl):PDA X M [a,b] (aC fa (aC fb aN)):=qG ha (pda1 hb eb) ea
theorem pda3 (ha:PD X M a fa)(hb:PD X M b fb)(hc:PD X M c fc)(ea:starEach [a,b,c] X.env=(false,eval a X.env)::starEach [b,c] X.env:=by rfl)(eb:starEach [b,c] X.env=(false,eval b X.env)::starEach [c] X.env:=by rfl)(ec:starEach [c] X.env=(false,eval c X.env)::starEach [] X.env:=by rfl):PDA X M [a,b,c] (aC fa (aC fb (aC fc aN))):=qG ha (pda2 hb hc eb ec) ea
end
def FnK (K:Kd)(n:Str)(st:KM):Prop:=∃ (f:Kf) (fd:K7),Kx K mainGlobals n=some (some (.ref f))/\Fun K n n st f fd
theorem FnK.of {K:Kd}{n:Str}{st:KM}{f:Kf}{oc:Ke}{od an:Option Kf}{osl:Array (Option Ke)}{kV doc pm cdv ct:Ke}(a:Kx K mainGlobals n=some (some (.ref f)))(l:K.lookup f=some ⟨oc,od,.func (Uv n n (Q5 st) (zp st) (qe st) .none kV doc pm an cdv ct),osl⟩)
  (c:Xa K cdv n=true) (k:Vf K (.ref f)=true):FnK K n st:=⟨f,_,a,qaY l c k⟩
theorem wG (f:Array Ke->Array Ke)(o:Obj):(X4 f o).dict=o.dict:=by
 obtain ⟨c,d,dt,sl⟩:=o
 cases dt<;>rfl
structure TrD (h B:KC)(e:Kf)(cls a0:Ke)(dd:Option Kf)(fl:Ke):Prop where
 ex:∃ o fs T p ts,h.get? e=some o/\o.data=.fields fs/\o.cls=cls/\o.dict=dd/\fs[0]?=some a0/\fs[1]?=some (.ref T)/\T≠e/\B.get? T=none/\h.get? T=some p/\p.data=.fields ts/\ts[3]?=some fl
section
variable {h g B:KC}{l:List Env}{e x:Kf}{o:Obj}{fs:Array Ke}{i:Nat}{v:Ke}
theorem Jp (hb:x≠e):(h.update e (X4 (·.setIfInBounds i v))).get? x=h.get? x:=KU _ _ (VT hb)
theorem qbl (he:h.get? e=some o)(hd:o.data=.fields fs):∃ o',(h.update e (X4 (·.setIfInBounds i v))).get? e=some o'/\o'.data=.fields (fs.setIfInBounds i v)/\o'.cls=o.cls/\o'.dict=o.dict :=
 ⟨_,Ur _ he (Obj.isFreed_of_fields (Obj.data_mapFields hd _)),Obj.data_mapFields hd _,Obj.cls_mapFields _ _,wG _ _⟩
theorem YX (he:h.get? e=some o)(hd:o.data=.fields fs):h.UpToSlots (h.update e (X4 (·.setIfInBounds i v))):=fun b ob hb nf=>by
 have nb:b≠e:=fun z=>by
  rw [z,he] at hb
  cases hb
  exact nf _ hd
 exact ⟨ob.slots,by rw [Jp nb];exact hb⟩
theorem Jo (hB:B.StaysIn h)(hn:B.get? e=none):B.StaysIn (h.update e (X4 (·.setIfInBounds i v))):=fun b ob hb=>by
 rw [Jp fun z=>by rw [z,hn] at hb;cases hb]
 exact hB b ob hb
theorem Jr (u:h.UpToSlots g)(F:h.FunFrames B l):g.FunFrames B l:=F.of_keeps fun b ob hb nf=>by
 obtain ⟨sl,z⟩:=u b ob hb nf
 exact ⟨_,z,rfl⟩
end
section
variable {M:Model}{A:KF}{E:Ke->Kg->Prop}{s:Kg}{B:KC}{env:Env}{outer:List Env}{L e:Kf}{cls a0 fl:Ke}{dd:Option Kf}{Q:Unit->Kg->Prop}
theorem qad {o:Obj}{fs:Array Ke}{hd:Ke}{nx:Bool}(fr:A.frames=some (env::outer))(F:s.heap.FunFrames B (env::outer))(hf:env.frame=some L)(he:s.heap.get? e=some o)(hB:B.StaysIn s.heap)(hn:B.get? e=none)(ho:o.data=.fields fs)(hz:1<fs.size)(h0:fs[0]?=some a0)
  (k:∀ h',B.StaysIn h'->h'.FunFrames B (env::outer)->TrD h' B e o.cls a0 o.dict (rawInt L)->s.heap.UpToSlots h'->Q () { s with heap:=h' }) :
  wpAny M A (do let a ← frameOf env;let pl ← entryPlaceOf L nx;let b ← EntryCells.newEntry hd a .none (rawInt L) .none pl;setField (.ref e) 1 b) Q E s:=by
 refine Kc (wpAny_frameOf_fun fr F hf fun g sl=>Kc (wpAny_entryPlaceOf fun pl hpl=>?_))
 have nf:e∉(env::outer).filterMap (·.frame):=fun z=>by
  obtain ⟨_,o',y,n⟩:=F.mem z
  rw [he] at y
  cases y
  exact n _ ho
 have e1:g.get? e=some o:=(sl.2.1 e nf).trans he
 have b1:B.StaysIn g:=fun b ob y=>(sl.2.1 b fun z=>by rw [(F.mem z).1] at y;cases y).trans (hB b ob y)
 have u1:s.heap.UpToSlots g:=fun b ob y _=>sl.2.2 b ob y
 unfold EntryCells.newEntry newFields
 refine Kc (Ub ?_ (hpl.sizeOk5 _ _ _ _ _))
 generalize hp:(Vc (V5 "traceback") none (VU ([hd,KR L,VC,rawInt L,VC]++(if pl.isEmpty=true then Vg 6 VC else pl)).toArray) #[])=p
 have t1:∃ ts,p.data=.fields ts/\ts[3]?=some (rawInt L):=⟨_,by rw [← hp],by rw [List.getElem?_toArray];rfl⟩
 obtain ⟨ts,pd,p3⟩:=t1
 have e2:(g.push p).get? e=some o:=Kh _ e1
 have eT:(g.push p).get? g.objs.size=some p:=Kz g (by rw [← hp];rfl)
 have nT:g.objs.size≠e:=VZ (Ks e1)
 have k2:∀ b ob,g.get? b=some ob->(g.push p).get? b=some ob:=fun b ob y=>Kh _ y
 refine N6 e2 ho hz ?_
 obtain ⟨o',a1,a2,a3,a4⟩:=qbl (i:=1) (v:=.ref g.objs.size) e2 ho
 have u2:s.heap.UpToSlots ((g.push p).update e (X4 (·.setIfInBounds 1 (.ref g.objs.size)))):=(u1.trans (.of_keeps k2)).trans (YX e2 ho)
 refine k _ (Jo (fun b ob y=>k2 b ob (b1 b ob y)) hn) (Jr u2 F) ⟨o',_,g.objs.size,p,ts,a1,a2,a3,a4,?_,?_,nT,b1.fresh,?_,pd,p3⟩ u2
 ·rw [Array.getElem?_setIfInBounds_ne (by decide)];exact h0
 ·rw [Xt,if_pos hz]
 ·rw [Jp nT];exact eT
theorem Wb {o:Obj}(fr:A.frames=some (env::outer))(F:s.heap.FunFrames B (env::outer))(hf:env.frame=some L)(he:s.heap.get? e=some o)(hB:B.StaysIn s.heap)(hn:B.get? e=none)(ho:o.data=.fields fs)(h1:fs[1]?=some .none)(h0:fs[0]?=some a0)
  (k:∀ h',B.StaysIn h'->h'.FunFrames B (env::outer)->TrD h' B e o.cls a0 o.dict (rawInt L)->s.heap.UpToSlots h'->Q () { s with heap:=h' }):wpAny M A (noteFrame (.ref e) env) Q E s:=by
 unfold noteFrame
 simp only [hf]
 refine Kc (Vi he ho h1 ?_)
 rw [if_neg (by decide)]
 exact qad fr F hf he hB hn ho (UP.mp h1).1 h0 k
theorem qdT (fr:A.frames=some (env::outer))(F:s.heap.FunFrames B (env::outer))(hf:env.frame=some L)(t:TrD s.heap B e cls a0 dd .none)(hB:B.StaysIn s.heap)(hn:B.get? e=none)
  (k:∀ h',B.StaysIn h'->h'.FunFrames B (env::outer)->TrD h' B e cls a0 dd (rawInt L)->s.heap.UpToSlots h'->Q () { s with heap:=h' }):wpAny M A (noteFrame (.ref e) env) Q E s:=by
 obtain ⟨o,fs,T,p,ts,he,ho,rfl,rfl,h0,h1,nT,bT,hT,hp,h3⟩:=t.ex
 unfold noteFrame
 simp only [hf]
 refine Kc (Vi he ho h1 ?_)
 rw [if_pos (show (KR T != VC)=true by simp)]
 refine Kc (Vi hT hp h3 ?_)
 rw [if_neg (show ¬ (VC==rawInt L)=true by simp [rawInt])]
 refine Kc (N6 hT hp (UP.mp h3).1 ?_)
 have u:=YX (i:=3) (v:=.none) hT hp
 exact qad fr (Jr u F) hf (by rw [Jp nT.symm];exact he) (Jo hB bT) hn ho (UP.mp h1).1 h0 fun h' x1 x2 x3 x4=>k h' x1 x2 x3 (u.trans x4)
theorem Zh (Fl:s.heap.FunFrames B l)(t:TrD s.heap B e cls a0 dd fl)(hB:B.StaysIn s.heap)
  (k:∀ h',B.StaysIn h'->h'.FunFrames B l->TrD h' B e cls a0 dd .none->s.heap.UpToSlots h'->Q () { s with heap:=h' }):wpAny M A (setFlight (.ref e) none) Q E s:=by
 obtain ⟨o,fs,T,p,ts,he,ho,rfl,rfl,h0,h1,nT,bT,hT,hp,h3⟩:=t.ex
 have z3:=(UP.mp h3).1
 unfold setFlight
 refine Kc (Vi he ho h1 ?_)
 rw [if_pos (show (KR T != VC)=true by simp)]
 refine N6 hT hp z3 ?_
 have u:=YX (i:=3) (v:=.none) hT hp
 obtain ⟨p',b1,b2,_,_⟩:=qbl (i:=3) (v:=.none) hT hp
 exact k _ (Jo hB bT) (Jr u Fl) ⟨o,fs,T,p',_,by rw [Jp nT.symm];exact he,ho,rfl,rfl,h0,h1,nT,bT,b1,b2,by rw [Xt,if_pos z3]⟩ u
end
def FlyD (B:KC)(l:List Env)(e:Kf)(cls a0:Ke)(dd:Option Kf)(h:KC):Prop:=B.StaysIn h/\B.get? e=none/\h.FunFrames B l/\TrD h B e cls a0 dd .none
def HldD (B:KC)(l:List Env)(e:Kf)(cls a0:Ke)(dd:Option Kf)(L:Kf)(h:KC):Prop:=B.StaysIn h/\B.get? e=none/\h.FunFrames B l/\TrD h B e cls a0 dd (rawInt L)
theorem FlyD.first {B h:KC}   (x:FlyD B l e cls a0 dd h):∃ o fs,h.get? e=some o/\o.cls=cls/\o.data=.fields fs/\o.dict=dd:=by
 obtain ⟨o,fs,_,_,_,he,ho,h1,h2,_⟩:=x.2.2.2.ex
 exact ⟨o,fs,he,h1,ho,h2⟩
section
variable {M:Model}{A:KF}{E:Ke->Kg->Prop}{s:Kg}{B:KC}{env:Env}{outer:List Env}{L e:Kf}{cls a0:Ke}{dd:Option Kf}{Q:Unit->Kg->Prop}
theorem qb4 {o:Obj}(fr:A.frames=some (env::outer))(F:s.heap.FunFrames B (env::outer))(hf:env.frame=some L)(he:s.heap.get? e=some o)(hB:B.StaysIn s.heap)(hn:B.get? e=none)(ho:o.data=.fields fs)(h1:fs[1]?=some .none)(h0:fs[0]?=some a0)
  (k:∀ h',FlyD B outer e o.cls a0 o.dict h'->s.heap.UpToSlots h'->Q () { s with heap:=h' }):wpAny M A (leaving env (.ref e)) Q E s:=by
 unfold leaving
 refine Kc (Wb fr F hf he hB hn ho h1 h0 fun h' x1 x2 x3 x4=>Zh x2 x3 x1 fun h2 y1 y2 y3 y4=>k h2 ⟨y1,hn,?_,y3⟩ (x4.trans y4))
 obtain ⟨_,_,z⟩:=y2
 exact z
theorem qf3 (fr:A.frames=some (env::outer))(hf:env.frame=some L)(x:FlyD B (env::outer) e cls a0 dd s.heap)(k:∀ h',FlyD B outer e cls a0 dd h'->s.heap.UpToSlots h'->Q () { s with heap:=h' }):wpAny M A (leaving env (.ref e)) Q E s:=by
 unfold leaving
 refine Kc (qdT fr x.2.2.1 hf x.2.2.2 x.1 x.2.1 fun h' x1 x2 x3 x4=>Zh x2 x3 x1 fun h2 y1 y2 y3 y4=>k h2 ⟨y1,x.2.1,?_,y3⟩ (x4.trans y4))
 obtain ⟨_,_,z⟩:=y2
 exact z
theorem qdQ (fr:A.frames=some (env::outer))(hf:env.frame=some L)(x:FlyD B (env::outer) e cls a0 dd s.heap)(k:∀ h',HldD B (env::outer) e cls a0 dd L h'->s.heap.UpToSlots h'->Q () { s with heap:=h' }):wpAny M A (noteFrame (.ref e) env) Q E s :=
 qdT fr x.2.2.1 hf x.2.2.2 x.1 x.2.1 fun h' x1 x2 x3 x4=>k h' ⟨x1,x.2.1,x2,x3⟩ x4
theorem land (x:HldD B l e cls a0 dd L s.heap)(k:∀ h',FlyD B l e cls a0 dd h'->s.heap.UpToSlots h'->Q () { s with heap:=h' }):wpAny M A (setFlight (.ref e) none) Q E s :=
 Zh x.2.2.1 x.2.2.2 x.1 fun h' x1 x2 x3 x4=>k h' ⟨x1,x.2.1,x2,x3⟩ x4
theorem qh1 (x:FlyD B l e cls a0 dd s.heap)(k:∀ h',FlyD B l e cls a0 dd h'->s.heap.UpToSlots h'->Q () { s with heap:=h' }):wpAny M A (setFlight (.ref e) none) Q E s :=
 Zh x.2.2.1 x.2.2.2 x.1 fun h' x1 x2 x3 x4=>k h' ⟨x1,x.2.1,x2,x3⟩ x4
theorem qat (hf:env.frame=some L)(x:HldD B l e cls a0 dd L s.heap)(k:Q () s):wpAny M A (noteFrame (.ref e) env) Q E s:=by
 obtain ⟨o,fs,T,p,ts,he,ho,_,_,h0,h1,nT,bT,hT,hp,h3⟩:=x.2.2.2.ex
 unfold noteFrame
 simp only [hf]
 refine Kc (Vi he ho h1 ?_)
 rw [if_pos (show (KR T != VC)=true by simp)]
 refine Kc (Vi hT hp h3 ?_)
 rw [if_pos (show (rawInt L==rawInt L)=true by simp)]
 exact Kl k
theorem leave_held (hf:env.frame=some L)(x:HldD B (env::outer) e cls a0 dd L s.heap)(k:∀ h',FlyD B outer e cls a0 dd h'->s.heap.UpToSlots h'->Q () { s with heap:=h' }):wpAny M A (leaving env (.ref e)) Q E s:=by
 unfold leaving
 refine Kc (qat hf x (Zh x.2.2.1 x.2.2.2 x.1 fun h2 y1 y2 y3 y4=>k h2 ⟨y1,x.2.1,?_,y3⟩ y4))
 obtain ⟨_,_,z⟩:=y2
 exact z
theorem yQ (hf:env.frame=some L)(x:HldD B l e cls a0 dd L s.heap)(k:∀ h',HldD B l e cls a0 dd L h'->s.heap.UpToSlots h'->E (.ref e) { s with heap:=h' }):cameBackBy M A env E (.ref e) s:=by
 obtain ⟨o,fs,T,p,ts,he,ho,rfl,rfl,h0,h1,nT,bT,hT,hp,h3⟩:=x.2.2.2.ex
 have z3:=(UP.mp h3).1
 unfold cameBackBy
 refine Kc (Vi he ho h1 ?_)
 rw [if_neg (show ¬ (KR T==VC)=true by simp)]
 unfold setFlight
 refine Kc (Vi he ho h1 ?_)
 rw [if_pos (show (KR T != VC)=true by simp),hf]
 refine N6 hT hp z3 ?_
 have u:=YX (i:=3) (v:=rawInt L) hT hp
 obtain ⟨p',b1,b2,_,_⟩:=qbl (i:=3) (v:=rawInt L) hT hp
 exact k _ ⟨Jo x.1 bT,x.2.1,Jr u x.2.2.1,⟨o,fs,T,p',_,by rw [Jp nT.symm];exact he,ho,rfl,rfl,h0,h1,nT,bT,b1,b2,by rw [Xt,if_pos z3]⟩⟩ u
end
structure Fly (l:List Env)(H H':Hp)(g h B:KC)(a:Kf)(cls:Ke)(t:Kf)(dd:Option Kf):Prop where
 fl:FlyD B l a cls (.ref t) dd h
 trk:∀ b u,H' b=some u->∀ o,h.get? b=some o->B.get? b=some o
 old:∀ b o,g.get? b=some o->H b=none->b∉frs l->B.get? b=some o
 dom:∀ b o,g.get? b=some o->b∉frs l->∃ o',B.get? b=some o'
 un:Un (frs l) [] H H' g h
noncomputable def CX1 (P:Ku)(w:KI):CXT:=fun outer H s E e s'=>∃ a H' cls t B dd,e=.ref a/\s'.os=s.os/\XQ s'.gens/\HOk P w H' s'.heap/\Fly outer H H' s.heap s'.heap B a cls t dd/\E cls dd H'
theorem zE.ex  {h:KC}  (x:zE P w H h a o):∃ ob,h.get? a=some ob:=by
 cases o with
 | lst xs=>obtain ⟨_,_,_,_,e⟩:=x;exact ⟨_,e⟩
 | tup xs=>obtain ⟨_,_,_,_,e,_⟩:=x;exact ⟨_,e⟩
 | dK kvs=>obtain ⟨_,_,_,_,o,_,_,e,_⟩:=x;exact ⟨_,e⟩
 | dT kvs=>obtain ⟨_,_,_,_,o,_,_,e,_⟩:=x;exact ⟨_,e⟩
 | set S n=>obtain ⟨o,_,_,_,e,_⟩:=x;exact ⟨_,e⟩
 | ins C dx fs=>obtain ⟨_,_,_,e,_⟩:=x;exact ⟨_,e⟩
 | own y=>obtain ⟨_,e⟩:=x;exact ⟨_,e⟩
 | xd fs=>obtain ⟨_,⟨_,_,_,e,_⟩,_⟩:=x;exact ⟨_,e⟩
 | rng lo hi=>obtain ⟨_,_,_,e⟩:=x;exact ⟨_,e⟩
 | frz ob u=>exact ⟨_,x.1⟩
 | tbl ps=>exact ⟨_,(show h.get? a=some _ from x)⟩
 | met f y=>exact ⟨_,(show h.get? a=some _ from x)⟩
 | ext φ=>exact x.2.1
section
variable {P:Ku}{w:KI}{l l':List Env}{H H':Hp}{g h h' B:KC}{a t:Kf}{cls:Ke}{dd:Option Kf}
theorem Fly.hok (F:Fly l H H' g h B a cls t dd)(k:HOk P w H' h)(fl':FlyD B l' a cls (.ref t) dd h'):HOk P w H' h':=fun b u e =>
 (k b u e).stay (fun c v hc q=>by
  have:H' c≠none:=by
   rcases hc with z|z
   ·rw [z,e];exact fun y=>nomatch y
   ·rw [z];exact fun y=>nomatch y
  obtain ⟨u',hu⟩:=Ek.mp this
  exact fl'.1 _ _ (F.trk c u' hu v q)) (fun _ q=>q) fun _ _ q=>q
theorem Fly.step (F:Fly l H H' g h B a cls t dd)(k:HOk P w H' h)(fl':FlyD B l a cls (.ref t) dd h')(up:h.UpToSlots h'):Fly l H H' g h' B a cls t dd where
 fl:=fl'
 trk:=fun b u e o q=>by
  obtain ⟨o1,h1⟩:∃ o1,h.get? b=some o1:=(k b u e).ex
  have h2:=F.trk b u e o1 h1
  have h3:=fl'.1 _ _ h2
  rw [q] at h3
  cases h3
  exact h2
 old:=F.old
 dom:=F.dom
 un:={
  keep:=fun b o e n hb _=>fl'.1 _ _ (F.old b o e n hb)
  slot:=fun b o e n hb hx=>by
   obtain ⟨sl,e1⟩:=F.un.slot b o e n hb hx
   obtain ⟨_,o',e2,nf⟩:=F.fl.2.2.1.mem hb
   rw [e1] at e2
   cases e2
   obtain ⟨sl',e3⟩:=up b _ e1 nf
   exact ⟨sl',e3⟩
  free:=F.un.free
  there:=fun b o e _=>by
   by_cases hb:b∈frs l
   ·obtain ⟨_,o',e2,nf⟩:=F.fl.2.2.1.mem hb
    obtain ⟨sl',e3⟩:=up b _ e2 nf
    exact ⟨_,e3⟩
   ·obtain ⟨o',e'⟩:=F.dom b o e hb
    exact ⟨o',fl'.1 _ _ e'⟩
  tups:=F.un.tups
  frzs:=F.un.frzs
  tbls:=F.un.tbls }
end
noncomputable abbrev exO (C:Kf)(od:Option Kf)(t:Kf):Obj:={ cls:=.ref C,dict:=od,data:=.fields #[.ref t,.none,.none,.none,.bool false,.none] }
def DxD (K:Kd)(H:Hp)(dd:Option Kf)(y:Ka):Prop:=y=.none\/∃ n d dx v,y=.tuple [.str n,d]/\flat d=true/\dd=some dx/\H dx=some (.xd [(n,v)])/\Den K H (fun _=>False) v d
def XMade (X:Cx)(pins:List (Kf×Obj))(G:Gm)(M L:List Nat)(ρ:Rho)(a C:Kf)(y:Ka)(s':Kg):Prop :=
 ∃ σ H S od t,Inv X pins σ H s'/\OwnS X.K G M L H S σ ρ/\DxD X.K H od y/\H a=none/\(X.ex=[]->X.s₀.heap.get? a=none)/\s'.heap.get? a=some (exO C od t)
def qi3 (X:Cx)(pins:List (Kf×Obj))(G:Gm)(M L:List Nat)(ρ:Rho)(a C:Kf)(y:Ka)(s':Kg):Prop :=
 ∃ σ H S s1 H' B t dd,DxD X.K H' dd y/\Inv X pins σ H s1/\OwnS X.K G M L H S σ ρ/\Same H H'/\s'.os=s1.os/\XQ s'.gens/\HOk X.prog X.w H' s'.heap/\Fly X.stack H H' s1.heap s'.heap B a (.ref C) t dd
def XHeld (X:Cx)(pins:List (Kf×Obj))(G:Gm)(M L:List Nat)(ρ:Rho)(a C:Kf)(y:Ka)(s':Kg):Prop :=
 ∃ s2 B t dd h',((∃ σ H S,Inv X pins σ H s2/\OwnS X.K G M L H S σ ρ/\DxD X.K H dd y/\H a=none/\(X.ex=[]->X.s₀.heap.get? a=none)/\s2.heap.get? a=some (exO C dd t)/\B=V8 s2.heap (a::frs X.stack))\/
  ∃ σ H S s1 H',DxD X.K H' dd y/\Inv X pins σ H s1/\OwnS X.K G M L H S σ ρ/\Same H H'/\s2.os=s1.os/\XQ s2.gens/\HOk X.prog X.w H' s2.heap/\Fly X.stack H H' s1.heap s2.heap B a (.ref C) t dd)/\
  s'={ s2 with heap:=h' }/\HldD B X.stack a (.ref C) (.ref t) dd X.env.locals h'/\s2.heap.UpToSlots h'
def XCls (K:Kd)(c:Str)(C:Kf):Prop:=Kx K mainGlobals c=some (some (.ref C))/\xcB K C=true
def XAt (X:Cx)(o:Bool)(pins:List (Kf×Obj))(G:Gm)(M L:List Nat)(x:Ka)(ρ:Rho)(e:Ke)(s':Kg):Prop :=
 ∃ a c C y,e=.ref a/\x=excD c y/\XCls X.K c C/\((o=false/\(XMade X pins G M L ρ a C y s'\/XHeld X pins G M L ρ a C y s'))\/qi3 X pins G M L ρ a C y s')
def PDX (X:Cx)(o:Bool)(G:Gm)(M L Mx:List Nat)(st:KM)(w:Rho->Option (Ka×Rho)):Prop :=
 ∀ (pins:List (Kf×Obj)) (s:Kg) (σ:St) (H:Hp) (S:Av) (ρ ρ':Rho) (x:Ka),Inv X pins σ H s->OwnS X.K G M L H S σ ρ->w ρ=some (x,ρ')->
  wpAny (model X.prog X.w) X.A (exec st X.env) (fun _ _=>False) (XAt X o pins G Mx L x ρ') s
def PDXs (X:Cx)(o:Bool)(G:Gm)(M L Mx:List Nat)(st:List KM)(w:Rho->Option (Ka×Rho)):Prop :=
 ∀ (pins:List (Kf×Obj)) (s:Kg) (σ:St) (H:Hp) (S:Av) (ρ ρ':Rho) (x:Ka),Inv X pins σ H s->OwnS X.K G M L H S σ ρ->w ρ=some (x,ρ')->
  wpAny (model X.prog X.w) X.A (execs st X.env) (fun _ _=>False) (XAt X o pins G Mx L x ρ') s
section
variable {X:Cx}{pins:List (Kf×Obj)}{σ:St}{H H':Hp}{s s':Kg}{G:Gm}{S:Av}
theorem Inv.stkLoc (I:Inv X pins σ H s)(e:X.s₀.heap.get? b=some o)(h:b∉X.fs):b∉frs X.stack:=fun z=>by
 rcases Ko.mp (I.stkSub b z) with y|y
 ·exact absurd (Ks e) (by rw [y];exact Nat.not_lt.mpr I.ok.above)
 ·exact h y
theorem qar {a C t:Kf}{od:Option Kf}{h':KC}(I:Inv X pins σ H s)(hHa:H a=none)(hs0:X.s₀.heap.get? a=none)(hst:X.stack=X.env::X.outer)(hfr:X.env.frame=some X.env.locals)(hex:X.ex=[])
  (x1:FlyD (V8 s.heap (a::frs X.stack)) X.outer a (.ref C) (.ref t) od h') (x4:s.heap.UpToSlots h'):HOk X.prog X.w H h'/\Fly X.outer X.H₀ H X.s₀.heap h' (V8 s.heap (a::frs X.stack)) a (.ref C) t od:=by
 have noex:∀ b,b∉X.ex:=fun b z=>by rw [hex] at z;cases z
 have hin:∀ env∈X.env::X.outer,∀ b,env.frame=some b->b∈a::frs X.stack:=fun env he b hb=>by
  rw [hst];exact .tail _ (Ut.mpr ⟨env,he,hb⟩)
 have hF:s.heap.FunFrames X.base (X.env::X.outer):=by have:=I.stack;rw [hst] at this;exact this
 have fr:X.A.frames=some (X.env::X.outer):=by rw [I.ok.frames,hst]
 have hBn:(V8 s.heap (a::frs X.stack)).get? a=none:=XX _ (.head _)
 have hB:∀ b o,s.heap.get? b=some o->b≠a->b∉frs X.stack->(V8 s.heap (a::frs X.stack)).get? b=some o:=fun b o q na n=>Fc _ q fun z=>by
  rcases Ko.mp z with z|z
  ·exact na z
  ·exact n z
 have na:∀ {b:Kf} {u:HO},H b=some u->b≠a:=fun e z=>by rw [z,hHa] at e;cases e
 have n0:∀ {b:Kf} {o:Obj},X.s₀.heap.get? b=some o->b≠a:=fun e z=>by rw [z,hs0] at e;cases e
 have trk:∀ b u,H b=some u->∀ o,s.heap.get? b=some o->(V8 s.heap (a::frs X.stack)).get? b=some o:=fun b u e o q=>hB b o q (na e) fun z=>by rw [I.stkFree b z] at e;cases e
 have old:∀ b o,X.s₀.heap.get? b=some o->X.H₀ b=none->b∉frs X.outer->(V8 s.heap (a::frs X.stack)).get? b=some o:=fun b o e n hb =>
  hB b o (I.base.keep b o e n hb (noex b)) (n0 e) (I.stkLoc e hb)
 have dom:∀ b o,X.s₀.heap.get? b=some o->b∉frs X.outer->∃ o',(V8 s.heap (a::frs X.stack)).get? b=some o':=fun b o e hb=>by
  obtain ⟨o',e'⟩:=I.base.there b o e (noex b)
  exact ⟨o',hB b o' e' (n0 e) (I.stkLoc e hb)⟩
 have frm:∀ b o,s.heap.get? b=some o->b∈frs X.stack->∃ sl,h'.get? b=some { o with slots:=sl }:=fun b o e hb=>by
  obtain ⟨_,o',e2,nf⟩:=hF.mem (show b∈(X.env::X.outer).filterMap (·.frame) from by rw [← hst];exact hb)
  rw [e] at e2
  cases e2
  exact x4 b o e nf
 have hsub:∀ b∈frs X.outer,b∈frs X.stack:=fun b hb=>by rw [hst];show b∈(X.env::X.outer).filterMap (·.frame);rw [VP,hfr];exact .tail _ hb
 refine ⟨fun b u e=>(I.hok b u e).stay (fun c v hc q=>?_) (fun _ q=>q) fun _ _ q=>q,⟨x1,fun b u e o q=>?_,old,dom,?_⟩⟩
 ·have:H c≠none:=by
   rcases hc with z|z
   ·rw [z,e];exact fun y=>nomatch y
   ·rw [z];exact fun y=>nomatch y
  obtain ⟨u',hu⟩:=Ek.mp this
  exact x1.1 _ _ (trk c u' hu v q)
 ·obtain ⟨o1,h1⟩:=(I.hok b u e).ex
  have h2:=trk b u e o1 h1
  have h3:=x1.1 _ _ h2
  rw [q] at h3
  cases h3
  exact h2
 ·exact {
      keep:=fun b o e n hb _=>x1.1 _ _ (old b o e n hb)
      slot:=fun b o e n hb _=>by
       obtain ⟨sl,e1⟩:=I.base.slot b o e n hb (noex b)
       obtain ⟨sl',e2⟩:=frm b _ e1 (hsub b hb)
       exact ⟨sl',e2⟩
      free:=fun b o e n _=>I.base.free b o e n (noex b)
      there:=fun b o e _=>by
       obtain ⟨o',e'⟩:=I.base.there b o e (noex b)
       by_cases hb:b∈frs X.stack
       ·obtain ⟨sl,e2⟩:=frm b o' e' hb
        exact ⟨_,e2⟩
       ·exact ⟨o',x1.1 _ _ (hB b o' e' (n0 e) hb)⟩
      tups:=I.base.tups
      frzs:=I.base.frzs
      tbls:=I.base.tbls }
theorem qcT {E:Ke->Kg->Prop}{Q:Unit->Kg->Prop}  (I:Inv X pins σ H s) (hHa:H a=none) (hs0:X.s₀.heap.get? a=none) (ha:s.heap.get? a=some (exO C od t)) (hst:X.stack=X.env::X.outer) (hfr:X.env.frame=some X.env.locals) (hex:X.ex=[])
  (hq:∀ h',HOk X.prog X.w H h'->Fly X.outer X.H₀ H X.s₀.heap h' (V8 s.heap (a::frs X.stack)) a (.ref C) t od->Q () { s with heap:=h' }):wpAny (model X.prog X.w) X.A (leaving X.env (.ref a)) Q E s:=by
 have noex:∀ b,b∉X.ex:=fun b z=>by rw [hex] at z;cases z
 have hin:∀ env∈X.env::X.outer,∀ b,env.frame=some b->b∈a::frs X.stack:=fun env he b hb=>by
  rw [hst];exact .tail _ (Ut.mpr ⟨env,he,hb⟩)
 have hF:s.heap.FunFrames X.base (X.env::X.outer):=by have:=I.stack;rw [hst] at this;exact this
 have fr:X.A.frames=some (X.env::X.outer):=by rw [I.ok.frames,hst]
 have hBn:(V8 s.heap (a::frs X.stack)).get? a=none:=XX _ (.head _)
 refine qb4 (a0:=.ref t) fr (ET hF hin) hfr ha (fun b o q=>Ea _ q) hBn rfl rfl rfl fun h' x1 x4=>?_
 obtain ⟨k1,k2⟩:=qar I hHa hs0 hst hfr hex x1 x4
 exact hq h' k1 k2
theorem qab  {h':KC} (I:Inv X pins σ H s) (ok:HOk X.prog X.w H' s'.heap) (F:Fly X.stack H H' s.heap s'.heap B a cls t dd) (hst:X.stack=X.env::X.outer) (hfr:X.env.frame=some X.env.locals) (hex:X.ex=[])
  (x1:FlyD B X.outer a cls (.ref t) dd h') (up:s'.heap.UpToSlots h'):HOk X.prog X.w H' h'/\Fly X.outer X.H₀ H' X.s₀.heap h' B a cls t dd:=by
 have noex:∀ b,b∉X.ex:=fun b z=>by rw [hex] at z;cases z
 have fr:X.A.frames=some (X.env::X.outer):=by rw [I.ok.frames,hst]
 have fl:FlyD B (X.env::X.outer) a cls (.ref t) dd s'.heap:=by have:=F.fl;rw [hst] at this;exact this
 have hok:=F.hok ok x1
 have hsub:∀ b∈frs X.outer,b∈frs X.stack:=fun b hb=>by rw [hst];show b∈(X.env::X.outer).filterMap (·.frame);rw [VP,hfr];exact .tail _ hb
 have old:∀ b o,X.s₀.heap.get? b=some o->X.H₀ b=none->b∉frs X.outer->B.get? b=some o:=fun b o e n hb=>F.old b o (I.base.keep b o e n hb (noex b)) (I.base.free b o e n (noex b)) (I.stkLoc e hb)
 have dom:∀ b o,X.s₀.heap.get? b=some o->b∉frs X.outer->∃ o',B.get? b=some o':=fun b o e hb=>by
  obtain ⟨o',e'⟩:=I.base.there b o e (noex b)
  exact F.dom b o' e' (I.stkLoc e hb)
 have frm:∀ b o,s'.heap.get? b=some o->b∈frs X.stack->∃ sl,h'.get? b=some { o with slots:=sl }:=fun b o e hb=>by
  obtain ⟨_,o',e2,nf⟩:=F.fl.2.2.1.mem hb
  rw [e] at e2
  cases e2
  exact up b o e nf
 refine ⟨hok,⟨x1,fun b u e o q=>?_,old,dom,?_⟩⟩
 ·obtain ⟨o1,h1⟩:=(ok b u e).ex
  have h2:=F.trk b u e o1 h1
  have h3:=x1.1 _ _ h2
  rw [q] at h3
  cases h3
  exact h2
 ·exact {
      keep:=fun b o e n hb _=>x1.1 _ _ (old b o e n hb)
      slot:=fun b o e n hb _=>by
       obtain ⟨sl,e1⟩:=I.base.slot b o e n hb (noex b)
       obtain ⟨sl1,e2⟩:=F.un.slot b _ e1 (I.base.free b o e n (noex b)) (hsub b hb) (by simp)
       obtain ⟨sl',e3⟩:=frm b _ e2 (hsub b hb)
       exact ⟨sl',e3⟩
      free:=fun b o e n _=>by
       obtain ⟨o',e'⟩:=I.base.there b o e (noex b)
       exact F.un.free b o' e' (I.base.free b o e n (noex b)) (by simp)
      there:=fun b o e _=>by
       obtain ⟨o',e'⟩:=I.base.there b o e (noex b)
       obtain ⟨o2,e2⟩:=F.un.there b o' e' (by simp)
       by_cases hb:b∈frs X.stack
       ·obtain ⟨sl,e3⟩:=frm b o2 e2 hb
        exact ⟨_,e3⟩
       ·obtain ⟨o3,e3⟩:=F.dom b o' e' hb
        exact ⟨o3,x1.1 _ _ e3⟩
      tups:=fun b xs e=>F.un.tups b xs (I.base.tups b xs e)
      frzs:=fun b o u e=>F.un.frzs b o u (I.base.frzs b o u e)
      tbls:=fun b ps e=>by
       obtain ⟨m1,e1⟩:=I.base.tbls b ps e
       obtain ⟨m2,e2⟩:=F.un.tbls b _ e1
       exact ⟨m1++m2,by rw [e2,Array.append_assoc]⟩ }
theorem qcS {E:Ke->Kg->Prop}{Q:Unit->Kg->Prop}   (I:Inv X pins σ H s) (ok:HOk X.prog X.w H' s'.heap) (F:Fly X.stack H H' s.heap s'.heap B a cls t dd) (hst:X.stack=X.env::X.outer) (hfr:X.env.frame=some X.env.locals) (hex:X.ex=[])
  (hq:∀ h',HOk X.prog X.w H' h'->Fly X.outer X.H₀ H' X.s₀.heap h' B a cls t dd->Q () { s' with heap:=h' }):wpAny (model X.prog X.w) X.A (leaving X.env (.ref a)) Q E s':=by
 have noex:∀ b,b∉X.ex:=fun b z=>by rw [hex] at z;cases z
 have fr:X.A.frames=some (X.env::X.outer):=by rw [I.ok.frames,hst]
 have fl:FlyD B (X.env::X.outer) a cls (.ref t) dd s'.heap:=by have:=F.fl;rw [hst] at this;exact this
 refine qf3 fr hfr fl fun h' x1 up=>?_
 obtain ⟨k1,k2⟩:=qab I ok F hst hfr hex x1 up
 exact hq h' k1 k2
end
noncomputable def xNo:Rho->Option (Ka×Rho):=fun _=>none
noncomputable def xSeq (u:Rho->Option Out)(w1 w2:Rho->Option (Ka×Rho))(ρ:Rho):Option (Ka×Rho):=match w1 ρ with
 | some r=>some r
 | none=>match u ρ with
  | some (.nx ρ')=>w2 ρ'
  | _=>none
noncomputable def xIf (p:Rho->Option Bool)(w1 w2:Rho->Option (Ka×Rho))(ρ:Rho):Option (Ka×Rho):=ob (p ρ) fun b=>if b=true then w1 ρ else w2 ρ
noncomputable def WK (n:Nat)(fs:Rho->Option (List Ka))(h:List Ka->Option Ka)(ρ:Rho):Option (Ka×Rho):=ob (fs ρ) fun ds=>if ds.length=n then ob (h ds) fun x=>some (x,ρ) else none
noncomputable def spX (K:Kd)(n:Nat)(f:List Ka->Option Ka):Sp:=fun vs H _ E=>∃ S ds x,Dm S H/\DenL K H S vs ds/\ds.length=n/\f ds=some x/\∀ c C y dd H',x=excD c y->XCls K c C->DxD K H' dd y->Same H H'->E (.ref C) dd H'
structure KnownR (P:Ku)(w:KI)(K:Kd)(mg:Str->Option Ke)(base:KC)(x:Str)(n k:Nat)(h:List Ka->Option Ka):Prop where
 ex:∃ (f:Kf) (fd:K7) (ps:List Str),FnOk P w K mg base (CX1 P w) k f fd ps (spX K n h)/\mg x=some (.ref f)/\Vf K (.ref f)=true/\Binds K fd ps []
section
variable {X:Cx}{G:Gm}{M M1 M' Mb L Mx:List Nat}{fr:Fr}{a c:Ky}{es:List Ky}{fs:Rho->Option (List Ka)}{p:Rho->Option Bool}{pos:Pos}{s1:KM}{ss st1 st2:List KM}{u:Rho->Option Out}{w w1 w2:Rho->Option (Ka×Rho)}{x:Str}{o:Bool}
theorem qkn:PDX X o G M L Mx s1 xNo:=fun _ _ _ _ _ _ _ _ _ _ e=>nomatch e
theorem qbj:PDXs X o G M L Mx ss xNo:=fun _ _ _ _ _ _ _ _ _ _ e=>nomatch e
theorem qd0 (h:PDX X o G M L Mx s1 w):PDXs X o G M L Mx [s1] w:=fun pins s σ H S ρ ρ' x I os e=>U7 (thn (h pins s σ H S ρ ρ' x I os e) fun _ _ z=>z.elim)
theorem Wj (h1:PDS X G M L M1 Mb fr s1 u)(x1:PDX X o G M L Mx s1 w1)(x2:PDXs X o G M1 L Mx ss w2)(hn:∀ e s,X.xe e s->False:=by exact fun _ _ z=>z):PDXs X o G M L Mx (s1::ss) (xSeq u w1 w2):=by
 intro pins s σ H S ρ ρ' x I os e
 unfold xSeq at e
 cases e1:w1 ρ with
 | some r =>
  rw [e1] at e
  cases e
  exact U7 (thn (x1 pins s σ H S ρ ρ' x I os e1) fun _ _ z=>z.elim)
 | none =>
  rw [e1] at e
  cases e2:u ρ with
  | none=>rw [e2] at e;cases e
  | some o' =>
   rw [e2] at e
   cases o' with
   | nx ρ1 =>
    refine U7 (K3 (h1 pins s σ H { nx:=fun σ' H'=>∃ S',OwnS X.K G M1 L H' S' σ' ρ1,rt:=fun _ _=>False } I ⟨S,ρ,_,os,e2,fun σ' H' S' os'=>⟨S',os'⟩⟩) (fun f s1 q=>?_) fun e s z=>(hn e s z).elim)
    cases f with
    | next=>obtain ⟨σ',H',I',S',os'⟩:=q;exact x2 pins s1 σ' H' S' ρ1 ρ' x I' os' e
    | ret v=>obtain ⟨_,_,_,_,_,z⟩:=q;exact z.elim
    | brk=>obtain ⟨_,_,_,z⟩:=q;exact z.elim
    | cont=>obtain ⟨_,_,_,z⟩:=q;exact z.elim
   | rt d=>cases e
   | bk d=>cases e
   | ct d=>cases e
theorem qkm (hc:PDT X [] c p)(x1:PDXs X o G M L Mx st1 w1)(x2:PDXs X o G M L Mx st2 w2)(hn:∀ e s,X.xe e s->False:=by exact fun _ _ z=>z):PDX X o G M L Mx (.If c st1 st2 pos) (xIf p w1 w2):=by
 intro pins s σ H S ρ ρ' x I os e
 obtain ⟨d,e1,e⟩:=qd e
 refine wpAny_If (K3 (hc pins s σ H (fun b H1=>b=d/\Same H H1) I ⟨G.S0,ρ,d,os.den,e1,fun H1 g1=>⟨rfl,g1⟩⟩) (fun b s1 ⟨H1,I1,hb,g1⟩=>?_) fun e s z=>(hn e s z).elim)
 subst hb
 cases b with
 | true=>rw [if_pos rfl] at e;exact x1 pins s1 σ H1 S ρ ρ' x I1 (os.same g1) e
 | false=>rw [if_neg (by decide)] at e;exact x2 pins s1 σ H1 S ρ ρ' x I1 (os.same g1) e
theorem qhC {p:Pos}  (F:KnownR X.prog X.w X.K X.mg X.base x n k h) (hr:Room k' X.A) (hk:k<=k') (hg:Gl X x) (ha:PDA X M (a::es) fs)
  (hdb:(x==("__debug__" : Str))=false:=by decide +kernel) (he:starEach (a::es) X.env=(false,eval a X.env)::starEach es X.env:=by rfl) (hpl:(backTo pos (starEach es X.env)).any (·.1)=false:=by rfl)
  (hn:∀ e s,X.xe e s->False:=by exact fun _ _ z=>z) {pins:List (Kf×Obj)} {s:Kg} {σ:St} {H:Hp} {S:Av} {ρ ρ':Rho} {d:Ka} (I:Inv X pins σ H s) (os:OwnS X.K G M L H S σ ρ) (e:WK n fs h ρ=some (d,ρ')) :
  wpAny (model X.prog X.w) X.A (eval (.Call (.Name x p) (a::es) [] pos) X.env) (fun _ _=>False) (XAt X o pins G M L d ρ') s:=by
 obtain ⟨ds,e1,e⟩:=qd e
 have e:(if ds.length=n then ob (h ds) fun x=>some (x,ρ) else none)=some (d,ρ'):=e
 split at e
 case isFalse=>cases e
 rename_i hl
 obtain ⟨y,e2,e⟩:=qd e
 cases e
 obtain ⟨f,fd,ps,F,hm,kp,hb⟩:=F.ex
 refine Uu (Zq I hg hm ?_ hdb)
 have ha':=ha pos pins s σ H (fun vs H1=>Same H H1/\DenL X.K H1 S vs ds) I ⟨S,ρ,ds,os.ds,e1,fun vs H1 g1 d1=>⟨g1,d1⟩⟩
 refine Xl (h₀:=X.base) I.ok.mod.kin kp (K3 ha' (fun us s1 ⟨vs,H1,I1,r,g1,d1⟩=>⟨I1.kIn,?_⟩) fun e s z=>(hn e s z).elim) he hpl
 have hsp:spX X.K n h vs H1 (fun _ _=>False) (fun cls dd H'=>∃ cn C y,cls=.ref C/\d=excD cn y/\XCls X.K cn C/\DxD X.K H' dd y/\Same H1 H'):=⟨S,ds,d,os.ds.1.same g1,d1,hl,e2,fun cn C y dd H' ed hC dx g=>⟨cn,C,y,rfl,ed,hC,dx,g⟩⟩
 have hlen:(us++[]).length=ps.length:=by rw [Vd,← r.length];exact F.len _ _ _ _ hsp
 refine Np (Ng (F.run X.A X.stack s1 H1 ⟨us,[]⟩ us vs _ _ (hr.mono hk) I1.env0 (by have:=hb s1 us I1.kIn hlen;rwa [Vd] at this) r hsp) fun r s' hq=>?_)
 cases r with
 | error e =>
  obtain ⟨a,H',cls,t,B,dd,rfl,os',bare,ok,fl,cn,C,y,rfl,rfl,hC,dx,g⟩:=hq
  exact ⟨a,cn,C,y,rfl,rfl,hC,.inr ⟨σ,H1,S,s1,H',B,t,dd,dx,I1,os.same g1,g,os',bare,ok,fl⟩⟩
 | ok fl =>
  cases fl with
  | ret u=>obtain ⟨_,_,_,_,_,_,_,z⟩:=hq;exact z.elim
  | next=>exact VH hq
  | brk=>exact VH hq
  | cont=>exact VH hq
theorem qiv {p cpos:Pos}{tg:Ky}  (F:KnownR X.prog X.w X.K X.mg X.base x n k h) (hr:Room k' X.A) (hk:k<=k') (hg:Gl X x) (ha:PDA X M (a::es) fs)
  (hdb:(x==("__debug__" : Str))=false:=by decide +kernel) (he:starEach (a::es) X.env=(false,eval a X.env)::starEach es X.env:=by rfl) (hpl:(backTo cpos (starEach es X.env)).any (·.1)=false:=by rfl)
  (hn:∀ e s,X.xe e s->False:=by exact fun _ _ z=>z) (hs:swapsWithSole [tg] (.Call (.Name x p) (a::es) [] cpos) pos.line X.env=pure false:=by rfl) (hw:swappedStores [tg] (.Call (.Name x p) (a::es) [] cpos) X.env=pure none:=by rfl) :
  PDX X o G M L M (.Assign [tg] (.Call (.Name x p) (a::es) [] cpos) pos) (WK n fs h) :=
 fun pins s σ H S ρ ρ' d I os e=>wpAny_Assign_stores (thn (qhC F hr hk hg ha hdb he hpl hn I os e) fun _ _ z=>z.elim) hs hw
end
section
variable {P:Ku}{w:KI}{K:Kd}{mg:Str->Option Ke}{base:KC}
noncomputable def xOut (w:Rho->Option (Ka×Rho))(n:Nat)(ds:List Ka):Option Ka:=ob (w (rho0 n ds)) fun r=>some r.1
theorem FunG.raises {x qual:Str}{st:KM}{f:Kf}{fd:K7}{N ps:List Str}{k n:Nat}{wx:Rho->Option (Ka×Rho)}{Mx:List Nat}(F:FunG K x qual st f fd)(S:FnScope N ps (qe st))(hn:ps.length=n)
  (hbody:∀ (cdv:Ke) (A:KF) (outer:List Env) (s:Kg) (H:Hp) (E:XK),Room k (A.deeper (envOfC qual (qe st) s.heap.objs.size f cdv))->∀ G:Gm,
   PDXs (cxOf CX0 P w K mg base N qual (qe st) f cdv A outer s H E).nox false G [] [] Mx (zp st) wx) :
  FnOk P w K mg base (CX1 P w) (k+1) f fd ps (spX K n (xOut wx N.length)):=by
 obtain ⟨oc,dV,od,kV,doc,pm,an,cdv,ct,osl,rfl,lk,hcd⟩:=F.ex
 refine qfM lk hcd S (fun vs H Q E h=>?_) fun A outer s H vs Q E hr h=>?_
 ·obtain ⟨_,ds,_,_,h1,h2,_⟩:=h
  rw [h1.length,h2,hn]
 ·obtain ⟨Sv,ds,x,m,h1,h2,e,q⟩:=h
  obtain ⟨⟨d,ρ'⟩,e1,e⟩:=qd e
  cases e
  refine ⟨fun _ σ' H'=>σ'=start N vs/\H'=H,fun pins s1 σ' H' D I h=>?_,rfl,rfl⟩
  obtain ⟨rfl,rfl⟩:=h
  refine K3 (hbody cdv A outer s H' E hr (G0 H' Sv) pins s1 _ H' Sv _ ρ' _ (I.wish _) (OwnS.start m h1 N) e1) (fun _ _ z=>z.elim) fun ev s' hx=>?_
  obtain ⟨a,c',C',y,rfl,hd,hC',hx⟩:=hx
  show wpAny _ _ (leaving _ _) _ _ _
  rcases hx with ⟨_,⟨σ2,H2,S2,od,t,I2,os2,dx,hHa,hs0,ha⟩|⟨s2,B,t,dd,h2,hx,rfl,hld,up⟩⟩|⟨σ2,H2,S2,s2,H3,B,t,dd,dx,I2,os2,g,os',bare,ok,fl⟩
  ·have I3:Inv (cxOf (CX1 P w) P w K mg base N qual (qe st) f cdv A outer s H' E) pins σ2 H2 s':=I2.unwish.wish _
   refine qcT I3 hHa (hs0 rfl) ha rfl rfl rfl fun h' ok fl=>?_
   exact ⟨a,H2,.ref C',t,_,od,rfl,I3.os,I3.bare,ok,fl,q c' C' y od H2 hd hC' dx os2.h0⟩
  ·rcases hx with ⟨σ2,H2,S2,I2,os2,dx,hHa,hs0,ha,rfl⟩|⟨σ2,H2,S2,s1',H3,dx,I2,os2,g,os',bare,ok,fl⟩
   ·have I3:Inv (cxOf (CX1 P w) P w K mg base N qual (qe st) f cdv A outer s H' E) pins σ2 H2 s2:=I2.unwish.wish _
    refine leave_held rfl hld fun h3 x1 x4=>?_
    obtain ⟨ok,fl⟩:=qar I3 hHa (hs0 rfl) rfl rfl rfl x1 (up.trans x4)
    exact ⟨a,H2,.ref C',t,_,dd,rfl,I3.os,I3.bare,ok,fl,q c' C' y dd H2 hd hC' dx os2.h0⟩
   ·have I3:Inv (cxOf (CX1 P w) P w K mg base N qual (qe st) f cdv A outer s H' E) pins σ2 H2 s1':=I2.unwish.wish _
    refine leave_held rfl hld fun h3 x1 x4=>?_
    obtain ⟨ok',fl'⟩:=qab I3 ok fl rfl rfl rfl x1 (up.trans x4)
    exact ⟨a,H3,.ref C',t,B,dd,rfl,os'.trans I3.os,bare,ok',fl',q c' C' y dd H3 hd hC' dx (os2.h0.trans g)⟩
  ·have I3:Inv (cxOf (CX1 P w) P w K mg base N qual (qe st) f cdv A outer s H' E) pins σ2 H2 s2:=I2.unwish.wish _
   refine qcS I3 ok fl rfl rfl rfl fun h' ok' fl'=>?_
   exact ⟨a,H3,.ref C',t,B,dd,rfl,os'.trans I3.os,bare,ok',fl',q c' C' y dd H3 hd hC' dx (os2.h0.trans g)⟩
theorem Fun.raises {x qual:Str}{st:KM}{f:Kf}{fd:K7}{N ps:List Str}{k n:Nat}{wx:Rho->Option (Ka×Rho)}{Mx:List Nat}(F:Fun K x qual st f fd)(S:FnScope N ps (qe st))(hn:ps.length=n)
  (hbody:∀ (cdv:Ke) (A:KF) (outer:List Env) (s:Kg) (H:Hp) (E:XK),Room k (A.deeper (envOfC qual (qe st) s.heap.objs.size f cdv))->∀ G:Gm,
   PDXs (cxOf CX0 P w K mg base N qual (qe st) f cdv A outer s H E).nox false G [] [] Mx (zp st) wx) :
  FnOk P w K mg base (CX1 P w) (k+1) f fd ps (spX K n (xOut wx N.length)):=F.g.raises S hn hbody
end
noncomputable abbrev Cx.mk1 (X:Cx)(e:Ke):Cx:={ X with A:=X.A.mark (some e),calm:=false }
noncomputable def caught (cs:List Str):Ka->Bool
 | .dict ((.str c,_)::_)=>cs.contains c
 | _=>false
noncomputable def qgh (i:Nat):Out->Out
 | .nx ρ=>.nx (ρ.set i none)
 | .rt d=>.rt d
 | .bk ρ=>.bk (ρ.set i none)
 | .ct ρ=>.ct (ρ.set i none)
noncomputable def sTry (u:Rho->Option Out)(w:Rho->Option (Ka×Rho))(cs:List Str)(i:Nat)(uh:Rho->Option Out)(ρ:Rho):Option Out:=match w ρ with
 | some (x,ρ')=>if caught cs x=true then ob (uh (ρ'.set i (some x))) fun o=>some (qgh i o) else none
 | none=>u ρ
section
variable {X:Cx}{pins:List (Kf×Obj)}{σ:St}{H H':Hp}{s s':Kg}{G:Gm}{S:Av}{M L:List Nat}{ρ:Rho}
theorem Inv.mk1 (I:Inv X pins σ H s)(e:Ke):Inv (X.mk1 e) pins σ H s :=
 ⟨⟨I.ok.mod,I.ok.kind,I.ok.glob,I.ok.blt,I.ok.above,I.ok.inj,I.ok.has,I.ok.cab,(fun z=>nomatch z),I.ok.frames,I.ok.stk,I.ok.exf,I.ok.bs,I.ok.bsz,I.ok.noex,I.ok.exfs,I.ok.funs,I.ok.frf⟩,I.os,I.bare,I.base,I.loc,I.cell,I.free,I.freeC,I.pin,I.hok,I.len⟩
theorem Inv.unmk1 (ok:X.Ok)(I:Inv (X.mk1 e) pins σ H s):Inv X pins σ H s:=⟨ok,I.os,I.bare,I.base,I.loc,I.cell,I.free,I.freeC,I.pin,I.hok,I.len⟩
theorem OwnS.del (h:OwnS X.K G M L H S σ ρ)(hM:Out0 M i):OwnS X.K G M L H S (σ.set i none) (ρ.set i none):=by
 have back:∀ {j:Nat} {d:Ka},(ρ.set i none)[j]?=some (some d)->j≠i/\ρ[j]?=some (some d):=fun {j d} e=>by
  by_cases hj:i=j
  ·subst hj
   rw [List.getElem?_set] at e
   split at e
   ·split at e<;>cases e
   ·exact absurd rfl ‹_›
  ·rw [Vw hj] at e
   exact ⟨VT hj,e⟩
 have fwd:∀ {j:Nat},j≠i->(σ.set i none)[j]?=σ[j]?:=fun {j} hj=>Vw (VT hj)
 have keep:∀ {j:Nat},j∈M->j≠i:=fun {j} hj z=>hM.1 (z ▸ hj)
 have has:∀ {j:Nat},Has (ρ.set i none) j->Has ρ j:=fun {j} ⟨d,e⟩=>⟨d,(back e).2⟩
 obtain ⟨ds,s0,h0,own,apart,bnd,lkd,F,⟨d1,d2,d3⟩⟩:=h
 refine ⟨⟨ds.1,by rw [Vx,Vx];exact ds.2.1,fun j d n e=>?_⟩,s0,h0,fun j hj d e=>?_,fun j hj k hk d e p e1 e2 e3 e4=>?_,bnd,fun j hj=>?_,F,fun j hj d e=>?_,fun j hj k hk a1 a2=>d2 j hj k hk (has a1) (has a2),fun j hj k hk a1 a2 p e=>?_⟩
 ·obtain ⟨nj,e⟩:=back e
  rw [fwd nj]
  exact ds.2.2 j d n e
 ·obtain ⟨nj,e⟩:=back e
  rw [fwd nj]
  exact own j hj d e
 ·obtain ⟨n1,e1⟩:=back e1
  obtain ⟨n2,e2⟩:=back e2
  rw [fwd n1] at e3
  rw [fwd n2] at e4
  exact apart j hj k hk d e p e1 e2 e3 e4
 ·obtain ⟨a1,a2⟩:=lkd j hj
  exact ⟨a1,by rw [Vw (VT (keep a1.1))];exact a2⟩
 ·obtain ⟨nj,e⟩:=back e
  rw [fwd nj]
  exact d1 j hj d e
 ·rw [fwd (keep hj.1)] at e
  exact d3 j hj k hk (has a1) (has a2) p e
theorem Inv.gone  {h':KC} {v:Option Ke} {t':Nat} (I:Inv X pins σ H s) (hN:X.N.Nodup) (hi:X.N[i]?=some x) (hn:s.heap.Ns X.env.locals m)
  (hl:∀ (j:Nat) (y:Str) (w:V),X.N[j]?=some y->σ[j]?=some (some w)->Vis X.env.scope y->∃ u,RelV w u/\Look X.env s.heap m y u) (hn':h'.Ns X.env.locals (fun y=>if y=x then v else m y)) (hs:Xj X.env.locals s.heap h') :
  Inv X pins (σ.set i none) H { s with heap:=h',toks:=t' }:=by
 have cne:=I.cne
 obtain ⟨oL,_,_,hoL,_⟩:=id hn
 have nl:∀ {b:Kf} {o:Obj},X.s₀.heap.get? b=some o->b≠X.env.locals:=fun {b o} e=>KN (KP (Ks e) I.ok.above)
 refine ⟨I.ok,I.os,I.bare,⟨fun b o e n hb hx=>(hs.2 b (nl e)).trans (I.base.keep b o e n hb hx),fun b o e n hb hx=>?_,I.base.free,fun b o e hx=>?_,I.base.tups,I.base.frzs,I.base.tbls⟩,⟨_,hn',fun j y v' e1 e2 e3=>?_⟩,fun y c e=>?_,I.free,I.freeC,fun p hp=>?_,fun b ob e=>?_,by rw [Vx];exact I.len⟩
 ·obtain ⟨sl,e1⟩:=I.base.slot b o e n hb hx
  exact ⟨sl,(hs.2 b (nl e)).trans e1⟩
 ·obtain ⟨o',e1⟩:=I.base.there b o e hx
  exact ⟨o',(hs.2 b (nl e)).trans e1⟩
 ·by_cases hj:i=j
  ·subst hj
   rw [List.getElem?_set] at e2
   split at e2
   ·split at e2<;>cases e2
   ·exact absurd rfl ‹_›
  ·rw [Vw hj] at e2
   obtain ⟨u',r',q⟩:=hl j y v' e1 e2 e3
   refine ⟨u',r',?_⟩
   rcases q with ⟨k,e⟩|⟨k,c,e,z⟩
   ·have ne:y≠x:=fun z=>hj (Wa hN (z ▸ hi) e1)
    exact .inl ⟨k,by show (if y=x then v else m y)=some u';rw [if_neg ne];exact e⟩
   ·exact .inr ⟨k,c,e,z.sameBut hs (cne y c e)⟩
 ·obtain ⟨w',z⟩:=I.cell y c e
  exact ⟨w',z.sameBut hs (cne y c e)⟩
 ·obtain ⟨e,n,ne,nf,d⟩:=I.pin p hp
  exact ⟨(hs.2 p.1 ne).trans e,n,ne,nf,d⟩
 ·refine (I.hok b ob e).stay (fun c w' hc q=>(hs.2 c ?_).trans q) (fun _ q=>q) fun _ _ q=>q
  rintro rfl
  rcases hc with rfl|hc
  ·rw [I.free] at e;cases e
  ·rw [I.free] at hc;cases hc
theorem Inv.trackO (I:Inv X pins σ H s)(new:zE X.prog X.w (upd H a o) s.heap a o)(hH:H a=none)(h0:X.s₀.heap.get? a=none)(hL:a≠X.env.locals)(hc:∀ x c,X.env.cells.lookup x=some c->c≠a)(hp:∀ p∈X.pn++pins,p.1≠a) :
  Inv X pins σ (upd H a o) s:=by
 refine ⟨I.ok,I.os,I.bare,⟨I.base.keep,I.base.slot,fun b ob e n hx=>?_,I.base.there,fun b xs e=>?_,fun b ob u e=>?_,fun b ps e=>?_⟩,I.loc,I.cell,?_,fun x c e=>?_,fun p q=>?_,fun b u e=>?_,I.len⟩
 ·rw [qC (fun z=>by rw [z,h0] at e;cases e)]
  exact I.base.free b ob e n hx
 ·have:=I.base.tups b xs e
  rw [qC (qZ this hH)];exact this
 ·have:=I.base.frzs b ob u e
  rw [qC (qZ this hH)];exact this
 ·obtain ⟨more,this⟩:=I.base.tbls b ps e
  exact ⟨more,by rw [qC (qZ this hH)];exact this⟩
 ·rw [qC (VT hL)];exact I.free
 ·rw [qC (hc x c e)];exact I.freeC x c e
 ·obtain ⟨e,n,r⟩:=I.pin p q
  exact ⟨e,by rw [qC (hp p q)];exact n,r⟩
 ·by_cases hb:b=a
  ·subst hb
   rw [qH] at e
   cases e
   exact new
  ·rw [qC hb] at e
   exact (I.hok b u e).stay (fun c v _ q=>q) (fun c q=>by rw [qC (qZ q hH)];exact q) fun c xs q=>by rw [qC (qZ q hH)];exact q
theorem Inv.trackX (I:Inv X pins σ H s)(ha:s.heap.get? a=some o)(hH:H a=none)(h0:X.s₀.heap.get? a=none)(hL:a≠X.env.locals)(hc:∀ x c,X.env.cells.lookup x=some c->c≠a)(hp:∀ p∈X.pn++pins,p.1≠a):Inv X pins σ (upd H a (.frz o (.own a))) s:=I.trackO ⟨ha,_,ha⟩ hH h0 hL hc hp
end
noncomputable def catB (K:Kd)(Cc:Kf):Bool:=(Xw K (.ref Cc)==some (.type "type"))&&(Ue K Cc).isSome&&(VX K Cc (.type "BaseException")==some true)
theorem qbJ {prog:Ku}{w:KI}{A:KF}{E:Ke->Kg->Prop}{K:Kd}{s:Kg}{oe:Obj}(X:K.In s.heap)(hc:catB K Cc=true)(he:s.heap.get? a=some oe)(hcl:oe.cls=.ref C)(hm:VX K C (.ref Cc)=some true)(hq:Q true s) :
  wpAny (model prog w) A (excMatches (.ref a) (.ref Cc)) Q E s:=by
 obtain ⟨h,g,d,t,os⟩:=s
 unfold catB at hc
 simp only [Kp,beq_iff_eq] at hc
 obtain ⟨⟨h1,h2⟩,h3⟩:=hc
 have L1:=PySem.W.looks_typeIn (M:=model prog w) X h1
 have L3:=Xv (M:=model prog w) X h3
 have L4:=Xv (M:=model prog w) X hm
 have L5:UH (model prog w) h (typeOf (.ref a)) (.ref C):=hcl ▸ (XJ he).andThen .now
 have f:=tc_notTuple
 have L6:UH (model prog w) h (isType (.ref Cc)) true:=by
  unfold Ue at h2
  split at h2
  ·rename_i c' d' cd' sl' ho
   intro A' Q' E' s' k q
   unfold isType loadHead
   exact Kc (wpAny_loadPart (k _ _ (X _ _ ho)) (Kl q))
  ·cases h2
 unfold excMatches isExcClass
 unfold isInstance
 repeat (first|with_reducible refine PySem.W.Looks.at (by assumption) ?_|wp_step)
 exact hq
section
variable {X:Cx}{G:Gm}{M M' Mb L Mx:List Nat}{fr:Fr}{u uh:Rho->Option Out}{w:Rho->Option (Ka×Rho)}
theorem OwnS.setX {K:Kd}{H:Hp}{S:Av}{σ:St}{ρ:Rho}{i:Nat}{v:V}{d:Ka}(h:OwnS K G M L H S σ ρ)(q:Den K H S v d)(hM:Out0 M i):OwnS K G M L H S (σ.set i (some v)) (ρ.set i (some d)):=h.set q hM.1
theorem qiu {cn n:Str}{i:Nat}{Cc:Kf}{cs:List Str}  {hpos np pos:Pos} (hb:PDSs X G M L M' Mb fr body u) (hx:PDXs X true G M L Mx body w) (hs:∀ e,PDSs (X.mk1 e) G Mx L M' Mb fr (b0::suite) uh)
  (hN:X.N.Nodup) (hloc:X.env.scope.names.lookup n=some .local) (hM:Out0 Mx i) (hM':Out0 M' i) (hMb:Out0 Mb i) (hg:Gl X cn) (hm:X.mg cn=some (.ref Cc)) (hcat:catB X.K Cc=true) (hcs:∀ c∈cs,∀ C,XCls X.K c C->VX X.K C (.ref Cc)=some true)
  (hst:X.stack=X.env::X.outer) (hfr:X.env.frame=some X.env.locals) (hex:X.ex=[]) (hi:X.N[i]?=some n:=by rfl) (hn:∀ e s,X.xe e s->False:=by exact fun _ _ z=>z) (hdb:(cn==("__debug__" : Str))=false:=by decide +kernel) :
  PDS X G M L M' Mb fr (.Try body [.ExceptHandler (some (.Name cn np)) (some n) (b0::suite) hpos] [] [] pos) (sTry u w cs i uh):=by
 intro pins s σ H D I ⟨S,ρ,out,os,e,q⟩
 unfold sTry at e
 cases ew:w ρ with
 | none =>
  rw [ew] at e
  refine wpAny_Try_except (K3 (hb pins s σ H D I ⟨S,ρ,out,os,e,q⟩) (fun f s1 hf=>?_) fun e s z=>(hn e s z).elim)
  cases f with
  | next=>exact X7 hf
  | ret v=>exact hf
  | brk=>exact hf
  | cont=>exact hf
 | some r =>
  obtain ⟨x,ρ'⟩:=r
  rw [ew] at e
  have e:(if caught cs x=true then ob (uh (ρ'.set i (some x))) fun o=>some (qgh i o) else none)=some out:=e
  split at e
  case isFalse=>cases e
  rename_i hc
  obtain ⟨o2,e2,e⟩:=qd e
  cases e
  refine wpAny_Try_except (K3 (hx pins s σ H S ρ ρ' x I os ew) (fun _ _ z=>z.elim) fun ev s1 hx1=>?_)
  obtain ⟨a,c,C,y,rfl,rfl,hC,hx1⟩:=hx1
  obtain ⟨σ1,H1,S1,s0,H2,B,t,dd,hdx,I1,os1,g12,hos,bare,ok,fl⟩:qi3 X pins G Mx L ρ' a C y s1:=by
   rcases hx1 with ⟨z,_⟩|z
   ·cases z
   ·exact z
  have hcm:c∈cs:=List.contains_iff_mem.mp hc
  have frm:X.A.frames=some (X.env::X.outer):=by rw [I1.ok.frames,hst]
  have fl0:FlyD B (X.env::X.outer) a (.ref C) (.ref t) dd s1.heap:=by have:=fl.fl;rw [hst] at this;exact this
  refine qdQ frm hfr fl0 fun h4 held4 up4=>?_
  refine land held4 fun h5 fl5 up5=>?_
  have fl5':FlyD B X.stack a (.ref C) (.ref t) dd h5:=by rw [hst];exact fl5
  have fly5:=fl.step ok fl5' (up4.trans up5)
  have ok5:=fl.hok ok fl5
  have I5:Inv X pins σ1 H2 { s1 with heap:=h5 }:=I1.call' (s':={ s1 with heap:=h5 }) (ch:=[]) hos fly5.un ok5 bare (fun b z=>by cases z)
  obtain ⟨oc,_,hoc,hocc,_⟩:=fl5.first
  refine wpAny_handleBy_cons (codeAny_handlers_test (Zq (X:=X.mk1 (.ref a)) (I5.mk1 (.ref a)) hg hm ?_ hdb)) (by intro z;cases z)
  refine qbJ (s:={ s1 with heap:=h5 }) I5.kIn hcat hoc hocc (hcs c hcm C hC) ?_
  refine codeAny_handlers_suite_as ?_
  refine qh1 (s:={ s1 with heap:=h5 }) fl5 fun h6 fl6 up6=>?_
  have fl6':FlyD B X.stack a (.ref C) (.ref t) dd h6:=by rw [hst];exact fl6
  have fly6:=fly5.step ok5 fl6' up6
  have ok6:=fly5.hok ok5 fl6
  have I6:Inv X pins σ1 H2 { s1 with heap:=h6 }:=I1.call' (s':={ s1 with heap:=h6 }) (ch:=[]) hos fly6.un ok6 bare (fun b z=>by cases z)
  obtain ⟨oe,ws,hoe,hoec,hoed,hoedd⟩:=fl6.first
  have hBa:B.get? a=none:=fl6.2.1
  have hH2:H2 a=none:=by
   cases z:H2 a with
   | none=>rfl
   | some v=>have:=fly6.trk a v z oe hoe;rw [hBa] at this;cases this
  have hnew:s0.heap.get? a=none:=by
   cases z:s0.heap.get? a with
   | none=>rfl
   | some o =>
    by_cases hf:a∈frs X.stack
    ·obtain ⟨_,o',e',nf⟩:=fl6'.2.2.1.mem hf
     rw [hoe] at e'
     cases e'
     exact absurd hoed (nf _)
    ·obtain ⟨o',e'⟩:=fl.dom a o z hf
     rw [hBa] at e'
     cases e'
  have h0:X.s₀.heap.get? a=none:=by
   cases z:X.s₀.heap.get? a with
   | none=>rfl
   | some o =>
    obtain ⟨o',e'⟩:=I1.base.there a o z (by rw [hex];simp)
    rw [hnew] at e'
    cases e'
  have hL:a≠X.env.locals:=fun z=>by
   obtain ⟨m,⟨o,_,_,ho,_⟩,_⟩:=I1.loc
   rw [← z,hnew] at ho
   cases ho
  have hcl:∀ y c,X.env.cells.lookup y=some c->c≠a:=fun y c ec z=>by
   obtain ⟨v,o,ho,_⟩:=I1.cell y c ec
   rw [z,hnew] at ho
   cases ho
  have hpn:∀ p∈X.pn++pins,p.1≠a:=fun p hp z=>by
   have:=(I1.pin p hp).1
   rw [z,hnew] at this
   cases this
  have I7:=I6.trackX hoe hH2 h0 hL hcl hpn
  have g17:Same H1 (upd H2 a (.frz oe (.own a))):=g12.lay' hH2
  have os7:=os1.same g17
  have den:Den X.K (upd H2 a (.frz oe (.own a))) S1 (.ref a) (excD c y):=by
   rcases hdx with rfl|⟨n',d',dx,v',rfl,hfl,hdd,hxd,hden⟩
   ·exact .exc0 qH ⟨C,ws,hoec,hoed,hC.1,hC.2⟩
   ·exact .exc1 qH ⟨C,ws,hoec,hoed,hC.1,hC.2⟩ (hoedd.trans hdd) (by rw [qC (qZ hxd hH2)];exact hxd) ((hden.same (Same.lay hH2)).flat hfl)
  refine Wu (X:=X.mk1 (.ref a)) (v:=.ref a) (I7.mk1 (.ref a)) hN hi (.inl hloc) rfl (fun s8 I8=>?_) (.inr hloc)
  have fin2:∀ (f:Flow) (σ9:St) (H9:Hp) (s9:Kg),Inv X pins σ9 H9 s9->(∀ s10,Inv X pins (σ9.set i none) H9 s10->SP X pins D f s10)->
    wpAny (model X.prog X.w) X.A (do bindName X.env n .none;unbindBehindTheSuite X.env n hpos) (fun _ s10=>SP X pins D f s10) X.xe s9:=fun f σ9 H9 s9 I9 k=>by
   obtain ⟨m,hn9,hl9⟩:=I9.loc
   exact wpAny_nameGoes_keeps hloc hn9 (by rw [I9.ok.kind];rfl) fun h' v hn' hsb=>k _ (I9.gone hN hi hn9 hl9 hn' hsb)
  let D2:Ends:=⟨fun σ9 H9=>∀ s10,Inv X pins (σ9.set i none) H9 s10->SP X pins D .next s10,D.rt,fun σ9 H9=>∀ s10,Inv X pins (σ9.set i none) H9 s10->SP X pins D .brk s10,fun σ9 H9=>∀ s10,Inv X pins (σ9.set i none) H9 s10->SP X pins D .cont s10⟩
  have q2:OutQ X.K G M' Mb L fr D2 o2:=by
   cases o2 with
   | nx ρ9=>exact fun σ9 H9 S9 os9 s10 I10=>⟨_,H9,I10,q _ H9 S9 (OwnS.del (X:=X) os9 hM')⟩
   | rt d=>exact q
   | bk ρ9=>exact fun σ9 H9 S9 os9 s10 I10=>⟨_,H9,I10,q _ H9 S9 (OwnS.del (X:=X) os9 hMb)⟩
   | ct ρ9=>exact fun σ9 H9 S9 os9 s10 I10=>⟨_,H9,I10,q _ H9 S9 (OwnS.del (X:=X) os9 hMb)⟩
  refine K3 (hs (.ref a) pins s8 _ _ D2 I8 ⟨S1,_,o2,os7.setX den hM,e2,q2⟩) (fun f s9 hf=>?_) fun e s z=>(hn e s z).elim
  cases f with
  | next =>
   obtain ⟨σ9,H9,I9,k⟩:=hf
   exact fin2 .next σ9 H9 s9 (I9.unmk1 I1.ok) k
  | brk =>
   obtain ⟨σ9,H9,I9,k⟩:=hf
   exact fin2 .brk σ9 H9 s9 (I9.unmk1 I1.ok) k
  | cont =>
   obtain ⟨σ9,H9,I9,k⟩:=hf
   exact fin2 .cont σ9 H9 s9 (I9.unmk1 I1.ok) k
  | ret v =>
   obtain ⟨y,σ9,H9,I9,r,k⟩:=hf
   exact fin2 (.ret v) σ9 H9 s9 (I9.unmk1 I1.ok) fun s10 I10=>⟨y,_,H9,I10,r,k⟩
end
noncomputable def bTs:List String:=["ValueError"]
noncomputable def xtB (K:Kd)(XS:List (Str×List Str)):Bool:=XS.all fun c=>match Kx K mainGlobals c.1 with
 | some (some (.ref C))=>xcB K C&&catB K C&&(XS.all fun d=>match Kx K mainGlobals d.1 with
   | some (some (.ref D))=>(KS K (.ref C) (.ref D)==some (c.2.contains d.1))&&(VX K C (.ref D)==some (c.2.contains d.1))
   | _=>false)&&bTs.all fun T=>KS K (.ref C) (.type T)==some (c.2.contains (Kb T))
 | _=>false
noncomputable def adr (mg:Str->Option Ke)(c:Str):Kf:=match mg c with
 | some (.ref C)=>C
 | _=>0
structure XTab (K:Kd)(mg:Str->Option Ke)(XS:List (Str×List Str)):Prop where
 nm:∀ c∈XS,mg c.1=some (.ref (adr mg c.1))
 ns:∀ c∈XS,Kx K mainGlobals c.1=some (some (.ref (adr mg c.1)))
 xc:∀ c∈XS,xcB K (adr mg c.1)=true
 cat:∀ c∈XS,catB K (adr mg c.1)=true
 kit:∀ c∈XS,∀ d∈XS,KS K (.ref (adr mg c.1)) (.ref (adr mg d.1))=some (c.2.contains d.1)
 mro:∀ c∈XS,∀ d∈XS,VX K (adr mg c.1) (.ref (adr mg d.1))=some (c.2.contains d.1)
 blt:∀ c∈XS,∀ T∈bTs,KS K (.ref (adr mg c.1)) (.type T)=some (c.2.contains (Kb T))
theorem qiY {K:Kd}{h:KC}  (X:K.In h) (G:h.Ns mainGlobals mg) (e:xtB K XS=true):XTab K mg XS:=by
 have at1:∀ c∈XS,∃ C,Kx K mainGlobals c.1=some (some (.ref C))/\adr mg c.1=C/\mg c.1=some (.ref C)/\xcB K C=true/\catB K C=true/\(∀ d∈XS,∃ D,Kx K mainGlobals d.1=some (some (.ref D))/\KS K (.ref C) (.ref D)=some (c.2.contains d.1)/\VX K C (.ref D)=some (c.2.contains d.1))/\∀ T∈bTs,KS K (.ref C) (.type T)=some (c.2.contains (Kb T)):=fun c hc=>by
  have:=KW.mp e c hc
  split at this
  ·rename_i C hC
   simp only [Kp] at this
   obtain ⟨⟨⟨h1,h2⟩,h3⟩,h4⟩:=this
   have hm:=XA X G hC
   refine ⟨C,hC,by unfold adr;rw [hm],hm,h1,h2,fun d hd=>?_,fun T hT=>beq_iff_eq.mp (KW.mp h4 T hT)⟩
   have:=KW.mp h3 d hd
   split at this
   ·rename_i D hD
    rw [Kp] at this
    exact ⟨D,hD,beq_iff_eq.mp this.1,beq_iff_eq.mp this.2⟩
   ·cases this
  ·cases this
 refine ⟨fun c hc=>?_,fun c hc=>?_,fun c hc=>?_,fun c hc=>?_,fun c hc d hd=>?_,fun c hc d hd=>?_,fun c hc T hT=>?_⟩<;>obtain ⟨C,h1,h2,h3,h4,h5,h6,h7⟩:=at1 c hc
 ·rw [h2];exact h3
 ·rw [h2];exact h1
 ·rw [h2];exact h4
 ·rw [h2];exact h5
 ·obtain ⟨D,g1,g2,_⟩:=at1 d hd
  obtain ⟨D',k1,k2,k3⟩:=h6 d hd
  rw [h2,g2]
  rw [g1] at k1
  cases k1
  exact k2
 ·obtain ⟨D,g1,g2,_⟩:=at1 d hd
  obtain ⟨D',k1,k2,k3⟩:=h6 d hd
  rw [h2,g2]
  rw [g1] at k1
  cases k1
  exact k3
 ·rw [h2];exact h7 T hT
noncomputable def isiN (XS:List (Str×List Str))(ns:List Str):Ka->Option Ka
 | .dict ((.str c,_)::(.int 0,.none)::[])=>ob (XS.find? fun p=>p.1==c) fun p=>some (.bool (ns.any fun n=>p.2.contains n))
 | _=>none
theorem qeC {ns:List Str}(e:isiN XS ns d=some r):∃ c x p,d=excD c x/\p∈XS/\p.1=c/\r=.bool (ns.any fun n=>p.2.contains n):=by
 unfold isiN at e
 split at e
 ·obtain ⟨p,h1,e⟩:=qd e
  cases e
  exact ⟨_,_,p,rfl,UU h1,beq_iff_eq.mp (NV (p:=fun p:Str×List Str=>p.1==_) h1),rfl⟩
 ·cases e
def CNm (X:Cx)(XS:List (Str×List Str))(n:Str)(v:V):Prop:=((∃ p∈XS,p.1=n)/\v=.ref (adr X.mg n))\/∃ T∈bTs,n=Kb T/\v=.ty T
def ClsV (X:Cx)(XS:List (Str×List Str))(ns:List Str)(v:V)(H:Hp):Prop:=(∃ n,ns=[n]/\CNm X XS n v)\/∃ p vs,v=.ref p/\SqT X.K H p vs/\Vz (CNm X XS) ns vs
def PCl (X:Cx)(XS:List (Str×List Str))(ns:List Str)(b:Ky):Prop:=PE X b (fun _ H Q=>∀ v H',Same H H'->ClsV X XS ns v H'->Q v H')
def PCls (X:Cx)(XS:List (Str×List Str))(ns:List Str)(es:List Ky):Prop:=PA X es (fun _ H Q=>∀ vs,Vz (CNm X XS) ns vs->Q vs H)
noncomputable def rIsiN (X:Cx)(XS:List (Str×List Str)):List V->Hp->VK->Prop:=fun vs H Q=>∃ a c p ns v,vs=[.ref a,v]/\ExcH X.K H a c/\p∈XS/\p.1=c/\ClsV X XS ns v H/\Q (.bl (ns.any fun n=>p.2.contains n)) H
section
variable {X:Cx}{XS:List (Str×List Str)}{ns:List Str}{n:Str}{M:List Nat}{a b:Ky}{es:List Ky}{fa:Rho->Option Ka}{pos p1:Pos}
theorem qak {K:Kd}{t:Ke}{f:Str->Bool}:∀ {ns:List Str} {us:List Ke},Vz (fun n u=>KS K t u=some (f n)) ns us->PySem.W.kitAny K t us=some (ns.any f)
 | _,_,.nil=>rfl
 | n::ns,u::us,.cons h r=>by
  rw [PySem.W.kitAny,h,Uz]
  cases hf:f n with
  | true=>rfl
  | false=>exact qak r
theorem qf0 (T:XTab X.K X.mg XS){p:Str×List Str}(hp:p∈XS)(h:CNm X XS n v)(r:RelV v u):KS X.K (.ref (adr X.mg p.1)) u=some (p.2.contains n):=by
 rcases h with ⟨⟨d,hd,rfl⟩,rfl⟩|⟨t,ht,rfl,rfl⟩
 ·cases (show u=KR _ from r)
  exact T.kit p hp d hd
 ·cases (show u=V5 _ from r)
  exact T.blt p hp t ht
theorem qdN (T:XTab X.K X.mg XS){p:Str×List Str}(hp:p∈XS):∀ {ns:List Str} {vs:List V} {us:List Ke},Vz (CNm X XS) ns vs->Vals vs us->Vz (fun n u=>KS X.K (.ref (adr X.mg p.1)) u=some (p.2.contains n)) ns us
 | _,_,_,.nil,.nil=>.nil
 | _,_,_,.cons h t,.cons r q=>.cons (qf0 T hp h r) (qdN T hp t q)
theorem qel (T:XTab X.K X.mg XS):Zb X (.builtin "isinstance") (rIsiN X XS):=by
 intro pins s σ H xs us Q I r h
 obtain ⟨a,c,p,ns,v,rfl,hx,hp,hc,hv,q⟩:=h
 obtain ⟨u,u',rfl,ru,rv⟩:=r.two
 cases (show u=KR a from ru)
 obtain ⟨C,h3,h4,IA⟩:=I.excAt hx
 rw [← hc,T.ns p hp] at h3
 cases h3
 have fin:∀ tk,EP X pins σ Q (.bool (ns.any fun n=>p.2.contains n)) { s with toks:=tk }:=fun tk=>⟨.bl _,H,I.tok tk,rfl,q⟩
 rcases hv with ⟨n,rfl,hn⟩|⟨t,vs,rfl,ht,hvs⟩
 ·refine K9 (wV (JS h4)) I.kIn IA ?_ (fun z=>nomatch z) fin
  rw [qf0 T hp hn rv,Uz,List.any_nil,Bool.or_false]
 ·cases (show u'=KR t from rv)
  obtain ⟨its,r',⟨o,e1,e2,n',e3⟩,_⟩:=I.tuple ht
  obtain ⟨oc,od,oa,os⟩:=o
  dsimp only at e2 e3
  subst e2 e3
  exact PySem.W.kia_tup (wV (JS h4)) I.kIn IA e1 (qak (qdN T hp hvs r')) (fun z=>nomatch z) fin
theorem qim (T:XTab X.K X.mg XS)(hg:Gl X n)(hn:(XS.any fun p=>p.1==n)=true:=by decide +kernel)(hd:(n==("__debug__" : Str))=false:=by decide +kernel):PCl X XS [n] (.Name n pos):=by
 obtain ⟨p,hp,e⟩:=X1.mp hn
 have e:=beq_iff_eq.mp e
 subst e
 exact (YW (v:=.ref (adr X.mg p.1)) hg (T.nm p hp) rfl hd).weak fun σ H Q h=>h _ H (Same.refl H) (.inl ⟨_,rfl,.inl ⟨⟨p,hp,rfl⟩,rfl⟩⟩)
theorem qil (hT:T∈bTs)(hg:Gl X (Kb T))(hm:X.mg (Kb T)=none)(hv:bootBuiltins (Kb T)=some (.type T))(hn:Kb T ≠ "__name__" := by decide +kernel)(hd:(Kb T==("__debug__" : Str))=false:=by decide +kernel):PCl X XS [Kb T] (.Name (Kb T) pos) :=
 (qd1 (v:=.ty T) hg hm hv rfl hn hd).weak fun σ H Q h=>h _ H (Same.refl H) (.inl ⟨_,rfl,.inr ⟨T,hT,rfl,rfl⟩⟩)
theorem qcd:PCls X XS [] []:=Yk.weak fun σ H Q h=>h [] .nil
theorem zX (T:XTab X.K X.mg XS)(hg:Gl X n)(h:PCls X XS ns es)(hn:(XS.any fun p=>p.1==n)=true:=by decide +kernel)(hd:(n==("__debug__" : Str))=false:=by decide +kernel)(hs:starEach (.Name n pos::es) X.env=(false,eval (.Name n pos) X.env)::starEach es X.env:=by rfl):PCls X XS (n::ns) (.Name n pos::es):=by
 obtain ⟨p,hp,e⟩:=X1.mp hn
 have e:=beq_iff_eq.mp e
 subst e
 exact (Qu (YW (v:=.ref (adr X.mg p.1)) hg (T.nm p hp) rfl hd) h hs).weak fun σ H Q h vs hv=>h _ (.cons (.inl ⟨⟨p,hp,rfl⟩,rfl⟩) hv)
theorem qdV {k}(h:PCls X XS ns es)(hl:ns.length<=1000:=by decide):PCl X XS ns (.Tuple es k pos) :=
 (qgx h).weak fun σ H Q q vs hv=>⟨VI (zj (by rw [← Paired.length hv];exact hl)),fun p hp=>q _ _ (Same.lay hp) (.inr ⟨p,vs,rfl,SqT.of qH,hv⟩)⟩
theorem YT (T:XTab X.K X.mg XS)(hg:Gl X "isinstance")(hm:X.mg "isinstance" = none)(hv:bootBuiltins "isinstance" = some (.builtin "isinstance"))(ha:PD X M a fa)(hb:PCl X XS ns b)
  (he:starEach [a,b] X.env=(false,eval a X.env)::starEach [b] X.env:=by rfl) (hpl:(backTo pos (starEach [b] X.env)).any (·.1)=false:=by rfl) (hs2:starEach [b] X.env=(false,eval b X.env)::starEach [] X.env:=by rfl) :
  PD X M (.Call (.Name "isinstance" p1) [a,b] [] pos) (ev1 fa (isiN XS ns)) :=
 (yx (qel T) hg hm hv (Qu ha (Qu hb Yk hs2) he) (by decide +kernel) (by decide +kernel) he hpl).weak fun σ H Q ⟨S,ρ,d,hs,e,q⟩=>by
  obtain ⟨x,e1,e⟩:=qd e
  obtain ⟨c,y,p,rfl,hp,hc,rfl⟩:=qeC e
  refine ⟨S,ρ,_,hs,e1,fun v H1 g1 d1 v2 H2 g2 hv2=>?_⟩
  obtain ⟨a',rfl,o,ho,hx⟩:=d1.exc
  exact ⟨a',c,p,ns,v2,rfl,⟨o,g2 _ _ ho,hx⟩,hp,hc,hv2,q _ H2 (g1.trans g2) (.bool _)⟩
end
structure RoomM (k:Nat)(A:KF):Prop where
 dp:A.depth+3*k+5<recursionLimit
 un:A.units+16*k+200<cLine
theorem Room.m {A:KF}(r:Room k A)(e:Option Ke):RoomM k (A.mark e):=⟨r.dp,r.un⟩
theorem RoomM.mono (r:RoomM k A)(h:j<=k):RoomM j A:=⟨by have:=r.dp;omega,by have:=r.un;omega⟩
structure FnOkM (P:Ku)(w:KI)(K:Kd)(mg:Str->Option Ke)(base:KC)(k:Nat)(f:Kf)(fd:K7)(ps:List Str)(sp:Sp):Prop where
 len:∀ vs H Q E,sp vs H Q E->vs.length=ps.length
 run:∀ (A:KF) (outer:List Env) (s:Kg) (H:Hp) (args:Args) (us:List Ke) (vs:List V) (Q:VK) (E:XK),RoomM k A->Env0 P w K mg base A outer s H->BindsTo s fd args (ps.zip us)->Vals vs us->sp vs H Q E->
  codeAny (model P w) A (.call (.ref f) args) (CR CX0 outer P w H s Q E) s
noncomputable def cxM (P:Ku)(w:KI)(K:Kd)(mg:Str->Option Ke)(base:KC)(N:List Str)(qual:Str)(scope:Ua)(f:Kf)(cd:Ke)(A:KF)(outer:List Env)(s:Kg)(H:Hp)(E:XK):Cx :=
 { (cxOf CX0 P w K mg base N qual scope f cd A outer s H E).nox with calm:=false }
structure KnownM (P:Ku)(w:KI)(K:Kd)(mg:Str->Option Ke)(base:KC)(x:Str)(n k:Nat)(h:List Ka->Option Ka):Prop where
 ex:∃ (f:Kf) (fd:K7) (ps:List Str),FnOkM P w K mg base k f fd ps (spF K n h)/\mg x=some (.ref f)/\Vf K (.ref f)=true/\Binds K fd ps []
section
variable {P:Ku}{w:KI}{K:Kd}{mg:Str->Option Ke}{base:KC}
theorem Fun.pureM {x qual:Str}{st:KM}{f:Kf}{fd:K7}{N ps:List Str}{k n:Nat}{u:Rho->Option Out}{M':List Nat}(F:Fun K x qual st f fd)(S:FnScope N ps (qe st))(hn:ps.length=n)
  (hbody:∀ (cdv:Ke) (A:KF) (outer:List Env) (s:Kg) (H:Hp) (E:XK),RoomM k (A.deeper (envOfC qual (qe st) s.heap.objs.size f cdv))->∀ G:Gm,
   PDSs (cxM P w K mg base N qual (qe st) f cdv A outer s H E) G [] [] M' [] .pl (zp st) u) :
  FnOkM P w K mg base (k+1) f fd ps (spF K n fun ds=>ob (u (rho0 N.length ds)) outD):=by
 obtain ⟨oc,dV,od,kV,doc,pm,an,cdv,ct,osl,rfl,lk,hcd⟩:=F.g.ex
 have len:∀ vs H Q E,spF K n (fun ds=>ob (u (rho0 N.length ds)) outD) vs H Q E->vs.length=ps.length:=fun vs H Q E h=>by
  obtain ⟨_,ds,d,_,h1,h2,_⟩:=h
  rw [h1.length,h2,hn]
 refine ⟨len,fun A outer s H args us vs Q E hr e0 hb r hsp=>?_⟩
 have hl:=len _ _ _ _ hsp
 have KX:K.In s.heap:=e0.mod.kin.keeps fun b o e=>(e0.bs b o e).1
 have lim:s.heap.NoLimit:=e0.mod.nolimit.keeps fun b o e=>(e0.bs b o e).1
 have hkind:∀ y∈ps.zip us,(qe st).names.lookup y.1=some .local\/((qe st).names.lookup y.1=some .cell/\((cellsFrom (s.heap.objs.size+1) (qe st).names []).lookup y.1).isSome=true):=fun ⟨n,v⟩ hy=>by
  rcases S.par n (NM hy).1 with q|q
  ·exact .inl q
  ·exact .inr ⟨q,Nw _ _ _ (.inl q)⟩
 refine codeAny_call_function (by have:=hr.dp;omega) (KX _ _ lk) rfl S.co S.gen rfl (Fg KX hcd) (hb _ _ _ _ ?_)
 refine Ee S.kind hkind fun env he s1 x=>?_
 subst he
 refine ⟨lim.keeps x.toInCall.keep,codeAny_func ?_⟩
 obtain ⟨Sv,ds,d,m,h1,h2,e,q⟩:=hsp
 obtain ⟨o,e1,e⟩:=qd e
 have hr':RoomM k (A.deeper (envOfC qual (qe st) s.heap.objs.size f cdv)):=⟨by have:=hr.dp;show A.depth+1+3*k+5<_;omega,by have:=hr.un;show A.units+3+16*k+200<_;omega⟩
 have I0:Inv (cxOf CX0 P w K mg base N qual (qe st) f cdv { A with handled:=none } outer s H E) [] (start N vs) H s1:=qah S rfl ⟨e0.frames,e0.mod,e0.bs,e0.bsz,e0.funs,e0.frf,e0.hok,e0.bare⟩ hl r x
 have I:Inv (cxM P w K mg base N qual (qe st) f cdv A outer s H E) [] (start N vs) H s1 :=
  ⟨⟨I0.ok.mod,I0.ok.kind,I0.ok.glob,I0.ok.blt,I0.ok.above,I0.ok.inj,I0.ok.has,I0.ok.cab,(fun z=>nomatch z),I0.ok.frames,I0.ok.stk,I0.ok.exf,I0.ok.bs,I0.ok.bsz,I0.ok.noex,I0.ok.exfs,I0.ok.funs,I0.ok.frf⟩,I0.os,I0.bare,I0.base,I0.loc,I0.cell,I0.free,I0.freeC,I0.pin,I0.hok,I0.len⟩
 have q':OutQ K (G0 H Sv) M' [] [] .pl { nx:=fun _ H'=>Q .non H',rt:=Q } o:=by
  cases o with
  | rt r=>cases e;exact q
  | nx ρ=>cases e;exact fun σ' H' S' hs=>q _ H' hs.h0 .none
  | bk ρ=>cases e
  | ct ρ=>cases e
 refine K3 (hbody cdv A outer s H E hr' (G0 H Sv) [] s1 (start N vs) H _ I ⟨Sv,rho0 N.length ds,o,OwnS.start m h1 N,e1,q'⟩) (fun fl s' hs=>?_) fun e s' hs=>hs.elim
 cases fl with
 | ret u=>obtain ⟨v,σ',H',J,rv,q⟩:=hs;exact ⟨v,H',J.os,J.bare,J.base,J.hok,rv,q⟩
 | next=>obtain ⟨σ',H',J,q⟩:=hs;exact ⟨V.non,H',J.os,J.bare,J.base,J.hok,rfl,q⟩
 | brk=>obtain ⟨_,_,_,q⟩:=hs;exact VH q
 | cont=>obtain ⟨_,_,_,q⟩:=hs;exact VH q
end
section
variable {X:Cx}{M:List Nat}{a:Ky}{es:List Ky}{pos:Pos}
theorem qau {p:Pos}  (F:KnownM X.prog X.w X.K X.mg X.base x n k h) (hr:RoomM k' X.A) (hk:k<=k') (hg:Gl X x) (ha:PDA X M (a::es) fs) (hl:(a::es).length=n)
  (hdb:(x==("__debug__" : Str))=false:=by decide +kernel) (he:starEach (a::es) X.env=(false,eval a X.env)::starEach es X.env:=by rfl) (hpl:(backTo pos (starEach es X.env)).any (·.1)=false:=by rfl) :
  PD X M (.Call (.Name x p) (a::es) [] pos) (evC n fs h):=by
 obtain ⟨f,fd,ps,F,hm,kp,hb⟩:=F.ex
 intro pins s σ H Q I ⟨S,ρ,d,hs,e,q⟩
 obtain ⟨ds,e1,e⟩:=qd e
 have e:(if ds.length=n then h ds else none)=some d:=e
 split at e
 case isFalse=>cases e
 rename_i hn
 refine Uu (Zq I hg hm ?_ hdb)
 refine Xl (h₀:=X.base) I.ok.mod.kin kp (thn (ha pos pins s σ H (fun vs H1=>Same H H1/\DenL X.K H1 S vs ds) I ⟨S,ρ,ds,hs,e1,fun vs H1 g1 d1=>⟨g1,d1⟩⟩) fun us s1 ⟨vs,H1,I1,r,g1,d1⟩=>⟨I1.kIn,?_⟩) he hpl
 have hsp:spF X.K n h vs H1 Q E0:=⟨S,ds,d,hs.1.same g1,d1,hn,e,fun v H' g2 dv=>q v H' (g1.trans g2) dv⟩
 have hlen:(us++[]).length=ps.length:=by rw [Vd,← r.length];exact F.len _ _ _ _ hsp
 refine Np (Ng (F.run X.A X.stack s1 H1 ⟨us,[]⟩ us vs Q E0 (hr.mono hk) I1.env0 (by have:=hb s1 us I1.kIn hlen;rwa [Vd] at this) r hsp) fun r s' hq=>?_)
 cases r with
 | error e=>exact hq.elim
 | ok fl =>
  cases fl with
  | ret u=>exact I1.after hq
  | next=>exact VH hq
  | brk=>exact VH hq
  | cont=>exact VH hq
end
noncomputable def vBM:List Ke:=[.type "ValueError", .type "Exception", .type "BaseException", .type "object"]
section
variable {K:Kd}{mg:Str->Option Ke}{XS:List (Str×List Str)}{c cn:Str}{cs:List Str}
theorem XTab.has (h:(XS.any fun p=>p.1==c)=true):∃ p∈XS,p.1=c:=by
 obtain ⟨p,hp,e⟩:=X1.mp h
 exact ⟨p,hp,beq_iff_eq.mp e⟩
theorem XTab.mg1 (T:XTab K mg XS)(h:(XS.any fun p=>p.1==c)=true):mg c=some (.ref (adr mg c)):=by
 obtain ⟨p,hp,rfl⟩:=XTab.has h
 exact T.nm p hp
theorem XTab.cat1 (T:XTab K mg XS)(h:(XS.any fun p=>p.1==c)=true):catB K (adr mg c)=true:=by
 obtain ⟨p,hp,rfl⟩:=XTab.has h
 exact T.cat p hp
theorem XTab.cs1 (T:XTab K mg XS)(h:(XS.any fun p=>p.1==cn)=true)(hc:(cs.all fun c=>XS.any fun p=>p.1==c&&p.2.contains cn)=true):∀ c∈cs,∀ C,XCls K c C->VX K C (.ref (adr mg cn))=some true:=by
 intro c hm C hC
 obtain ⟨p,hp,e⟩:=X1.mp (KW.mp hc c hm)
 rw [Kp] at e
 have e1:=beq_iff_eq.mp e.1
 subst e1
 obtain ⟨d,hd,rfl⟩:=XTab.has h
 have:=(T.ns p hp).symm.trans hC.1
 cases this
 rw [T.mro p hp d hd,e.2]
end
theorem qkJ   (h:w ρ=none):sTry u w cs i uh ρ=u ρ:=by unfold sTry;rw [h]
theorem qkK {cs:List Str}  {ρ ρ':Rho}  (h:w ρ=some (excD c d,ρ')) (hc:cs.contains c=true):sTry u w cs i uh ρ=ob (uh (ρ'.set i (some (excD c d)))) fun o=>some (qgh i o):=by
 unfold sTry
 rw [h]
 show (if cs.contains c=true then _ else _)=_
 rw [if_pos hc]
noncomputable def noTs:List String:=["NoneType", "int", "bool", "tuple", "list", "str"]
noncomputable def ctB (K:Kd)(CS:List (Str×List Str)):Bool:=CS.all fun c=>match Kx K mainGlobals c.1 with
 | some (some (.ref C))=>icB K C&&NK K C&&(KO K (.ref C) "__init__" == some (some (.builtin "object.__init__")))&&Vf K (.ref C)&&(noTs.all fun T=>KS K (.type T) (.ref C)==some false)&&(CS.all fun d=>match Kx K mainGlobals d.1 with
   | some (some (.ref D))=>KS K (.ref C) (.ref D)==some (c.2.contains d.1)
   | _=>false)
 | _=>false
structure CTab (K:Kd)(mg:Str->Option Ke)(CS:List (Str×List Str)):Prop where
 nm:∀ c∈CS,mg c.1=some (.ref (adr mg c.1))
 ns:∀ c∈CS,Kx K mainGlobals c.1=some (some (.ref (adr mg c.1)))
 ic:∀ c∈CS,icB K (adr mg c.1)=true
 mkk:∀ c∈CS,NK K (adr mg c.1)=true
 ini:∀ c∈CS,KO K (.ref (adr mg c.1)) "__init__" = some (some (.builtin "object.__init__"))
 kp:∀ c∈CS,Vf K (.ref (adr mg c.1))=true
 no:∀ c∈CS,∀ T∈noTs,KS K (.type T) (.ref (adr mg c.1))=some false
 kit:∀ c∈CS,∀ d∈CS,KS K (.ref (adr mg c.1)) (.ref (adr mg d.1))=some (c.2.contains d.1)
theorem qhv {K:Kd}{h:KC}  (X:K.In h) (G:h.Ns mainGlobals mg) (e:ctB K CS=true):CTab K mg CS:=by
 have at1:∀ c∈CS,∃ C,Kx K mainGlobals c.1=some (some (.ref C))/\adr mg c.1=C/\mg c.1=some (.ref C)/\icB K C=true/\NK K C=true/\KO K (.ref C) "__init__" = some (some (.builtin "object.__init__"))/\Vf K (.ref C)=true/\(∀ T∈noTs,KS K (.type T) (.ref C)=some false)/\∀ d∈CS,∃ D,Kx K mainGlobals d.1=some (some (.ref D))/\KS K (.ref C) (.ref D)=some (c.2.contains d.1):=fun c hc=>by
  have:=KW.mp e c hc
  split at this
  ·rename_i C hC
   simp only [Kp] at this
   obtain ⟨⟨⟨⟨⟨h1,h2⟩,h3⟩,h4⟩,h5⟩,h6⟩:=this
   have hm:=XA X G hC
   refine ⟨C,hC,by unfold adr;rw [hm],hm,h1,h2,beq_iff_eq.mp h3,h4,fun T hT=>beq_iff_eq.mp (KW.mp h5 T hT),fun d hd=>?_⟩
   have:=KW.mp h6 d hd
   split at this
   ·rename_i D hD
    exact ⟨D,hD,beq_iff_eq.mp this⟩
   ·cases this
  ·cases this
 refine ⟨fun c hc=>?_,fun c hc=>?_,fun c hc=>?_,fun c hc=>?_,fun c hc=>?_,fun c hc=>?_,fun c hc T hT=>?_,fun c hc d hd=>?_⟩<;>obtain ⟨C,h1,h2,h3,h4,h5,h6,h7,h8,h9⟩:=at1 c hc
 ·rw [h2];exact h3
 ·rw [h2];exact h1
 ·rw [h2];exact h4
 ·rw [h2];exact h5
 ·rw [h2];exact h6
 ·rw [h2];exact h7
 ·rw [h2];exact h8 T hT
 ·obtain ⟨D,g1,g2,_⟩:=at1 d hd
  obtain ⟨D',k1,k2⟩:=h9 d hd
  rw [h2,g2]
  rw [g1] at k1
  cases k1
  exact k2
noncomputable def objN:Ka->Option Str
 | .dict ((.str c,.none)::(.int 1,.none)::[])=>some c
 | _=>none
theorem qeX (e:objN d=some c):d=objD c:=by
 unfold objN at e
 split at e
 ·cases e;rfl
 ·cases e
section
variable {X:Cx}{CS:List (Str×List Str)}{n:Str}{M:List Nat}{a b o e:Ky}{es:List Ky}{f fa fo:Rho->Option Ka}{fs:Rho->Option (List Ka)}{pos p1 p2 apos:Pos}
theorem qbg (T:CTab X.K X.mg CS)(hg:Gl X n)(hn:(CS.any fun p=>p.1==n)=true:=by decide +kernel)(hd:(n==("__debug__" : Str))=false:=by decide +kernel):PD X M (.Call (.Name n p1) [] [] pos) (kd (objD n)):=by
 obtain ⟨p,hp,e⟩:=X1.mp hn
 have e:=beq_iff_eq.mp e
 subst e
 intro pins s σ H Q I ⟨S,ρ,d,hs,e,q⟩
 cases e
 refine Uu (Zq I hg (T.nm p hp) ?_ hd)
 refine PySem.W.callWith_K0 I.kIn (T.kp p hp) (Np (qeU I.kIn (T.mkk p hp) (T.ini p hp) (fun self=>Ft (PySem.W.oi_bind self)) ?_))
 have I2:=Inv.made (C:=adr X.mg p.1) I
 have Y:=PySem.W.makes_of (M:=model X.prog X.w) I.kIn (T.mkk p hp)
 have hx:((s.heap.push Vu).push (V7 (adr X.mg p.1) s.heap.objs.size)).get? (s.heap.objs.size+1)=some (V7 (adr X.mg p.1) s.heap.objs.size):=by
  have:=Kz (s.heap.push Vu) (o:=V7 (adr X.mg p.1) s.heap.objs.size) rfl
  rwa [Vb] at this
 have t2:UH (model X.prog X.w) ((s.heap.push Vu).push (V7 (adr X.mg p.1) s.heap.objs.size)) (isInstance (.ref (s.heap.objs.size+1)) (.type "object")) true :=
  ((XJ hx).andThen .now).andThen (Y.top.keeps fun b o e=>Kh _ (Kh _ e))
 refine UX PySem.W.oi_plain PySem.W.entry_oi (@Fk (model X.prog X.w) _ _ _ "object.__init__" "object" "__init__" (.ref (s.heap.objs.size+1)) [] [] _ PySem.W.oi_kind PySem.W.oi_split t2 (PySem.W.oi_args _) ?_)
 rw [PySem.W.oi_run]
 have n1:H s.heap.objs.size=none:=I.hok.fresh (Kr _)
 have n2:upd H s.heap.objs.size (.own (s.heap.objs.size+1)) (s.heap.objs.size+1)=none:=by
  rw [qC (X0 _)]
  exact I.hok.fresh (UW _)
 exact Kl ⟨rfl,⟨.ref (s.heap.objs.size+1),_,I2,rfl,q _ _ ((Same.lay n1).lay' n2) (.ins qH ⟨T.ns p hp,T.ic p hp⟩)⟩⟩
noncomputable def mtD (tab:List (Str×(List Ka->Option Ka))):List Ka->Option Ka
 | d::ds=>ob (objN d) fun c=>ob (tab.find? fun p=>p.1==c) fun p=>p.2 (d::ds)
 | []=>none
theorem qgd  (e:mtD tab (d::ds)=some r):∃ c h,d=objD c/\(c,h)∈tab/\h (d::ds)=some r:=by
 obtain ⟨c,e1,e⟩:=qd (show ob (objN d) _=some r from e)
 obtain ⟨⟨c',h⟩,e2,e3⟩:=qd e
 have:=beq_iff_eq.mp (NV (p:=fun p:Str×(List Ka->Option Ka)=>p.1==_) e2)
 dsimp only at this
 subst this
 exact ⟨c',h,qeX e1,UU e2,e3⟩
def qhc (P:Ku)(w:KI)(K:Kd)(mg:Str->Option Ke)(base:KC)(m:Str)(n k:Nat)(c:Str)(h:List Ka->Option Ka):Prop :=
 ∃ (C f:Kf) (fd:K7) (ps:List Str) (k0:Nat),Kx K mainGlobals c=some (some (.ref C))/\Meth K C m f/\k0<=k/\FnOk P w K mg base CX0 k0 f fd ps (spF K n h)/\Binds K fd ps []
structure KnownC (P:Ku)(w:KI)(K:Kd)(mg:Str->Option Ke)(base:KC)(m:Str)(n k:Nat)(tab:List (Str×(List Ka->Option Ka))):Prop where
 ex:∀ p∈tab,qhc P w K mg base m n k p.1 p.2
theorem qgn  {pl:Sem Bool} (F:KnownC X.prog X.w X.K X.mg X.base m j k tab) (hr:Room k' X.A) (hk:k<=k') (ho:PD X M o fo) (ha:PDA X M (e::es) fs)
  (hst:starEach (e::es) X.env=(false,eval e X.env)::starEach es X.env:=by rfl) (hpl:(backTo pos (starEach es X.env)).any (·.1)=false:=by rfl)
  (ht:eval (.Call (.Attribute o m apos) (e::es) [] pos) X.env=(do
   let ov ← eval o X.env
   standAt apos.atName
   let (f,first) ← holding [ov] (getMethod ov m pl)
   callWith pos f first (backTo pos (starEach (e::es) X.env)) (backToKw pos (keywordEach [] X.env))):=by rfl) :
  PD X M (.Call (.Attribute o m apos) (e::es) [] pos) (evC j (aC fo fs) (mtD tab)):=by
 intro pins s σ H Q I ⟨S,ρ,r,hs,e,q⟩
 obtain ⟨ds,e1,e⟩:=qd e
 obtain ⟨d,e2,e1⟩:=qd e1
 obtain ⟨ds',e3,e1⟩:=qd e1
 cases e1
 have e:(if (d::ds').length=j then mtD tab (d::ds') else none)=some r:=e
 split at e
 case isFalse=>cases e
 rename_i hl
 obtain ⟨c,h,rfl,hc,e⟩:=qgd e
 obtain ⟨C,f,fd,ps,k0,hC,hm,hk0,F,hb⟩:=F.ex _ hc
 refine E2 (pl:=pl) (thn (ho pins s σ H (fun v H1=>Same H H1/\Den X.K H1 S v (objD c)) I ⟨S,ρ,_,hs,e2,fun v H1 g1 d1=>⟨g1,d1⟩⟩) fun u s1 ⟨x,H1,I1,rx,g1,d1⟩=>?_) ht
 obtain ⟨a,dx,C',rfl,ea,hC',hic⟩:=d1.ins_inv
 rw [hC] at hC'
 cases hC'
 obtain rfl:u=KR a:=rx
 refine qcG I1 ea (qcI hic).cl hm rfl ?_
 refine Xl (first:=[.ref a]) (h₀:=X.base) I.ok.mod.kin hm.kp (thn (ha pos pins s1 σ H1 (fun vs H2=>Same H1 H2/\DenL X.K H2 S vs ds') I1 ⟨S,ρ,_,hs.same g1,e3,fun vs H2 g2 d2=>⟨g2,d2⟩⟩) fun us s2 ⟨vs,H2,I2,r,g2,d2⟩=>⟨I2.kIn,?_⟩) hst hpl
 exact qgQ (us:=.ref a::us) (vs:=.ref a::vs) F (hr.mono (Vo hk0 hk)) hb .nil qdU I2 (.cons rfl r) ⟨S,_,_,(hs.1.same g1).same g2,by rw [Vd];exact .cons (d1.same g2) d2,hl,e,fun v H' g3 d3=>q v H' ((g1.trans g2).trans g3) d3⟩
end
def MthK (K:Kd)(c m qual:Str)(st:KM):Prop:=∃ (C f:Kf) (fd:K7),Kx K mainGlobals c=some (some (.ref C))/\Meth K C m f/\Fun K m qual st f fd
theorem MthK.of {K:Kd}{c m qual:Str}{st:KM}{C f:Kf}{oc:Ke}{od an:Option Kf}{osl:Array (Option Ke)}{kV doc pm cdv ct:Ke}(a:Kx K mainGlobals c=some (some (.ref C)))(g:KO K (.ref C) m=some (some (.ref f)))(i:Nf K (.ref f)=true)
  (l:K.lookup f=some ⟨oc,od,.func (Uv m qual (Q5 st) (zp st) (qe st) .none kV doc pm an cdv ct),osl⟩) (d:Xa K cdv qual=true) (k:Vf K (.ref f)=true):MthK K c m qual st:=⟨C,f,_,a,⟨g,i,k⟩,qaY l d k⟩
noncomputable def clsB:KM->List KM
 | .ClassDef _ _ _ body ..=>body
 | _=>[]
noncomputable abbrev tuO (l:List Ke):Obj:={ cls:=.type "tuple", data:=.seq l.toArray }
noncomputable abbrev mkH (h:KC)(C:Kf)(l:List Ke):KC:=(h.push (tuO l)).push (exO C none h.objs.size)
theorem j7 {h:KC}  : ∀ b o,h.get? b=some o->(mkH h C l).get? b=some o:=fun _ _ e=>Kh _ (Kh _ e)
theorem qjd {h:KC}  : (mkH h C l).get? (h.objs.size+1)=some (exO C none h.objs.size):=by
 have z:=Kz (h.push (tuO l)) (o:=exO C none h.objs.size) rfl
 rwa [Vb] at z
section
variable {prog:Ku}{w:KI}{A:KF}{E:Ke->Kg->Prop}{s:Kg}{K:Kd}{C:Kf}{env:Env}
theorem qe8 {x:Sem Ke}{Q:Flow->Kg->Prop}(Z:XcK K C)(hct:Xw K (.ref C)=some (.type "type"))(hh:A.handled=none)
  (h:wpAny (model prog w) A x (fun v s₁=>∃ e od t,v=.ref e/\K.In s₁.heap/\s₁.heap.get? e=some (exO C od t)/\E (.ref e) s₁) E s):wpAny (model prog w) A (raiseStmt env (some x) none) Q E s:=by
 unfold raiseStmt
 refine Kc (K3 h (fun v s₁ ⟨e,od,t,ev,X,he,hE⟩=>?_) fun _ _ z=>z)
 subst ev
 obtain ⟨hp,g,d,tk,os⟩:=s₁
 have L1:=Xv (M:=model prog w) X Z.mb
 obtain ⟨oc,hc,hcc⟩:∃ o,hp.get? C=some o/\o.cls=.type "type" := by
  unfold Xw at hct
  obtain ⟨o,ho,hcc⟩:=EU.mp hct
  exact ⟨o,X _ _ ho,hcc⟩
 repeat (first|with_reducible refine Xp he ?_|with_reducible refine PySem.W.Looks.at (by assumption) ?_|(with_reducible refine Xp hc ?_;rw [hcc])|wp_step)
 exact wpAny_raiseNew_none hh hE
end
section
variable {prog:Ku}{w:KI}{A:KF}{E:Ke->Kg->Prop}{h:KC}{g:Array GenState}{d:Drawn}{t:Nat}{os:OsState}
variable {nm q:Str}{C N:Kf}{bs bm bmB:List Ke}{hdct:Bool}{sn:List Str}{sub:List Ke}{ab:Bool}{col:Option Bool}{dd:Option Kf}{k0 k1 k2 k3 k5:Option Ke}{B newId initId:String}
theorem qcX (F:ExcBaseFacts B newId initId bmB)(T:OwnTail h bmB bm){rest:List Ke}{oI:Obj}{Q:Fin->Kg->Prop}(hC:h.get? C=some (excClassObj nm q C N bs bm hdct sn sub ab col dd k0 k1 k2 k3 k5 newId))(hn:h.Ns N mN)(hi:mN "__init__" = some (.ref fI))(hf:h.get? fI=some oI)(hfc:oI.cls=.type "function")
  (hq:wpAny (model prog w) A (call (.ref fI) (.ref (h.objs.size+1)::rest)) (fun r s'=>r=.none/\Q (.done (.ret (.ref (h.objs.size+1)))) s') E ⟨mkH h C rest,g,d,t,os⟩) (hz:rest.length<=sizeLine) :
  wpAny (model prog w) A (UA.«type.__call__» ⟨.ref C::rest,[]⟩) Q E ⟨h,g,d,t,os⟩:=by
 repeat (first|with_reducible refine Xp hC ?_|with_reducible refine wpAny_madeBy_exc hC ?_|wp_step)
 refine codeAny_call_builtin_code (Code.quiet_builtin _ F.quiet) (wpAny_check_new_subT F T hC (codeAny_exc_new_subT F T hC ?_ hz))
 show wpAny _ _ _ _ _ ⟨mkH h C rest,g,d,t,os⟩
 have c1:=j7 (C:=C) (l:=rest) _ _ hC
 have f1:=j7 (C:=C) (l:=rest) _ _ hf
 have n1:(mkH h C rest).Ns N mN:=hn.keeps j7
 have e1:=qjd (h:=h) (C:=C) (l:=rest)
 have t1:=T.keeps (h':=mkH h C rest) j7
 have cc:(KR C::bm).contains (.ref C)=true:=by simp
 unfold isInstance
 repeat (first|with_reducible refine Xp e1 ?_|(with_reducible refine wpAny_isSubtype_exc c1 ?_;rw [cc])|wp_step)
 show wpAny _ _ (typeLookup (.ref C) _) _ _ _
 refine wpAny_typeLookup_tail c1 n1 t1 F.mroIs F.init.lookup ?_
 rw [hi]
 unfold bindSpecial
 refine VG (Kc (Kc (wpAny_typeOf (T := "function") ⟨_,f1,hfc⟩ ?_)))
 rw [if_pos (by decide)]
 refine Kl (Kc (K3 hq (fun r s' ⟨hr,z⟩=>?_) fun _ _ z=>z))
 subst hr
 wp_walk
 exact z
theorem qeT (F:ExcBaseFacts B newId initId bmB)(T:OwnTail h bmB bm){rest:List Ke}{oI:Obj}{Q:Ke->Kg->Prop}(hC:h.get? C=some (excClassObj nm q C N bs bm hdct sn sub ab col dd k0 k1 k2 k3 k5 newId))(hn:h.Ns N mN)(hi:mN "__init__" = some (.ref fI))(hf:h.get? fI=some oI)(hfc:oI.cls=.type "function")
  (hq:wpAny (model prog w) (A.under (.builtin "type.__call__" ⟨.ref C::rest,[]⟩)) (call (.ref fI) (.ref (h.objs.size+1)::rest)) (fun r s'=>r=.none/\Q (.ref (h.objs.size+1)) s') E ⟨mkH h C rest,g,d,t,os⟩) (hz:rest.length<=sizeLine) :
  wpAny (model prog w) A (call (.ref C) rest) Q E ⟨h,g,d,t,os⟩:=by
 have f1:=tc_lookup
 have f2:=tc_bind (.ref C)
 have hT:Shared.TypeIs ⟨h,g,d,t,os⟩ (.ref C) "type" := ⟨_,hC,rfl⟩
 refine Np (codeAny_of_tree ?_)
 show wpAny _ _ (callAny (.ref C) _) _ _ _
 repeat (any_goals (first|assumption|with_reducible refine Xp hC ?_|wp_step))
 exact ⟨rfl,codeAny_call_builtin_at (Code.quiet_builtin _ (by decide +kernel)) entry_typeCall (wpAny_check_type_call_sub hC (qcX F T hC hn hi hf hfc hq hz))⟩
end
noncomputable def qaF:List Ke->Bool
 | .ref _::r=>qaF r
 | l=>l==[.type "ValueError", .type "Exception", .type "BaseException", .type "object"]
theorem yF (self:Ke):∀ {l:List Ke},qaF l=true->refuseLoop self "__setattr__" l=pure ()
 | .ref c::r,e=>by rw [refuseLoop_ref];exact yF self (l:=r) e
 | [],e=>by cases e
 | .none::_,e | .bool _::_,e | .int _ _::_,e | .str _ _::_,e | .type _::_,e=>by
  rw [beq_iff_eq.mp (show (_==_)=true from e)]
  exact EI.passes self
 | .float _ _::_,e=>by cases e
 | .builtin _::_,e=>by cases e
section
variable {prog:Ku}{w:KI}{A:KF}{E:Ke->Kg->Prop}{h:KC}{g:Array GenState}{d:Drawn}{tk0:Nat}{os:OsState}{K:Kd}{C x t:Kf}{name:Str}{v:Ke}{cd:ClassData}
theorem WP {tk:Tok}{Q:Fin->Kg->Prop}(X:K.In h)(hcd:Ue K C=some cd)(htl:qaF cd.mro=true)(hhd:cd.hasDict=true)(hnn:KO K (.ref C) name=some none)(hx:h.get? x=some (exO C none t))
  (hq:∀ h' tk',h'.get? x=some (exO C (some h.objs.size) t)->h'.Ns1 h.objs.size (fun y=>if y=name then some v else none)->(∀ b o,b≠x->h.get? b=some o->h'.get? b=some o)->Q (.done (.ret .none)) ⟨h',g,d,tk',os⟩) :
  wpAny (model prog w) A (UA.«object.__setattr__» ⟨[.ref x,.str name tk,v],[]⟩) Q E ⟨h,g,d,tk0,os⟩:=by
 have L1:UH (model prog w) h (typeOf (.ref x)) (.ref C):=(XJ hx).andThen .now
 have L2:UH (model prog w) h (mroOf (.ref C)) cd.mro:=(PySem.W.looks_clsIn X hcd).andThen .now
 have L3:=UI (M:=model prog w) X hnn
 rw [PySem.W.osa_eq,refuse_eq]
 refine Kc (Kc (L1.here (Kc (L2.here ?_))))
 rw [yF _ htl]
 refine Kl (Kc (L1.here (Kc (L3.here ?_))))
 repeat (first|with_reducible refine Xp hx ?_|wp_step)
 obtain ⟨oc,od,sl,hC⟩:∃ oc od sl,h.get? C=some ⟨oc,od,.cls cd,sl⟩:=by
  unfold Ue at hcd
  split at hcd
  ·rename_i c' d' cd' sl' ho
   cases hcd
   exact ⟨_,_,_,X _ _ ho⟩
  ·cases hcd
 refine wpAny_load hC (Kl ?_)
 rw [hhd,if_neg (by decide)]
 show wpAny _ _ (alloc _ >>= _) _ _ _
 refine Kc (wpAny_alloc' ?_)
 have hx1:(h.push Vu).get? x=some (exO C none t):=Kh _ hx
 have nx:x≠h.objs.size:=KN (Ks hx)
 refine Kc (wpAny_update' hx1 (Kl ?_))
 generalize hU:((h.push Vu).update x fun o=>{ cls:=o.cls,dict:=some h.objs.size,data:=o.data,slots:=o.slots })=U
 have u1:U.get? h.objs.size=some Vu:=by rw [← hU];exact (U6 _ _ _ _ nx.symm).trans (Heap.get?_push_at rfl rfl)
 have u2:U.get? x=some (exO C (some h.objs.size) t):=by rw [← hU];exact Ur _ hx1 rfl
 have u3:∀ b o,b≠x->h.get? b=some o->U.get? b=some o:=fun b o hb e=>by rw [← hU];exact (U6 _ _ _ _ hb).trans (Kh _ e)
 have hnd:U.Ns h.objs.size (fun _=>none):=⟨_,#[],_,u1,rfl,fun e he=>absurd he (by simp),fun _=>rfl⟩
 show wpAny _ _ (Builtin.ObjectAttr.storeInDict h.objs.size (.str name tk) name v) _ _ _
 unfold Builtin.ObjectAttr.storeInDict Builtin.ObjectAttr.newKeyGuard
 refine Kc (Kl (Kc (wpAny_nsSet1 (Heap.Ns1.of_empty hnd) fun h' hn' hs=>?_)))
 obtain ⟨oD,esD,epD,hoD,hdD,hcD⟩:=hn'.count (Within.cons name v Within.nil)
 refine Kc (wpAny_lookBehind hoD (by rw [hdD];exact pastItsLine_dict (Vo hcD (by rw [KA,UY,Xh];omega))) ?_)
 wp_walk
 exact hq h' _ ((hs.2 x nx).trans u2) hn' fun b o hb e=>(hs.2 b (KN (Ks e))).trans (u3 b o hb e)
theorem qew {Q:Unit->Kg->Prop}(X:K.In h)(hsa:KO K (.ref C) "__setattr__" = some (some (.builtin "object.__setattr__")))(hmo:VX K C (.type "object")=some true)(hcd:Ue K C=some cd)(htl:qaF cd.mro=true)(hhd:cd.hasDict=true)(hnn:KO K (.ref C) name=some none)(hx:h.get? x=some (exO C none t))
  (hq:∀ h' tk',h'.get? x=some (exO C (some h.objs.size) t)->h'.Ns1 h.objs.size (fun y=>if y=name then some v else none)->(∀ b o,b≠x->h.get? b=some o->h'.get? b=some o)->Q () ⟨h',g,d,tk',os⟩) :
  wpAny (model prog w) A (setAttr (.ref x) name v) Q E ⟨h,g,d,tk0,os⟩:=by
 have L1:UH (model prog w) h (typeOf (.ref x)) (.ref C):=(XJ hx).andThen .now
 have L2:=UI (M:=model prog w) X hsa
 have SV:=EI
 have f3:=SV.slot.bind (.ref x)
 have sub:UH (model prog w) h (isInstance (.ref x) (.type "object")) true:=L1.andThen (Xv X hmo)
 unfold setAttr callSpecial? specialOf
 repeat (any_goals (first|assumption|with_reducible refine PySem.W.Looks.at (by assumption) ?_|wp_step))
 refine UX SV.slot.plain SV.entry (@Fk (model prog w) _ _ _ "object.__setattr__" "object" "__setattr__" (.ref x) [_,v] [] _ SV.kind SV.split sub (SV.args _ _ v) ?_)
 refine WP X hcd htl hhd hnn hx fun h' tk' a b c=>?_
 repeat (any_goals (first|assumption|wp_step))
 exact hq h' tk' a b c
end
section
variable {prog:Ku}{w:KI}{A:KF}{E:Ke->Kg->Prop}{h:KC}{g:Array GenState}{d:Drawn}{tk0:Nat}{os:OsState}{C x t:Kf}{v:Ke}
variable {nm q:Str}{N:Kf}{bs bm bmB:List Ke}{hdct:Bool}{sn:List Str}{sub:List Ke}{ab:Bool}{col:Option Bool}{dd:Option Kf}{k0 k1 k2 k3 k5:Option Ke}{B newId initId:String}
theorem qeu (F:ExcBaseFacts B newId initId bmB)(T:OwnTail h bmB bm){Q:Ke->Kg->Prop}(hC:h.get? C=some (excClassObj nm q C N bs bm hdct sn sub ab col dd k0 k1 k2 k3 k5 newId))(hx:h.get? x=some (exO C none t))
  (hq:∀ h',h'.get? x=some (exO C none h.objs.size)->h'.get? h.objs.size=some (tuO [v])->(∀ b o,b≠x->h.get? b=some o->h'.get? b=some o)->Q .none ⟨h',g,d,tk0,os⟩) :
  wpAny (model prog w) A (call (.builtin initId) [.ref x,v]) Q E ⟨h,g,d,tk0,os⟩:=by
 have nx:x≠h.objs.size:=KN (Ks hx)
 refine Np (UX F.init.plain F.initEntry (wpAny_check_init_subT F T hC hx rfl ?_))
 wp_walk
 refine hq _ ?_ ?_ fun b o hb e=>?_
 ·exact Ur _ (Kh _ hx) rfl
 ·exact (U6 _ _ _ _ nx.symm).trans (Heap.get?_push_at rfl rfl)
 ·exact (U6 _ _ _ _ hb).trans (Kh _ e)
end
noncomputable def qdA (K:Kd)(D f:Kf):Bool:=match K.lookup D with
 | some ⟨.type "type", _,.cls k,z⟩=>(match k.mro,z.toList with
  | .ref D'::l,[_,_,_,_,some (.builtin i),_]=>D'==D&&(i == "ValueError.__new__" && (!k.hasDel&&(PySem.W.tailIn K vBM l&&(PySem.W.nsOkIn K k.ns&&Kx K k.ns "__init__" == some (some (.ref f))))))
  | _,_=>false)
 | _=>false
theorem qic {K:Kd}{h:KC}   (X:K.In h) (G:h.Ns N m) (e:Kx K N n=some (some v)):m n=some v:=by
 obtain ⟨o,es,ep,h1,h2,_,h3⟩:=G
 unfold Kx at e
 split at e
 case h_2=>cases e
 rename_i q
 have z:=(X _ _ q).symm.trans h1
 cases z;cases h2
 split at e
 ·rename_i en he
  cases e;rw [← h3]
  unfold nsFind findBy;rw [← Array.find?_toList,he];rfl
 ·split at e<;>cases e
theorem qdB {K:Kd}  (X:K.In h) (q:qdA K C fI=true) :
  ∃ bm N nm qn bs hd sn sub ab col dd k0 k1 k2 k3 k5 mN,h.get? C=some (excClassObj nm qn C N bs bm hd sn sub ab col dd k0 k1 k2 k3 k5 "ValueError.__new__")/\h.Ns N mN/\mN "__init__" = some (.ref fI)/\OwnTail h vBM bm:=by
 unfold qdA at q
 split at q
 case h_2=>cases q
 rename_i dd cd sl lk;split at q
 case h_2=>cases q
 rename_i C' bm k0 k1 k2 k3 n k5 em es
 simp only [Kp,beq_iff_eq,Nu] at q
 obtain ⟨c1,c2,hdel,c4,c5,c6⟩:=q
 obtain ⟨nm,bs,mro,ns,qn,hd,sn,sub,ab,col,del⟩:=cd
 obtain ⟨l⟩:=sl
 subst c1 c2
 dsimp only at em es c5 c6 hdel;subst em es hdel
 exact ⟨bm,ns,nm,qn,bs,hd,sn,sub,ab,col,dd,k0,k1,k2,k3,k5,_,X _ _ lk,.of_isNs (Fm X c5),qic X (.of_isNs (Fm X c5)) c6,PySem.W.tail_of_in X c4⟩
noncomputable def shOk (d:Ka):Bool:=(match d with | .int _=>true | .tuple _=>true | .list _=>true|_=>false)&&(d.showable&&(d.canLay0&&(!d.hasDict&&(decide (d.depth<=63)&&decide (d.shown.length<=100000)))))
section
variable {X:Cx}{pins:List (Kf×Obj)}{σ:St}{H:Hp}{s:Kg}{S:Av}{k:Nat}{E:Ke->Kg->Prop}
theorem qgN  (hr:Room k X.A) (I:Inv X pins σ H s) (dv:Den X.K H S v d) (rv:RelV v u) (hs:shOk d=true) (h:∀ y tk s',Inv X pins σ H s'->y.length<=100000->Q (.str y tk) s') :
  wpAny (model X.prog X.w) X.A (pyReprObj u) Q E s:=by
 unfold shOk at hs
 simp only [Kp,Nu,decide_eq_true_eq] at hs
 obtain ⟨h0,h1,h2,h3,h4,h5⟩:=hs
 have big:d.shown.length<=sizeLine:=by rw [Xh];omega
 have ref:∀ a,u=.ref a->wpAny (model X.prog X.w) X.A (pyReprObj u) Q E s:=fun a e=>by
  subst e
  obtain ⟨as,rd⟩:=dv.reads I h2 rv
  exact pyReprObj_of_reads rd h1 (fun z=>by rw [h3] at z;cases z) hr.gd (by have:=hr.units;omega) (fun _ _ e=>e) (fun h' u' tk hk=>h _ _ _ (I.kept hk) h5) big
 cases dv with
 | int i =>
  obtain ⟨t,e⟩:=(show ∃ t,u=Nd i t from rv)
  subst e
  refine pyReprObj_int ?_ (h _ _ _ (I.tok _) h5)
  rw [PyData.showable] at h1
  exact of_decide_eq_true h1
 | list a b=>exact ref _ rv
 | tuple a b=>exact ref _ rv
 | _=>cases h0
theorem qhB {c x:Str}{i j:Nat}{p1 p2 p3 pos:Pos}  {Q:Ke->Kg->Prop} (hr:Room k X.A) (I:Inv X pins σ H s) (hi:X.N[i]?=some x) (hv:Vis X.env.scope x) (e:σ[i]?=some (some v)) (dv:Den X.K H S v d) (hs:shOk d=true) (hc:c.length<=1000)
  (hd:(x==("__debug__" : Str))=false) (hcd:(x==("__classdict__" : Str))=false) (h:∀ y tk s',Inv X pins σ H s'->Q (.str y tk) s') :
  wpAny (model X.prog X.w) X.A (eval (.JoinedStr [.Constant (.str c) j p1,.FormattedValue (.Name x p2) 114 none p3] pos) X.env) Q X.xe s:=by
 refine wpAny_JoinedStr ?_
 show wpAny _ _ (eval (.Constant (.str c) j p1) X.env) _ _ _
 have l0:(Fe++c).length=c.length:=by rw [strLen_append];show 0+_=_;omega
 refine Calls.Constant_str ⟨c,_,rfl,by rw [l0,Xh];omega,?_⟩
 show wpAny _ _ (eval (.FormattedValue (.Name x p2) 114 none p3) X.env) _ _ _
 refine wpAny_FormattedValue_repr (thn (Yl hi hv hd hcd pins _ σ H (fun y H1=>y=v/\H1=H) (I.tok _) ⟨v,e,rfl,rfl⟩) fun u s1 ⟨v',H1,I1,rv,e1,e2⟩=>?_)
 subst e1 e2
 refine qgN hr I1 dv rv hs fun y tk s2 I2 hy=>?_
 have l1:(Fe++c++y).length<=sizeLine:=by rw [strLen_append,l0,Xh];omega
 exact wpAny_formatField_str ⟨y,_,rfl,l1,l1,h _ _ _ (I2.tok _)⟩ ⟨y,_,rfl,l1,l1,h _ _ _ ((I2.tok _).tok _)⟩ (by rw [Xh];omega)
end
structure IniK (K:Kd)(mg:Str->Option Ke)(n bn:Str)(C SE f:Kf):Prop where
 exi:qdA K C f=true
 sa:KO K (.ref C) "__setattr__" = some (some (.builtin "object.__setattr__"))
 cd:∃ cd,Ue K C=some cd/\qaF cd.mro=true/\cd.hasDict=true
 nn:KO K (.ref C) n=some none
 xc:xcB K C=true
 seM:mg bn=some (.ref SE)
 seR:PySem.W.readsIn K SE (.type "type")=true
 seG:XN K (.ref SE) "__getattribute__" = some (some (.builtin "type.__getattribute__"))
 seF:PySem.W.findCls K (.ref SE) (.type "type") "__init__" = some (.val (.builtin "ValueError.__init__"))
noncomputable abbrev exH (e C:Kf)(od:Option Kf)(t:Kf):HO:=.ext fun h=>h.get? e=some (exO C od t)
theorem qcE  {h:KC}  (a:h.get? e=some (exO C od t)):zE P w H h e (exH e C od t):=⟨a,⟨_,a⟩,fun _ _ x k=>k _ x⟩
section
variable {X:Cx}{pins:List (Kf×Obj)}{σ:St}{H:Hp}{s:Kg}{S:Av}{k:Nat}{n bn c:Str}{C SE f e t:Kf}{j:Nat}{p1 p2 ap q1 q2 q3 q4 cp ep r1 r2 r3 r4:Pos}{v:V}{d:Ka}
theorem qhO {Q:Flow->Kg->Prop}{pl:Sem Bool}(Z:IniK X.K X.mg n bn C SE f)(hr:Room k X.A)(I:Inv X pins σ H s)(h0:X.N[0]?=some ("self" : Str))(h1:X.N[1]?=some n)(v0:Vis X.env.scope "self")(v1:Vis X.env.scope n)(hg:Gl X bn)(e0:σ[0]?=some (some (.ref e)))(e1:σ[1]?=some (some v))(he:H e=some (exH e C none t))(dv:Den X.K H S v d)(hs:shOk d=true)(hc:c.length<=1000)
  (hd:(n==("__debug__" : Str))=false) (hcd:(n==("__classdict__" : Str))=false) (hbd:(bn==("__debug__" : Str))=false)
  (h:∀ t' s',Inv X pins σ (upd H e (exH e C none t')) s'->Q .next s')
  (ht:eval (.Call (.Attribute (.Name bn p1) "__init__" ap) [.Name "self" p2,.JoinedStr [.Constant (.str c) j q1,.FormattedValue (.Name n q2) 114 none q3] q4] [] cp) X.env=(do
   let ov ← eval (.Name bn p1) X.env
   standAt ap.atName
   let (f,first) ← holding [ov] (getMethod ov "__init__" pl)
   callWith cp f first (backTo cp (starEach [.Name "self" p2,.JoinedStr [.Constant (.str c) j q1,.FormattedValue (.Name n q2) 114 none q3] q4] X.env)) (backToKw cp (keywordEach [] X.env))):=by rfl)
  (hsw:swapsWith (.Call (.Attribute (.Name bn p1) "__init__" ap) [.Name "self" p2,.JoinedStr [.Constant (.str c) j q1,.FormattedValue (.Name n q2) 114 none q3] q4] [] cp) none ep.line X.env=pure false:=by rfl) :
  wpAny (model X.prog X.w) X.A (exec (.Expr (.Call (.Attribute (.Name bn p1) "__init__" ap) [.Name "self" p2,.JoinedStr [.Constant (.str c) j q1,.FormattedValue (.Name n q2) 114 none q3] q4] [] cp) ep) X.env) Q X.xe s:=by
 refine wpAny_Expr_any ?_ I.quiet hsw
 refine E2 (pl:=pl) (Zq I hg Z.seM ?_ hbd) ht
 refine PySem.W.method_cls I.kIn Z.seG (PySem.W.cls_value I.kIn Z.seR Z.seF rfl ?_)
 refine NN ?_ rfl rfl
 have ha:PA X [.Name "self" p2,.JoinedStr [.Constant (.str c) j q1,.FormattedValue (.Name n q2) 114 none q3] q4] (fun σ' H' Q'=>σ'=σ/\H'=H/\∀ y,Q' [.ref e,.str y] H):=by
  refine (Qu (te:=fun σ' H' Q'=>σ'=σ/\H'=H/\Q' (.ref e) H) (fun pins' s' σ' H' Q' I' hq=>?_) (Qu (te:=fun σ' H' Q'=>σ'=σ/\H'=H/\∀ y,Q' (.str y) H) (fun pins' s' σ' H' Q' I' hq=>?_) Yk rfl) rfl).weak fun σ' H' Q' hq=>?_
  ·obtain ⟨rfl,rfl,hq⟩:=hq
   exact Yl h0 v0 (by decide +kernel) (by decide +kernel) pins' s' _ _ Q' I' ⟨_,e0,hq⟩
  ·obtain ⟨rfl,rfl,hq⟩:=hq
   exact qhB hr I' h1 v1 e1 dv hs hc hd hcd fun y tk s2 I2=>⟨.str y,_,I2,⟨_,rfl⟩,hq y⟩
  ·obtain ⟨rfl,rfl,hq⟩:=hq
   exact ⟨rfl,rfl,rfl,rfl,fun y=>hq y⟩
 refine thn (ha cp pins _ σ H (fun vs H1=>∃ y,vs=[.ref e,.str y]/\H1=H) (I.tok _) ⟨rfl,rfl,fun y=>⟨y,rfl,rfl⟩⟩) fun us s1 ⟨vs,H1,I1,r,y,ev,eh⟩=>?_
 subst ev eh
 obtain ⟨u1,u2,rfl,ru1,ru2⟩:=r.two
 cases (show u1=KR e from ru1)
 obtain ⟨bm,N,nm,qn,bs,hd',sn,sub,ab,col,dd,k0,k1,k2,k3,k5,mN,hC,hN,hni,TL⟩:=qdB I1.mod.kin Z.exi
 obtain ⟨hh,g,dr,tk,os⟩:=s1
 have hx:hh.get? e=some (exO C none t):=(I1.hok e _ he).1
 refine qeu El (TL.keeps I1.bk) (I1.bk _ _ hC) hx fun h' a1 a2 a3=>h hh.objs.size _ ?_
 exact I1.write (t':=tk) (by rw [he];exact Um) (.inl rfl) (fun b u hb q=>a3 b u hb q) ⟨_,a1⟩ (qcE a1)
theorem qhN {Q:Flow->Kg->Prop}(Z:IniK X.K X.mg n bn C SE f)(I:Inv X pins σ H s)(h0:X.N[0]?=some ("self" : Str))(h1:X.N[1]?=some n)(v0:Vis X.env.scope "self")(v1:Vis X.env.scope n)(e0:σ[0]?=some (some (.ref e)))(e1:σ[1]?=some (some v))(he:H e=some (exH e C none t))
  (hd:(n==("__debug__" : Str))=false) (hcd:(n==("__classdict__" : Str))=false) (hex:X.ex=[]) (h:∀ dx s',H dx=none->Inv X pins σ (upd (upd H e (exH e C (some dx) t)) dx (.xd [(n,v)])) s'->Q .next s')
  (hsw:swapsWith (.Name n r3) (some (.Attribute (.Name "self" r1) n r2)) r4.line X.env=pure false:=by rfl) :
  wpAny (model X.prog X.w) X.A (exec (.Assign [.Attribute (.Name "self" r1) n r2] (.Name n r3) r4) X.env) Q X.xe s:=by
 refine plainObj_wpAny_Assign_Attribute (thn (Yl h1 v1 hd hcd pins s σ H (fun y H1=>y=v/\H1=H) I ⟨v,e1,rfl,rfl⟩) fun u s1 ⟨v',H1,I1,rv,ev,eh⟩=>thn (Yl h0 v0 (by decide +kernel) (by decide +kernel) pins s1 σ H1 (fun y H2=>y=.ref e/\H2=H1) I1 ⟨_,e0,rfl,rfl⟩) fun ov s2 ⟨x,H2,I2,rx,ex,eh2⟩=>?_) hsw
 subst ev eh ex eh2
 cases (show ov=KR e from rx)
 obtain ⟨hh,g,dr,tk,os⟩:=s2
 obtain ⟨cd,c1,c2,c3⟩:=Z.cd
 have hx:hh.get? e=some (exO C none t):=(I2.hok e _ he).1
 have hd0:H2 hh.objs.size=none:=I2.hok.fresh (Kr _)
 have nd:hh.objs.size≠e:=VZ (Ks hx)
 refine qew I2.kIn Z.sa (JS Z.xc).mo c1 c2 c3 Z.nn hx fun h' tk' a1 a2 a3=>h hh.objs.size _ hd0 ?_
 have I3:Inv X pins σ (upd H2 e (exH e C (some hh.objs.size) t)) ⟨h',g,dr,tk',os⟩:=I2.write (t':=tk') (by rw [he];exact Um) (.inl rfl) (fun b u hb q=>a3 b u hb q) ⟨_,a1⟩ (qcE a1)
 refine I3.trackO ⟨_,a2,fun y=>?_⟩ (by rw [qC nd];exact hd0) ?_ (VZ I2.lt) (fun y c' ec z=>?_) fun p hp z=>?_
 ·by_cases q:y=n
  ·subst q
   rw [if_pos rfl,show UV y [(y,v')]=some v' from by simp [UV]]
   exact rv
  ·rw [if_neg q,show UV y [(n,v')]=none from by simp [UV,beq_eq_false_iff_ne.mpr q]]
   exact Um
 ·cases z:X.s₀.heap.get? hh.objs.size with
  | none=>rfl
  | some o =>
   obtain ⟨o',y⟩:=I2.base.there _ o z (by rw [hex];simp)
   exact absurd (Ks y) (V3 _)
 ·obtain ⟨w',o',ho',_⟩:=I2.cell y c' ec
  rw [z] at ho'
  exact absurd (Ks ho') (V3 _)
 ·have y:=(I2.pin p hp).1
  rw [z] at y
  exact absurd (Ks y) (V3 _)
end
noncomputable def spI (K:Kd)(n:Str)(C:Kf):Sp:=fun vs H Q _=>∃ e t v S d,vs=[.ref e,v]/\H e=some (exH e C none t)/\Den K H S v d/\shOk d=true/\∀ H' dx t',(∀ b o,b≠e->H b=some o->H' b=some o)->H' e=some (exH e C (some dx) t')->H' dx=some (.xd [(n,v)])->Q .non H'
section
variable {P:Ku}{w:KI}{K:Kd}{mg:Str->Option Ke}{base:KC}
theorem qjO {pl:Env->Sem Bool}{qual n bn c:Str}{st:KM}{f C SE:Kf}{fd:K7}{j:Nat}{p1 p2 ap q1 q2 q3 q4 cp ep r1 r2 r3 r4:Pos}(F:Fun K "__init__" qual st f fd)(S:FnScope ["self", n] ["self", n] (qe st))(Z:IniK K mg n bn C SE f)(hvs:visB (qe st) "self" = true)(hvn:visB (qe st) n=true)(hgl:glB (qe st) bn=true)(hc:c.length<=1000)
  (hd:(n==("__debug__" : Str))=false) (hcd:(n==("__classdict__" : Str))=false) (hbd:(bn==("__debug__" : Str))=false)
  (hb:zp st=[.Expr (.Call (.Attribute (.Name bn p1) "__init__" ap) [.Name "self" p2,.JoinedStr [.Constant (.str c) j q1,.FormattedValue (.Name n q2) 114 none q3] q4] [] cp) ep,.Assign [.Attribute (.Name "self" r1) n r2] (.Name n r3) r4])
  (ht:∀ env:Env,eval (.Call (.Attribute (.Name bn p1) "__init__" ap) [.Name "self" p2,.JoinedStr [.Constant (.str c) j q1,.FormattedValue (.Name n q2) 114 none q3] q4] [] cp) env=(do
   let ov ← eval (.Name bn p1) env
   standAt ap.atName
   let (f,first) ← holding [ov] (getMethod ov "__init__" (pl env))
   callWith cp f first (backTo cp (starEach [.Name "self" p2,.JoinedStr [.Constant (.str c) j q1,.FormattedValue (.Name n q2) 114 none q3] q4] env)) (backToKw cp (keywordEach [] env)))) :
  FnOk P w K mg base CX0 1 f fd ["self", n] (spI K n C):=by
 refine F.ok (k:=0) S (fun vs H Q E h=>?_) fun cdv A outer s H vs Q E hr h=>?_
 ·obtain ⟨_,_,_,_,_,rfl,_⟩:=h
  rfl
 obtain ⟨e,t,v,Sv,d,rfl,he,dv,hs,q⟩:=h
 refine ⟨fun D σ' H'=>σ'=start ["self", n] [.ref e,v]/\H'=H/\∀ H2,Q .non H2->D.nx σ' H2,fun pins s1 σ1 H1 D I ht=>?_,rfl,rfl,fun H2 z=>z⟩
 obtain ⟨rfl,rfl,hq⟩:=ht
 rw [hb]
 have e0:(start ["self", n] [.ref e,v])[0]?=some (some (.ref e)):=rfl
 have e1:(start ["self", n] [.ref e,v])[1]?=some (some v):=rfl
 refine U7 (qhO (Q:=fun f s'=>_) Z hr I rfl rfl (Yq hvs) (Yq hvn) (qi8 _ rfl hgl) e0 e1 he dv hs hc hd hcd hbd (fun t' s2 I2=>?_) (ht _))
 refine U7 (qhN (Q:=fun f s'=>_) Z I2 rfl rfl (Yq hvs) (Yq hvn) e0 e1 qH hd hcd rfl fun dx s3 hdx I3=>?_)
 have nd:e≠dx:=fun z=>by rw [← z,qH] at hdx;cases hdx
 have hdx0:H1 dx=none:=by rw [qC nd.symm] at hdx;exact hdx
 refine X7 ⟨_,_,I3,hq _ (q _ dx t' (fun b o nb z=>?_) (by rw [qC nd];exact qH) qH)⟩
 rw [qC (qZ z hdx0),qC nb,qC nb]
 exact z
end
noncomputable def rem (H:Hp)(a:Kf):Hp:=fun b=>if b=a then none else H b
theorem jB (h:b≠a):rem H a b=H b:=if_neg h
theorem Wq:rem H a a=none:=if_pos rfl
theorem Inv.untrack    (I:Inv X pins σ H s) (ha:H a=some (.ext φ)):Inv X pins σ (rem H a) s:=by
 have no:∀ {b:Kf},H b=none->rem H a b=none:=fun {b} e=>by
  by_cases h:b=a
  ·rw [h];exact Wq
  ·rw [jB h];exact e
 have ne:∀ {b:Kf} {o:HO},H b=some o->(∀ ψ,o≠.ext ψ)->b≠a:=fun e n z=>by
  rw [z,ha] at e
  cases e
  exact n _ rfl
 refine ⟨I.ok,I.os,I.bare,⟨I.base.keep,I.base.slot,fun b o e n hx=>no (I.base.free b o e n hx),I.base.there,fun b xs e=>?_,fun b o u e=>?_,fun b ps e=>?_⟩,I.loc,I.cell,no I.free,fun x c e=>no (I.freeC x c e),fun p q=>?_,fun b u e=>?_,I.len⟩
 ·have:=I.base.tups b xs e
  rw [jB (ne this fun _ z=>nomatch z)];exact this
 ·have:=I.base.frzs b o u e
  rw [jB (ne this fun _ z=>nomatch z)];exact this
 ·obtain ⟨m,this⟩:=I.base.tbls b ps e
  exact ⟨m,by rw [jB (ne this fun _ z=>nomatch z)];exact this⟩
 ·obtain ⟨e,n,r⟩:=I.pin p q
  exact ⟨e,no n,r⟩
 ·have nb:b≠a:=fun z=>by rw [z,Wq] at e;cases e
  rw [jB nb] at e
  exact (I.hok b u e).stay (fun c v _ q=>q) (fun c q=>by rw [jB (ne q fun _ z=>nomatch z)];exact q) fun c xs q=>by rw [jB (ne q fun _ z=>nomatch z)];exact q
structure KnownI (P:Ku)(w:KI)(K:Kd)(mg:Str->Option Ke)(base:KC)(x n:Str)(k:Nat):Prop where
 ex:∃ (bn:Str) (C SE f:Kf) (fd:K7),IniK K mg n bn C SE f/\mg x=some (.ref C)/\XCls K x C/\Vf K (.ref C)=true/\Xw K (.ref C)=some (.type "type")/\Nf K (.ref f)=true/\FnOk P w K mg base CX0 k f fd ["self", n] (spI K n C)/\Binds K fd ["self", n] []
noncomputable def Y4 (x n:Str)(f:Rho->Option Ka)(ρ:Rho):Option (Ka×Rho):=ob (f ρ) fun d=>if (shOk d&&flat d)=true then some (excD x (.tuple [.str n,d]),ρ) else none
section
variable {X:Cx}{G:Gm}{M L:List Nat}{a:Ky}{fa:Rho->Option Ka}{x n:Str}{pos np cpos:Pos}{k k':Nat}
theorem qc4 {prog:Ku}{w:KI}{A:KF}{E:Ke->Kg->Prop}{s:Kg}{K:Kd}{C:Kf}{env:Env}{e:Ky}{Q:Flow->Kg->Prop}(Z:XcK K C)(hct:Xw K (.ref C)=some (.type "type"))(hh:A.handled=none)
  (h:wpAny (model prog w) A (eval e env) (fun v s₁=>∃ b od t,v=.ref b/\K.In s₁.heap/\s₁.heap.get? b=some (exO C od t)/\E (.ref b) s₁) E s):wpAny (model prog w) A (exec (.Raise (some e) none pos) env) Q E s:=by
 rw [arm_exec_Raise]
 have y:=qe8 (Q:=Q) (env:=env) Z hct hh (x:=do let v ← eval e env;standAt pos;pure v) (Kc (K3 h (fun v s₃ h₃=>Kc (X2 (Kl h₃))) fun _ _ z=>z))
 first
  | exact Kc (X2 y)
  | (simp only [evalOpt,Option.map];exact Kc (X2 y))
theorem qb9      {Q:Ke->Kg->Prop} {E:Ke->Kg->Prop} (Z:IniK X.K X.mg n bn C SE f) (hfn:Nf X.K (.ref f)=true) (F:FnOk X.prog X.w X.K X.mg X.base CX0 k f fd ["self", n] (spI X.K n C)) (hb:Binds X.K fd ["self", n] []) (hr:Room (k+1) X.A) (I1:Inv X pins σ H1 s1) (dv:Den X.K H1 S v d) (ru:RelV v u) (hs:shOk d=true)
  (kq:∀ a H' s' dx t',s1.heap.objs.size<=a->Inv X pins σ H' s'->Same H1 H'->H' a=none->(X.ex=[]->X.s₀.heap.get? a=none)->s'.heap.get? a=some (exO C (some dx) t')->H' dx=some (.xd [(n,v)])->Q (.ref a) s'):wpAny (model X.prog X.w) X.A (call (.ref C) [u]) Q E s1:=by
 obtain ⟨bm,N,nm,qn,bs,hd',sn,sub,ab,col,dd,k0,k1,k2,k3,k5,mN,hCo,hN,hni,TL⟩:=qdB I1.mod.kin Z.exi
 obtain ⟨oI,hfo,hfc⟩:∃ o,X.base.get? f=some o/\o.cls=.type "function" := by
  have:=beq_iff_eq.mp hfn
  unfold Xw at this
  obtain ⟨o,ho,hcc⟩:=EU.mp this
  exact ⟨o,I1.mod.kin _ _ ho,hcc⟩
 obtain ⟨hh,g,dr,tk,oo⟩:=s1
 have fe:H1 (hh.objs.size+1)=none:=I1.hok.fresh (UW _)
 refine qeT El (TL.keeps I1.bk) (I1.bk _ _ hCo) (hN.keeps I1.bk) hni (I1.bk _ _ hfo) hfc ?_ (show 1<=sizeLine by decide)
 have I2:Inv X pins σ (upd H1 (hh.objs.size+1) (exH (hh.objs.size+1) C none hh.objs.size)) ⟨mkH hh C [u],g,dr,tk,oo⟩:=I1.laid (t':=tk) (fun b o q=>j7 b o q) (UW _) (qcE qjd)
 have s0:X.ex=[]->X.s₀.heap.get? (hh.objs.size+1)=none:=fun hex=>by
  cases z:X.s₀.heap.get? (hh.objs.size+1) with
  | none=>rfl
  | some o =>
   obtain ⟨o',y⟩:=I1.base.there _ o z (by rw [hex];simp)
   exact absurd (Ks y) (by show ¬ (hh.objs.size+1<hh.objs.size);omega)
 have dv2:Den X.K (upd H1 (hh.objs.size+1) (exH (hh.objs.size+1) C none hh.objs.size)) S v d:=dv.same (Same.lay fe)
 have hsp:spI X.K n C [.ref (hh.objs.size+1),v] (upd H1 (hh.objs.size+1) (exH (hh.objs.size+1) C none hh.objs.size)) (fun y H3=>y=.non/\(∀ b o,b≠hh.objs.size+1->H1 b=some o->H3 b=some o)/\∃ dx t',H3 (hh.objs.size+1)=some (exH (hh.objs.size+1) C (some dx) t')/\H3 dx=some (.xd [(n,v)])) (fun _ _ _=>False) :=
  ⟨_,_,v,S,d,rfl,qH,dv2,hs,fun H3 dx t' z1 z2 z3=>⟨rfl,fun b o nb z=>z1 b o nb (by rw [qC nb];exact z),dx,t',z2,z3⟩⟩
 have hbd:=hb ⟨mkH hh C [u],g,dr,tk,oo⟩ [.ref (hh.objs.size+1),u] I2.kIn rfl
 rw [Vd] at hbd
 refine Np (Ng (F.run _ X.stack _ _ ⟨[.ref (hh.objs.size+1),u],[]⟩ [.ref (hh.objs.size+1),u] [.ref (hh.objs.size+1),v] _ _ (hr.make C [u] []) (I2.env0.make C [u] []) hbd (.cons rfl (.cons ru .nil)) hsp) fun r s' hq=>?_)
 cases r with
 | error e=>exact VH hq
 | ok fl =>
  cases fl with
  | next=>exact VH hq
  | brk=>exact VH hq
  | cont=>exact VH hq
  | ret u' =>
   obtain ⟨v',H3,I3,rv,ev,g3,dx,t',e3,e4⟩:=I2.after hq
   subst ev
   have g4:Same H1 (rem H3 (hh.objs.size+1)):=fun b o z=>by
    have nb:b≠hh.objs.size+1:=fun y=>by rw [y,fe] at z;cases z
    rw [jB nb]
    exact g3 b o nb z
   have nd:dx≠hh.objs.size+1:=ne_of e4 e3 fun z=>nomatch z
   exact ⟨rv,kq _ _ _ dx t' (UW _) (I3.untrack e3) g4 Wq s0 (I3.hok _ _ e3).1 (by rw [jB nd];exact e4)⟩
theorem qc2 (F:KnownI X.prog X.w X.K X.mg X.base x n k)(hr:Room k' X.A)(hk:k+1<=k')(hg:Gl X x)(ha:PDA X M [a] (aC fa aN))(hdb:(x==("__debug__" : Str))=false:=by decide +kernel)(he:starEach [a] X.env=(false,eval a X.env)::starEach [] X.env:=by rfl)(hpl:(backTo cpos (starEach [] X.env)).any (·.1)=false:=by rfl)
  (hn:∀ e s,X.xe e s->False:=by exact fun _ _ z=>z):PDX X false G M L M (.Raise (some (.Call (.Name x np) [a] [] cpos)) none pos) (Y4 x n fa):=by
 intro pins s σ H S ρ ρ' d0 I os e
 obtain ⟨d,e1,e⟩:=qd e
 split at e
 case isFalse=>cases e
 rename_i hs
 cases e
 rw [Kp] at hs
 obtain ⟨hs,hfl⟩:=hs
 obtain ⟨bn,C,SE,f,fd,Z,hm,hC,kp,hct,hfn,F,hb⟩:=F.ex
 refine qc4 (JS Z.xc) hct hr.hd ?_
 refine Uu (Zq I hg hm ?_ hdb)
 have ha':=ha cpos pins s σ H (fun vs H1=>Same H H1/\DenL X.K H1 S vs [d]) I ⟨S,ρ,[d],os.ds,by show ob (fa ρ) _=_;rw [e1];rfl,fun vs H1 g1 d1=>⟨g1,d1⟩⟩
 refine Xl (h₀:=X.base) I.ok.mod.kin kp (K3 ha' (fun us s1 ⟨vs,H1,I1,r,g1,d1⟩=>⟨I1.kIn,?_⟩) fun e s z=>(hn e s z).elim) he hpl
 obtain ⟨v,rfl,dv⟩:=d1.inv1
 obtain ⟨u,rfl,ru⟩:=r.one
 exact qb9 Z hfn F hb (hr.mono hk) I1 dv ru hs fun b H' s' dx t' _ I' g4 z1 z2 z3 z4=>⟨b,some dx,t',rfl,I'.kIn,z3,b,x,C,_,rfl,rfl,hC,.inl ⟨rfl,.inl ⟨σ,H',S,some dx,t',I',(os.same g1).same g4,.inr ⟨n,d,dx,v,rfl,hfl,rfl,z4,(dv.same g4).flat hfl⟩,z1,z2,z3⟩⟩⟩
noncomputable def mkI (x n:Str)(d:Ka):Option Ka:=if (shOk d&&flat d)=true then some (excD x (.tuple [.str n,d])) else none
theorem qgm (F:KnownI X.prog X.w X.K X.mg X.base x n k)(hr:Room k' X.A)(hk:k+1<=k')(hg:Gl X x)(hex:X.ex=[])(ha:PD X M a fa)(hdb:(x==("__debug__" : Str))=false:=by decide +kernel)(he:starEach [a] X.env=(false,eval a X.env)::starEach [] X.env:=by rfl)(hpl:(backTo cpos (starEach [] X.env)).any (·.1)=false:=by rfl) :
  PD X M (.Call (.Name x np) [a] [] cpos) (ev1 fa (mkI x n)):=by
 intro pins s σ H Q I ⟨S,ρ,r,hs0,e,q⟩
 obtain ⟨d,e1,e⟩:=qd e
 unfold mkI at e
 split at e
 case isFalse=>cases e
 rename_i hs
 cases e
 rw [Kp] at hs
 obtain ⟨hs,hfl⟩:=hs
 obtain ⟨bn,C,SE,f,fd,Z,hm,hC,kp,hct,hfn,F,hb⟩:=F.ex
 refine Uu (Zq I hg hm ?_ hdb)
 refine Xl (h₀:=X.base) I.ok.mod.kin kp (thn (Qu ha Yk he cpos pins s σ H (fun vs H1=>∃ v,vs=[v]/\Same H H1/\Den X.K H1 S v d) I ⟨S,ρ,d,hs0,e1,fun v H1 g1 d1=>⟨v,rfl,g1,d1⟩⟩) fun us s1 ⟨vs,H1,I1,r,v,ev,g1,dv⟩=>⟨I1.kIn,?_⟩) he hpl
 subst ev
 obtain ⟨u,rfl,ru⟩:=r.one
 refine qb9 Z hfn F hb (hr.mono hk) I1 dv ru hs fun b H' s' dx t' hb' I' g4 z1 z2 z3 z4=>?_
 have old:∀ {y:Kf} {o:Obj},s1.heap.get? y=some o->y≠b:=fun {y o} e z=>absurd (Ks e) (by rw [z];exact Nat.not_lt.mpr hb')
 have hL:b≠X.env.locals:=fun z=>by have:=I1.lt;rw [← z] at this;exact absurd this (Nat.not_lt.mpr hb')
 have I4:=I'.trackX z3 z1 (z2 hex) hL (fun y c ec=>by obtain ⟨w',o',ho',_⟩:=I1.cell y c ec;exact old ho') fun p hp=>old (I1.pin p hp).1
 have g5:Same H1 (upd H' b (.frz (exO C (some dx) t') (.own b))):=g4.lay' z1
 exact ⟨.ref b,_,I4,rfl,q _ _ (g1.trans g5) (.exc1 qH ⟨C,_,rfl,rfl,hC.1,hC.2⟩ rfl (by rw [qC (qZ z4 z1)];exact z4) (dv.same g5))⟩
end
section
variable {prog:Ku}{w:KI}{A:KF}{E:Ke->Kg->Prop}{s:Kg}{K:Kd}{x C dx:Kf}{o:Obj}{fs:Array Ke}{mA:Str->Option Ke}{n:Str}{v:Ke}{cd:ClassData}
open PySem.W in
theorem WN {tk:Tok}(hcd:Ue K C=some cd)(hhd:cd.hasDict=true)(hn:KO K (.ref C) n=some none)(X:K.In s.heap)(hx:s.heap.get? x=some o)(hc:o.cls=.ref C)(hf:o.data=.fields fs)(hd:o.dict=some dx)(hA:s.heap.Ns1 dx mA)(hv:mA n=some v)(hq:Q (.done (.ret v)) s) :
  wpAny (model prog w) A (UA.«object.__getattribute__» ⟨[.ref x,.str n tk],[]⟩) Q E s:=by
 obtain ⟨hh,g,d,t,os⟩:=s
 obtain ⟨oc,od,oda,osl⟩:=o
 dsimp only at hc hf hd
 subst hc hf hd
 have I:OfC hh x C:=⟨_,hx,rfl⟩
 have L0:=I.ty (M:=model prog w)
 have L1:=UI (M:=model prog w) X hn
 have L2:=looks_clsIn (M:=model prog w) X hcd
 have L3:UH (model prog w) hh (nsGet dx n) (some v):=fun A' Q' E' s' k q=>wpAny_nsGet (hA.ns.keeps k) (by rw [hv];exact q)
 repeat (any_goals (first|assumption|with_reducible refine Looks.at (by assumption) ?_|wp_step))
open PySem.W in
theorem qhD {b:Bool}{Q:Ke->Kg->Prop}(Z:XcK K C)(hcd:Ue K C=some cd)(hhd:cd.hasDict=true)(hn:KO K (.ref C) n=some none)(X:K.In s.heap)(hx:s.heap.get? x=some o)(hc:o.cls=.ref C)(hf:o.data=.fields fs)(hd:o.dict=some dx)(hA:s.heap.Ns1 dx mA)(hv:mA n=some v)(hh:PySem.W.handedIn v=true)
  (hq:Q v { s with toks:=s.toks+1 }):wpAny (model prog w) A (getAttr (.ref x) n b) Q E s:=by
 obtain ⟨h0,g,d,t,os⟩:=s
 have I:OfC h0 x C:=⟨_,hx,hc⟩
 have L0:=I.ty (M:=model prog w)
 have L1:=UI (M:=model prog w) X Z.ga
 have L2:=UI (M:=model prog w) X Z.gt
 have f3:=XZ.ga.bind (.ref x)
 have hx2:(Vq "BaseException.__getattribute__" == Vq "object.__getattribute__")=false:=by decide +kernel
 have hx1:(onTheHeap (KR C)&&Vq "BaseException.__getattribute__" == Vq "object.__getattribute__")=false:=by rw [hx2];exact EY _
 refine Kc (wpAny_mkText ?_)
 repeat (any_goals (first|assumption|with_reducible refine Looks.at (by assumption) ?_|wp_step))
 rw [if_neg (by rw [show onTheHeap (Vq "BaseException.__getattribute__")=false from rfl,EY];decide)]
 unfold boundAndCalled
 repeat (any_goals (first|assumption|with_reducible refine Looks.at (by assumption) ?_|wp_step))
 refine UX XZ.ga.plain F.entry_bexc_ga (yf (s:=⟨h0,g,d,t+1,os⟩) Z X I (WN (s:=⟨h0,g,d,t+1,os⟩) hcd hhd hn X hx hc hf hd hA hv ?_))
 show wpAny _ _ (handedOut v) _ _ _
 rw [handedOut_of hh]
 exact Kl hq
end
noncomputable def exFD (XS:List (Str×List Str))(F:Str):Ka->Option Ka
 | .dict ((.str c,.tuple [.str n,d])::(.int 0,.none)::[])=>if (n==F&&XS.any fun p=>p.1==c)=true then some d else none
 | _=>none
theorem qet {XS:List (Str×List Str)}  (e:exFD XS F x=some r):∃ c,x=excD c (.tuple [.str F,r])/\(XS.any fun p=>p.1==c)=true:=by
 unfold exFD at e
 split at e
 ·split at e
  ·rename_i h
   cases e
   rw [Kp] at h
   rw [← beq_iff_eq.mp h.1]
   exact ⟨_,rfl,h.2⟩
  ·cases e
 ·cases e
noncomputable def xfB (K:Kd)(XS:List (Str×List Str))(F:Str):Bool:=XS.all fun p=>match Kx K mainGlobals p.1 with
 | some (some (.ref C))=>(Ue K C).any (·.hasDict)&&KO K (.ref C) F==some none
 | _=>false
theorem Den.exc1_inv {K:Kd}{H:Hp}{S:Av}{v:V}{c n:Str}{d:Ka}(h:Den K H S v (excD c (.tuple [.str n,d]))):∃ a dx o w,v=.ref a/\H a=some (.frz o (.own a))/\ExcO K o c/\o.dict=some dx/\H dx=some (.xd [(n,w)])/\Den K H S w d:=by
 generalize hd:excD c (.tuple [.str n,d])=x at h
 cases h with
 | @dict a kvs ep ds h k t =>
  have:excK (dkv kvs ds)=true:=by
   have:=PyData.dict.inj hd
   rw [← this];rfl
  rw [wI] at this
  cases this
 | exc1 h o x y t=>cases hd;exact ⟨_,_,_,_,rfl,h,o,x,y,t⟩
 | _=>cases hd
theorem qdX {X:Cx}{XS:List (Str×List Str)}{M:List Nat}{e:Ky}{fe:Rho->Option Ka}{F:Str}{pos:Pos}(T:XTab X.K X.mg XS)(hf:xfB X.K XS F=true)(he:PD X M e fe)(hb:attributeBase e F X.env (eval e X.env)=eval e X.env:=by rfl):PD X M (.Attribute e F pos) (ev1 fe (exFD XS F)):=by
 intro pins s σ H Q I ⟨S,ρ,d,hs,ee,q⟩
 obtain ⟨x,e1,ee⟩:=qd ee
 obtain ⟨c,rfl,hc⟩:=qet ee
 refine qhe hb (thn (he pins s σ H (fun v H1=>Same H H1/\Den X.K H1 S v (excD c (.tuple [.str F,d]))) I ⟨S,ρ,_,hs,e1,fun v H1 g1 d1=>⟨g1,d1⟩⟩) fun u s1 ⟨v,H1,I1,rv,g1,d1⟩=>?_)
 obtain ⟨a,dx,o,w,rfl,ha,⟨C,ws,h1,h2,h3,h4⟩,hd,hx,dw⟩:=d1.exc1_inv
 cases (show u=KR a from rv)
 obtain ⟨p,hp,rfl⟩:=XTab.has hc
 have:=KW.mp hf p hp
 rw [h3] at this
 obtain ⟨y1,y2⟩:=NW.mp this
 obtain ⟨cd,c1,c2⟩:=PySem.W.any_some y1
 obtain ⟨mA,hA,hr⟩:=(show zE X.prog X.w H1 s1.heap dx (.xd [(F,w)]) from I1.hok dx _ hx)
 obtain ⟨u',hu,ru⟩:=RelO.some_of (v:=w) (o:=mA F) (by have:=hr F;rwa [show UV F [(F,w)]=some w from by simp [UV]] at this)
 exact qhD (JS h4) c1 c2 (beq_iff_eq.mp y2) I1.kIn (I1.hok a _ ha).1 h1 h2 hd hA hu (qex ru) ⟨w,H1,I1.tok _,ru,q w H1 g1 dw⟩
noncomputable def iniB (K:Kd)(n:Str)(C SE f:Kf):Bool :=
 qdA K C f&&((KO K (.ref C) "__setattr__" == some (some (.builtin "object.__setattr__")))&&(((Ue K C).any fun cd=>qaF cd.mro&&cd.hasDict)&&((KO K (.ref C) n==some none)&&(xcB K C&&(PySem.W.readsIn K SE (.type "type")&&((XN K (.ref SE) "__getattribute__" == some (some (.builtin "type.__getattribute__"))) &&
 ((match PySem.W.findCls K (.ref SE) (.type "type") "__init__" with | some (.val (.builtin i))=>i == "ValueError.__init__" | _=>false)&&(Vf K (.ref C)&&((Xw K (.ref C)==some (.type "type"))&&Nf K (.ref f))))))))))
def IniF (K:Kd)(x n bn qual:Str)(st:KM):Prop:=∃ (C SE f:Kf) (fd:K7),Kx K mainGlobals x=some (some (.ref C))/\Kx K mainGlobals bn=some (some (.ref SE))/\iniB K n C SE f=true/\Fun K "__init__" qual st f fd
theorem IniF.of {K:Kd}{x n bn qual:Str}{st:KM}{C SE f:Kf}{oc:Ke}{od an:Option Kf}{osl:Array (Option Ke)}{kV doc pm cdv ct:Ke}(a:Kx K mainGlobals x=some (some (.ref C)))(b:Kx K mainGlobals bn=some (some (.ref SE)))(_g:KO K (.ref C) "__init__" = some (some (.ref f)))
  (l:K.lookup f=some ⟨oc,od,.func (Uv "__init__" qual (Q5 st) (zp st) (qe st) .none kV doc pm an cdv ct),osl⟩) (d:Xa K cdv qual=true) (k:Vf K (.ref f)=true) (i:iniB K n C SE f=true):IniF K x n bn qual st:=⟨C,SE,f,_,a,b,i,qaY l d k⟩
theorem IniF.known {P:Ku}{w:KI}{K:Kd}{mg:Str->Option Ke}{base h:KC}{pl:Env->Sem Bool}{x n bn qual c:Str}{st:KM}{j:Nat}{p1 p2 ap q1 q2 q3 q4 cp ep r1 r2 r3 r4:Pos}(X:K.In h)(G:h.Ns mainGlobals mg)(A:ScOk ["self", n] ["self", n] [bn] (qe st))
  (hc:c.length<=1000) (hd:(n==("__debug__" : Str))=false) (hcd:(n==("__classdict__" : Str))=false) (hbd:(bn==("__debug__" : Str))=false)
  (hb:zp st=[.Expr (.Call (.Attribute (.Name bn p1) "__init__" ap) [.Name "self" p2,.JoinedStr [.Constant (.str c) j q1,.FormattedValue (.Name n q2) 114 none q3] q4] [] cp) ep,.Assign [.Attribute (.Name "self" r1) n r2] (.Name n r3) r4])
  (ht:∀ env:Env,eval (.Call (.Attribute (.Name bn p1) "__init__" ap) [.Name "self" p2,.JoinedStr [.Constant (.str c) j q1,.FormattedValue (.Name n q2) 114 none q3] q4] [] cp) env=(do
   let ov ← eval (.Name bn p1) env
   standAt ap.atName
   let (f,first) ← holding [ov] (getMethod ov "__init__" (pl env))
   callWith cp f first (backTo cp (starEach [.Name "self" p2,.JoinedStr [.Constant (.str c) j q1,.FormattedValue (.Name n q2) 114 none q3] q4] env)) (backToKw cp (keywordEach [] env))))
  (hbi:∀ {f:Kf} {fd:K7},Fun K "__init__" qual st f fd->Binds K fd ["self", n] []) (F:IniF K x n bn qual st):KnownI P w K mg base x n 1:=by
 obtain ⟨C,SE,f,fd,a,b,i,F⟩:=F
 unfold iniB at i
 simp only [Kp,beq_iff_eq] at i
 obtain ⟨i1,i2,i3,i4,i5,i6,i7,i8,i9,i10,i11⟩:=i
 obtain ⟨cd,c1,c2⟩:=PySem.W.any_some i3
 rw [Kp] at c2
 have Z:IniK K mg n bn C SE f:=⟨i1,i2,⟨cd,c1,c2.1,c2.2⟩,i4,i5,XA X G b,i6,i7,by
  split at i8
  ·rename_i y hy
   rw [hy,beq_iff_eq.mp i8]
  ·cases i8⟩
 exact ⟨bn,C,SE,f,fd,Z,XA X G a,⟨a,i5⟩,i9,i10,i11,qjO F A.fs Z (A.nm _ (.head _)).1 (A.nm _ (.tail _ (.head _))).1 (A.gb _ (.head _)) hc hd hcd hbd hb ht,hbi F⟩
theorem qip {X:Cx}  (h:PD X M a fa) (hs:starEach [a] X.env=(false,eval a X.env)::starEach [] X.env:=by rfl):PDA X M [a] (aC fa aN):=qG h zu hs
noncomputable def forX (g:Ka->Rho->Option Rho)(u:Rho->Option Out)(w:Rho->Option (Ka×Rho)):List Ka->Rho->Option (Ka×Rho)
 | [],_=>none
 | d::ds,ρ=>ob (g d ρ) fun ρ1=>match w ρ1 with
  | some r=>some r
  | none=>match u ρ1 with
   | some (.nx ρ2)=>forX g u w ds ρ2
   | some (.ct ρ2)=>forX g u w ds ρ2
   | _=>none
noncomputable def xFor (fi:Rho->Option (List Ka))(g:Ka->Rho->Option Rho)(u:Rho->Option Out)(w:Rho->Option (Ka×Rho))(ρ:Rho):Option (Ka×Rho):=ob (fi ρ) fun ds=>forX g u w ds ρ
section
variable {X:Cx}{G G1:Gm}{M L:List Nat}{fr:Fr}{o:Bool}{pins pl:List (Kf×Obj)}{d:Ka}{ρ:Rho}{e:Ke}{s':Kg}
theorem XAt.un (bs:Same G.H0 G1.H0)(eS:G1.S0=G.S0)(eL:G1.lk=G.lk)(q:XAt X o (pins++pl) G1 M L d ρ e s'):XAt X o pins G M L d ρ e s':=by
 obtain ⟨a,c,C,y,rfl,rfl,hC,q⟩:=q
 refine ⟨a,c,C,y,rfl,rfl,hC,?_⟩
 rcases q with ⟨ho,⟨σ,H,S,od,t,I,os,m⟩|⟨s2,B,t,dd,h',q,r⟩⟩|⟨σ,H,S,s1,H',B,t,dd,dx,I,os,g,r⟩
 ·exact .inl ⟨ho,.inl ⟨σ,H,S,od,t,I.unpinned,os.unbase bs eS eL,m⟩⟩
 ·refine .inl ⟨ho,.inr ⟨s2,B,t,dd,h',?_,r⟩⟩
  rcases q with ⟨σ,H,S,I,os,m⟩|⟨σ,H,S,s1,H',dx,I,os,m⟩
  ·exact .inl ⟨σ,H,S,I.unpinned,os.unbase bs eS eL,m⟩
  ·exact .inr ⟨σ,H,S,s1,H',dx,I.unpinned,os.unbase bs eS eL,m⟩
 ·exact .inr ⟨σ,H,S,s1,H',B,t,dd,dx,I.unpinned,os.unbase bs eS eL,g,r⟩
theorem qib (hst:X.stack=X.env::X.outer)(hfr:X.env.frame=some X.env.locals)(q:XAt X false pins G M L d ρ e s'):notedBy (model X.prog X.w) X.A X.env (cameBackBy (model X.prog X.w) X.A X.env (XAt X false pins G M L d ρ)) e s':=by
 obtain ⟨a,c,C,y,rfl,rfl,hC,q⟩:=q
 rcases q with ⟨-,⟨σ,H,S,od,t,I,os,dx,hHa,hs0,ha⟩|⟨s2,B,t,dd,h',q,rfl,hld,up⟩⟩|⟨σ,H,S,s1,H',B,t,dd,dx,I,os,g,hos,bare,ok,fl⟩
 ·have hin:∀ env∈X.env::X.outer,∀ b,env.frame=some b->b∈a::frs X.stack:=fun env he b hb=>by
   rw [hst];exact .tail _ (Ut.mpr ⟨env,he,hb⟩)
  have hF:s'.heap.FunFrames X.base (X.env::X.outer):=by have:=I.stack;rw [hst] at this;exact this
  have frm:X.A.frames=some (X.env::X.outer):=by rw [I.ok.frames,hst]
  have hBn:(V8 s'.heap (a::frs X.stack)).get? a=none:=XX _ (.head _)
  refine Wb (a0:=.ref t) frm (ET hF hin) hfr ha (fun b o q=>Ea _ q) hBn rfl rfl rfl fun h1 x1 x2 x3 x4=>?_
  refine yQ (s:={ s' with heap:=h1 }) hfr ⟨x1,hBn,x2,x3⟩ fun h2 hld u=>⟨a,c,C,y,rfl,rfl,hC,.inl ⟨rfl,.inr ⟨s',_,t,od,h2,.inl ⟨σ,H,S,I,os,dx,hHa,hs0,ha,rfl⟩,rfl,?_,x4.trans u⟩⟩⟩
  rw [hst] at hld ⊢
  exact hld
 ·refine qat hfr hld ?_
  exact yQ (s:={ s2 with heap:=h' }) hfr hld fun h2 hld2 u=>⟨a,c,C,y,rfl,rfl,hC,.inl ⟨rfl,.inr ⟨s2,B,t,dd,h2,q,rfl,hld2,up.trans u⟩⟩⟩
 ·have frm:X.A.frames=some (X.env::X.outer):=by rw [I.ok.frames,hst]
  have fl0:FlyD B (X.env::X.outer) a (.ref C) (.ref t) dd s'.heap:=by have:=fl.fl;rw [hst] at this;exact this
  refine qdQ frm hfr fl0 fun h1 hl1 up=>?_
  refine yQ (s:={ s' with heap:=h1 }) hfr hl1 fun h2 hld u=>⟨a,c,C,y,rfl,rfl,hC,.inl ⟨rfl,.inr ⟨s',B,t,dd,h2,.inr ⟨σ,H,S,s1,H',dx,I,os,g,hos,bare,ok,fl⟩,rfl,?_,up.trans u⟩⟩⟩
  rw [hst]
  exact hld
end
section
variable {X:Cx}{G:Gm}{M L Mx:List Nat}{fr:Fr}{o:Bool}{u:Rho->Option Out}{w:Rho->Option (Ka×Rho)}{a b:Ky}{es:List Ky}{fa:Rho->Option Ka}{pos:Pos}
theorem qiw  (hst:X.stack=X.env::X.outer) (hfr:X.env.frame=some X.env.locals) (hc:X.calm=true) (hi:PDI X M tg iter fi) (hg:∀ G,PDG X G M L tg g) (hb:∀ G,PDSs X G M L M M fr body u) (hx:∀ G,PDXs X false G M L M body w)
  (hs:∀ x,foldedSetIterable iter X.env x=pure x:=by intro _;rfl) (hn:∀ e s,X.xe e s->False:=by exact fun _ _ z=>z):PDX X false G M L M (.For tg iter body [] pos) (xFor fi g u w):=by
 intro pins s σ H S ρ ρ' d I os e
 obtain ⟨ds,e1,e⟩:=qd e
 refine wpAny_For (K3 (hi pins s σ H (fun J H1=>Same H H1/\∀ H2,Off S H1 H2->IsIt X.K S J H2 ds) I ⟨S,ρ,ds,os.ds,e1,fun J H1 g1 hJ0=>⟨g1,hJ0⟩⟩) (fun v s1 h1=>K3 h1 (fun itv s2 h2=>?_) fun e s z=>(hn e s z).elim) fun e s z=>(hn e s z).elim) hs
 obtain ⟨it,fp,tn,J,H2,e',I2,T,st2,f2,g1,hJ0⟩:=h2
 subst e'
 have os1:=os.same g1
 have hJ:IsIt X.K S J ((G.base S H2).H0) ds:=hJ0 _ qbC
 have bs:Same G.H0 (G.base S H2).H0:=W5 os1.h0
 have bo:=os1.base
 have sl:=os1.lks
 generalize hG:G.base S H2=G1 at hJ bs bo
 have eS:G1.S0=G.S0:=by rw [← hG];rfl
 have eL:G1.lk=G.lk:=by rw [← hG];rfl
 have sl1:∀ i∈L,S (G1.lk i).1:=by rw [eL];exact sl
 have s01:∀ a,G1.S0 a->S a:=by rw [eS];exact os.s0
 have stat:∀ {H':Hp},(∀ b∈fp,H' b=none)->∀ b∈fp,FpOk X pins H' b:=fun hn b hb=>⟨hn b hb,(f2 b hb).2⟩
 refine codeAny_forLoop_any (fun n s'=>∃ i σ' H' S' ρ1,Inv X pins σ' H' s'/\tn i s'.heap/\(∀ b∈fp,H' b=none)/\OwnS X.K G1 M L H' S' σ' ρ1/\n=ds.length-i/\forX g u w (ds.drop i) ρ1=some (d,ρ')) ?_ ds.length ⟨0,σ,H2,S,ρ,I2,st2,fun b hb=>(f2 b hb).1,bo,by simp,e⟩
 rintro n s3 ⟨i,σ3,H3,S3,ρ3,I3,st3,fr3,os3,rfl,e3⟩
 by_cases hlt:i<ds.length
 case neg =>
  rw [XM (by omega)] at e3
  cases e3
 rw [VF hlt] at e3
 obtain ⟨ρ4,eg,e3⟩:=qd e3
 refine K3 (T.item X rfl rfl rfl hc i pins s3 σ3 H3 X.xe I3 (stat fr3) st3 (hJ.go i H3 os3.h0 hlt)) (fun r s4 ⟨uv,hr,h4⟩=>?_) fun e s z=>(hn e s z).elim
 subst hr
 refine K3 h4 (fun _ s5 ⟨x,H5,I5,r5,y5,st5,fr5⟩=>?_) fun e s z=>(hn e s z).elim
 have I5':=I5.pinned (stat fr5) (T.obj _ _ st5)
 obtain ⟨e4,yd⟩:=hJ.yld i H3 x H5 os3.h0 y5
 refine K3 (hg G1 _ s5 σ3 H5 x uv (fun σ6 H6=>∃ S6,OwnS X.K G1 M L H6 S6 σ6 ρ4) I5' r5 ⟨S3,ρ3,_,ρ4,os3.same e4,yd _ (Kn hlt) S3 fun y e q=>(os3.turn s01 sl1 q).same e4,eg,fun σ2 H3' g3 hs3=>⟨S3,hs3⟩⟩) (fun _ s6 ⟨σ6,H6,I6,S6,os6⟩=>?_) fun e s z=>(hn e s z).elim
 cases ew:w ρ4 with
 | some r =>
  rw [ew] at e3
  cases e3
  exact K3 (hx G1 _ s6 σ6 H6 S6 ρ4 ρ' d I6 os6 ew) (fun _ _ z=>z.elim) fun ev s7 q=>qib hst hfr (q.un bs eS eL)
 | none =>
  rw [ew] at e3
  have again:∀ {s7:Kg} {σ7:St} {H7:Hp} {S7:Av} {ρ5:Rho},Inv X (pins++Q0 fp s5.heap) σ7 H7 s7->OwnS X.K G1 M L H7 S7 σ7 ρ5->forX g u w (ds.drop (i+1)) ρ5=some (d,ρ')->∃ m,m<ds.length-i/\∃ i σ' H' S' ρ1,Inv X pins σ' H' s7/\tn i s7.heap/\(∀ b∈fp,H' b=none)/\OwnS X.K G1 M L H' S' σ' ρ1/\m=ds.length-i/\forX g u w (ds.drop i) ρ1=some (d,ρ'):=fun {s7 σ7 H7 S7 ρ5} I7 os7 e5=>by
   refine ⟨ds.length-(i+1),by omega,i+1,σ7,H7,S7,ρ5,I7.unpinned,T.keep _ _ _ st5 fun b hb o e=>(I7.pin (b,o) (KQ _ (KQ _ (Qj hb e)))).1,fun b hb=>?_,os7,rfl,e5⟩
   obtain ⟨o,e,d⟩:=T.obj _ _ st5 b hb
   exact (I7.pin (b,o) (KQ _ (KQ _ (Qj hb e)))).2.1
  cases eu:u ρ4 with
  | none=>rw [eu] at e3;cases e3
  | some o1 =>
   rw [eu] at e3
   cases o1 with
   | nx ρ5 =>
    refine K3 (hb G1 _ s6 σ6 H6 { nx:=fun σ' H'=>∃ S',OwnS X.K G1 M L H' S' σ' ρ5,rt:=fun _ _=>False } I6 ⟨S6,ρ4,_,os6,eu,fun σ' H' S' os'=>⟨S',os'⟩⟩) (fun f s7 q7=>?_) fun e s z=>(hn e s z).elim
    cases f with
    | next=>obtain ⟨σ7,H7,I7,S7,os7⟩:=q7;exact again I7 os7 e3
    | ret v=>obtain ⟨_,_,_,_,_,z⟩:=q7;exact z.elim
    | brk=>obtain ⟨_,_,_,z⟩:=q7;exact z.elim
    | cont=>obtain ⟨_,_,_,z⟩:=q7;exact z.elim
   | ct ρ5 =>
    refine K3 (hb G1 _ s6 σ6 H6 { nx:=fun _ _=>False,rt:=fun _ _=>False,ct:=fun σ' H'=>∃ S',OwnS X.K G1 M L H' S' σ' ρ5 } I6 ⟨S6,ρ4,_,os6,eu,fun σ' H' S' os'=>⟨S',os'⟩⟩) (fun f s7 q7=>?_) fun e s z=>(hn e s z).elim
    cases f with
    | cont=>obtain ⟨σ7,H7,I7,S7,os7⟩:=q7;exact again I7 os7 e3
    | ret v=>obtain ⟨_,_,_,_,_,z⟩:=q7;exact z.elim
    | brk=>obtain ⟨_,_,_,z⟩:=q7;exact z.elim
    | next=>obtain ⟨_,_,_,z⟩:=q7;exact z.elim
   | rt _=>cases e3
   | bk _=>cases e3
end
noncomputable abbrev zpO (f0:Ke)(b:Bool)(ti to:Kf):Obj:={ cls:=.type "zip", dict:=none,data:=.fields #[f0,.bool b,.bool false,.ref ti,.ref to],slots:=#[] }
def Zs (h:KC)(z ti to:Kf):Prop:=∃ f0 b,h.get? z=some (zpO f0 b ti to)/\(f0=.none\/∃ T:Int,f0=rawInt T)
def Zw (h:KC)(z ti to:Kf):Prop:=∃ f0 b,h.get? z=some (zpO f0 b ti to)
theorem Zs.w {h:KC}{z ti to:Kf}(q:Zs h z ti to):Zw h z ti to:=let ⟨f,b,e,_⟩:=q;⟨f,b,e⟩
section
variable {prog:Ku}{w:KI}{A:KF}{E:Ke->Kg->Prop}{s:Kg}
theorem qg8 {M:Model}{a:Kf}{Q:Option Obj->Kg->Prop}(h:Q (s.heap.get? a) s):wpAny M A (loadIfAlive a) Q E s:=fun _ _ _=>h
theorem qfN {z ti to:Kf}{Q:Bool->Kg->Prop}(hz:Zs s.heap z ti to)
  (h:∀ b h',(b=false->Zs h' z ti to)->Zw h' z ti to->Xj z s.heap h'->Q b { s with heap:=h' }) :
  wpAny (model prog w) A (VO (.ref z)) Q E s:=by
 obtain ⟨f0,b,e,hf⟩:=id hz
 unfold VO
 refine Kc (Vi e rfl (x:=f0) rfl ?_)
 rcases hf with rfl|⟨T,rfl⟩
 ·exact Kl (h true s.heap (fun z=>nomatch z) hz.w ⟨rfl,fun _ _=>rfl⟩)
 ·refine Kc (qg8 ?_)
  cases s.heap.get? T.toNat with
  | none=>exact Kl (h true s.heap (fun z=>nomatch z) hz.w ⟨rfl,fun _ _=>rfl⟩)
  | some o =>
   refine Kc (Vi e rfl (x:=.bool b) rfl ?_)
   cases b with
   | true=>exact Kl (h false s.heap (fun _=>hz) hz.w ⟨rfl,fun _ _=>rfl⟩)
   | false =>
    refine Kc (VV e (by simp) fun h1 e1 s1=>Kl (h false h1 (fun _=>⟨_,true,e1,.inr ⟨T,rfl⟩⟩) ⟨_,true,e1⟩ s1))
theorem Zw.set0 {z ti to:Kf}{v:Ke}{Q:Unit->Kg->Prop}(hz:Zw s.heap z ti to)(h:∀ h' b,h'.get? z=some (zpO v b ti to)->Xj z s.heap h'->Q () { s with heap:=h' }) :
  wpAny (model prog w) A (setField (.ref z) 0 v) Q E s:=by
 obtain ⟨f0,b,e⟩:=hz
 exact VV e (by simp) fun h1 e1 s1=>h h1 b e1 s1
theorem qi0 {z ti to i1 i2 l1 l2:Kf}{k:Nat}{xs ys:Array Ke}{x y:Ke}{Q:Ke->Kg->Prop}(D:N4 z ti to i1 i2 l1 l2)
  (hz:Zs s.heap z ti to) (hti:UL s.heap ti (.ref i1) (.ref i2)) (hto:∃ a b,UL s.heap to a b) (h1:s.heap.IsListIter i1 l1 k) (h2:s.heap.IsListIter i2 l2 k)
  (hl1:s.heap.IsList l1 xs) (hl2:s.heap.IsList l2 ys) (hx:xs[k]?=some x) (hy:ys[k]?=some y)
  (hQ:∀ h',Zs h' z ti to->(∃ a b,UL h' to a b)->h'.IsListIter i1 l1 (k+1)->h'.IsListIter i2 l2 (k+1)->UL h' s.heap.objs.size x y->h'.objs.size=s.heap.objs.size+1->
   (∀ c o,c≠z->c≠to->c≠i1->c≠i2->s.heap.get? c=some o->h'.get? c=some o)->Q (.ref s.heap.objs.size) { s with heap:=h' }) :
  wpAny (model prog w) A (UA.«zip.__next__» ⟨[.ref z],[]⟩) (fun fin s'=>∃ v,fin=.done (.ret v)/\Q v s') E s:=by
 obtain ⟨f0,b0,e0,hf⟩:=id hz
 show wpAny _ _ (field (.ref z) 2 >>= _) _ _ _;refine Kc (Vi e0 rfl (x:=.bool false) rfl ?_)
 show wpAny _ _ (field (.ref z) 3 >>= _) _ _ _;refine Kc (Vi e0 rfl (x:=.ref ti) rfl ?_)
 refine Kc (V4 hti rfl ?_);show wpAny _ _ (VO (.ref z) >>= _) _ _ _
 refine Kc (qfN hz fun b g hb zg sg=>?_)
 have sz:g.objs.size=s.heap.objs.size:=sg.1
 replace h1:g.IsListIter i1 l1 k:=h1.extBut sg.extBut D.i1z
 replace h2:g.IsListIter i2 l2 k:=h2.extBut sg.extBut D.i2z
 replace hl1:g.IsList l1 xs:=hl1.extBut sg.extBut D.l1z
 replace hl2:g.IsList l2 ys:=hl2.extBut sg.extBut D.l2z
 obtain ⟨u0,v0,hto⟩:=hto
 replace hto:UL g to u0 v0:=sg.extBut _ _ D.TOz hto
 have kg:∀ c o,c≠z->s.heap.get? c=some o->g.get? c=some o:=fun c o n q=>sg.extBut _ _ n q
 cases b with
 | true =>
  simp only [if_true]
  obtain ⟨f1,b1,e1⟩:=id zg
  refine Kc (wpAny_rule ?_);refine Kc (Vi e1 rfl (x:=.ref to) rfl ?_)
  refine Kc (Zw.set0 zg fun g1 b2 e2 s1=>?_);refine Kc ?_
  simp only [List.zipIdx_cons,List.zipIdx_nil,XD,Nq]
  refine Kc (Kc (Em ?_));show wpAny _ _ (Vj (.ref i1) >>= _) _ _ _
  refine Kc (UM (h1.extBut s1.extBut D.i1z) (hl1.extBut s1.extBut D.l1z) hx fun g2 j1 s2=>Kl ?_)
  have t2:UL g2 to u0 v0:=s2.extBut _ _ D.TOi1 (s1.extBut _ _ D.TOz hto)
  refine Kc (V4 t2 rfl ?_);refine Kc (NX t2 fun g3 t3 s3=>?_);refine Kc (UK (Kl ?_))
  replace t3:UL g3 to x v0:=t3
  refine Kc (Kc (Em ?_));show wpAny _ _ (Vj (.ref i2) >>= _) _ _ _
  refine Kc (UM (((h2.extBut s1.extBut D.i2z).extBut s2.extBut D.i12.symm).extBut s3.extBut D.TOi2.symm) (((hl2.extBut s1.extBut D.l2z).extBut s2.extBut D.l2i1).extBut s3.extBut D.l2TO) hy fun g4 j2 s4=>Kl ?_)
  have t4:UL g4 to x v0:=s4.extBut _ _ D.TOi2 t3
  refine Kc (V4 t4 rfl ?_);refine Kc (NX t4 fun g5 t5 s5=>?_);refine Kc (UK (Kl (Kl ?_)))
  replace t5:UL g5 to x y:=t5
  refine Kc (V4 t5 rfl ?_);refine Kc (Nr ?_)
  have z5:g5.objs.size=s.heap.objs.size:=by rw [s5.1,s4.1,s3.1,s2.1,s1.1,sz]
  have e5:g5.get? z=some (zpO .ellipsis b2 ti to):=s5.extBut _ _ D.TOz.symm (s4.extBut _ _ D.i2z.symm (s3.extBut _ _ D.TOz.symm (s2.extBut _ _ D.i1z.symm e2)))
  have zl:z<g5.objs.size:=Ks e5
  have p5:∀ c o,c≠z->c≠to->c≠i1->c≠i2->s.heap.get? c=some o->g5.get? c=some o:=fun c o n1 n2 n3 n4 q=>s5.extBut _ _ n2 (s4.extBut _ _ n4 (s3.extBut _ _ n2 (s2.extBut _ _ n3 (s1.extBut _ _ n1 (kg c o n1 q)))))
  show wpAny _ _ (Uw (.ref z) (.ref g5.objs.size) >>= _) _ _ _;refine Kc ?_
  unfold Uw
  refine Kc (VV (s:={ s with heap:=g5.push _ }) (Kh _ e5) (by simp) fun g7 e7 s7=>?_)
  refine VV e7 (by simp) fun g8 e8 s8=>Kl ⟨_,rfl,?_⟩
  have up:∀ c o,c≠z->g5.get? c=some o->g8.get? c=some o:=fun c o n q=>s8.extBut _ _ n (s7.extBut _ _ n (Kh _ q))
  have t8:UL g8 g5.objs.size x y:=s8.extBut _ _ (VZ zl) (s7.extBut _ _ (VZ zl) (Kz _ rfl))
  have z8:g8.objs.size=g5.objs.size+1:=by rw [s8.1,s7.1,Vb]
  show Q (.ref g5.objs.size) _
  rw [z5] at t8 z8 ⊢
  exact hQ g8 ⟨_,_,e8,.inr ⟨_,rfl⟩⟩ ⟨x,y,up _ _ D.TOz t5⟩ ((((j1.extBut s3.extBut D.TOi1.symm).extBut s4.extBut D.i12).extBut s5.extBut D.TOi1.symm).at fun o q=>up _ o D.i1z q) ((j2.extBut s5.extBut D.TOi2.symm).at fun o q=>up _ o D.i2z q) t8 z8 fun c o n1 n2 n3 n4 q=>up c o n1 (p5 c o n1 n2 n3 n4 q)
 | false =>
  have zg':=hb rfl
  simp only [VA,if_false]
  have zg':Zs g z ti to:=hb rfl
  refine Kc ?_
  rw [← Ni]
  simp only [XD,Nq]
  refine Kc (Kc (VG ?_));show wpAny _ _ (Vj (.ref i1) >>= _) _ _ _
  refine Kc (UM h1 hl1 hx fun g2 j1 s2=>Kl (Kl ?_))
  refine Kc (Kc (VG ?_));show wpAny _ _ (Vj (.ref i2) >>= _) _ _ _
  refine Kc (UM (h2.extBut s2.extBut D.i12.symm) (hl2.extBut s2.extBut D.l2i1) hy fun g3 j2 s3=>Kl (Kl (Kl ?_)))
  show wpAny _ _ (newTuple [x,y] >>= _) _ _ _;refine Kc (Nr (Kl ⟨_,rfl,?_⟩))
  have z3:g3.objs.size=s.heap.objs.size:=by rw [s3.1,s2.1,sz]
  have t3:=Kz g3 (o:={ cls:=.type "tuple", data:=.seq #[x,y] }) rfl
  have p3:∀ c o,c≠i1->c≠i2->g.get? c=some o->(g3.push { cls:=.type "tuple", data:=.seq #[x,y] }).get? c=some o:=fun c o n3 n4 q=>Kh _ (s3.extBut _ _ n4 (s2.extBut _ _ n3 q))
  show Q (.ref g3.objs.size) _
  rw [z3] at t3 ⊢
  obtain ⟨f1,b1,e1,hf1⟩:=zg'
  exact hQ _ ⟨f1,b1,p3 _ _ D.i1z.symm D.i2z.symm e1,hf1⟩ ⟨u0,v0,p3 _ _ D.TOi1 D.TOi2 hto⟩ ((j1.extBut s3.extBut D.i12).at fun o q=>Kh _ q) (j2.at fun o q=>Kh _ q) t3 (by rw [Vb,z3]) fun c o n1 n2 n3 n4 q=>p3 c o n3 n4 (kg c o n1 q)
theorem qkZ {z ti to i1 i2 l1 l2:Kf}{k:Nat}{xs ys:Array Ke}{Q:PySem.Fin->Kg->Prop}(hh:A.handled=none)(D:N4 z ti to i1 i2 l1 l2)
  (hz:Zs s.heap z ti to) (hti:UL s.heap ti (.ref i1) (.ref i2)) (hto:∃ a b,UL s.heap to a b) (h1:s.heap.IsListIter i1 l1 k) (h2:s.heap.IsListIter i2 l2 k)
  (hl1:s.heap.IsList l1 xs) (hl2:s.heap.IsList l2 ys) (hend:xs[k]?=none\/ys[k]?=none)
  (hE:∀ h' e,(∀ c o,c≠z->c≠to->c≠i1->c≠i2->s.heap.get? c=some o->h'.get? c=some o)->(∃ o,h'.get? e=some o/\o.cls=.type "StopIteration")->E (.ref e) { s with heap:=h' }) :
  wpAny (model prog w) A (UA.«zip.__next__» ⟨[.ref z],[]⟩) Q E s:=by
 obtain ⟨f0,b0,e0,hf⟩:=id hz
 show wpAny _ _ (field (.ref z) 2 >>= _) _ _ _;refine Kc (Vi e0 rfl (x:=.bool false) rfl ?_)
 show wpAny _ _ (field (.ref z) 3 >>= _) _ _ _;refine Kc (Vi e0 rfl (x:=.ref ti) rfl ?_)
 refine Kc (V4 hti rfl ?_);show wpAny _ _ (VO (.ref z) >>= _) _ _ _
 refine Kc (qfN hz fun b g hb zg sg=>?_)
 replace h1:g.IsListIter i1 l1 k:=h1.extBut sg.extBut D.i1z
 replace h2:g.IsListIter i2 l2 k:=h2.extBut sg.extBut D.i2z
 replace hl1:g.IsList l1 xs:=hl1.extBut sg.extBut D.l1z
 replace hl2:g.IsList l2 ys:=hl2.extBut sg.extBut D.l2z
 obtain ⟨u0,v0,hto⟩:=hto
 replace hto:UL g to u0 v0:=sg.extBut _ _ D.TOz hto
 have kg:∀ c o,c≠z->s.heap.get? c=some o->g.get? c=some o:=fun c o n q=>sg.extBut _ _ n q
 cases b with
 | true =>
  simp only [if_true]
  obtain ⟨f1,b1,e1⟩:=id zg
  refine Kc (wpAny_rule ?_);refine Kc (Vi e1 rfl (x:=.ref to) rfl ?_)
  refine Kc (Zw.set0 zg fun g1 b2 e2 s1=>?_);refine Kc ?_
  simp only [List.zipIdx_cons,List.zipIdx_nil,XD,Nq]
  refine Kc (Kc (Em ?_));show wpAny _ _ (Vj (.ref i1) >>= _) _ _ _
  cases hx:xs[k]? with
  | none =>
   refine Kc (XR hh (h1.extBut s1.extBut D.i1z) (hl1.extBut s1.extBut D.l1z) hx fun g2 e s2 he=>?_)
   obtain ⟨oe,he,hc⟩:=he
   have e3:g2.get? z=some (zpO .ellipsis b2 ti to):=s2 _ _ D.i1z.symm e2
   have nz:e≠z:=fun q=>by subst q;rw [e3] at he;cases he;simp at hc
   exact VV e3 (by simp) fun g3 _ s3=>hE g3 e (fun c o n1 _ n3 _ q=>s3.extBut _ _ n1 (s2 _ _ n3 (s1.extBut _ _ n1 (kg c o n1 q)))) ⟨oe,s3.extBut _ _ nz he,hc⟩
  | some x =>
   have hy:ys[k]?=none:=by
    rcases hend with q|q
    ·rw [hx] at q;cases q
    ·exact q
   refine Kc (UM (h1.extBut s1.extBut D.i1z) (hl1.extBut s1.extBut D.l1z) hx fun g2 j1 s2=>Kl ?_)
   have t2:UL g2 to u0 v0:=s2.extBut _ _ D.TOi1 (s1.extBut _ _ D.TOz hto)
   refine Kc (V4 t2 rfl ?_);refine Kc (NX t2 fun g3 t3 s3=>?_);refine Kc (UK (Kl ?_))
   refine Kc (Kc (Em ?_));show wpAny _ _ (Vj (.ref i2) >>= _) _ _ _
   refine Kc (XR hh (((h2.extBut s1.extBut D.i2z).extBut s2.extBut D.i12.symm).extBut s3.extBut D.TOi2.symm) (((hl2.extBut s1.extBut D.l2z).extBut s2.extBut D.l2i1).extBut s3.extBut D.l2TO) hy fun g4 e s4 he=>?_)
   obtain ⟨oe,he,hc⟩:=he
   have e5:g4.get? z=some (zpO .ellipsis b2 ti to):=s4 _ _ D.i2z.symm (s3.extBut _ _ D.TOz.symm (s2.extBut _ _ D.i1z.symm e2))
   have nz:e≠z:=fun q=>by subst q;rw [e5] at he;cases he;simp at hc
   exact VV e5 (by simp) fun g5 _ s5=>hE g5 e (fun c o n1 n2 n3 n4 q=>s5.extBut _ _ n1 (s4 _ _ n4 (s3.extBut _ _ n2 (s2.extBut _ _ n3 (s1.extBut _ _ n1 (kg c o n1 q)))))) ⟨oe,s5.extBut _ _ nz he,hc⟩
 | false =>
  simp only [VA,if_false]
  refine Kc ?_
  rw [← Ni]
  simp only [XD,Nq]
  refine Kc (Kc (VG ?_));show wpAny _ _ (Vj (.ref i1) >>= _) _ _ _
  cases hx:xs[k]? with
  | none=>exact Kc (XR hh h1 hl1 hx fun g2 e s2 he=>hE g2 e (fun c o n1 _ n3 _ q=>s2 _ _ n3 (kg c o n1 q)) he)
  | some x =>
   have hy:ys[k]?=none:=by
    rcases hend with q|q
    ·rw [hx] at q;cases q
    ·exact q
   refine Kc (UM h1 hl1 hx fun g2 j1 s2=>Kl (Kl ?_))
   refine Kc (Kc (VG ?_));show wpAny _ _ (Vj (.ref i2) >>= _) _ _ _
   exact Kc (XR hh (h2.extBut s2.extBut D.i12.symm) (hl2.extBut s2.extBut D.l2i1) hy fun g3 e s3 he=>hE g3 e (fun c o n1 _ n3 n4 q=>s3 _ _ n4 (s2.extBut _ _ n3 (kg c o n1 q))) he)
theorem qes {e it:Kf}{i:Nat}{old:Ke}{Q:Ke->Kg->Prop}{N:Ke->KC->Nat->Prop}(he:IsEnum s.heap e it i old)
  (inn:∀ (Q':Ke->Kg->Prop),(∀ x h' tk,N x h' tk->IsEnum h' e it i old->Q' x { s with heap:=h',toks:=tk })->wpAny (model prog w) A (Vj (.ref it)) Q' E s)
  (hQ:∀ x h1 tk h',N x h1 tk->IsEnumOut h' e it ((i:Int)+1) x h1.objs.size->h'.get? h1.objs.size=some { cls:=.type "tuple", data:=.seq #[.int i tk,x] }->h'.objs.size=h1.objs.size+1->
   (∀ b o,b≠e->h1.get? b=some o->h'.get? b=some o)->Q (.ref h1.objs.size) { s with heap:=h',toks:=tk+1 }) :
  wpAny (model prog w) A (UA.«enumerate.__next__» ⟨[.ref e],[]⟩) (fun fin s'=>∃ v,fin=.done (.ret v)/\Q v s') E s:=by
 obtain ⟨hp,g,d,tk₀,os⟩:=s
 show wpAny _ _ (field (.ref e) 2 >>= _) _ _ _;refine Kc (Vi he rfl (x:=.ref it) rfl ?_)
 refine Kc (inn _ fun x h1 tk n e1=>?_)
 show wpAny _ _ (field (.ref e) 3 >>= _) _ _ ⟨h1,g,d,tk,os⟩;refine Kc (Vi e1 rfl (x:=rawInt i) rfl ?_)
 show wpAny _ _ (field (.ref e) 4 >>= _) _ _ ⟨h1,g,d,tk,os⟩;refine Kc (Vi e1 rfl (x:=.none) rfl ?_)
 show wpAny _ _ (mkInt i >>= _) _ _ ⟨h1,g,d,tk,os⟩;refine Kc (wpAny_mkInt ?_)
 show wpAny _ _ (setField (.ref e) 3 (rawInt ((i:Int)+1)) >>= _) _ _ ⟨h1,g,d,tk+1,os⟩
 refine Kc (VV e1 (by simp) fun h2 e2 s2=>?_)
 replace s2:Xj e h1 h2:=s2
 replace e2:IsEnum h2 e it ((i:Int)+1) old:=e2
 show wpAny _ _ (setField (.ref e) 4 .none >>= _) _ _ ⟨h2,g,d,tk+1,os⟩;refine Kc (VV e2 (by simp) fun h3 e3 s3=>?_)
 replace s3:Xj e h2 h3:=s3
 replace e3:IsEnum h3 e it ((i:Int)+1) old:=e3
 show wpAny _ _ (newTuple [.int i tk,x] >>= _) _ _ ⟨h3,g,d,tk+1,os⟩;refine Kc (Nr ?_)
 have sz:h3.objs.size=h1.objs.size:=by rw [s3.1,s2.1]
 have el:e<h1.objs.size:=Ks e1
 have e4:IsEnum (h3.push { cls:=.type "tuple", data:=.seq #[.int i tk,x] }) e it ((i:Int)+1) old:=Kh _ e3
 have t4:(h3.push { cls:=.type "tuple", data:=.seq #[.int i tk,x] }).get? h1.objs.size=some { cls:=.type "tuple", data:=.seq #[.int i tk,x] }:=by rw [← sz];exact Kz _ rfl
 have z4:(h3.push { cls:=.type "tuple", data:=.seq #[.int i tk,x] }).objs.size=h1.objs.size+1:=by rw [Vb,sz]
 have k4:∀ b o,b≠e->h1.get? b=some o->(h3.push { cls:=.type "tuple", data:=.seq #[.int i tk,x] }).get? b=some o:=fun b o n q=>Kh _ (s3.extBut _ _ n (s2.extBut _ _ n q))
 show wpAny _ _ (VO (.ref e) >>= _) _ _ _
 rw [sz]
 generalize h3.push { cls:=.type "tuple", data:=.seq #[.int i tk,x] }=h4 at e4 t4 z4 k4
 refine Kc ?_
 unfold VO
 refine Kc (Vi e4 rfl (x:=.none) rfl (Kl ?_))
 simp only [if_true]
 refine Kc (wpAny_rule ?_);refine Kc (Vi e4 rfl (x:=old) rfl ?_)
 refine Kc (VV e4 (by simp) fun h5 e5 s5=>?_)
 replace e5:IsEnum h5 e it ((i:Int)+1) x:=e5
 show wpAny _ _ (Uw (.ref e) (.ref h1.objs.size) >>= _) _ _ _
 refine Kc ?_
 unfold Uw
 refine Kc (VV e5 (by simp) fun h6 e6 s6=>?_)
 replace e6:IsEnumOut h6 e it ((i:Int)+1) x h1.objs.size:=e6
 refine VV e6 (by simp) fun h7 e7 s7=>?_
 replace e7:IsEnumOut h7 e it ((i:Int)+1) x h1.objs.size:=e7
 have up:∀ b o,b≠e->h4.get? b=some o->h7.get? b=some o:=fun b o n q=>s7.extBut _ _ n (s6.extBut _ _ n (s5.extBut _ _ n q))
 exact Kc (UK (Kl ⟨_,rfl,hQ x h1 tk h7 n e7 (up _ _ (VZ el) t4) ((s7.1.trans (s6.1.trans s5.1)).trans z4) fun b o nb q=>up b o nb (k4 b o nb q)⟩))
end
section
variable {prog:Ku}{w:KI}{A:KF}{E:Ke->Kg->Prop}{s:Kg}
def tnEZ (e z ti to i1 i2 a b:Kf)(i:Nat)(h:KC):Prop:=(∃ old,IsEnum h e z i old)/\Zs h z ti to/\UL h ti (.ref i1) (.ref i2)/\(∃ u v,UL h to u v)/\h.IsListIter i1 a i/\h.IsListIter i2 b i
theorem qhE {e z ti to i1 i2 l1 l2:Kf}{k:Nat}{xs ys:Array Ke}{x y:Ke}{Q:Option Ke->Kg->Prop}(D:N4 z ti to i1 i2 l1 l2)(ne:e≠z/\e≠ti/\e≠to/\e≠i1/\e≠i2)
  (st:tnEZ e z ti to i1 i2 l1 l2 k s.heap) (hl1:s.heap.IsList l1 xs) (hl2:s.heap.IsList l2 ys) (hx:xs[k]?=some x) (hy:ys[k]?=some y)
  (hQ:∀ h' tk,IsEnumOut h' e z ((k:Int)+1) (.ref s.heap.objs.size) (s.heap.objs.size+1)->Zs h' z ti to->UL h' ti (.ref i1) (.ref i2)->(∃ u v,UL h' to u v)->h'.IsListIter i1 l1 (k+1)->h'.IsListIter i2 l2 (k+1)->
   UL h' s.heap.objs.size x y->UL h' (s.heap.objs.size+1) (.int k tk) (.ref s.heap.objs.size)->(∀ c o,c∉[e,z,ti,to,i1,i2]->s.heap.get? c=some o->h'.get? c=some o)->Q (some (.ref (s.heap.objs.size+1))) { s with heap:=h',toks:=tk+1 }) :
  wpAny (model prog w) A (pyNext (.ref e)) Q E s:=by
 obtain ⟨⟨old,he⟩,hz,hti,hto,h1,h2⟩:=st
 have hT:s.TypeIs (.ref e) "enumerate" := ⟨_,he,rfl⟩
 have hZ:s.TypeIs (.ref z) "zip" := by obtain ⟨f0,b0,e0,_⟩:=hz;exact ⟨_,e0,rfl⟩
 unfold pyNext
 refine Kc (wpAny_attempt (U4 (name:=Kb "__next__") hT XU (UR XU hT F.entry_enumerate_next ?_ (EK _))))
 refine qes (N:=fun v h' tk=>v=.ref s.heap.objs.size/\tk=s.toks/\Zs h' z ti to/\(∃ u v,UL h' to u v)/\h'.IsListIter i1 l1 (k+1)/\h'.IsListIter i2 l2 (k+1)/\UL h' s.heap.objs.size x y/\h'.objs.size=s.heap.objs.size+1/\
   ∀ c o,c≠z->c≠to->c≠i1->c≠i2->s.heap.get? c=some o->h'.get? c=some o) he (fun Q' hQ'=>?_) fun v g tk h' n e' t' z' k'=>?_
 ·unfold Vj
  exact Kc (U4 (name:=Kb "__next__") hZ NY (UR NY hZ F.entry_zip_next
   (qi0 D hz hti hto h1 h2 hl1 hl2 hx hy fun g a1 a2 a3 a4 a5 a6 a7=>Kl (hQ' _ g s.toks ⟨rfl,rfl,a1,a2,a3,a4,a5,a6,a7⟩ (a7 e _ ne.1 ne.2.2.1 ne.2.2.2.1 ne.2.2.2.2 he))) (F.args_zip_next_1 _)))
 ·obtain ⟨rfl,rfl,a1,a2,a3,a4,a5,a6,a7⟩:=n
  have el:e<s.heap.objs.size:=Ks he
  rw [a6] at e' t' ⊢
  obtain ⟨f1,b1,e1,hf1⟩:=a1
  obtain ⟨u,v,a2⟩:=a2
  exact Kl (hQ h' s.toks e' ⟨f1,b1,k' _ _ (VT ne.1) e1,hf1⟩ (k' _ _ (VT ne.2.1) (a7 _ _ D.TIz D.TITO D.TIi1 D.TIi2 hti)) ⟨u,v,k' _ _ (VT ne.2.2.1) a2⟩ (a3.at fun o q=>k' _ o (VT ne.2.2.2.1) q) (a4.at fun o q=>k' _ o (VT ne.2.2.2.2) q)
   (k' _ _ (VZ el) a5) t' fun c o hc q=>by
    simp only [Ko,Vt,or_false,not_or] at hc
    exact k' c o hc.1 (a7 c o hc.2.1 hc.2.2.2.1 hc.2.2.2.2.1 hc.2.2.2.2.2 q))
theorem qjG {e z ti to i1 i2 l1 l2:Kf}{k:Nat}{xs ys:Array Ke}{Q:Option Ke->Kg->Prop}(hh:A.handled=none)(D:N4 z ti to i1 i2 l1 l2)
  (st:tnEZ e z ti to i1 i2 l1 l2 k s.heap) (hl1:s.heap.IsList l1 xs) (hl2:s.heap.IsList l2 ys) (hend:xs[k]?=none\/ys[k]?=none)
  (hQ:∀ h',(∀ c o,c∉[e,z,ti,to,i1,i2]->s.heap.get? c=some o->h'.get? c=some o)->Q none { s with heap:=h' }):wpAny (model prog w) A (pyNext (.ref e)) Q E s:=by
 obtain ⟨⟨old,he⟩,hz,hti,hto,h1,h2⟩:=st
 have hT:s.TypeIs (.ref e) "enumerate" := ⟨_,he,rfl⟩
 have hZ:s.TypeIs (.ref z) "zip" := by obtain ⟨f0,b0,e0,_⟩:=hz;exact ⟨_,e0,rfl⟩
 unfold pyNext
 refine Kc (wpAny_attempt (U4 (name:=Kb "__next__") hT XU (UR XU hT F.entry_enumerate_next ?_ (EK _))))
 show wpAny _ _ (field (.ref e) 2 >>= _) _ _ _;refine Kc (Vi he rfl (x:=.ref z) rfl ?_)
 unfold Vj
 refine Kc (Kc (U4 (name:=Kb "__next__") hZ NY (UR NY hZ F.entry_zip_next (qkZ hh D hz hti hto h1 h2 hl1 hl2 hend fun h' x hk hx=>?_) (F.args_zip_next_1 _))))
 obtain ⟨o,ho,hc⟩:=hx
 refine Kc (wpAny_isInstance (T := "StopIteration") (b:=true) ⟨o,ho,hc⟩ isSubtype_stop (Kl (hQ _ fun c o hc q=>?_)))
 simp only [Ko,Vt,or_false,not_or] at hc
 exact hk c o hc.2.1 hc.2.2.2.1 hc.2.2.2.2.1 hc.2.2.2.2.2 q
end
theorem qfG {e z ti to i1 i2 a b:Kf}{i:Nat}{h:KC}:tnEZ e z ti to i1 i2 a b i h->∀ c∈[e,z,ti,to,i1,i2],∃ o,h.get? c=some o/\∀ v,o.data≠.cell v :=
 fun ⟨⟨old,he⟩,⟨f0,b0,hz,_⟩,hti,⟨u,v,hto⟩,⟨o1,e1,c1,d1⟩,⟨o2,e2,c2,d2⟩⟩ c hc=>by
  simp only [Ko,Vt,or_false] at hc
  rcases hc with rfl|rfl|rfl|rfl|rfl|rfl
  ·exact ⟨_,he,fun v z=>by cases z⟩
  ·exact ⟨_,hz,fun v z=>by cases z⟩
  ·exact ⟨_,hti,fun v z=>by cases z⟩
  ·exact ⟨_,hto,fun v z=>by cases z⟩
  ·exact ⟨_,e1,fun v z=>by rw [d1] at z;cases z⟩
  ·exact ⟨_,e2,fun v z=>by rw [d2] at z;cases z⟩
noncomputable def Itez (K:Kd)(a b:Kf):It :=
 ⟨fun i H=>∃ xs ys x y,SqL K H a xs/\SqL K H b ys/\xs[i]?=some x/\ys[i]?=some y,
  fun i H v H'=>∃ p q x y,H p=none/\H q=none/\p≠q/\v=.ref q/\H'=upd (upd H p (.tup [x,y])) q (.tup [.int i,.ref p])/\(∀ xs,SqL K H a xs->xs[i]?=some x)/\∀ ys,SqL K H b ys->ys[i]?=some y,
  fun i H=>∃ xs ys,SqL K H a xs/\SqL K H b ys/\(xs[i]?=none\/ys[i]?=none)⟩
theorem qiV {P:Ku}{w:KI}{K:Kd}{ts:List Ky}{kk:Nat}{tp:Pos}{e z ti to i1 i2 a b:Kf}(D:N4 z ti to i1 i2 a b)(ne:e≠z/\e≠ti/\e≠to/\e≠i1/\e≠i2) :
  Turn P w K (.Tuple ts kk tp) (Itez K a b) [e,z,ti,to,i1,i2] e (tnEZ e z ti to i1 i2 a b) where
 mem:=by simp
 obj:=fun i h st c hc=>qfG st c hc
 keep:=fun i h h' ⟨⟨old,he⟩,⟨f0,b0,hz,hf⟩,hti,⟨u,v,hto⟩,⟨o1,e1,r1⟩,⟨o2,e2,r2⟩⟩ k =>
  ⟨⟨old,k e (by simp) _ he⟩,⟨f0,b0,k z (by simp) _ hz,hf⟩,k ti (by simp) _ hti,⟨u,v,k to (by simp) _ hto⟩,⟨o1,k i1 (by simp) o1 e1,r1⟩,⟨o2,k i2 (by simp) o2 e2,r2⟩⟩
 item:=by
  intro X hP hw hK hc i pins s σ H E I hf st hg
  subst hP hw hK
  obtain ⟨xs,ys,x,y,hq1,hq2,hx,hy⟩:=hg
  obtain ⟨its1,rv1,p1,_⟩:=I.list hq1
  obtain ⟨its2,rv2,p2,_⟩:=I.list hq2
  obtain ⟨u1,hu1,ru1⟩:=rv1.get hx
  obtain ⟨u2,hu2,ru2⟩:=rv2.get hy
  have lv:=qfG st
  refine qhE D ne st p1.isList p2.isList (x:=u1) (y:=u2) (by simpa using hu1) (by simpa using hu2) fun h' tk a1 a2 a3 a4 a5 a6 a7 a8 hk=>⟨_,rfl,wpAny_letOwnedTupleGo_enum a1 fun h3 he3 hs3=>?_⟩
  have hs3:Xj e h' h3:=hs3
  have k3:∀ c o,c≠e->h'.get? c=some o->h3.get? c=some o:=fun c o hc q=>(hs3.2 c hc).trans q
  have I1:Inv X pins σ H { s with heap:=h3,toks:=tk+1 }:=I.turnedL (fp:=[e,z,ti,to,i1,i2]) (fun c o hc q=>k3 c o (fun z=>hc (by rw [z];simp)) (hk c o hc q)) hf
  have hn:H s.heap.objs.size=none:=I.hok.fresh (Kr _)
  have hn2:H (s.heap.objs.size+1)=none:=I.hok.fresh (UW _)
  have fT:FpOk X pins H s.heap.objs.size:=I.fpOk (Kr _) hn
  have fT2:FpOk X pins H (s.heap.objs.size+1):=I.fpOk (UW _) hn2
  have lt:∀ c∈[e,z,ti,to,i1,i2],c<s.heap.objs.size:=fun c hc=>by obtain ⟨o,q,_⟩:=lv c hc;exact Ks q
  have ok:zE X.prog X.w (upd H s.heap.objs.size (.tup [x,y])) h3 s.heap.objs.size (.tup [x,y]) :=
   ⟨VI (zj (show 2<=1000 by decide)),[u1,u2],.cons ru1 (.cons ru2 .nil),⟨_,k3 _ _ (VZ (lt e (by simp))) a7,rfl,_,rfl⟩⟩
  have I2:=I1.track hn fT.2.1 fT.2.2.2.1 fT.2.2.2.2.1 fT.2.2.2.2.2 ok
  have ok2:zE X.prog X.w (upd (upd H s.heap.objs.size (.tup [x,y])) (s.heap.objs.size+1) (.tup [.int i,.ref s.heap.objs.size])) h3 (s.heap.objs.size+1) (.tup [.int i,.ref s.heap.objs.size]) :=
   ⟨VI (zj (show 2<=1000 by decide)),[.int i tk,.ref s.heap.objs.size],.cons ⟨tk,rfl⟩ (.cons rfl .nil),⟨_,k3 _ _ (VZ (K4 (lt e (by simp)))) a8,rfl,_,rfl⟩⟩
  have hn3:upd H s.heap.objs.size (.tup [x,y]) (s.heap.objs.size+1)=none:=by rw [qC (X0 _)];exact hn2
  refine ⟨.ref (s.heap.objs.size+1),upd (upd H s.heap.objs.size (.tup [x,y])) (s.heap.objs.size+1) (.tup [.int i,.ref s.heap.objs.size]),I2.track hn3 fT2.2.1 fT2.2.2.2.1 fT2.2.2.2.2.1 fT2.2.2.2.2.2 ok2,rfl,
   ⟨_,_,x,y,hn,hn2,VT (X0 _),rfl,rfl,fun zs hy'=>by rw [I.list_inj hy' hq1];exact hx,fun zs hy'=>by rw [I.list_inj hy' hq2];exact hy⟩,?_,fun c hc=>?_⟩
  ·obtain ⟨f0,b0,a2,hf0⟩:=a2
   obtain ⟨u,v,a4⟩:=a4
   exact ⟨⟨_,he3⟩,⟨f0,b0,k3 _ _ (VT ne.1) a2,hf0⟩,k3 _ _ (VT ne.2.1) a3,⟨u,v,k3 _ _ (VT ne.2.2.1) a4⟩,a5.at fun o q=>k3 _ o (VT ne.2.2.2.1) q,a6.at fun o q=>k3 _ o (VT ne.2.2.2.2) q⟩
  ·rw [qC (KN (K4 (lt c hc))),qC (KN (lt c hc))]
   exact (hf c hc).1
 done:=by
  intro X hP hw hK hc i pins s σ H E I hf st hg
  subst hP hw hK
  obtain ⟨xs,ys,hq1,hq2,hx⟩:=hg
  obtain ⟨its1,rv1,p1,_⟩:=I.list hq1
  obtain ⟨its2,rv2,p2,_⟩:=I.list hq2
  have l1:=rv1.length
  have l2:=rv2.length
  have hend:its1.toArray[i]?=none\/its2.toArray[i]?=none:=by
   rcases hx with hx|hx
   ·exact .inl (by rw [Uq] at hx;rw [UJ];rw [KB];omega)
   ·exact .inr (by rw [Uq] at hx;rw [UJ];rw [KB];omega)
  exact qjG (I.ok.hd hc) D st p1.isList p2.isList hend fun h' hk=>⟨rfl,I.turnedL (fp:=[e,z,ti,to,i1,i2]) (t':=s.toks) hk hf⟩
 self:=fun _ _ _ _ _ ⟨⟨old,he⟩,_⟩ h=>wpAny_pyIter_enum he h
open AutoSeq1 (wpAny_loadPart') in
theorem qer (z ti to:Kf)(f0:Ke) :
  Meets (UA.«enumerate.__new__» ⟨[.type "enumerate", .ref z],[]⟩) (fun _ R s=>IsZip s.heap z ti to f0/\
   R (.ok (.ret (.ref s.heap.objs.size))) { s with heap:=s.heap.push { cls:=.type "enumerate", data:=.fields #[.none,.bool false,.ref z,rawInt 0,.none,.none] } }) :=
 .of_wp fun prog w A R s h=>by
  obtain ⟨hp,g,d,tk,os⟩:=s
  obtain ⟨hz,h⟩:=h
  have hsub:=sub_enumerate
  have hZ:IsZip (Shared.heap ⟨hp,g,d,tk,os⟩) z ti to f0:=hz
  wp_walk using wpAny_loadPart' hz
  refine wpAny_stack_any fun st=>Kl ?_
  split
  ·rename_i c _ _ _ _ _
   cases (c==V5 "enumerate")<;>(wp_walk using wpAny_loadPart' hz,wpAny_pyIter_zip hZ;exact ⟨_,rfl,h⟩)
  ·wp_walk using wpAny_loadPart' hz,wpAny_pyIter_zip hZ
   exact ⟨_,rfl,h⟩
section
variable {X:Cx}{M:List Nat}{a b:Ky}{f fa fb:Rho->Option Ka}{pos:Pos}
theorem IsIt.ez {K:Kd}{H:Hp}{S:Av}{l m:Kf}{xs ys:List V}{ds es:List Ka}(h:SqL K H l xs)(t:DenL K H S xs ds)(h':SqL K H m ys)(t':DenL K H S ys es):IsIt K S (Itez K l m) H (enL 0 (zpL ds es)) where
 go:=fun i H' e hi=>by
  rw [Jy] at hi
  obtain ⟨d,hd⟩:∃ d,(zpL ds es)[i]?=some d:=⟨_,Kn hi⟩
  obtain ⟨x,y,h1,h2,_⟩:=yM ds es i d hd
  obtain ⟨v,h3,_⟩:=t.get h1
  obtain ⟨w,h4,_⟩:=t'.get h2
  exact ⟨xs,ys,v,w,e.seq h,e.seq h',h3,h4⟩
 yld:=fun i H' x H2 e ⟨p,q,y1,y2,hp,hq,npq,ex,e2,q1,q2⟩=>by
  subst ex e2
  have s1:Same H' (upd H' p (.tup [y1,y2])):=Same.lay hp
  have hq':upd H' p (.tup [y1,y2]) q=none:=by rw [qC (VT npq)];exact hq
  refine ⟨s1.trans (Same.lay hq'),fun d hd S' w=>?_⟩
  obtain ⟨d0,hd0,rfl⟩:=qdy 0 i _ d hd
  obtain ⟨d1,d2,h1,h2,rfl⟩:=yM ds es i d0 hd0
  obtain ⟨v1,h3,r1⟩:=t.get h1
  obtain ⟨v2,h4,r2⟩:=t'.get h2
  have e3:=q1 xs (e.seq h)
  have e4:=q2 ys (e.seq h')
  rw [h3] at e3
  rw [h4] at e4
  cases e3
  cases e4
  rw [Fj]
  exact .tuple (SqT.of qH) (.cons (.int _) (.cons (.tuple (SqT.of (by rw [qC npq];exact qH)) (.cons (w _ _ r1) (.cons (w _ _ r2) .nil))) .nil))
 stop:=fun H' e=>⟨xs,ys,e.seq h,e.seq h',by
  rw [Jy]
  have a:=t.length
  have b:=t'.length
  rcases qbw ds es with z|z
  ·left;rw [Uq] at z ⊢;omega
  ·right;rw [Uq] at z ⊢;omega⟩
theorem ez_ne (n:Nat):n+5≠n+4/\n+5≠n+2/\n+5≠n+3/\n+5≠n/\n+5≠n+1:=⟨by omega,by omega,by omega,by omega,by omega⟩
noncomputable def iEz (K:Kd)(ta:TA):TI:=fun σ H R=>ta σ H fun vs H1=>∃ a b xs ys,vs=[.ref a,.ref b]/\SqL K H1 a xs/\SqL K H1 b ys/\R (Itez K a b) H1
theorem pi_ez {ts:List Ky}{kk:Nat}{tp:Pos}{ta:TA}{p p' zpos:Pos}(hge:Gl X "enumerate")(hme:X.mg "enumerate" = none)(hg:Gl X "zip")(hm:X.mg "zip" = none)(ha:PA X [a,b] ta)(hs:starEach [a,b] X.env=(false,eval a X.env)::starEach [b] X.env:=by rfl)(hpl:(backTo zpos (starEach [b] X.env)).any (·.1)=false:=by rfl)
  (hse:starEach [.Call (.Name "zip" p') [a,b] [] zpos] X.env=[(false,eval (.Call (.Name "zip" p') [a,b] [] zpos) X.env)]:=by rfl) :
  PI X (.Tuple ts kk tp) (.Call (.Name "enumerate" p) [.Call (.Name "zip" p') [a,b] [] zpos] [] pos) (iEz X.K ta):=by
 intro pins s σ H R I h
 refine Call_ (Yh I hge hme YF (Xk ?_ hse rfl) (by decide +kernel) (by decide +kernel))
 rw [hse]
 refine Calls.spliced_cons ?_
 refine Call_ (Yh I hg hm qei (Xk (thn (ha zpos pins s σ H _ I h) fun us s1 ⟨vs,H1,I1,r1,q1⟩=>?_) hs hpl) (by decide +kernel) (by decide +kernel))
 obtain ⟨p1,p2,xs,ys,e,hq1,hq2,q⟩:=q1
 subst e
 cases r1 with
 | cons ru1 r2 =>
 cases r2 with
 | cons ru2 r3 =>
 cases r3
 cases ru1
 cases ru2
 obtain ⟨its1,rv1,l1,_⟩:=I1.list hq1
 obtain ⟨its2,rv2,l2,_⟩:=I1.list hq2
 have lt1:p1<s1.heap.objs.size:=by obtain ⟨o,e,_⟩:=l1.isList;exact Ks e
 have lt2:p2<s1.heap.objs.size:=by obtain ⟨o,e,_⟩:=l2.isList;exact Ks e
 refine call_zip_2 l1.isList l2.isList fun h' a1 a2 a3 a4 a5 a6 k=>Calls.spliced_nil ?_
 have D:N4 (s1.heap.objs.size+4) (s1.heap.objs.size+2) (s1.heap.objs.size+3) s1.heap.objs.size (s1.heap.objs.size+1) p1 p2:=qff lt1 lt2
 refine callType_new F.called_enumerate (by decide) (F.typeCall_enumerate_1 _) (F.newCall_enumerate_1 _) (fun obj=>F.args_object_init_2 obj _) F.entry_enumerate_new (qer _ _ _ _) ⟨a1,?_⟩
 refine (id ?_:_/\_)
 have he:=Kz h' (o:={ cls:=.type "enumerate", data:=.fields #[.none,.bool false,.ref (s1.heap.objs.size+4),rawInt 0,.none,.none] }) rfl
 have kk':∀ c o,s1.heap.get? c=some o->(h'.push { cls:=.type "enumerate", data:=.fields #[.none,.bool false,.ref (s1.heap.objs.size+4),rawInt 0,.none,.none] }).get? c=some o:=fun c o q=>Kh _ (k c o q)
 rw [show h'.objs.size=s1.heap.objs.size+5 from a6] at he
 show _/\_
 rw [show (Shared.heap { s1 with heap:=h' }).objs.size=s1.heap.objs.size+5 from a6]
 refine ⟨⟨_,he,rfl⟩,wpAny_pyIter_enum he ?_⟩
 have I2:Inv X pins σ H1 { s1 with heap:=h'.push { cls:=.type "enumerate", data:=.fields #[.none,.bool false,.ref (s1.heap.objs.size+4),rawInt 0,.none,.none] },toks:=s1.toks }:=I1.kept (t':=s1.toks) kk'
 refine ⟨_,[s1.heap.objs.size+5,s1.heap.objs.size+4,s1.heap.objs.size+2,s1.heap.objs.size+3,s1.heap.objs.size,s1.heap.objs.size+1],_,Itez X.K p1 p2,H1,rfl,I2,qiV D (ez_ne _),
  ⟨⟨_,he⟩,⟨_,_,Kh _ a1,.inl rfl⟩,Kh _ a2,⟨_,_,Kh _ a3⟩,a4.at fun o q=>Kh _ q,a5.at fun o q=>Kh _ q⟩,fun c hc=>?_,q⟩
 have hl:s1.heap.objs.size<=c:=by
  simp only [Ko,Vt,or_false] at hc
  rcases hc with e|e|e|e|e|e<;>(rw [e];first|exact Kr _|exact Nat.le_add_right _ _)
 exact I1.fpOk hl (I1.hok.fresh hl)
noncomputable def ezD (x y:Ka):Option (List Ka):=ob (zipD x y) fun l=>some (enL 0 l)
theorem qc1 {ts:List Ky}{kk:Nat}{tp p p' zpos:Pos}(hge:Gl X "enumerate")(hme:X.mg "enumerate" = none)(hg:Gl X "zip")(hm:X.mg "zip" = none)(ha:PD X M a fa)(hb:PD X M b fb)(hs:starEach [a,b] X.env=(false,eval a X.env)::starEach [b] X.env:=by rfl)(hs2:starEach [b] X.env=(false,eval b X.env)::starEach [] X.env:=by rfl)(hpl:(backTo zpos (starEach [b] X.env)).any (·.1)=false:=by rfl)
  (hse:starEach [.Call (.Name "zip" p') [a,b] [] zpos] X.env=[(false,eval (.Call (.Name "zip" p') [a,b] [] zpos) X.env)]:=by rfl) :
  PDI X M (.Tuple ts kk tp) (.Call (.Name "enumerate" p) [.Call (.Name "zip" p') [a,b] [] zpos] [] pos) (evI2 fa fb ezD) :=
 (pi_ez hge hme hg hm (qG ha (qG hb zu hs2) hs) hs hpl hse).weak fun σ H R ⟨S,ρ,ds,hs,e,w⟩=>by
  obtain ⟨x,e1,e⟩:=qd e
  obtain ⟨y,e2,e⟩:=qd e
  obtain ⟨l,e3,e⟩:=qd e
  cases e
  refine ⟨S,ρ,[x,y],hs,by show ob (fa ρ) _=_;rw [e1];show ob (ob (fb ρ) _) _=_;rw [e2];rfl,fun vs H1 g1 dl=>?_⟩
  cases dl with
  | cons d1 dl =>
  cases dl with
  | cons d2 dl =>
  cases dl
  cases d1 with
  | list h t =>
   cases d2 with
   | list h' t'=>cases e3;exact ⟨_,_,_,_,rfl,h.sq,h'.sq,w _ _ g1 fun H2 o=>IsIt.ez (h.off o).sq (t.off (hs.1.same g1) o) (h'.off o).sq (t'.off (hs.1.same g1) o)⟩
   | _=>cases e3
  | _=>cases e3
theorem qjF (ds es:List Ka):ezD (.list ds) (.list es)=some (enL 0 (zpL ds es)):=rfl
end
noncomputable def GU (H:Hp)(S0:Av)(p:Kf):Gm:=⟨fun a=>if a=p then none else H a,S0,fun _=>(0,.none)⟩
inductive DenU (K:Kd)(H:Hp)(S:Av)(p:Kf):Nat->List V->List Ka->Prop
 | here {vs:List V} {d:Ka} {ds:List Ka}:DenL K H S vs ds->DenU K H S p 0 (.ref p::vs) (d::ds)
 | there {i:Nat} {v:V} {d:Ka} {vs:List V} {ds:List Ka}:Den K H S v d->DenU K H S p i vs ds->DenU K H S p (i+1) (v::vs) (d::ds)
section
variable {K:Kd}{H H':Hp}{S:Av}{p:Kf}{i:Nat}{vs:List V}{ds:List Ka}
theorem DenU.length (h:DenU K H S p i vs ds):vs.length=ds.length:=by
 induction h with
 | here t=>rw [KA,KA,t.length]
 | there a t ih=>rw [KA,KA,ih]
theorem DenU.at (h:DenU K H S p i vs ds):vs[i]?=some (.ref p):=by
 induction h with
 | here t=>rfl
 | there a t ih=>exact ih
theorem DenU.off (h:DenU K H S p i vs ds):∀ (j:Nat) (d:Ka),j≠i->ds[j]?=some d->∃ v,vs[j]?=some v/\Den K H S v d:=by
 induction h with
 | here t =>
  intro j d n e
  cases j with
  | zero=>exact absurd rfl n
  | succ j=>exact t.get e
 | there a t ih =>
  intro j d n e
  cases j with
  | zero=>cases e;exact ⟨_,rfl,a⟩
  | succ j=>exact ih j d (fun z=>n (by rw [z])) e
end
noncomputable def spU (K:Kd)(n i:Nat)(h:List Ka->Option Ka):Sp:=fun vs H Q _=>∃ S0 p ds d d',Dm (insA S0 p) H/\¬ S0 p/\DenU K H (insA S0 p) p i vs ds/\ds.length=n/\ds[i]?=some d/\OwnO K H (insA S0 p) p d/\h ds=some d'/\
 ∀ H',(∀ a o,a≠p->H a=some o->H' a=some o)->OwnO K H' (insA S0 p) p d'->Q .non H'
theorem OwnS.startU {K:Kd}{H:Hp}{S0:Av}{p:Kf}{i:Nat}{vs:List V}{ds:List Ka}{d:Ka}(m:Dm (insA S0 p) H)(n0:¬ S0 p)(h:DenU K H (insA S0 p) p i vs ds)(e:ds[i]?=some d)(o:OwnO K H (insA S0 p) p d)(N:List Str)(hi:i<1000) :
  OwnS K (GU H S0 p) [i] [] H (insA S0 p) (L2.start N vs) (rho0 N.length ds):=by
 have hl:=h.length
 have get:∀ j e',(rho0 N.length ds)[j]?=some (some e')->ds[j]?=some e':=fun j e' q=>by
  unfold rho0 at q
  by_cases hj:j<ds.length
  ·rw [Vh (by rw [Kj];exact hj),K1] at q
   cases z:ds[j]? with
   | none=>rw [z] at q;cases q
   | some x=>rw [z] at q;cases q;rfl
  ·rw [VR (by rw [Kj];omega),UD] at q
   split at q<;>cases q
 have put:∀ j v,vs[j]?=some v->(L2.start N vs)[j]?=some (some v):=fun j v q=>by
  unfold L2.start
  have hj:=(KD.mp q).1
  rw [Vh (by rw [Kj];exact hj),K1,q]
  rfl
 have one:∀ j,Flt [i] j->j=i:=fun j q=>Vm.mp q.1
 have no:∀ j,Dp [i] j->False:=fun j q=>by
  have a:=Vm.mp q.1
  have b:=Vm.mp q.2
  omega
 refine ⟨⟨m,?_,fun j d' nj q=>?_⟩,fun a z=>.inl z,fun a o q=>?_,fun j hj d' q=>?_,fun j hj k hk _ _ _ _ _ _ _=>(one j hj).trans (one k hk).symm,fun a z=>?_,(fun _ h=>nomatch h),fun _=>[],fun j hj=>(no j hj).elim,fun j hj=>(no j hj).elim,fun j _ k hk=>(no k hk).elim⟩
 ·unfold L2.start rho0
  rw [KG,KG,Kj,Kj,VB,VB,hl]
 ·obtain ⟨v,a,b⟩:=h.off j d' (fun z=>nj (by rw [z];exact .head _)) (get j d' q)
  exact ⟨v,put j v a,b⟩
 ·have q:(if a=p then none else H a)=some o:=q
  split at q
  ·cases q
  ·exact q
 ·have:=one j hj
  subst this
  have:=get _ d' q
  rw [e] at this
  cases this
  exact ⟨p,put _ _ h.at,o,.inr rfl,n0,fun _=>if_pos rfl,fun z=>nomatch z⟩
 ·rcases z with z|z
  ·exact .inl z
  ·exact .inr (.inl (by rw [z];exact if_pos rfl))
noncomputable def tDP (K:Kd)(G:Gm)(i:Nat)(f:Rho->Option Out):TS:=fun D σ H=>∃ S ρ ρ',OwnS K G [i] [] H S σ ρ/\f ρ=some (.nx ρ')/\∀ σ' H' S',σ'[i]?=σ[i]?->OwnS K G [i] [] H' S' σ' ρ'->D.nx σ' H'
def PDP (X:Cx)(G:Gm)(i:Nat)(s:KM)(f:Rho->Option Out):Prop:=PS X s (tDP X.K G i f)
def PDPs (X:Cx)(G:Gm)(i:Nat)(s:List KM)(f:Rho->Option Out):Prop:=PSs X s (tDP X.K G i f)
section
variable {X:Cx}{G:Gm}{i0:Nat}{a b c:Ky}{es:List Ky}{f g:Rho->Option Ka}{p:Rho->Option Bool}{pos:Pos}{s1:KM}{ss st1 st2:List KM}{u w:Rho->Option Out}
theorem qir:PDPs X G i0 [] sN:=qd6.weak fun D σ H ⟨S,ρ,ρ',hs,e,q⟩=>by cases e;exact q σ H S rfl hs
theorem qgq (h1:PDP X G i0 s1 u)(h2:PDPs X G i0 ss w):PDPs X G i0 (s1::ss) (seqO u w) :=
 (qco h1 h2).weak fun D σ H ⟨S,ρ,ρ',hs,e,q⟩=>by
  obtain ⟨o1,e1,e⟩:=qd e
  cases o1 with
  | nx ρ1=>exact ⟨S,ρ,ρ1,hs,e1,fun σ' H' S' k hs'=>⟨S',ρ1,ρ',hs',e,fun σ2 H2 S2 k2 hs2=>q σ2 H2 S2 (k2.trans k) hs2⟩⟩
  | rt d=>cases e
  | bk d=>cases e
  | ct d=>cases e
theorem qdY (h1:PDP X G i0 s1 u):PDPs X G i0 [s1] u:=qd7 h1
theorem qkl (hc:PDT X [] c p)(h1:PDPs X G i0 st1 u)(h2:PDPs X G i0 st2 w):PDP X G i0 (.If c st1 st2 pos) (sIf p u w) :=
 (qjf hc h1 h2).weak fun D σ H ⟨S,ρ,ρ',hs,e,q⟩=>by
  obtain ⟨d,e1,e⟩:=qd e
  refine ⟨G.S0,ρ,d,hs.den,e1,fun H1 g1=>?_⟩
  cases d with
  | true=>exact iteT ⟨S,ρ,ρ',hs.same g1,e,q⟩
  | false=>exact iteF ⟨S,ρ,ρ',hs.same g1,e,q⟩
theorem qis (i:Nat){x:Str}{p':Pos}(hN:X.N.Nodup)(hx:Loc X.env.scope x)(hi:X.N[i]?=some x)(hs:swapsWith a (some (.Name x p')) pos.line X.env=pure false)(hf:X.fn x=true\/X.env.scope.names.lookup x=some .local)(hM:i∉[i0])(he:PD X [i0] a f) :
  PDP X G i0 (.Assign [.Name x p'] a pos) (sSet i f) :=
 (Wm hN hi hx he hs hf).weak fun D σ H ⟨S,ρ,o,hs,e,q⟩=>by
  obtain ⟨d,e1,e⟩:=qd e
  cases e
  exact ⟨S,ρ,d,hs.ds,e1,fun v H1 g1 d1=>q _ H1 S (qw (fun z=>hM (by rw [z];exact .head _))) ((hs.same g1).set d1 hM)⟩
theorem qiq {x:Str}{px apos cpos:Pos}(hv:Vis X.env.scope x)(he:PD X [i0] a f)(h1000:i0+1000∉[i0]:=by decide)(hN:X.N[i0]?=some x:=by rfl)(hd:(x==("__debug__" : Str))=false:=by decide +kernel)(hcd:(x==("__classdict__" : Str))=false:=by decide +kernel)
  (hbase:attributeBase (.Name x px) "append" X.env (eval (.Name x px) X.env)=eval (.Name x px) X.env:=by rfl)
  (hfew:((backTo cpos (starEach [a] X.env)).all (fun x=>!x.1)&&(backToKw cpos (keywordEach [] X.env)).all (fun x=>x.1.isSome)
   && decide ([a].length+([]:List Xu).length+(if ([]:List Xu).isEmpty then 0 else 1)<30))=true:=by rfl)
  (hline:(apos.endLine==cpos.line)=true:=by rfl) (hs:starEach [a] X.env=(false,eval a X.env)::starEach [] X.env:=by rfl) (hplain:(backTo cpos (starEach [] X.env)).any (·.1)=false:=by rfl)
  (hsw:swapsWith (.Call (.Attribute (.Name x px) "append" apos) [a] [] cpos) none pos.line X.env=pure false:=by rfl) :
  PDP X G i0 (.Expr (.Call (.Attribute (.Name x px) "append" apos) [a] [] cpos) pos) (sApp i0 f) :=
 (yz (qay U5 XC Nj Yi (JH i0 hv hN hd hcd) (qG he zu hs) hbase hfew hline hs hplain) hsw).weak fun D σ H ⟨S,ρ,o,os,e,q⟩=>by
  obtain ⟨l,e1,e⟩:=qd e
  obtain ⟨d,e2,e⟩:=qd e
  obtain ⟨l',e3,e⟩:=qd e
  cases e
  obtain ⟨ds,rfl,hz,rfl⟩:=yP e3
  have hM:Flt [i0] i0:=⟨.head _,h1000⟩
  obtain ⟨pp,a1,b1,c1,n1,w1,_⟩:=os.own i0 hM _ (Qo e1)
  cases b1 with
  | @lst xs _ h t =>
   refine ⟨_,a1,.inl ⟨rfl,_,SqL.of h⟩,S,ρ,[d],os.ds,by show ob (f ρ) _=_;rw [e2];rfl,fun vs H2 g2 dl=>?_⟩
   obtain ⟨v,rfl,dv⟩:=dl.inv1
   have os2:=os.same g2
   refine ⟨pp,xs,v,rfl,rfl,g2 _ _ h,KP (by rw [t.length];exact hz) (VI (zj (Kr _))),?_⟩
   exact q _ _ _ rfl (os2.write hM (fun z=>nomatch z) (Qo e1) a1 rfl (.lst qH (((t.same g2).snoc dv).off os2.ds.1 (Off.upd c1))))
end
noncomputable def outU (i:Nat):Out->Option Ka
 | .nx ρ=>vr i ρ
 | _=>none
section
variable {P:Ku}{w:KI}{K:Kd}{mg:Str->Option Ke}{base:KC}
theorem Fun.mutp {x qual:Str}{st:KM}{f:Kf}{fd:K7}{N ps:List Str}{k n i:Nat}{u:Rho->Option Out}(F:Fun K x qual st f fd)(S:FnScope N ps (qe st))(hn:ps.length=n)(hi:i<1000)
  (hbody:∀ (cdv:Ke) (A:KF) (outer:List Env) (s:Kg) (H:Hp) (E:XK),Room k (A.deeper (envOfC qual (qe st) s.heap.objs.size f cdv))->∀ G:Gm,
   PDPs (cxOf CX0 P w K mg base N qual (qe st) f cdv A outer s H E).nox G i (zp st) u) :
  FnOk P w K mg base CX0 (k+1) f fd ps (spU K n i fun ds=>ob (u (rho0 N.length ds)) (outU i)):=by
 refine F.g.ok S (fun vs H Q E h=>?_) (fun cdv A outer s H vs Q E hr h=>?_)
 ·obtain ⟨_,_,ds,_,_,_,_,h1,h2,_⟩:=h
  rw [h1.length,h2,hn]
 ·obtain ⟨S0,p,ds,d,d',m,n0,h1,h2,h3,ow,e,q⟩:=h
  obtain ⟨o,e1,e⟩:=qd e
  cases o with
  | rt r=>cases e
  | bk ρ=>cases e
  | ct ρ=>cases e
  | nx ρ =>
   have hs0:=OwnS.startU m n0 h1 h3 ow N hi
   refine ⟨_,hbody cdv A outer s H E hr (GU H S0 p),insA S0 p,rho0 N.length ds,ρ,hs0,e1,fun σ' H' S' k hs=>q H' (fun a o na ha=>hs.h0 a o ((if_neg na).trans ha)) ?_⟩
   have sp:(L2.start N vs)[i]?=some (some (.ref p)):=by
    unfold L2.start
    rw [Vh (by rw [Kj];exact (KD.mp h1.at).1),K1,h1.at]
    rfl
   obtain ⟨p',a,b,c,_⟩:=hs.own i ⟨.head _,fun z=>by have:=Vm.mp z;omega⟩ d' (Qo e)
   rw [k,sp] at a
   cases a
   exact b.sub fun a _ z=>z.elim (fun z=>hs.s0 a z) fun z=>by rw [z];exact c
structure KnownU (P:Ku)(w:KI)(K:Kd)(mg:Str->Option Ke)(base:KC)(x:Str)(n k i:Nat)(h:List Ka->Option Ka):Prop where
 ex:∃ (f:Kf) (fd:K7) (ps:List Str),FnOk P w K mg base CX0 k f fd ps (spU K n i h)/\mg x=some (.ref f)/\Vf K (.ref f)=true/\Binds K fd ps []
end
theorem OwnS.denU {K:Kd}{G:Gm}{M L:List Nat}{H:Hp}{S:Av}{σ:St}{ρ:Rho}(h:OwnS K G M L H S σ ρ){i:Nat}{d:Ka}{p:Kf}(hi:Flt M i)(e:ρ[i]?=some (some d))(es:σ[i]?=some (some (.ref p))):DenS K H (insA G.S0 p) [i] σ ρ:=by
 obtain ⟨p',a,b,c,n,_⟩:=h.own i hi d e
 rw [es] at a
 cases a
 have sub:∀ a,H a≠none->insA G.S0 p a->S a:=fun a _ z=>z.elim (fun z=>h.s0 a z) fun z=>by rw [z];exact c
 refine ⟨fun a z=>h.ds.1 a (z.elim (fun z=>h.s0 a z) fun z=>by rw [z];exact c),h.ds.2.1,fun j d' nj q=>?_⟩
 have nji:j≠i:=fun z=>nj (by rw [z];exact .head _)
 by_cases hj:j∈M
 ·by_cases hk:j+1000∈M
  ·obtain ⟨F,f⟩:=h.deep
   obtain ⟨p2,a2,b2,c2⟩:=f.own j ⟨hj,hk⟩ d' q
   exact ⟨_,a2,b2.den (fun q hq z=>z.elim (c2 q hq).2.1 fun z=>f.flat i hi j ⟨hj,hk⟩ ⟨_,e⟩ ⟨_,‹ρ[j]?=some (some d')›⟩ p es (by rw [← z];exact hq)) sub⟩
  ·obtain ⟨p2,a2,b2,c2,n2,_⟩:=h.own j ⟨hj,hk⟩ d' q
   exact ⟨_,a2,b2.den (fun z=>z.elim n2 fun z=>nji (h.apart j ⟨hj,hk⟩ i hi d' d p q e (by rw [← z];exact a2) es)) sub⟩
 ·obtain ⟨v,a2,b2⟩:=h.ds.2.2 j d' hj q
  exact ⟨v,a2,b2.sub sub⟩
noncomputable def tAU (K:Kd)(i n:Nat)(fs:Rho->Option (List Ka)):TA:=fun σ H Q=>∃ S ρ ds p,DenS K H S [i] σ ρ/\σ[i]?=some (some (.ref p))/\fs ρ=some ds/\∀ vs H',Same H H'->DenU K H' S p n vs ds->Q vs H'
def PAU (X:Cx)(i n:Nat)(es:List Ky)(fs:Rho->Option (List Ka)):Prop:=PA X es (tAU X.K i n fs)/\∀ ρ ds,fs ρ=some ds->∃ d,ρ[i]?=some (some d)/\ds[n]?=some d
section
variable {X:Cx}{G:Gm}{M M' Mb L:List Nat}{fr:Fr}{a b c:Ky}{es:List Ky}{f g:Rho->Option Ka}{fs:Rho->Option (List Ka)}{pos:Pos}
theorem qgj (i:Nat){x:Str}(hv:Vis X.env.scope x)(h:PDA X [i] es fs)(hN:X.N[i]?=some x:=by rfl)(hd:(x==("__debug__" : Str))=false:=by decide +kernel)(hcd:(x==("__classdict__" : Str))=false:=by decide +kernel)
  (he:starEach (.Name x pos::es) X.env=(false,eval (.Name x pos) X.env)::starEach es X.env:=by rfl):PAU X i 0 (.Name x pos::es) (aC (vr i) fs) :=
 ⟨(
  Qu (JH i hv hN hd hcd) h he).weak fun σ H Q ⟨S,ρ,ds,p,hs,e,ef,q⟩=>by
  obtain ⟨d,e1,ef⟩:=qd ef
  obtain ⟨es',e2,ef⟩:=qd ef
  cases ef
  exact ⟨_,e,S,ρ,es',hs,e2,fun vs H' g dl=>q _ H' g (.here dl)⟩,fun ρ ds ef=>by
  obtain ⟨d,e1,ef⟩:=qd ef
  obtain ⟨es',e2,ef⟩:=qd ef
  cases ef
  exact ⟨d,Qo e1,rfl⟩⟩
theorem qeY {i n:Nat}(ha:PD X [i] a f)(h:PAU X i n es fs)(he:starEach (a::es) X.env=(false,eval a X.env)::starEach es X.env:=by rfl):PAU X i (n+1) (a::es) (aC f fs) :=
 ⟨(
  Qu ha h.1 he).weak fun σ H Q ⟨S,ρ,ds,p,hs,e,ef,q⟩=>by
  obtain ⟨d,e1,ef⟩:=qd ef
  obtain ⟨es',e2,ef⟩:=qd ef
  cases ef
  exact ⟨S,ρ,d,hs,e1,fun v H1 g1 d1=>⟨S,ρ,es',p,hs.same g1,e,e2,fun vs H2 g2 du=>q _ H2 (g1.trans g2) (.there (d1.same g2) du)⟩⟩,fun ρ ds ef=>by
  obtain ⟨d,e1,ef⟩:=qd ef
  obtain ⟨es',e2,ef⟩:=qd ef
  cases ef
  exact h.2 ρ es' e2⟩
noncomputable def qbm (i n:Nat)(fs:Rho->Option (List Ka))(h:List Ka->Option Ka):Rho->Option Out:=fun ρ=>ob (fs ρ) fun ds=>ob (h ds) fun d=>if ds.length=n/\qfJ d=true then some (.nx (ρ.set i (some d))) else none
theorem qe0 (i j:Nat){x:Str}{p cpos:Pos}{n k k':Nat}{h:List Ka->Option Ka}(F:KnownU X.prog X.w X.K X.mg X.base x n k j h)(hr:Room k' X.A)(hk:k<=k')(hg:Gl X x)(hM:Flt M i)(hL:i∉L)(ha:PAU X i j (a::es) fs)
  (hdb:(x==("__debug__" : Str))=false:=by decide +kernel) (he:starEach (a::es) X.env=(false,eval a X.env)::starEach es X.env:=by rfl) (hpl:(backTo cpos (starEach es X.env)).any (·.1)=false:=by rfl)
  (hsw:swapsWith (.Call (.Name x p) (a::es) [] cpos) none pos.line X.env=pure false:=by rfl) :
  PDS X G M L M Mb fr (.Expr (.Call (.Name x p) (a::es) [] cpos) pos) (qbm i n fs h):=by
 obtain ⟨f,fd,ps,F,m,kp,b⟩:=F.ex
 refine (yz (qbk F (hr.mono hk) hg m kp b .nil qdU ha.1 hdb he hpl) hsw).weak fun D σ H ⟨S,ρ,o,os,e,q⟩=>?_
 obtain ⟨ds,e1,e⟩:=qd e
 obtain ⟨d,e2,e⟩:=qd e
 split at e
 case isFalse=>cases e
 rename_i hc
 cases e
 obtain ⟨d0,r0,d0s⟩:=ha.2 ρ ds e1
 obtain ⟨pp,a1,b1,c1,n1,w1,_⟩:=os.own i hM d0 r0
 have du:=os.denU hM r0 a1
 refine ⟨insA G.S0 pp,ρ,ds,pp,du,a1,e1,fun vs H1 g1 dl=>?_⟩
 have os1:=os.same g1
 refine ⟨G.S0,pp,ds,d0,d,du.1.same g1,n1,by rw [Vd];exact dl,hc.1,d0s,(b1.same g1).sub fun a _ z=>z.elim (fun z=>os.s0 a z) fun z=>by rw [z];exact c1,e2,fun H' kp' ow=>q _ H' S ?_⟩
 obtain ⟨o',eo,mo⟩:=ow.mut
 have eH:H'=L2.upd (fun a=>if a=pp then H1 a else H' a) pp o':=by
  funext a
  unfold L2.upd
  by_cases z:a=pp
  ·rw [if_pos z,z];exact eo
  ·rw [if_neg z];exact (if_neg z).symm
 have sm:Same H1 (fun a=>if a=pp then H1 a else H' a):=fun a o ha=>by
  show (if a=pp then H1 a else H' a)=some o
  by_cases z:a=pp
  ·rw [if_pos z];exact ha
  ·rw [if_neg z];exact kp' a o z ha
 have os2:=os1.same sm
 rw [eH] at ow ⊢
 exact os2.write hM hL r0 a1 mo (ow.flat hc.2)
end
theorem KnownM.known {P:Ku}{w:KI}{K:Kd}{mg:Str->Option Ke}{base:KC}{x:Str}{n k:Nat}{h:List Ka->Option Ka}(F:KnownM P w K mg base x n k h):Known P w K mg base x n k h:=by
 obtain ⟨f,fd,ps,F,m,kp,b⟩:=F.ex
 exact ⟨f,fd,ps,⟨F.len,fun A outer s H args us vs Q E hr=>F.run A outer s H args us vs Q E ⟨hr.dp,hr.un⟩⟩,m,kp,b⟩
section
variable {X:Cx}{G:Gm}{M L Mb:List Nat}{fr:Fr}{a b:Ky}{fa fb:Rho->Option Ka}{pos sp:Pos}
theorem qe4 (i:Nat){x:Str}{p':Pos}(hN:X.N.Nodup)(hx:Loc X.env.scope x)(hi:X.N[i]?=some x)(hs:swapsWith (.Subscript a b sp) (some (.Name x p')) pos.line X.env=pure false)(hf:X.fn x=true\/X.env.scope.names.lookup x=some .local)(hM:i∉M)(ha:PD X M a fa)(hb:PD X [] b fb)(hp:J5 b:=by intro _ _;rfl) :
  PDS X G M L M Mb fr (.Assign [.Name x p'] (.Subscript a b sp) pos) (sSet i (ev2 fa fb ixD)) :=
 (Wm hN hi hx (qd2 (r:=fun x y H Q=>rIxL X.K x y H Q\/rIxT X.K x y H Q) (YS.or qa1) ha hb hp) hs hf).weak fun D σ H ⟨S,ρ,o,hs,e,q⟩=>by
  obtain ⟨d,e1,e⟩:=qd e
  cases e
  obtain ⟨x,e3,e1⟩:=qd e1
  obtain ⟨y,e2,e1⟩:=qd e1
  refine ⟨S,ρ,x,hs.ds,e3,fun v H1 g1 d1=>⟨G.S0,ρ,y,(hs.same g1).den,e2,fun w H2 g2 d2=>?_⟩⟩
  have d1':=d1.same g2
  cases d1' with
  | list h t =>
   cases d2 with
   | int i=>obtain ⟨z,z1,z2⟩:=t.atI e1;exact .inl ⟨_,_,_,_,rfl,rfl,h.sq,z1,q _ H2 S (((hs.same g1).same g2).set z2 hM)⟩
   | _=>cases e1
  | tuple h t =>
   cases d2 with
   | int i=>obtain ⟨z,z1,z2⟩:=t.atI e1;exact .inr ⟨_,_,_,_,rfl,rfl,h,z1,q _ H2 S (((hs.same g1).same g2).set z2 hM)⟩
   | _=>cases e1
  | _=>cases d2<;>cases e1
end
end L2
namespace L2
open PySem PySem.W PyProof.Rows
theorem Zz {α β:Type}{lt:Nat->Nat->Option Bool}{f:α->KasT β}:∀ (t:KasT α),runC lt (t.bind f)=ob (runC lt t) fun a=>runC lt (f a)
 | .ret _=>rfl
 | .ask i j k=>by
  show ob (lt i j) (fun b=>runC lt ((k b).bind f))=ob (ob (lt i j) fun b=>runC lt (k b)) _
  cases lt i j with
  | none=>rfl
  | some b=>exact Zz (k b)
structure IOrd (n:Nat)(lt:Nat->Nat->Option Bool)(blt:Nat->Nat->Bool):Prop where
 ask:∀ i j,i<n->j<n->lt i j=some (blt i j)
 irr:∀ i,blt i i=false
 tr:∀ i j k,blt i j=true->blt j k=true->blt i k=true
 neg:∀ i j k,blt i k=true->blt i j=true\/blt j k=true
noncomputable def gp (p:Array Nat)(i:Nat):Nat:=p.getD i 0
def Qa (n:Nat)(p:Array Nat):Prop:=p.toList.Perm (Xg n)
def UpTo (blt:Nat->Nat->Bool)(p:Array Nat)(m:Nat):Prop:=∀ i j,i<=j->j<m->blt (gp p j) (gp p i)=false
section
variable {n:Nat}{lt:Nat->Nat->Option Bool}{blt:Nat->Nat->Bool}{p:Array Nat}
theorem Qa.size (h:Qa n p):p.size=n:=by
 have:=h.length_eq
 rw [K6,Xq] at this
 exact this
theorem Qa.inb (h:Qa n p)(hi:i<n):gp p i<n:=by
 have hs:=h.size
 have e:gp p i=p[i]'(by omega):=by simp [gp,Array.getD,hs,hi]
 have hm:p[i]'(by omega)∈p.toList:=by simp
 have:=h.mem_iff.mp hm
 rw [e]
 exact EX.mp this
theorem qbO (h:q[i]?=p[j]?):gp q i=gp p j:=by
 unfold gp
 simp only [Array.getD_eq_getD_getElem?,h]
theorem IOrd.le_tr (O:IOrd n lt blt)(h1:blt b a=false)(h2:blt c b=false):blt c a=false:=by
 cases h:blt c a with
 | false=>rfl
 | true =>
  rcases O.neg c b a h with z|z
  ·rw [h2] at z;cases z
  ·rw [h1] at z;cases z
theorem IOrd.asym (O:IOrd n lt blt)(h:blt a b=true):blt b a=false:=by
 cases z:blt b a with
 | false=>rfl
 | true =>
  have:=O.tr a b a h z
  rw [O.irr] at this
  cases this
theorem qe6 (O:IOrd n lt blt)(hp:Qa n p)(hk:k<n)(hs:UpTo blt p k):∀ (f l r:Nat),r-l<=f->l<=r->r<=k->(∀ i,i<l->blt (gp p k) (gp p i)=false)->(∀ i,r<=i->i<k->blt (gp p k) (gp p i)=true)->
  ∃ m,runC lt (kas_place p k f l r)=some m/\m<=k/\(∀ i,i<m->blt (gp p k) (gp p i)=false)/\(∀ i,m<=i->i<k->blt (gp p k) (gp p i)=true):=by
 intro f
 induction f with
 | zero =>
  intro l r h1 h2 h3 h4 h5
  exact ⟨l,rfl,by omega,h4,fun i hi hi2=>h5 i (by omega) hi2⟩
 | succ f ih =>
  intro l r h1 h2 h3 h4 h5
  unfold kas_place
  by_cases hlr:l >= r
  ·rw [if_pos hlr]
   exact ⟨l,rfl,by omega,h4,fun i hi hi2=>h5 i (by omega) hi2⟩
  ·rw [if_neg hlr]
   have hm:(l+r) / 2<k:=by omega
   have ea:=O.ask (gp p k) (gp p ((l+r) / 2)) (hp.inb hk) (hp.inb (by omega))
   show ∃ m,ob (lt (gp p k) (gp p ((l+r) / 2))) (fun c=>runC lt (if c=true then kas_place p k f l ((l+r) / 2) else kas_place p k f ((l+r) / 2+1) r))=some m/\_
   rw [ea]
   cases hb:blt (gp p k) (gp p ((l+r) / 2)) with
   | true =>
    refine ih l ((l+r) / 2) (by omega) (by omega) (by omega) h4 fun i hi hi2=>?_
    cases z:blt (gp p k) (gp p i) with
    | true=>rfl
    | false =>
     have:=hs ((l+r) / 2) i hi hi2
     have q:=O.le_tr this z
     rw [hb] at q
     cases q
   | false =>
    refine ih ((l+r) / 2+1) r (by omega) (by omega) h3 (fun i hi=>?_) h5
    exact O.le_tr (hs i ((l+r) / 2) (by omega) hm) hb
theorem qck {q:Array Nat}(h:Qa n p)(hq:q.Perm p):Qa n q:=(Array.perm_iff_toList_perm.mp hq).trans h
theorem qaf (hk:k<p.size)(hm:m<=k)(i:Nat):gp (bubble p k (k-m)) i=if i=m then gp p k else if m<i/\i<=k then gp p (i-1) else gp p i:=by
 have e:=getElem?_bubble hk (k-m) (by omega) i
 have hkm:k-(k-m)=m:=by omega
 rw [hkm] at e
 by_cases h1:i=m
 ·rw [if_pos h1] at e ⊢;exact qbO e
 ·rw [if_neg h1] at e ⊢
  by_cases h2:m<i/\i<=k
  ·rw [if_pos h2] at e ⊢;exact qbO e
  ·rw [if_neg h2] at e ⊢;exact qbO e
theorem Z7 (hj:j<=p.size)(k:Nat):gp (XB p i j) k=if i<=k/\k<j then gp p (i+j-1-k) else gp p k:=by
 have e:=getElem?_mirror_all (i:=i) hj k
 unfold XB
 by_cases h1:i<=k/\k<j
 ·rw [if_pos h1] at e ⊢;exact qbO e
 ·rw [if_neg h1] at e ⊢;exact qbO e
theorem jl (h:Qa n p)(i j:Nat):Qa n (XB p i j):=qck h (mirror_perm _ _ _ _)
theorem qhj (O:IOrd n lt blt):∀ (f:Nat) (p:Array Nat) (k:Nat),Qa n p->UpTo blt p k->k+f=n->∃ p',runC lt (kas_bin f p k)=some p'/\Qa n p'/\UpTo blt p' n:=by
 intro f
 induction f with
 | zero=>exact fun p k hp hs e=>⟨p,rfl,hp,by rw [← e];exact hs⟩
 | succ f ih =>
  intro p k hp hs e
  have hk:k<n:=by omega
  obtain ⟨m,e1,h1,h2,h3⟩:=qe6 O hp hk hs k 0 k (by omega) (by omega) (by omega) (fun i hi=>by omega) (fun i hi hi2=>by omega)
  have hz:=hp.size
  obtain ⟨p',e2,h4,h5⟩:=ih (bubble p k (k-m)) (k+1) (qck hp (bubble_perm _ _ _)) (fun i j hij hj=>by
   rw [qaf (by omega) h1,qaf (by omega) h1]
   by_cases a1:j=m
   ·rw [if_pos a1]
    by_cases a2:i=m
    ·rw [if_pos a2];exact O.irr _
    ·rw [if_neg a2,if_neg (by omega)]
     exact h2 i (by omega)
   ·rw [if_neg a1]
    by_cases a3:m<j/\j<=k
    ·rw [if_pos a3]
     by_cases a2:i=m
     ·rw [if_pos a2]
      exact O.asym (h3 (j-1) (by omega) (by omega))
     ·rw [if_neg a2]
      by_cases a4:m<i/\i<=k
      ·rw [if_pos a4]
       exact hs (i-1) (j-1) (by omega) (by omega)
      ·rw [if_neg a4]
       exact hs i (j-1) (by omega) (by omega)
    ·rw [if_neg a3,if_neg (by omega),if_neg (by omega)]
     exact hs i j hij (by omega)) (by omega)
  refine ⟨p',?_,h4,h5⟩
  unfold kas_bin
  rw [Zz,e1]
  exact e2
theorem qdh (O:IOrd n lt blt)(hp:Qa n p):∀ (f m:Nat),1<=m->m+f<=n->UpTo blt p m->∃ m',runC lt (kas_asc p f m)=some m'/\m<=m'/\m'<=m+f/\UpTo blt p m'/\(m'<m+f->blt (gp p m') (gp p (m'-1))=true):=by
 intro f
 induction f with
 | zero=>exact fun m h1 h2 hs=>⟨m,rfl,by omega,by omega,hs,fun z=>by omega⟩
 | succ f ih =>
  intro m h1 h2 hs
  have ea:=O.ask (gp p m) (gp p (m-1)) (hp.inb (by omega)) (hp.inb (by omega))
  unfold kas_asc
  show ∃ m',ob (lt (gp p m) (gp p (m-1))) (fun c=>runC lt (if c=true then .ret m else kas_asc p f (m+1)))=some m'/\_
  rw [ea]
  cases hb:blt (gp p m) (gp p (m-1)) with
  | true=>exact ⟨m,rfl,by omega,by omega,hs,fun _=>hb⟩
  | false =>
   obtain ⟨m',e1,h3,h4,h5,h6⟩:=ih (m+1) (by omega) (by omega) (fun i j hij hj=>by
    by_cases hjm:j=m
    ·subst hjm
     by_cases hi:i=j
     ·subst hi;exact O.irr _
     ·exact O.le_tr (hs i (j-1) (by omega) (by omega)) hb
    ·exact hs i j hij (by omega))
   exact ⟨m',e1,by omega,by omega,h5,fun z=>h6 (by omega)⟩
def yN (blt:Nat->Nat->Bool)(p:Array Nat)(m:Nat):Prop:=∀ i j,i<=j->j<m->blt (gp p i) (gp p j)=false
def qfg (blt:Nat->Nat->Bool)(p:Array Nat)(a b:Nat):Prop:=∀ i j,a<=i->i<b->a<=j->j<b->blt (gp p i) (gp p j)=false
theorem qbH (hp:Qa n p)(hm:m<=n)(ha:a<=m)(hd:yN blt p m)(hs:qfg blt p a m):yN blt (XB p a m) m/\∀ i,i<m->∃ i',i'<m/\gp (XB p a m) i=gp p i':=by
 have hz:=hp.size
 refine ⟨fun i j hij hj=>?_,fun i hi=>?_⟩
 ·rw [Z7 (by omega),Z7 (by omega)]
  by_cases h1:a<=i/\i<m
  ·rw [if_pos h1,if_pos (by omega)]
   exact hs _ _ (by omega) (by omega) (by omega) (by omega)
  ·rw [if_neg h1]
   by_cases h2:a<=j/\j<m
   ·rw [if_pos h2];exact hd _ _ (by omega) (by omega)
   ·rw [if_neg h2];exact hd _ _ hij hj
 ·rw [Z7 (by omega)]
  by_cases h1:a<=i/\i<m
  ·rw [if_pos h1];exact ⟨_,by omega,rfl⟩
  ·rw [if_neg h1];exact ⟨i,hi,rfl⟩
theorem qfA (O:IOrd n lt blt):∀ (f:Nat) (p:Array Nat) (m q:Nat),Qa n p->m+f<=n->q+1<=m->yN blt p m->qfg blt p (m-(q+1)) m->
  ∃ p' m' q',runC lt (NG f p m q)=some (p',m',q')/\Qa n p'/\m<=m'/\m'<=m+f/\q'+1<=m'/\yN blt p' m'/\qfg blt p' (m'-(q'+1)) m':=by
 intro f
 induction f with
 | zero=>exact fun p m q hp _ hq hd hs=>⟨p,m,q,rfl,hp,by omega,by omega,hq,hd,hs⟩
 | succ f ih =>
  intro p m q hp hm hq hd hs
  have hz:=hp.size
  have e1:=O.ask (gp p m) (gp p (m-1)) (hp.inb (by omega)) (hp.inb (by omega))
  have e2:=O.ask (gp p (m-1)) (gp p m) (hp.inb (by omega)) (hp.inb (by omega))
  unfold NG
  show ∃ p' m' q',ob (lt (gp p m) (gp p (m-1))) (fun c=>runC lt (if c=true then (if q > 0 then NG f (XB p (m-(q+1)) m) (m+1) 0 else NG f p (m+1) 0)
   else .ask (p.getD (m-1) 0) (p.getD m 0) fun d=>if d=true then .ret (p,m,q) else NG f p (m+1) (q+1)))=some (p',m',q')/\_
  rw [e1]
  cases hb:blt (gp p m) (gp p (m-1)) with
  | true =>
   have below:∀ i,i<m->blt (gp p i) (gp p m)=false:=fun i hi=>O.le_tr (O.asym hb) (hd i (m-1) (by omega) (by omega))
   show ∃ p' m' q',runC lt (if q > 0 then NG f (XB p (m-(q+1)) m) (m+1) 0 else NG f p (m+1) 0)=some (p',m',q')/\_
   by_cases hq0:q > 0
   ·rw [if_pos hq0]
    obtain ⟨d1,d2⟩:=qbH (blt:=blt) hp (m:=m) (a:=m-(q+1)) (by omega) (by omega) hd hs
    have gm:gp (XB p (m-(q+1)) m) m=gp p m:=by rw [Z7 (by omega),if_neg (by omega)]
    obtain ⟨p',m',q',r1,r2,r3,r4,r5,r6,r7⟩:=ih (XB p (m-(q+1)) m) (m+1) 0 (jl hp _ _) (by omega) (by omega) (fun i j hij hj=>by
     by_cases hjm:j=m
     ·subst hjm
      by_cases hi:i=j
      ·subst hi;exact O.irr _
      ·obtain ⟨i',hi',ei⟩:=d2 i (by omega)
       rw [ei,gm]
       exact below i' hi'
     ·exact d1 i j hij (by omega)) (fun i j h1 h2 h3 h4=>by
      have:i=m:=by omega
      have:j=m:=by omega
      subst i;subst j;exact O.irr _)
    exact ⟨p',m',q',r1,r2,by omega,by omega,r5,r6,r7⟩
   ·rw [if_neg hq0]
    obtain ⟨p',m',q',r1,r2,r3,r4,r5,r6,r7⟩:=ih p (m+1) 0 hp (by omega) (by omega) (fun i j hij hj=>by
     by_cases hjm:j=m
     ·subst hjm
      by_cases hi:i=j
      ·subst hi;exact O.irr _
      ·exact below i (by omega)
     ·exact hd i j hij (by omega)) (fun i j h1 h2 h3 h4=>by
      have:i=m:=by omega
      have:j=m:=by omega
      subst i;subst j;exact O.irr _)
    exact ⟨p',m',q',r1,r2,by omega,by omega,r5,r6,r7⟩
  | false =>
   show ∃ p' m' q',ob (lt (gp p (m-1)) (gp p m)) (fun d=>runC lt (if d=true then .ret (p,m,q) else NG f p (m+1) (q+1)))=some (p',m',q')/\_
   rw [e2]
   cases hd2:blt (gp p (m-1)) (gp p m) with
   | true=>exact ⟨p,m,q,rfl,hp,by omega,by omega,hq,hd,hs⟩
   | false =>
    obtain ⟨p',m',q',r1,r2,r3,r4,r5,r6,r7⟩:=ih p (m+1) (q+1) hp (by omega) (by omega) (fun i j hij hj=>by
     by_cases hjm:j=m
     ·subst hjm
      by_cases hi:i=j
      ·subst hi;exact O.irr _
      ·exact O.le_tr hd2 (hd i (j-1) (by omega) (by omega))
     ·exact hd i j hij (by omega)) (fun i j h1 h2 h3 h4=>by
      have s1:∀ i,m-(q+1)<=i->i<m->blt (gp p i) (gp p m)=false/\blt (gp p m) (gp p i)=false:=fun i a b =>
       ⟨O.le_tr hd2 (hs i (m-1) a b (by omega) (by omega)),O.le_tr (hs (m-1) i (by omega) (by omega) a b) hb⟩
      by_cases hi:i=m
      ·subst hi
       by_cases hj:j=i
       ·subst hj;exact O.irr _
       ·exact (s1 j (by omega) (by omega)).2
      ·by_cases hj:j=m
       ·subst hj;exact (s1 i (by omega) (by omega)).1
       ·exact hs i j (by omega) (by omega) (by omega) (by omega))
    exact ⟨p',m',q',r1,r2,by omega,by omega,r5,r6,r7⟩
theorem qaE (O:IOrd n lt blt)(hp:Qa n p){m:Nat}(h1:1<=m)(h2:m<=n)(hd:yN blt p m):∃ m' p',runC lt (kas_tail3 m n p)=some (m',p')/\Qa n p'/\1<=m'/\m'<=n/\UpTo blt p' m':=by
 have hz:=hp.size
 obtain ⟨m',e1,h3,h4,h5,_⟩:=qdh O (jl hp 0 m) (n-m) m h1 (by omega) (fun i j hij hj=>by
  rw [Z7 (by omega),Z7 (by omega),if_pos (by omega),if_pos (by omega)]
  exact hd _ _ (by omega) (by omega))
 refine ⟨m',XB p 0 m,?_,jl hp 0 m,by omega,by omega,h5⟩
 unfold kas_tail3
 rw [Zz,e1]
 rfl
theorem J9 (O:IOrd n lt blt)(hp:Qa n p){k:Nat}(h2:k+1<=n)(hd:yN blt p (k+1)):∃ m' p',runC lt (NZ k n p)=some (m',p')/\Qa n p'/\1<=m'/\m'<=n/\UpTo blt p' m':=by
 obtain ⟨p1,m1,q1,e1,r2,r3,r4,r5,r6,r7⟩:=qfA O (n-(k+1)) p (k+1) 0 hp (by omega) (by omega) hd (fun i j a1 a2 a3 a4=>by
  have:i=k:=by omega
  have:j=k:=by omega
  subst i;subst j;exact O.irr _)
 unfold NZ
 rw [Zz,e1]
 show ∃ m' p',runC lt (if q1 > 0 then kas_tail3 m1 n (XB p1 (m1-(q1+1)) m1) else kas_tail3 m1 n p1)=some (m',p')/\_
 by_cases hq:q1 > 0
 ·rw [if_pos hq]
  exact qaE O (jl r2 _ _) (by omega) (by omega) (qbH r2 (by omega) (by omega) r6 r7).1
 ·rw [if_neg hq]
  exact qaE O r2 (by omega) (by omega) r6
theorem qeo (O:IOrd n lt blt)(hp:Qa n p)(hn:1<=n):∃ m' p',runC lt (kas_count n p)=some (m',p')/\Qa n p'/\1<=m'/\m'<=n/\UpTo blt p' m':=by
 have hz:=hp.size
 obtain ⟨m,e1,h3,h4,h5,h6⟩:=qdh O hp (n-1) 1 (by omega) (by omega) (fun i j hij hj=>by
  have:i=0:=by omega
  have:j=0:=by omega
  subst i;subst j;exact O.irr _)
 unfold kas_count
 rw [Zz,e1]
 show ∃ m' p',runC lt (if (m==n)=true then .ret (m,p) else if m > 1 then .ask (p.getD 0 0) (p.getD (m-1) 0) fun c=>if c=true then .ret (m,p) else NZ m n (XB p 0 m) else NZ m n p)=some (m',p')/\_
 by_cases hmn:m=n
 ·rw [if_pos (by simpa using hmn)]
  exact ⟨m,p,rfl,hp,by omega,by omega,h5⟩
 ·rw [if_neg (by simpa using hmn)]
  have hb:=h6 (by omega)
  by_cases hm1:m > 1
  ·rw [if_pos hm1]
   have ea:=O.ask (gp p 0) (gp p (m-1)) (hp.inb (by omega)) (hp.inb (by omega))
   show ∃ m' p',ob (lt (gp p 0) (gp p (m-1))) (fun c=>runC lt (if c=true then .ret (m,p) else NZ m n (XB p 0 m)))=some (m',p')/\_
   rw [ea]
   cases hc:blt (gp p 0) (gp p (m-1)) with
   | true=>exact ⟨m,p,rfl,hp,by omega,by omega,h5⟩
   | false =>
    refine J9 O (jl hp 0 m) (by omega) (fun i j hij hj=>?_)
    by_cases hjm:j=m
    ·by_cases hi:i=j
     ·rw [hi];exact O.irr _
     ·rw [Z7 (by omega),Z7 (by omega),if_pos (by omega),if_neg (by omega),hjm]
      exact O.le_tr (O.asym hb) (O.le_tr hc (h5 0 (0+m-1-i) (by omega) (by omega)))
    ·rw [Z7 (by omega),Z7 (by omega),if_pos (by omega),if_pos (by omega)]
     exact h5 _ _ (by omega) (by omega)
  ·rw [if_neg hm1]
   have hm:m=1:=by omega
   subst hm
   refine J9 O hp (by omega) (fun i j hij hj=>?_)
   by_cases hi:i=j
   ·rw [hi];exact O.irr _
   ·have e0:i=0:=by omega
    have ej:j=1:=by omega
    rw [e0,ej]
    exact O.asym hb
theorem qgU (O:IOrd n lt blt)(hn:1<=n):∃ p',runC lt (EE n)=some p'/\Qa n p'/\UpTo blt p' n:=by
 obtain ⟨m,p,e1,h1,h2,h3,h4⟩:=qeo O (p:=(Xg n).toArray) (show Qa n _ from by unfold Qa;exact List.Perm.refl _) hn
 unfold EE
 rw [Zz,e1]
 show ∃ p',runC lt (if m<n then kas_bin (n-max m 1) p (max m 1) else .ret p)=some p'/\_
 have hmax:max m 1=m:=by omega
 by_cases hm:m<n
 ·rw [if_pos hm,hmax]
  exact qhj O (n-m) p m h1 h4 (by omega)
 ·rw [if_neg hm]
  have:m=n:=by omega
  subst this
  exact ⟨p,rfl,h1,h4⟩
end
noncomputable def tI (ns:List Int):Ka:=.tuple (ns.map .int)
theorem qal:∀ xs:List Int,HT.lexLt xs xs=false
 | []=>rfl
 | x::xs=>by rw [HT.ZM,if_pos rfl];exact qal xs
theorem qb6:∀ xs ys zs:List Int,HT.lexLt xs ys=true->HT.lexLt ys zs=true->HT.lexLt xs zs=true
 | [],[],_,h,_=>by cases h
 | [],_::_,[],_,h=>by cases h
 | [],_::_,_::_,_,_=>rfl
 | _::_,[],_,h,_=>by cases h
 | _::_,_::_,[],_,h=>by cases h
 | x::xs,y::ys,z::zs,h1,h2=>by
  rw [HT.ZM] at h1 h2 ⊢
  by_cases e1:x=y
  ·rw [if_pos e1] at h1
   by_cases e2:y=z
   ·rw [if_pos e2] at h2
    rw [if_pos (e1.trans e2)]
    exact qb6 xs ys zs h1 h2
   ·rw [if_neg e2] at h2
    rw [if_neg (by rw [e1];exact e2),e1]
    exact h2
  ·rw [if_neg e1] at h1
   have h1':=of_decide_eq_true h1
   by_cases e2:y=z
   ·rw [if_neg (by rw [← e2];exact e1),← e2]
    exact h1
   ·rw [if_neg e2] at h2
    have h2':=of_decide_eq_true h2
    rw [if_neg (by omega)]
    exact decide_eq_true (by omega)
theorem qam:∀ xs ys zs:List Int,HT.lexLt xs zs=true->HT.lexLt xs ys=true\/HT.lexLt ys zs=true
 | [],[],zs,h=>.inr h
 | [],_::_,_,_=>.inl rfl
 | _::_,_,[],h=>by cases h
 | _::_,[],_::_,_=>.inr rfl
 | x::xs,y::ys,z::zs,h=>by
  rw [HT.ZM] at h ⊢
  rw [HT.ZM]
  by_cases e1:x=z
  ·rw [if_pos e1] at h
   subst e1
   by_cases e2:x=y
   ·subst e2
    rw [if_pos rfl,if_pos rfl]
    exact qam xs ys zs h
   ·rw [if_neg e2,if_neg (fun z=>e2 z.symm)]
    by_cases hl:x<y
    ·exact .inl (decide_eq_true hl)
    ·exact .inr (decide_eq_true (by omega))
  ·rw [if_neg e1] at h
   have h':=of_decide_eq_true h
   by_cases e2:x=y
   ·subst e2
    rw [if_neg e1]
    exact .inr h
   ·rw [if_neg e2]
    by_cases hl:x<y
    ·exact .inl (decide_eq_true hl)
    ·right
     rw [if_neg (by omega)]
     exact decide_eq_true (by omega)
theorem qap:∀ xs ys:List Int,ltXs (xs.map .int) (ys.map .int)=some (HT.lexLt xs ys)
 | [],[]=>by rw [Ud,ltXs];rfl
 | [],_::_=>by rw [Ud,Kt,ltXs];rfl
 | _::_,[]=>by rw [Ud,Kt,ltXs];rfl
 | x::xs,y::ys=>by
  rw [Kt,Kt,ltXs,HT.ZM]
  have e:Kq (.int x) (.int y)=(x==y):=rfl
  rw [e]
  by_cases h:x=y
  ·rw [if_pos (by simpa using h),if_pos h]
   exact qap xs ys
  ·rw [if_neg (by simpa using h),if_neg h,ltX]
theorem qf9 (xs ys:List Int):ltX (tI xs) (tI ys)=some (HT.lexLt xs ys):=by
 unfold tI
 rw [ltX]
 exact qap xs ys
theorem Wk {α:Type}(xs:List α)(d:α):(Xg xs.length).map (fun i=>xs.getD i d)=xs:=by
 apply List.ext_getElem
 ·simp
 ·intro i h1 h2
  simp [Ug,h2]
theorem qbo {nss:List (List Int)}(hok:Z9 0 (nss.map tI)=true):∃ mss:List (List Int),Q8 [.list (nss.map tI)]=some (.list (mss.map tI))/\mss.Perm nss/\mss.Pairwise (fun a b=>HT.lexLt b a=false):=by
 have hn:2<=nss.length/\nss.length<64:=by
  unfold Z9 at hok
  simp only [Kp,decide_eq_true_eq,Kj] at hok
  exact ⟨hok.2.1,hok.2.2.1⟩
 have O:IOrd nss.length (qb8 (nss.map tI)) (fun i j=>HT.lexLt (nss.getD i []) (nss.getD j [])):=by
  refine ⟨fun i j hi hj=>?_,fun i=>qal _,fun i j k=>qb6 _ _ _,fun i j k=>qam _ _ _⟩
  unfold qb8
  rw [K1,K1,Kn hi,Kn hj]
  show ltX (tI nss[i]) (tI nss[j])=_
  rw [qf9,getD_some (Kn hi),getD_some (Kn hj)]
 obtain ⟨p,e1,hp,hs⟩:=qgU O (by omega)
 have hin:∀ i∈p.toList,i<nss.length:=fun i hi=>EX.mp (hp.mem_iff.mp hi)
 refine ⟨p.toList.map fun i=>nss.getD i [],?_,?_,?_⟩
 ·show (if (nss.map tI).length<2 then some (VQ (nss.map tI)) else if Z9 0 (nss.map tI)=true\/Z9 1 (nss.map tI)=true then ob (runC (qb8 (nss.map tI)) (EE (nss.map tI).length)) fun p=>qcm (nss.map tI) p else none)=_
  rw [if_neg (by rw [Kj];omega),if_pos (.inl hok),Kj,e1]
  show qcm (nss.map tI) p=_
  unfold qcm
  rw [if_pos ⟨KW.mpr fun i hi=>by rw [Kj];exact decide_eq_true (hin i hi),by rw [K6,hp.size];omega⟩]
  congr 2
  rw [VD]
  refine UG fun i hi=>?_
  have hi':=hin i hi
  show (nss.map tI).getD i .none=tI (nss.getD i [])
  rw [getD_some (show (nss.map tI)[i]?=some (tI nss[i]) from by rw [K1,Kn hi'];rfl),getD_some (Kn hi')]
 ·have:=hp.map (fun i=>nss.getD i [])
  rw [Wk] at this
  exact this
 ·rw [Xr,List.pairwise_iff_getElem]
  intro i j hi hj hij
  have hsz:=hp.size
  rw [K6] at hi hj
  have:=hs i j (by omega) (by omega)
  have g1:gp p i=p.toList[i]'(by rw [K6];exact hi):=by simp [gp,Array.getD,hi]
  have g2:gp p j=p.toList[j]'(by rw [K6];exact hj):=by simp [gp,Array.getD,hj]
  rw [g1,g2] at this
  exact this
theorem jf:∀ ns:List Int,Km (ns.map .int)=true/\Kw (ns.map .int)=0
 | []=>⟨rfl,rfl⟩
 | n::ns=>by
  obtain ⟨h1,h2⟩:=jf ns
  rw [Kt]
  exact ⟨by simp [Km,KL,h1],by simp [Kw,UZ,h2]⟩
theorem J8:∀ nss:List (List Int),Km (nss.map tI)=true/\Kw (nss.map tI)<=1
 | []=>⟨rfl,Vv _⟩
 | ns::nss=>by
  obtain ⟨h1,h2⟩:=J8 nss
  obtain ⟨h3,h4⟩:=jf ns
  rw [Kt]
  refine ⟨by simp [Km,tI,KL,h1,h3],?_⟩
  rw [Kw,show (tI ns).depth=1 from by simp [tI,UZ,h4]]
  omega
theorem qcu {nss:List (List Int)}(h2:2<=nss.length)(h64:nss.length<64)(hne:∀ ns∈nss,ns≠[]):Z9 0 (nss.map tI)=true:=by
 obtain ⟨h3,h4⟩:=J8 nss
 unfold Z9
 simp only [Kp,decide_eq_true_eq,Kj]
 refine ⟨KW.mpr fun d hd=>?_,h2,h64,h3,by omega⟩
 obtain ⟨ns,hn,rfl⟩:=VM.mp hd
 cases ns with
 | nil=>exact absurd rfl (hne [] hn)
 | cons n ns=>rfl
theorem yI {nss:List (List Int)}(h64:nss.length<64)(hne:∀ ns∈nss,ns≠[]):∃ mss:List (List Int),Q8 [.list (nss.map tI)]=some (.list (mss.map tI))/\mss.Perm nss/\mss.Pairwise (fun a b=>HT.lexLt b a=false):=by
 by_cases h2:2<=nss.length
 ·exact qbo (qcu h2 h64 hne)
 ·refine ⟨nss,?_,List.Perm.refl _,?_⟩
  ·show (if (nss.map tI).length<2 then some (VQ (nss.map tI)) else _)=_
   rw [if_pos (by rw [Kj];omega)]
  ·match nss,h2 with
   | [],_=>exact .nil
   | [a],_=>exact .cons (fun _ z=>nomatch z) .nil
   | _::_::_,h2=>exact absurd (by simp) h2
end L2
namespace SF
open PySem L2
variable (P:Ku)(w:KI){K:Kd}{mg:Str->Option Ke}(base:KC){f:Kf}{fd:K7}
noncomputable def top (i:Nat):KM:=PySem.Challenge.pw_sheetfold_k13_walked.main.body.getD i (.Pass ⟨0,0,0,0⟩)
noncomputable def qaP:Ka:=(.tuple [(.int (-1)),(.int (0)),(.int (1))])
noncomputable def Zm:Ka:=(.tuple [(.tuple [(.int (1)),(.int (0))]),(.tuple [(.int (0)),(.int (1))]),(.tuple [(.int (-1)),(.int (0))]),(.tuple [(.int (0)),(.int (-1))])])
noncomputable def XS:List (Str×List Str):=[("SheetError", ["SheetError", "ValueError"]),("NoDrawing", ["NoDrawing", "SheetError", "ValueError"]),("NoBend", ["NoBend", "SheetError", "ValueError"]),("NoSquare", ["NoSquare", "SheetError", "ValueError"]),("TooMany", ["TooMany", "SheetError", "ValueError"]),("NoTurn", ["NoTurn", "SheetError", "ValueError"]),("NoRow", ["NoRow", "SheetError", "ValueError"]),("NoName", ["NoName", "SheetError", "ValueError"]),("NotClosed", ["NotClosed", "SheetError", "ValueError"]),("NoSheet", ["NoSheet", "SheetError", "ValueError"]),("NoSolid", ["NoSolid", "SheetError", "ValueError"]),("NoTree", ["NoTree", "SheetError", "ValueError"]),("NoWay", ["NoWay", "SheetError", "ValueError"]),("Crowded", ["Crowded", "SheetError", "ValueError"])]
noncomputable abbrev Ws:KM:=(clsB (top 13)).getD 0 (.Pass ⟨0,0,0,0⟩)
theorem qfh:ScOk ["self", "at"] ["self", "at"] ["SheetError"] (qe Ws):=scmk (by kernel_rfl)
theorem qhM {h:KC}(X:K.In h)(G:h.Ns mainGlobals mg)(F:IniF K "NoWay" "at" "SheetError" "NoWay.__init__" Ws):KnownI P w K mg base "NoWay" "at" 1 :=
 IniF.known X G qfh (by decide) (by decide +kernel) (by decide +kernel) (by decide +kernel) rfl (fun _=>rfl) (fun F=>F.binds (ps:=["self", "at"]) fun _ _ _ _ _ _ us hl=>match us,hl with | [_,_],_=>rfl) F
noncomputable def CS:List (Str×List Str):=[("Join", ["Join"]),("Up", ["Up", "Join"]),("Down", ["Down", "Join"])]
noncomputable abbrev Tq22:KM:=top 16
noncomputable abbrev wj:List Str:=["thing"]
theorem Qw:ScOk wj ["thing"] ["isinstance", "int", "bool"] (qe Tq22):=scmk (by kernel_rfl)
noncomputable def Ww:Rho->Option Out:=(sRet (vA (ev1 (vr 0) (isiD "int")) (vN (ev1 (vr 0) (isiD "bool")))))
noncomputable def Jz (ds:List Ka):Option Ka:=ob (Ww (rho0 wj.length ds)) outD
theorem qcQ (F:Fun K "is_whole" "is_whole" Tq22 f fd)(m:mg "is_whole" = some (.ref f))(b:Binds K fd ["thing"] [])(z_isinstance:mg "isinstance" = none)(z_int:mg "int" = none)(z_bool:mg "bool" = none):Known P w K mg base "is_whole" 1 1 Jz:=by
 refine ⟨f,fd,["thing"],F.pure (k:=0) (u:=Ww) (M':=[]) Qw.fs rfl (fun cdv A outer s H E hr G=>?_),m,F.kp,b⟩
 exact ql (qF (qbd (JG (T := "int") (qdM _) (Qw.gl 0 rfl rfl) z_isinstance (Qw.gl 1 rfl rfl) z_int rfl rfl (pd_v Qw 0)) (qbh (qgo (JG (T := "bool") (qb3 _) (Qw.gl 0 rfl rfl) z_isinstance (Qw.gl 2 rfl rfl) z_bool rfl rfl (pd_v Qw 0))))))
noncomputable abbrev Tq37:KM:=top 17
noncomputable abbrev qdc:List Str:=["one", "other"]
theorem jm:ScOk qdc ["one", "other"] [] (qe Tq37):=scmk (by kernel_rfl)
noncomputable def qbu:Rho->Option Out:=(sRet (evA (aC (ev2 (ev2 (vr 0) (kd (.int 0)) ixD) (ev2 (vr 1) (kd (.int 0)) ixD) Qe) (aC (ev2 (ev2 (vr 0) (kd (.int 1)) ixD) (ev2 (vr 1) (kd (.int 1)) ixD) Qe) (aC (ev2 (ev2 (vr 0) (kd (.int 2)) ixD) (ev2 (vr 1) (kd (.int 2)) ixD) Qe) aN))) tupD))
noncomputable def Jj (ds:List Ka):Option Ka:=ob (qbu (rho0 qdc.length ds)) outD
theorem qhX (F:Fun K "added" "added" Tq37 f fd)(m:mg "added" = some (.ref f))(b:Binds K fd ["one", "other"] []):Known P w K mg base "added" 2 1 Jj:=by
 refine ⟨f,fd,["one", "other"],F.pure (k:=0) (u:=qbu) (M':=[]) jm.fs rfl (fun cdv A outer s H E hr G=>?_),m,F.kp,b⟩
 exact ql (qF (qU (pda3 (qz zV (qx (pd_v jm 0) qb) (qx (pd_v jm 1) qb)) (qz zV (qx (pd_v jm 0) qb) (qx (pd_v jm 1) qb)) (qz zV (qx (pd_v jm 0) qb) (qx (pd_v jm 1) qb)))))
noncomputable abbrev Tq28:KM:=top 18
noncomputable abbrev W3:List Str:=["spot"]
theorem Jh:ScOk W3 ["spot"] [] (qe Tq28):=scmk (by kernel_rfl)
noncomputable def Yo:Rho->Option Out:=(sRet (evA (aC (ev1 (ev2 (vr 0) (kd (.int 0)) ixD) negD) (aC (ev1 (ev2 (vr 0) (kd (.int 1)) ixD) negD) (aC (ev1 (ev2 (vr 0) (kd (.int 2)) ixD) negD) aN))) tupD))
noncomputable def QC (ds:List Ka):Option Ka:=ob (Yo (rho0 W3.length ds)) outD
theorem qeJ (F:Fun K "negated" "negated" Tq28 f fd)(m:mg "negated" = some (.ref f))(b:Binds K fd ["spot"] []):Known P w K mg base "negated" 1 1 QC:=by
 refine ⟨f,fd,["spot"],F.pure (k:=0) (u:=Yo) (M':=[]) Jh.fs rfl (fun cdv A outer s H E hr G=>?_),m,F.kp,b⟩
 exact ql (qF (qU (pda3 (jJ jH (qx (pd_v Jh 0) qb)) (jJ jH (qx (pd_v Jh 0) qb)) (jJ jH (qx (pd_v Jh 0) qb)))))
noncomputable abbrev Tq38:KM:=top 19
noncomputable abbrev qdd:List Str:=["one", "other"]
theorem Qk:ScOk qdd ["one", "other"] [] (qe Tq38):=scmk (by kernel_rfl)
noncomputable def qbv:Rho->Option Out:=(sRet (evA (aC (ev2 (ev2 (ev2 (vr 0) (kd (.int 1)) ixD) (ev2 (vr 1) (kd (.int 2)) ixD) mulD) (ev2 (ev2 (vr 0) (kd (.int 2)) ixD) (ev2 (vr 1) (kd (.int 1)) ixD) mulD) subD) (aC (ev2 (ev2 (ev2 (vr 0) (kd (.int 2)) ixD) (ev2 (vr 1) (kd (.int 0)) ixD) mulD) (ev2 (ev2 (vr 0) (kd (.int 0)) ixD) (ev2 (vr 1) (kd (.int 2)) ixD) mulD) subD) (aC (ev2 (ev2 (ev2 (vr 0) (kd (.int 0)) ixD) (ev2 (vr 1) (kd (.int 1)) ixD) mulD) (ev2 (ev2 (vr 0) (kd (.int 1)) ixD) (ev2 (vr 1) (kd (.int 0)) ixD) mulD) subD) aN))) tupD))
noncomputable def Zo (ds:List Ka):Option Ka:=ob (qbv (rho0 qdd.length ds)) outD
theorem qhY (F:Fun K "cross" "cross" Tq38 f fd)(m:mg "cross" = some (.ref f))(b:Binds K fd ["one", "other"] []):Known P w K mg base "cross" 2 1 Zo:=by
 refine ⟨f,fd,["one", "other"],F.pure (k:=0) (u:=qbv) (M':=[]) Qk.fs rfl (fun cdv A outer s H E hr G=>?_),m,F.kp,b⟩
 exact ql (qF (qU (pda3 (qz ZJ (qz zP (qx (pd_v Qk 0) qb) (qx (pd_v Qk 1) qb)) (qz zP (qx (pd_v Qk 0) qb) (qx (pd_v Qk 1) qb))) (qz ZJ (qz zP (qx (pd_v Qk 0) qb) (qx (pd_v Qk 1) qb)) (qz zP (qx (pd_v Qk 0) qb) (qx (pd_v Qk 1) qb))) (qz ZJ (qz zP (qx (pd_v Qk 0) qb) (qx (pd_v Qk 1) qb)) (qz zP (qx (pd_v Qk 0) qb) (qx (pd_v Qk 1) qb))))))
noncomputable abbrev Tq33:KM:=top 20
noncomputable abbrev ww:List Str:=["turn", "spot"]
theorem Y5:ScOk ww ["turn", "spot"] ["range", "tuple"] (qe Tq33):=scmk (by kernel_rfl)
noncomputable def Wz:Rho->Option Out:=(sRet (evA (aC (jG 2 (evR (aC (kd (.int 3)) aN) jK) tT (ev2 (ev2 (ev2 (ev2 (vr 1) (kd (.int 0)) ixD) (ev2 (ev2 (vr 0) (kd (.int 0)) ixD) (vr 2) ixD) mulD) (ev2 (ev2 (vr 1) (kd (.int 1)) ixD) (ev2 (ev2 (vr 0) (kd (.int 1)) ixD) (vr 2) ixD) mulD) Qe) (ev2 (ev2 (vr 1) (kd (.int 2)) ixD) (ev2 (ev2 (vr 0) (kd (.int 2)) ixD) (vr 2) ixD) mulD) Qe)) aN) JM))
noncomputable def Qt (ds:List Ka):Option Ka:=ob (Wz (rho0 ww.length ds)) outD
theorem qfY (F:Fun K "turned" "turned" Tq33 f fd)(m:mg "turned" = some (.ref f))(b:Binds K fd ["turn", "spot"] [])(z_tuple:mg "tuple" = none)(z_range:mg "range" = none):Known P w K mg base "turned" 2 1 Qt:=by
 refine ⟨f,fd,["turn", "spot"],F.pure (k:=0) (u:=Wz) (M':=[]) Y5.fs rfl (fun cdv A outer s H E hr G=>?_),m,F.kp,b⟩
 exact ql (qF (QD YK (Y5.gl 1 rfl rfl) z_tuple rfl (pda1 (yp (CompOk.of (k:=1) ww ["turn", "spot", "k"] (qe Tq33) rfl rfl rfl (by decide +kernel)) rfl (by decide +kernel) (Wh (Y5.gl 0 rfl rfl) z_range (pda1 qb)) (fun _ _ _ _ _ _=>ZP) (fun _ _ _ _ _ _=>qz zV (qz zV (qz zP (qx (za 1 (qM (by decide +kernel)) (by decide)) qb) (qx (qx (za 0 (qM (by decide +kernel)) (by decide)) qb) (za 2 (qM (by decide +kernel)) (by decide)))) (qz zP (qx (za 1 (qM (by decide +kernel)) (by decide)) qb) (qx (qx (za 0 (qM (by decide +kernel)) (by decide)) qb) (za 2 (qM (by decide +kernel)) (by decide))))) (qz zP (qx (za 1 (qM (by decide +kernel)) (by decide)) qb) (qx (qx (za 0 (qM (by decide +kernel)) (by decide)) qb) (za 2 (qM (by decide +kernel)) (by decide)))))))))
noncomputable abbrev Tq1:KM:=top 21
noncomputable abbrev jR:List Str:=["first", "second"]
theorem q9:ScOk jR ["first", "second"] ["turned"] (qe Tq1):=scmk (by kernel_rfl)
noncomputable def ZV:Rho->Option Out:=(sRet (evA (aC (evC 2 (aC (vr 1) (aC (ev2 (vr 0) (kd (.int 0)) ixD) aN)) Qt) (aC (evC 2 (aC (vr 1) (aC (ev2 (vr 0) (kd (.int 1)) ixD) aN)) Qt) (aC (evC 2 (aC (vr 1) (aC (ev2 (vr 0) (kd (.int 2)) ixD) aN)) Qt) aN))) tupD))
noncomputable def Qg (ds:List Ka):Option Ka:=ob (ZV (rho0 jR.length ds)) outD
theorem wQ (F:Fun K "joined_turns" "joined_turns" Tq1 f fd)(m:mg "joined_turns" = some (.ref f))(b:Binds K fd ["first", "second"] [])(K_turned:Known P w K mg base "turned" 2 1 Qt):Known P w K mg base "joined_turns" 2 2 Qg:=by
 refine ⟨f,fd,["first", "second"],F.pure (k:=1) (u:=ZV) (M':=[]) q9.fs rfl (fun cdv A outer s H E hr G=>?_),m,F.kp,b⟩
 exact ql (qF (qU (pda3 (qj K_turned hr (by decide) (q9.gl 0 rfl rfl) (pda2 (pd_v q9 1) (qx (pd_v q9 0) qb)) rfl) (qj K_turned hr (by decide) (q9.gl 0 rfl rfl) (pda2 (pd_v q9 1) (qx (pd_v q9 0) qb)) rfl) (qj K_turned hr (by decide) (q9.gl 0 rfl rfl) (pda2 (pd_v q9 1) (qx (pd_v q9 0) qb)) rfl))))
noncomputable abbrev Tq15:KM:=top 22
noncomputable abbrev jU:List Str:=["turn"]
theorem jN:ScOk jU ["turn"] ["range", "tuple"] (qe Tq15):=scmk (by kernel_rfl)
noncomputable def Jg:Rho->Option Out:=(sRet (evA (aC (jG 1 (evR (aC (kd (.int 3)) aN) jK) tT (evA (aC (ev2 (ev2 (vr 0) (kd (.int 0)) ixD) (vr 1) ixD) (aC (ev2 (ev2 (vr 0) (kd (.int 1)) ixD) (vr 1) ixD) (aC (ev2 (ev2 (vr 0) (kd (.int 2)) ixD) (vr 1) ixD) aN))) tupD)) aN) JM))
noncomputable def Zg (ds:List Ka):Option Ka:=ob (Jg (rho0 jU.length ds)) outD
theorem qb2 (F:Fun K "turn_back" "turn_back" Tq15 f fd)(m:mg "turn_back" = some (.ref f))(b:Binds K fd ["turn"] [])(z_tuple:mg "tuple" = none)(z_range:mg "range" = none):Known P w K mg base "turn_back" 1 1 Zg:=by
 refine ⟨f,fd,["turn"],F.pure (k:=0) (u:=Jg) (M':=[]) jN.fs rfl (fun cdv A outer s H E hr G=>?_),m,F.kp,b⟩
 exact ql (qF (QD YK (jN.gl 1 rfl rfl) z_tuple rfl (pda1 (yp (CompOk.of (k:=1) jU ["turn", "k"] (qe Tq15) rfl rfl rfl (by decide +kernel)) rfl (by decide +kernel) (Wh (jN.gl 0 rfl rfl) z_range (pda1 qb)) (fun _ _ _ _ _ _=>ZP) (fun _ _ _ _ _ _=>qU (pda3 (qx (qx (za 0 (qM (by decide +kernel)) (by decide)) qb) (za 1 (qM (by decide +kernel)) (by decide))) (qx (qx (za 0 (qM (by decide +kernel)) (by decide)) qb) (za 1 (qM (by decide +kernel)) (by decide))) (qx (qx (za 0 (qM (by decide +kernel)) (by decide)) qb) (za 1 (qM (by decide +kernel)) (by decide)))))))))
noncomputable abbrev Tq34:KM:=top 24
noncomputable abbrev qbz:List Str:=["pose"]
theorem JV:ScOk qbz ["pose"] ["cross"] (qe Tq34):=scmk (by kernel_rfl)
noncomputable def Wy:Rho->Option Out:=(sRet (evC 2 (aC (ev2 (vr 0) (kd (.int 1)) ixD) (aC (ev2 (vr 0) (kd (.int 2)) ixD) aN)) Zo))
noncomputable def jZ (ds:List Ka):Option Ka:=ob (Wy (rho0 qbz.length ds)) outD
theorem qfX (F:Fun K "out_of" "out_of" Tq34 f fd)(m:mg "out_of" = some (.ref f))(b:Binds K fd ["pose"] [])(K_cross:Known P w K mg base "cross" 2 1 Zo):Known P w K mg base "out_of" 1 2 jZ:=by
 refine ⟨f,fd,["pose"],F.pure (k:=1) (u:=Wy) (M':=[]) JV.fs rfl (fun cdv A outer s H E hr G=>?_),m,F.kp,b⟩
 exact ql (qF (qj K_cross hr (by decide) (JV.gl 0 rfl rfl) (pda2 (qx (pd_v JV 0) qb) (qx (pd_v JV 0) qb)) rfl))
noncomputable abbrev Tq29:KM:=top 27
noncomputable abbrev W4:List Str:=["pose", "way"]
theorem QB:ScOk W4 ["pose", "way"] ["negated"] (qe Tq29):=scmk (by kernel_rfl)
noncomputable def Yp:Rho->Option Out:=(sRet (ev2 (evA (aC (ev2 (vr 0) (kd (.int 1)) ixD) (aC (ev2 (vr 0) (kd (.int 2)) ixD) (aC (evC 1 (aC (ev2 (vr 0) (kd (.int 1)) ixD) aN) QC) (aC (evC 1 (aC (ev2 (vr 0) (kd (.int 2)) ixD) aN) QC) aN)))) tupD) (vr 1) ixD))
noncomputable def ji (ds:List Ka):Option Ka:=ob (Yp (rho0 W4.length ds)) outD
theorem qeK (F:Fun K "unit_of" "unit_of" Tq29 f fd)(m:mg "unit_of" = some (.ref f))(b:Binds K fd ["pose", "way"] [])(K_negated:Known P w K mg base "negated" 1 1 QC):Known P w K mg base "unit_of" 2 2 ji:=by
 refine ⟨f,fd,["pose", "way"],F.pure (k:=1) (u:=Yp) (M':=[]) QB.fs rfl (fun cdv A outer s H E hr G=>?_),m,F.kp,b⟩
 exact ql (qF (qx (qU (qG (qx (pd_v QB 0) qb) (qG (qx (pd_v QB 0) qb) (qG (qj K_negated hr (by decide) (QB.gl 0 rfl rfl) (pda1 (qx (pd_v QB 0) qb)) rfl) (qG (qj K_negated hr (by decide) (QB.gl 0 rfl rfl) (pda1 (qx (pd_v QB 0) qb)) rfl) zu))))) (pd_v QB 1)))
noncomputable abbrev Tq30:KM:=top 31
noncomputable abbrev W0:List Str:=["thing"]
theorem jd:ScOk W0 ["thing"] ["is_whole", "BENDS"] (qe Tq30):=scmk (by kernel_rfl)
noncomputable def qaH:Rho->Option Out:=(sRet (vA (evC 1 (aC (vr 0) aN) Jz) (ev2 (vr 0) (kd qaP) inD)))
noncomputable def yX (ds:List Ka):Option Ka:=ob (qaH (rho0 W0.length ds)) outD
theorem qeH (F:Fun K "is_bend" "is_bend" Tq30 f fd)(m:mg "is_bend" = some (.ref f))(b:Binds K fd ["thing"] [])(K_is_whole:Known P w K mg base "is_whole" 1 1 Jz)(C_BENDS:qcx K mg "BENDS" qaP):Known P w K mg base "is_bend" 1 2 yX:=by
 refine ⟨f,fd,["thing"],F.pure (k:=1) (u:=qaH) (M':=[]) jd.fs rfl (fun cdv A outer s H E hr G=>?_),m,F.kp,b⟩
 exact ql (qF (qbd (qj K_is_whole hr (by decide) (jd.gl 0 rfl rfl) (pda1 (pd_v jd 0)) rfl) (qbh (qbe (d_in hr) (pd_v jd 0) (qgk C_BENDS (jd.gl 1 rfl rfl)) rfl))))
noncomputable abbrev Tq31:KM:=top 32
noncomputable abbrev W2:List Str:=["bend"]
theorem Qz:ScOk W2 ["bend"] ["is_bend", "Up", "Down", "Join"] (qe Tq31):=scmk (by kernel_rfl)
noncomputable def qaI:Rho->Option Out:=(seqO (sIf (tN (tV (evC 1 (aC (vr 0) aN) yX))) sNo sN) (seqO (sIf (tV (ev2 (vr 0) (kd (.int 1)) eqD)) (sRet (kd (objD "Up"))) sN) (seqO (sIf (tV (ev2 (vr 0) (ev1 (kd (.int 1)) negD) eqD)) (sRet (kd (objD "Down"))) sN) (sRet (kd (objD "Join"))))))
noncomputable def Jk (ds:List Ka):Option Ka:=ob (qaI (rho0 W2.length ds)) outD
theorem qeI (F:Fun K "join_of" "join_of" Tq31 f fd)(m:mg "join_of" = some (.ref f))(b:Binds K fd ["bend"] [])(K_is_bend:Known P w K mg base "is_bend" 1 2 yX)(CT:CTab K mg CS):Known P w K mg base "join_of" 1 3 Jk:=by
 refine ⟨f,fd,["bend"],F.pure (k:=2) (u:=qaI) (M':=[]) Qz.fs rfl (fun cdv A outer s H E hr G=>?_),m,F.kp,b⟩
 exact qi (M1:=[]) (zx (yu (Q7 (qj K_is_bend hr (by decide) (Qz.gl 0 rfl rfl) (pda1 (pd_v Qz 0)) rfl))) (ql jk) zb) (qi (M1:=[]) (zx (q8 (d_eq hr) (pd_v Qz 0) qb (zO _)) (ql (qF (qbg CT (Qz.gl 1 rfl rfl)))) zb) (qi (M1:=[]) (zx (q8 (d_eq hr) (pd_v Qz 0) (jJ jH qb) (zO _)) (ql (qF (qbg CT (Qz.gl 2 rfl rfl)))) zb) (ql (qF (qbg CT (Qz.gl 3 rfl rfl))))))
noncomputable abbrev Tq2:KM:=top 35
noncomputable abbrev jT:List Str:=["cell", "other"]
theorem Qc:ScOk jT ["cell", "other"] [] (qe Tq2):=scmk (by kernel_rfl)
noncomputable def ZW:Rho->Option Out:=(sRet (evA (aC (ev2 (ev2 (vr 1) (kd (.int 0)) ixD) (ev2 (vr 0) (kd (.int 0)) ixD) subD) (aC (ev2 (ev2 (vr 1) (kd (.int 1)) ixD) (ev2 (vr 0) (kd (.int 1)) ixD) subD) aN)) tupD))
noncomputable def zA (ds:List Ka):Option Ka:=ob (ZW (rho0 jT.length ds)) outD
theorem wR (F:Fun K "step_between" "step_between" Tq2 f fd)(m:mg "step_between" = some (.ref f))(b:Binds K fd ["cell", "other"] []):Known P w K mg base "step_between" 2 1 zA:=by
 refine ⟨f,fd,["cell", "other"],F.pure (k:=0) (u:=ZW) (M':=[]) Qc.fs rfl (fun cdv A outer s H E hr G=>?_),m,F.kp,b⟩
 exact ql (qF (qU (pda2 (qz ZJ (qx (pd_v Qc 1) qb) (qx (pd_v Qc 0) qb)) (qz ZJ (qx (pd_v Qc 1) qb) (qx (pd_v Qc 0) qb)))))
noncomputable abbrev Tq9:KM:=top 36
noncomputable abbrev J2:List Str:=["sheet", "k", "cells", "found", "i", "j", "bend", "other"]
theorem qy:ScOk J2 ["sheet", "k"] ["step_between", "STEPS", "sorted"] (qe Tq9):=scmk (by kernel_rfl)
noncomputable abbrev jW:Rho->Option Out:=(sIf (tV (ev2 (vr 1) (evA (aC (vr 4) (aC (vr 5) aN)) tupD) inD)) (seqO (sSet 7 (vIf (tV (ev2 (vr 1) (vr 4) eqD)) (vr 5) (vr 4))) (sApp 3 (evA (aC (ev1 (evC 2 (aC (ev2 (vr 2) (vr 1) ixD) (aC (ev2 (vr 2) (vr 7) ixD) aN)) zA) (Q9 Zm)) (aC (vr 7) (aC (vr 6) aN))) tupD))) sN)
noncomputable def jF:Rho->Option Out:=(seqO (sSet 2 (ev2 (vr 0) (kd (.int 0)) ixD)) (seqO (Zk 3 (evA aN lstD)) (seqO (sFor (evI (ev2 (vr 0) (kd (.int 1)) ixD) seqD) (unpD 3 (gsC (gNm 4) (gsC (gNm 5) (gsC (gNm 6) gsN)))) jW) (sRet (evA (aC (vr 3) aN) Q8)))))
noncomputable def QL (ds:List Ka):Option Ka:=ob (jF (rho0 J2.length ds)) outD
theorem qa8 (F:Fun K "neighbours" "neighbours" Tq9 f fd)(m:mg "neighbours" = some (.ref f))(b:Binds K fd ["sheet", "k"] [])(K_step_between:Known P w K mg base "step_between" 2 1 zA)(z_sorted:mg "sorted" = none)(C_STEPS:qcy K mg "STEPS" Zm):Known P w K mg base "neighbours" 2 2 QL:=by
 refine ⟨f,fd,["sheet", "k"],F.pure (k:=1) (u:=jF) (M':=[]) qy.fs rfl (fun cdv A outer s H E hr G=>?_),m,F.kp,b⟩
 refine qi (M1:=[]) ?_ ?_
 refine qL 2 ?_ ?_ ?_ ?_ ?_ ?_ (qx (pd_v qy 0) qb)
 ·exact qy.fs.nd
 ·exact (qy.loc 2 rfl)
 ·rfl
 ·rfl
 ·exact .inl rfl
 ·decide
 refine qi (M1:=[3]) ?_ ?_
 refine Zj 3 ?_ ?_ ?_ ?_ ?_ ?_ ?_ (JK zu)
 ·exact qy.fs.nd
 ·exact (qy.loc 3 rfl)
 ·rfl
 ·rfl
 ·exact .inl rfl
 ·decide
 ·decide
 refine qi (M1:=[3]) ?_ (ql (qF (Wg (Wl (w6 hr) (qy.gl 2 rfl rfl) z_sorted jr (pda1 (pd_v qy 3))))))
 refine Z3 V9 rfl (Qn (qx (pd_v qy 0) qb)) (fun _=>Zr rfl (qT (zF qy 4) (qT (zF qy 5) (qT (zF qy 6) QQ)))) (fun _=>?_)
 refine ql ?_
 refine zx (q8 (d_in hr) (pd_v qy 1) (qU (pda2 (pd_v qy 4) (pd_v qy 5))) rfl) ?_ zb
 refine qi (M1:=[3]) ?_ (ql (yr 3 (qy.vis 3 rfl) (by decide) (by decide) (qU (pda3 (qeZ C_STEPS hr (qy.gl 1 rfl rfl) (qj K_step_between hr (by decide) (qy.gl 0 rfl rfl) (pda2 (qx (pd_v qy 2) (pd_v qy 1)) (qx (pd_v qy 2) (pd_v qy 7))) rfl)) (pd_v qy 7) (pd_v qy 6)))))
 refine qL 7 ?_ ?_ ?_ ?_ ?_ ?_ (qgl (q8 (d_eq hr) (pd_v qy 1) (pd_v qy 4) (zO _)) (pd_v qy 5) (pd_v qy 4))
 ·exact qy.fs.nd
 ·exact (qy.loc 7 rfl)
 ·rfl
 ·rfl
 ·exact .inl rfl
 ·decide
noncomputable abbrev Tq23:KM:=top 38
noncomputable abbrev wu:List Str:=["sheet", "steps", "k", "way", "j", "bend"]
theorem qX:ScOk wu ["sheet"] ["neighbours", "len", "range"] (qe Tq23):=scmk (by kernel_rfl)
noncomputable abbrev jo:Rho->Option Out:=(qeb 1 (evA (aC (vr 2) (aC (vr 4) aN)) tupD) (evA (aC (vr 3) (aC (vr 5) aN)) tupD))
noncomputable abbrev J6:Rho->Option Out:=(sFor (evI (evC 2 (aC (vr 0) (aC (vr 2) aN)) QL) seqD) (unpD 3 (gsC (gNm 3) (gsC (gNm 4) (gsC (gNm 5) gsN)))) jo)
noncomputable def JR:Rho->Option Out:=(seqO (Zk 1 (kd (.dict []))) (seqO (sFor (evR (aC (evA (aC (ev2 (vr 0) (kd (.int 0)) ixD) aN) lenD) aN) jK) (gNm 2) J6) (sRet (vr 1))))
noncomputable def Qh (ds:List Ka):Option Ka:=ob (JR (rho0 wu.length ds)) outD
theorem qcR (F:Fun K "steps_of" "steps_of" Tq23 f fd)(m:mg "steps_of" = some (.ref f))(b:Binds K fd ["sheet"] [])(K_neighbours:Known P w K mg base "neighbours" 2 2 QL)(z_range:mg "range" = none)(z_len:mg "len" = none):Known P w K mg base "steps_of" 1 3 Qh:=by
 refine ⟨f,fd,["sheet"],F.pure (k:=2) (u:=JR) (M':=[]) qX.fs rfl (fun cdv A outer s H E hr G=>?_),m,F.kp,b⟩
 refine qi (M1:=[1]) ?_ (qi (M1:=[1]) (yt V9 rfl (jA (qX.gl 2 rfl rfl) z_range (pda1 (zf ZZ (qX.gl 1 rfl rfl) z_len VW (pda1 (qx (pd_v qX 0) qb))))) (zF qX 2) (ql (Z3 V9 rfl (Qn (qj K_neighbours hr (by decide) (qX.gl 0 rfl rfl) (pda2 (pd_v qX 0) (pd_v qX 2)) rfl)) (fun _=>Zr rfl (qT (zF qX 3) (qT (zF qX 4) (qT (zF qX 5) QQ)))) (fun _=>ql (qgs hr 1 (qX.vis 1 rfl) (by decide) (by decide) (qU (pda2 (pd_v qX 2) (pd_v qX 4))) (qU (pda2 (pd_v qX 3) (pd_v qX 5)))))))) (ql (qF (pd_v qX 1))))
 refine Zj 1 ?_ ?_ ?_ ?_ ?_ ?_ ?_ qgy
 ·exact qX.fs.nd
 ·exact (qX.loc 1 rfl)
 ·rfl
 ·rfl
 ·exact .inl rfl
 ·decide
 ·decide
noncomputable abbrev Tq16:KM:=top 42
noncomputable abbrev Ys:List Str:=["_law_script", "_law_k"]
theorem Qy:ScOk Ys ["_law_script", "_law_k"] ["len"] (qe Tq16):=scmk (by kernel_rfl)
noncomputable def j9:Rho->Option Out:=(seqO (sIf (tV (ev2 (vr 1) (evA (aC (vr 0) aN) lenD) ltD2)) (sRet (ev2 (vr 0) (vr 1) ixD)) sN) (sRet (kd (.int 0))))
noncomputable def qW (ds:List Ka):Option Ka:=ob (j9 (rho0 Ys.length ds)) outD
theorem qbW (F:Fun K "_law_cell" "_law_cell" Tq16 f fd)(m:mg "_law_cell" = some (.ref f))(b:Binds K fd ["_law_script", "_law_k"] [])(z_len:mg "len" = none):Known P w K mg base "_law_cell" 2 1 qW:=by
 refine ⟨f,fd,["_law_script", "_law_k"],F.pure (k:=0) (u:=j9) (M':=[]) Qy.fs rfl (fun cdv A outer s H E hr G=>?_),m,F.kp,b⟩
 exact qi (M1:=[]) (zx (q8 (qi7 hr) (pd_v Qy 1) (zf ZZ (Qy.gl 0 rfl rfl) z_len VW (pda1 (pd_v Qy 0))) (zO _)) (ql (qF (qx (pd_v Qy 0) (pd_v Qy 1)))) zb) (ql (qF qb))
noncomputable abbrev Tq10:KM:=top 43
noncomputable abbrev J0:List Str:=["_law_found"]
theorem zR:ScOk J0 ["_law_found"] ["isinstance", "int", "bool"] (qe Tq10):=scmk (by kernel_rfl)
noncomputable def yK:Rho->Option Out:=(sRet (vA (ev1 (vr 0) (isiD "int")) (vN (ev1 (vr 0) (isiD "bool")))))
noncomputable def QK (ds:List Ka):Option Ka:=ob (yK (rho0 J0.length ds)) outD
theorem qa7 (F:Fun K "_law_whole" "_law_whole" Tq10 f fd)(m:mg "_law_whole" = some (.ref f))(b:Binds K fd ["_law_found"] [])(z_isinstance:mg "isinstance" = none)(z_int:mg "int" = none)(z_bool:mg "bool" = none):KnownM P w K mg base "_law_whole" 1 1 QK:=by
 refine ⟨f,fd,["_law_found"],F.pureM (k:=0) (u:=yK) (M':=[]) zR.fs rfl (fun cdv A outer s H E hr G=>?_),m,F.kp,b⟩
 exact ql (qF (qbd (JG (T := "int") (qdM _) (zR.gl 0 rfl rfl) z_isinstance (zR.gl 1 rfl rfl) z_int rfl rfl (pd_v zR 0)) (qbh (qgo (JG (T := "bool") (qb3 _) (zR.gl 0 rfl rfl) z_isinstance (zR.gl 2 rfl rfl) z_bool rfl rfl (pd_v zR 0))))))
noncomputable abbrev Tq11:KM:=top 44
noncomputable abbrev JX:List Str:=["_law_one", "_law_other", "_law_a", "_law_b", "_law_c", "_law_d", "_law_e", "_law_f"]
theorem qJ:ScOk JX ["_law_one", "_law_other"] [] (qe Tq11):=scmk (by kernel_rfl)
noncomputable def Zu:Rho->Option Out:=(seqO (sAsg (vr 0) (unpD 3 (gsC (gNm 2) (gsC (gNm 3) (gsC (gNm 4) gsN))))) (seqO (sAsg (vr 1) (unpD 3 (gsC (gNm 5) (gsC (gNm 6) (gsC (gNm 7) gsN))))) (sRet (evA (aC (ev2 (ev2 (vr 3) (vr 7) mulD) (ev2 (vr 4) (vr 6) mulD) subD) (aC (ev2 (ev2 (vr 4) (vr 5) mulD) (ev2 (vr 2) (vr 7) mulD) subD) (aC (ev2 (ev2 (vr 2) (vr 6) mulD) (ev2 (vr 3) (vr 5) mulD) subD) aN))) tupD))))
noncomputable def zc (ds:List Ka):Option Ka:=ob (Zu (rho0 JX.length ds)) outD
theorem qa4 (F:Fun K "_law_cross" "_law_cross" Tq11 f fd)(m:mg "_law_cross" = some (.ref f))(b:Binds K fd ["_law_one", "_law_other"] []):Known P w K mg base "_law_cross" 2 1 zc:=by
 refine ⟨f,fd,["_law_one", "_law_other"],F.pure (k:=0) (u:=Zu) (M':=[]) qJ.fs rfl (fun cdv A outer s H E hr G=>?_),m,F.kp,b⟩
 exact qi (M1:=[]) (qbi (pd_v qJ 0) (Zr rfl (qT (zF qJ 2) (qT (zF qJ 3) (qT (zF qJ 4) QQ))))) (qi (M1:=[]) (qbi (pd_v qJ 1) (Zr rfl (qT (zF qJ 5) (qT (zF qJ 6) (qT (zF qJ 7) QQ))))) (ql (qF (qU (pda3 (qz ZJ (qz zP (pd_v qJ 3) (pd_v qJ 7)) (qz zP (pd_v qJ 4) (pd_v qJ 6))) (qz ZJ (qz zP (pd_v qJ 4) (pd_v qJ 5)) (qz zP (pd_v qJ 2) (pd_v qJ 7))) (qz ZJ (qz zP (pd_v qJ 2) (pd_v qJ 6)) (qz zP (pd_v qJ 3) (pd_v qJ 5))))))))
noncomputable abbrev Tq24:KM:=top 45
noncomputable abbrev Y7:List Str:=["_law_one", "_law_other"]
theorem Qv:ScOk Y7 ["_law_one", "_law_other"] [] (qe Tq24):=scmk (by kernel_rfl)
noncomputable def jD:Rho->Option Out:=(sRet (ev2 (ev2 (ev2 (ev2 (vr 0) (kd (.int 0)) ixD) (ev2 (vr 1) (kd (.int 0)) ixD) mulD) (ev2 (ev2 (vr 0) (kd (.int 1)) ixD) (ev2 (vr 1) (kd (.int 1)) ixD) mulD) Qe) (ev2 (ev2 (vr 0) (kd (.int 2)) ixD) (ev2 (vr 1) (kd (.int 2)) ixD) mulD) Qe))
noncomputable def zW (ds:List Ka):Option Ka:=ob (jD (rho0 Y7.length ds)) outD
theorem qcN (F:Fun K "_law_dot" "_law_dot" Tq24 f fd)(m:mg "_law_dot" = some (.ref f))(b:Binds K fd ["_law_one", "_law_other"] []):Known P w K mg base "_law_dot" 2 1 zW:=by
 refine ⟨f,fd,["_law_one", "_law_other"],F.pure (k:=0) (u:=jD) (M':=[]) Qv.fs rfl (fun cdv A outer s H E hr G=>?_),m,F.kp,b⟩
 exact ql (qF (qz zV (qz zV (qz zP (qx (pd_v Qv 0) qb) (qx (pd_v Qv 1) qb)) (qz zP (qx (pd_v Qv 0) qb) (qx (pd_v Qv 1) qb))) (qz zP (qx (pd_v Qv 0) qb) (qx (pd_v Qv 1) qb))))
noncomputable abbrev Tq25:KM:=top 46
noncomputable abbrev Y9:List Str:=["_law_one", "_law_many", "_law_other"]
theorem zJ:ScOk Y9 ["_law_one", "_law_many", "_law_other"] [] (qe Tq25):=scmk (by kernel_rfl)
noncomputable def JQ:Rho->Option Out:=(sRet (evA (aC (ev2 (ev2 (vr 0) (kd (.int 0)) ixD) (ev2 (vr 1) (ev2 (vr 2) (kd (.int 0)) ixD) mulD) Qe) (aC (ev2 (ev2 (vr 0) (kd (.int 1)) ixD) (ev2 (vr 1) (ev2 (vr 2) (kd (.int 1)) ixD) mulD) Qe) (aC (ev2 (ev2 (vr 0) (kd (.int 2)) ixD) (ev2 (vr 1) (ev2 (vr 2) (kd (.int 2)) ixD) mulD) Qe) aN))) tupD))
noncomputable def zy (ds:List Ka):Option Ka:=ob (JQ (rho0 Y9.length ds)) outD
theorem qcP (F:Fun K "_law_sum" "_law_sum" Tq25 f fd)(m:mg "_law_sum" = some (.ref f))(b:Binds K fd ["_law_one", "_law_many", "_law_other"] []):Known P w K mg base "_law_sum" 3 1 zy:=by
 refine ⟨f,fd,["_law_one", "_law_many", "_law_other"],F.pure (k:=0) (u:=JQ) (M':=[]) zJ.fs rfl (fun cdv A outer s H E hr G=>?_),m,F.kp,b⟩
 exact ql (qF (qU (pda3 (qz zV (qx (pd_v zJ 0) qb) (qz zP (pd_v zJ 1) (qx (pd_v zJ 2) qb))) (qz zV (qx (pd_v zJ 0) qb) (qz zP (pd_v zJ 1) (qx (pd_v zJ 2) qb))) (qz zV (qx (pd_v zJ 0) qb) (qz zP (pd_v zJ 1) (qx (pd_v zJ 2) qb))))))
noncomputable abbrev Tq17:KM:=top 47
noncomputable abbrev Yv:List Str:=["_law_pose_here", "_law_way"]
theorem Za:ScOk Yv ["_law_pose_here", "_law_way"] ["_law_sum"] (qe Tq17):=scmk (by kernel_rfl)
noncomputable def Jf:Rho->Option Out:=(sRet (evC 3 (aC (evA (aC (kd (.int 0)) (aC (kd (.int 0)) (aC (kd (.int 0)) aN))) tupD) (aC (ev2 (kd (.int 1)) (ev2 (kd (.int 2)) (ev2 (vr 1) (kd (.int 2)) j4) mulD) subD) (aC (ev2 (vr 0) (ev2 (kd (.int 1)) (ev2 (vr 1) (kd (.int 2)) modD) Qe) ixD) aN))) zy))
noncomputable def Zf (ds:List Ka):Option Ka:=ob (Jf (rho0 Yv.length ds)) outD
theorem qb1 (F:Fun K "_law_unit" "_law_unit" Tq17 f fd)(m:mg "_law_unit" = some (.ref f))(b:Binds K fd ["_law_pose_here", "_law_way"] [])(K__law_sum:Known P w K mg base "_law_sum" 3 1 zy):Known P w K mg base "_law_unit" 2 2 Zf:=by
 refine ⟨f,fd,["_law_pose_here", "_law_way"],F.pure (k:=1) (u:=Jf) (M':=[]) Za.fs rfl (fun cdv A outer s H E hr G=>?_),m,F.kp,b⟩
 exact ql (qF (qj K__law_sum hr (by decide) (Za.gl 0 rfl rfl) (pda3 (qU (pda3 qb qb qb)) (qz ZJ qb (qz zP qb (qz jt (pd_v Za 1) qb))) (qx (pd_v Za 0) (qz zV qb (qz Qp (pd_v Za 1) qb)))) rfl))
noncomputable abbrev Tq26:KM:=top 48
noncomputable abbrev Y8:List Str:=["_law_pose_here", "_law_way", "_law_bend", "_law_along", "_law_out", "_law_on", "_law_edge", "_law_told_here", "_law_unit_here"]
theorem qm:ScOk Y8 ["_law_pose_here", "_law_way", "_law_bend"] ["_law_unit", "_law_cross", "_law_sum", "_law_dot", "tuple"] (qe Tq26):=scmk (by kernel_rfl)
noncomputable abbrev qaL:Rho->Option Out:=(sApp 7 (evC 3 (aC (evC 3 (aC (evA (aC (kd (.int 0)) (aC (kd (.int 0)) (aC (kd (.int 0)) aN))) tupD) (aC (evC 2 (aC (vr 8) (aC (vr 3) aN)) zW) (aC (vr 5) aN))) zy) (aC (evC 2 (aC (vr 8) (aC (vr 6) aN)) zW) (aC (vr 6) aN))) zy))
noncomputable def JP:Rho->Option Out:=(seqO (sSet 3 (evC 2 (aC (vr 0) (aC (vr 1) aN)) Zf)) (seqO (sSet 4 (evC 2 (aC (ev2 (vr 0) (kd (.int 1)) ixD) (aC (ev2 (vr 0) (kd (.int 2)) ixD) aN)) zc)) (seqO (sSet 5 (vr 3)) (seqO (sIf (tV (ev2 (vr 2) (kd (.int 0)) neD)) (sSet 5 (evC 3 (aC (evA (aC (kd (.int 0)) (aC (kd (.int 0)) (aC (kd (.int 0)) aN))) tupD) (aC (vr 2) (aC (vr 4) aN))) zy)) sN) (seqO (sSet 6 (evC 2 (aC (vr 3) (aC (vr 4) aN)) zc)) (seqO (Zk 7 (evA (aC (evC 3 (aC (evC 3 (aC (ev2 (vr 0) (kd (.int 0)) ixD) (aC (kd (.int 1)) (aC (vr 3) aN))) zy) (aC (kd (.int 1)) (aC (vr 5) aN))) zy) aN) lstD)) (seqO (sFor (evI (evS (vr 0) (oS (kd (.int 1))) oN) seqD) (gNm 8) qaL) (sRet (evA (aC (vr 7) aN) JM)))))))))
noncomputable def ZL (ds:List Ka):Option Ka:=ob (JP (rho0 Y8.length ds)) outD
theorem qcO (F:Fun K "_law_led" "_law_led" Tq26 f fd)(m:mg "_law_led" = some (.ref f))(b:Binds K fd ["_law_pose_here", "_law_way", "_law_bend"] [])(K__law_unit:Known P w K mg base "_law_unit" 2 2 Zf)(K__law_cross:Known P w K mg base "_law_cross" 2 1 zc)(K__law_sum:Known P w K mg base "_law_sum" 3 1 zy)(K__law_dot:Known P w K mg base "_law_dot" 2 1 zW)(z_tuple:mg "tuple" = none):Known P w K mg base "_law_led" 3 3 ZL:=by
 refine ⟨f,fd,["_law_pose_here", "_law_way", "_law_bend"],F.pure (k:=2) (u:=JP) (M':=[]) qm.fs rfl (fun cdv A outer s H E hr G=>?_),m,F.kp,b⟩
 refine qi (M1:=[]) ?_ ?_
 refine qL 3 ?_ ?_ ?_ ?_ ?_ ?_ (qj K__law_unit hr (by decide) (qm.gl 0 rfl rfl) (pda2 (pd_v qm 0) (pd_v qm 1)) rfl)
 ·exact qm.fs.nd
 ·exact (qm.loc 3 rfl)
 ·rfl
 ·rfl
 ·exact .inl rfl
 ·decide
 refine qi (M1:=[]) ?_ ?_
 refine qL 4 ?_ ?_ ?_ ?_ ?_ ?_ (qj K__law_cross hr (by decide) (qm.gl 1 rfl rfl) (pda2 (qx (pd_v qm 0) qb) (qx (pd_v qm 0) qb)) rfl)
 ·exact qm.fs.nd
 ·exact (qm.loc 4 rfl)
 ·rfl
 ·rfl
 ·exact .inl rfl
 ·decide
 refine qi (M1:=[]) ?_ ?_
 refine qL 5 ?_ ?_ ?_ ?_ ?_ ?_ (pd_v qm 3)
 ·exact qm.fs.nd
 ·exact (qm.loc 5 rfl)
 ·rfl
 ·rfl
 ·exact .inl rfl
 ·decide
 refine qi (M1:=[]) ?_ ?_
 refine zx (q8 (d_ne hr) (pd_v qm 2) qb (zO _)) ?_ zb
 refine ql ?_
 refine qL 5 ?_ ?_ ?_ ?_ ?_ ?_ ?_
 ·exact qm.fs.nd
 ·exact (qm.loc 5 rfl)
 ·rfl
 ·rfl
 ·exact .inl rfl
 ·decide
 exact qj K__law_sum hr (by decide) (qm.gl 2 rfl rfl) (pda3 (qU (pda3 qb qb qb)) (pd_v qm 2) (pd_v qm 4)) rfl
 refine qi (M1:=[]) ?_ ?_
 refine qL 6 ?_ ?_ ?_ ?_ ?_ ?_ (qj K__law_cross hr (by decide) (qm.gl 1 rfl rfl) (pda2 (pd_v qm 3) (pd_v qm 4)) rfl)
 ·exact qm.fs.nd
 ·exact (qm.loc 6 rfl)
 ·rfl
 ·rfl
 ·exact .inl rfl
 ·decide
 refine qi (M1:=[7]) ?_ (qi (M1:=[7]) (Z3 V9 rfl (Qn (jj (pd_v qm 0) (Zi qb) yq)) (fun _=>zF qm 8) (fun _=>ql (yr 7 (qm.vis 7 rfl) (by decide) (by decide) (qj K__law_sum hr (by decide) (qm.gl 2 rfl rfl) (pda3 (qj K__law_sum hr (by decide) (qm.gl 2 rfl rfl) (pda3 (qU (pda3 qb qb qb)) (qj K__law_dot hr (by decide) (qm.gl 3 rfl rfl) (pda2 (pd_v qm 8) (pd_v qm 3)) rfl) (pd_v qm 5)) rfl) (qj K__law_dot hr (by decide) (qm.gl 3 rfl rfl) (pda2 (pd_v qm 8) (pd_v qm 6)) rfl) (pd_v qm 6)) rfl)))) (ql (qF (QD YK (qm.gl 4 rfl rfl) z_tuple rfl (pda1 (pd_v qm 7))))))
 refine Zj 7 ?_ ?_ ?_ ?_ ?_ ?_ ?_ (JK (pda1 (qj K__law_sum hr (by decide) (qm.gl 2 rfl rfl) (pda3 (qj K__law_sum hr (by decide) (qm.gl 2 rfl rfl) (pda3 (qx (pd_v qm 0) qb) qb (pd_v qm 3)) rfl) qb (pd_v qm 5)) rfl)))
 ·exact qm.fs.nd
 ·exact (qm.loc 7 rfl)
 ·rfl
 ·rfl
 ·exact .inl rfl
 ·decide
 ·decide
noncomputable abbrev Tq18:KM:=top 49
noncomputable abbrev jQ:List Str:=["_law_cell_here", "_law_far", "_law_units", "_law_right", "_law_up", "_law_out", "_law_spot", "_law_axis", "_law_number"]
theorem qu:ScOk jQ ["_law_cell_here", "_law_far"] ["_law_cross", "abs", "range", "tuple"] (qe Tq18):=scmk (by kernel_rfl)
noncomputable abbrev Ju:Rho->Option Out:=(seqO (sSet 8 (ev2 (ev2 (ev2 (vr 1) (ev2 (kd (.int 3)) (ev2 (kd (.int 4)) (vr 7) mulD) Qe) j4) (kd (.int 9)) modD) (kd (.int 4)) subD)) (seqO (sIf (tV (ev2 (ev2 (vr 1) (kd (.int 3)) modD) (kd (.int 1)) eqD)) (sSet 8 (ev2 (ev2 (ev2 (vr 1) (ev2 (kd (.int 3)) (ev2 (kd (.int 4)) (vr 7) mulD) Qe) j4) (ev2 (kd (.int 10)) (kd (.int 29)) powD) modD) (ev2 (kd (.int 10)) (kd (.int 28)) powD) subD)) sN) (sApp 6 (ev2 (ev2 (ev2 (kd (.int 2)) (vr 8) mulD) (kd (.int 1)) Qe) (evA (aC (ev2 (vr 5) (vr 7) ixD) aN) absD) subD))))
noncomputable def Je:Rho->Option Out:=(seqO (sSet 2 (evA (aC (evA (aC (kd (.int 1)) (aC (kd (.int 0)) (aC (kd (.int 0)) aN))) tupD) (aC (evA (aC (ev1 (kd (.int 1)) negD) (aC (kd (.int 0)) (aC (kd (.int 0)) aN))) tupD) (aC (evA (aC (kd (.int 0)) (aC (kd (.int 1)) (aC (kd (.int 0)) aN))) tupD) (aC (evA (aC (kd (.int 0)) (aC (ev1 (kd (.int 1)) negD) (aC (kd (.int 0)) aN))) tupD) (aC (evA (aC (kd (.int 0)) (aC (kd (.int 0)) (aC (kd (.int 1)) aN))) tupD) (aC (evA (aC (kd (.int 0)) (aC (kd (.int 0)) (aC (ev1 (kd (.int 1)) negD) aN))) tupD) aN)))))) lstD)) (seqO (sSet 3 (ev2 (vr 2) (ev2 (vr 0) (kd (.int 6)) modD) ixD)) (seqO (sSet 4 (ev2 (jG 9 (evI (vr 2) seqD) (tV (ev2 (evC 2 (aC (vr 9) (aC (vr 3) aN)) zW) (kd (.int 0)) eqD)) (vr 9)) (ev2 (ev2 (vr 0) (kd (.int 6)) j4) (kd (.int 4)) modD) ixD)) (seqO (sSet 5 (evC 2 (aC (vr 3) (aC (vr 4) aN)) zc)) (seqO (Zk 6 (evA aN lstD)) (seqO (sFor (evR (aC (kd (.int 3)) aN) jK) (gNm 7) Ju) (sRet (evA (aC (evA (aC (vr 6) aN) JM) (aC (vr 3) (aC (vr 4) aN))) tupD))))))))
noncomputable def Ze (ds:List Ka):Option Ka:=ob (Je (rho0 jQ.length ds)) outD
theorem qbZ (F:Fun K "_law_pose" "_law_pose" Tq18 f fd)(m:mg "_law_pose" = some (.ref f))(b:Binds K fd ["_law_cell_here", "_law_far"] [])(K__law_dot:Known P w K mg base "_law_dot" 2 1 zW)(K__law_cross:Known P w K mg base "_law_cross" 2 1 zc)(z_abs:mg "abs" = none)(z_range:mg "range" = none)(z_tuple:mg "tuple" = none):Known P w K mg base "_law_pose" 2 2 Ze:=by
 refine ⟨f,fd,["_law_cell_here", "_law_far"],F.pure (k:=1) (u:=Je) (M':=[]) qu.fs rfl (fun cdv A outer s H E hr G=>?_),m,F.kp,b⟩
 refine qi (M1:=[]) ?_ ?_
 refine qL 2 ?_ ?_ ?_ ?_ ?_ ?_ ?_
 ·exact qu.fs.nd
 ·exact (qu.loc 2 rfl)
 ·rfl
 ·rfl
 ·exact .inl rfl
 ·decide
 exact qbf (qG (qU (pda3 qb qb qb)) (qG (qU (pda3 (jJ jH qb) qb qb)) (qG (qU (pda3 qb qb qb)) (qG (qU (pda3 qb (jJ jH qb) qb)) (qG (qU (pda3 qb qb qb)) (qG (qU (pda3 qb qb (jJ jH qb))) zu))))))
 refine qi (M1:=[]) ?_ ?_
 refine qL 3 ?_ ?_ ?_ ?_ ?_ ?_ (qx (pd_v qu 2) (qz Qp (pd_v qu 0) qb))
 ·exact qu.fs.nd
 ·exact (qu.loc 3 rfl)
 ·rfl
 ·rfl
 ·exact .inl rfl
 ·decide
 refine qi (M1:=[]) ?_ ?_
 refine qL 4 ?_ ?_ ?_ ?_ ?_ ?_ (qx (yp (CompOk.of (k:=1) jQ ["_law_cell_here", "_law_far", "_law_units", "_law_right", "_law_up", "_law_out", "_law_spot", "_law_axis", "_law_number", "_law_unit_here"] (qe Tq18) rfl rfl rfl (by decide +kernel)) rfl (by decide +kernel) (Qn (pd_v qu 2)) (fun _ _ _ _ _ _=>qci (q8 (d_eq hr) (qj K__law_dot hr (by decide) (qaZ (by decide +kernel)) (pda2 (za 9 (qM (by decide +kernel)) (by decide)) (za 3 (qM (by decide +kernel)) (by decide))) rfl) qb (zO _))) (fun _ _ _ _ _ _=>za 9 (qM (by decide +kernel)) (by decide))) (qz Qp (qz jt (pd_v qu 0) qb) qb))
 ·exact qu.fs.nd
 ·exact (qu.loc 4 rfl)
 ·rfl
 ·rfl
 ·exact .inl rfl
 ·decide
 refine qi (M1:=[]) ?_ ?_
 refine qL 5 ?_ ?_ ?_ ?_ ?_ ?_ (qj K__law_cross hr (by decide) (qu.gl 0 rfl rfl) (pda2 (pd_v qu 3) (pd_v qu 4)) rfl)
 ·exact qu.fs.nd
 ·exact (qu.loc 5 rfl)
 ·rfl
 ·rfl
 ·exact .inl rfl
 ·decide
 refine qi (M1:=[6]) ?_ ?_
 refine Zj 6 ?_ ?_ ?_ ?_ ?_ ?_ ?_ (JK zu)
 ·exact qu.fs.nd
 ·exact (qu.loc 6 rfl)
 ·rfl
 ·rfl
 ·exact .inl rfl
 ·decide
 ·decide
 refine qi (M1:=[6]) ?_ (ql (qF (qU (pda3 (QD YK (qu.gl 3 rfl rfl) z_tuple rfl (pda1 (pd_v qu 6))) (pd_v qu 3) (pd_v qu 4)))))
 refine yt V9 rfl (jA (qu.gl 2 rfl rfl) z_range (pda1 qb)) (zF qu 7) ?_
 refine qi (M1:=[6]) ?_ ?_
 refine qL 8 ?_ ?_ ?_ ?_ ?_ ?_ (qz ZJ (qz Qp (qz jt (pd_v qu 1) (qz zV qb (qz zP qb (pd_v qu 7)))) qb) qb)
 ·exact qu.fs.nd
 ·exact (qu.loc 8 rfl)
 ·rfl
 ·rfl
 ·exact .inl rfl
 ·decide
 refine qi (M1:=[6]) ?_ (ql (yr 6 (qu.vis 6 rfl) (by decide) (by decide) (qz ZJ (qz zV (qz zP qb (pd_v qu 8)) qb) (zf b_abs (qu.gl 1 rfl rfl) z_abs qef (pda1 (qx (pd_v qu 5) (pd_v qu 7)))))))
 refine zx (q8 (d_eq hr) (qz Qp (pd_v qu 1) qb) qb (zO _)) ?_ zb
 refine ql ?_
 refine qL 8 ?_ ?_ ?_ ?_ ?_ ?_ (qz ZJ (qz Qp (qz jt (pd_v qu 1) (qz zV qb (qz zP qb (pd_v qu 7)))) (qz qdu qb qb)) (qz qdu qb qb))
 ·exact qu.fs.nd
 ·exact (qu.loc 8 rfl)
 ·rfl
 ·rfl
 ·exact .inl rfl
 ·decide
noncomputable abbrev Tq3:KM:=top 50
noncomputable abbrev ZF:List Str:=["_law_thing"]
theorem zr:ScOk ZF ["_law_thing"] ["isinstance", "tuple", "len", "all"] (qe Tq3):=scmk (by kernel_rfl)
noncomputable def Jb:Rho->Option Out:=(seqO (sIf (tO (tN (tV (ev1 (vr 0) (isiD "tuple")))) (tV (ev2 (evA (aC (vr 0) aN) lenD) (kd (.int 3)) neD))) (sRet (kd (.bool false))) sN) (sRet (evA (aC (jG 1 (evI (vr 0) seqD) tT (evC 1 (aC (vr 1) aN) QK)) aN) allD)))
noncomputable def ZK (ds:List Ka):Option Ka:=ob (Jb (rho0 ZF.length ds)) outD
theorem wO (F:Fun K "_law_is_spot" "_law_is_spot" Tq3 f fd)(m:mg "_law_is_spot" = some (.ref f))(b:Binds K fd ["_law_thing"] [])(K__law_whole:KnownM P w K mg base "_law_whole" 1 1 QK)(z_isinstance:mg "isinstance" = none)(z_tuple:mg "tuple" = none)(z_len:mg "len" = none)(z_all:mg "all" = none):Known P w K mg base "_law_is_spot" 1 2 ZK:=by
 refine ⟨f,fd,["_law_thing"],F.pure (k:=1) (u:=Jb) (M':=[]) zr.fs rfl (fun cdv A outer s H E hr G=>?_),m,F.kp,b⟩
 exact qi (M1:=[]) (zx (PDW.pdt (Wi (yu (Q7 (JG (T := "tuple") (kit_tuple _) (zr.gl 0 rfl rfl) z_isinstance (zr.gl 1 rfl rfl) z_tuple rfl rfl (pd_v zr 0)))) (yw (q8 (d_ne hr) (zf ZZ (zr.gl 2 rfl rfl) z_len VW (pda1 (pd_v zr 0))) qb (zO _))))) (ql (qF qdW)) zb) (ql (qF (zf (qi4 rfl) (zr.gl 3 rfl rfl) z_all rfl (pda1 (yp (CompOk.of (k:=1) ZF ["_law_thing", "_law_number"] (qe Tq3) rfl rfl rfl (by decide +kernel)) rfl (by decide +kernel) (Qn (pd_v zr 0)) (fun _ _ _ _ _ _=>ZP) (fun _ _ _ _ _ _=>qj K__law_whole.known hr (by decide) (qaZ (by decide +kernel)) (pda1 (za 1 (qM (by decide +kernel)) (by decide))) rfl))))))
noncomputable abbrev Tq4:KM:=top 51
noncomputable abbrev ZD:List Str:=["_law_thing"]
theorem zq:ScOk ZD ["_law_thing"] ["isinstance", "tuple", "len", "all"] (qe Tq4):=scmk (by kernel_rfl)
noncomputable def Ja:Rho->Option Out:=(seqO (sIf (tO (tN (tV (ev1 (vr 0) (isiD "tuple")))) (tV (ev2 (evA (aC (vr 0) aN) lenD) (kd (.int 3)) neD))) (sRet (kd (.bool false))) sN) (sRet (evA (aC (jG 1 (evI (vr 0) seqD) tT (evC 1 (aC (vr 1) aN) ZK)) aN) allD)))
noncomputable def QH (ds:List Ka):Option Ka:=ob (Ja (rho0 ZD.length ds)) outD
theorem wN (F:Fun K "_law_is_pose" "_law_is_pose" Tq4 f fd)(m:mg "_law_is_pose" = some (.ref f))(b:Binds K fd ["_law_thing"] [])(K__law_is_spot:Known P w K mg base "_law_is_spot" 1 2 ZK)(z_isinstance:mg "isinstance" = none)(z_tuple:mg "tuple" = none)(z_len:mg "len" = none)(z_all:mg "all" = none):Known P w K mg base "_law_is_pose" 1 3 QH:=by
 refine ⟨f,fd,["_law_thing"],F.pure (k:=2) (u:=Ja) (M':=[]) zq.fs rfl (fun cdv A outer s H E hr G=>?_),m,F.kp,b⟩
 exact qi (M1:=[]) (zx (PDW.pdt (Wi (yu (Q7 (JG (T := "tuple") (kit_tuple _) (zq.gl 0 rfl rfl) z_isinstance (zq.gl 1 rfl rfl) z_tuple rfl rfl (pd_v zq 0)))) (yw (q8 (d_ne hr) (zf ZZ (zq.gl 2 rfl rfl) z_len VW (pda1 (pd_v zq 0))) qb (zO _))))) (ql (qF qdW)) zb) (ql (qF (zf (qi4 rfl) (zq.gl 3 rfl rfl) z_all rfl (pda1 (yp (CompOk.of (k:=1) ZD ["_law_thing", "_law_spot"] (qe Tq4) rfl rfl rfl (by decide +kernel)) rfl (by decide +kernel) (Qn (pd_v zq 0)) (fun _ _ _ _ _ _=>ZP) (fun _ _ _ _ _ _=>qj K__law_is_spot hr (by decide) (qaZ (by decide +kernel)) (pda1 (za 1 (qM (by decide +kernel)) (by decide))) rfl))))))
noncomputable abbrev Tq0:KM:=top 52
noncomputable abbrev je:List Str:=["_law_cell_here", "_law_way"]
theorem zM:ScOk je ["_law_cell_here", "_law_way"] [] (qe Tq0):=scmk (by kernel_rfl)
noncomputable def Q3:Rho->Option Out:=(sRet (evA (aC (ev2 (ev2 (vr 0) (kd (.int 0)) ixD) (ev2 (evA (aC (kd (.int 1)) (aC (kd (.int 0)) (aC (ev1 (kd (.int 1)) negD) (aC (kd (.int 0)) aN)))) tupD) (vr 1) ixD) Qe) (aC (ev2 (ev2 (vr 0) (kd (.int 1)) ixD) (ev2 (evA (aC (kd (.int 0)) (aC (kd (.int 1)) (aC (kd (.int 0)) (aC (ev1 (kd (.int 1)) negD) aN)))) tupD) (vr 1) ixD) Qe) aN)) tupD))
noncomputable def zN (ds:List Ka):Option Ka:=ob (Q3 (rho0 je.length ds)) outD
theorem Ye (F:Fun K "_law_neighbour" "_law_neighbour" Tq0 f fd)(m:mg "_law_neighbour" = some (.ref f))(b:Binds K fd ["_law_cell_here", "_law_way"] []):Known P w K mg base "_law_neighbour" 2 1 zN:=by
 refine ⟨f,fd,["_law_cell_here", "_law_way"],F.pure (k:=0) (u:=Q3) (M':=[]) zM.fs rfl (fun cdv A outer s H E hr G=>?_),m,F.kp,b⟩
 exact ql (qF (qU (pda2 (qz zV (qx (pd_v zM 0) qb) (qx (qU (qG qb (qG qb (qG (jJ jH qb) (qG qb zu))))) (pd_v zM 1))) (qz zV (qx (pd_v zM 0) qb) (qx (qU (qG qb (qG qb (qG qb (qG (jJ jH qb) zu))))) (pd_v zM 1))))))
noncomputable abbrev Tq7:KM:=top 53
noncomputable abbrev zY:List Str:=["_law_cells", "_law_joins", "_law_one", "_law_other", "_law_bend", "_law_pair"]
theorem qR:ScOk zY ["_law_cells", "_law_joins", "_law_one", "_law_other", "_law_bend"] ["max", "min"] (qe Tq7):=scmk (by kernel_rfl)
noncomputable def jb:Rho->Option Out:=(seqO (sSet 5 (evA (aC (evA (aC (vr 2) (aC (vr 3) aN)) jz) (aC (evA (aC (vr 2) (aC (vr 3) aN)) jy) aN)) tupD)) (sIf (tV (ev2 (vr 5) (Z1 6 3 (evI (vr 1) seqD) (unpD 3 (gsC (gNm 6) (gsC (gNm 7) (gsC (gNm 8) gsN)))) tT (evA (aC (vr 6) (aC (vr 7) aN)) tupD)) ninD)) (sApp 1 (evA (aC (ev2 (vr 5) (kd (.int 0)) ixD) (aC (ev2 (vr 5) (kd (.int 1)) ixD) (aC (vr 4) aN))) tupD)) sN))
noncomputable def Qq (ds:List Ka):Option Ka:=ob (jb (rho0 zY.length ds)) (outU 1)
theorem WQ (F:Fun K "_law_joined" "_law_joined" Tq7 f fd)(m:mg "_law_joined" = some (.ref f))(b:Binds K fd ["_law_cells", "_law_joins", "_law_one", "_law_other", "_law_bend"] [])(z_max:mg "max" = none)(z_min:mg "min" = none):KnownU P w K mg base "_law_joined" 5 1 1 Qq:=by
 refine ⟨f,fd,["_law_cells", "_law_joins", "_law_one", "_law_other", "_law_bend"],F.mutp (k:=0) (u:=jb) (i:=1) qR.fs rfl (by decide) (fun cdv A outer s H E hr G=>?_),m,F.kp,b⟩
 refine qgq ?_ (qdY (qkl (q8 (YQ hr) (pd_v qR 5) (We (CompOk.of (k:=3) zY ["_law_cells", "_law_joins", "_law_one", "_law_other", "_law_bend", "_law_pair", "_law_a", "_law_b", "_law_old"] (qe Tq7) rfl rfl rfl (by decide +kernel)) (qdF (Zy (QM (by decide)) (Zy (QM (by decide)) (Zy (QM (by decide)) qbN)))) (Qn (pd_v qR 1)) (fun _ _ _ _ _ _=>qcf rfl (QZ (Zt (i:=6) (CompOk.of (k:=3) zY ["_law_cells", "_law_joins", "_law_one", "_law_other", "_law_bend", "_law_pair", "_law_a", "_law_b", "_law_old"] (qe Tq7) rfl rfl rfl (by decide +kernel)) rfl (by decide +kernel) _ _ _ _ _ _) (QZ (Zt (i:=7) (CompOk.of (k:=3) zY ["_law_cells", "_law_joins", "_law_one", "_law_other", "_law_bend", "_law_pair", "_law_a", "_law_b", "_law_old"] (qe Tq7) rfl rfl rfl (by decide +kernel)) rfl (by decide +kernel) _ _ _ _ _ _) (QZ (Zt (i:=8) (CompOk.of (k:=3) zY ["_law_cells", "_law_joins", "_law_one", "_law_other", "_law_bend", "_law_pair", "_law_a", "_law_b", "_law_old"] (qe Tq7) rfl rfl rfl (by decide +kernel)) rfl (by decide +kernel) _ _ _ _ _ _) qaw)))) (fun _ _ _ _ _ _=>ZP) (fun _ _ _ _ _ _=>qU (pda2 (za 6 (qM (by decide +kernel)) (by decide)) (za 7 (qM (by decide +kernel)) (by decide))))) rfl) (qdY (qiq (qR.vis 1 rfl) (qU (pda3 (qx (pd_v qR 5) qb) (qx (pd_v qR 5) qb) (pd_v qR 4))))) qir))
 refine qis 5 ?_ ?_ ?_ ?_ ?_ ?_ ?_
 ·exact qR.fs.nd
 ·exact (qR.loc 5 rfl)
 ·rfl
 ·rfl
 ·exact .inl rfl
 ·decide
 exact qU (pda2 (zf (qhh hr) (qR.gl 1 rfl rfl) z_min qeh (pda2 (pd_v qR 2) (pd_v qR 3))) (zf (qhg hr) (qR.gl 0 rfl rfl) z_max qeg (pda2 (pd_v qR 2) (pd_v qR 3))))
noncomputable abbrev Tq12:KM:=top 54
noncomputable abbrev JZ:List Str:=["_law_script", "_law_first", "_law_last", "_law_most", "_law_bends", "_law_start", "_law_cells", "_law_joins", "_law_number", "_law_mixed", "_law_one", "_law_other"]
theorem qg:ScOk JZ ["_law_script", "_law_first", "_law_last", "_law_most", "_law_bends"] ["_law_cell", "len", "_law_neighbour", "_law_joined"] (qe Tq12):=scmk (by kernel_rfl)
noncomputable abbrev ZG:Rho->Option Out:=(seqO (sSet 9 (ev2 (ev2 (vr 8) (kd (.int 48271)) mulD) (kd (.int 1000003)) modD)) (seqO (sSet 10 (qbK (ev2 (vr 6) (ev2 (vr 9) (evA (aC (vr 6) aN) lenD) modD) ixD))) (seqO (sSet 11 (evC 2 (aC (vr 10) (aC (ev2 (ev2 (vr 9) (kd (.int 64)) j4) (kd (.int 4)) modD) aN)) zN)) (sIf (tO (tV (ev2 (vr 11) (vr 6) inD)) (tV (ev2 (evA (aC (vr 6) aN) lenD) (vr 3) ltD2))) (seqO (sIf (tV (ev2 (vr 11) (vr 6) ninD)) (sApp 6 (vr 11)) sN) (qbm 7 5 (aC (vr 6) (aC (vr 7) (aC (vr 10) (aC (vr 11) (aC (ev2 (vr 4) (ev2 (ev2 (vr 9) (kd (.int 256)) j4) (evA (aC (vr 4) aN) lenD) modD) ixD) aN))))) Qq)) sN))))
noncomputable def Zv:Rho->Option Out:=(seqO (sSet 5 (evA (aC (ev2 (ev2 (evC 2 (aC (vr 0) (aC (kd (.int 0)) aN)) qW) (kd (.int 7)) modD) (kd (.int 3)) subD) (aC (ev2 (ev2 (evC 2 (aC (vr 0) (aC (kd (.int 1)) aN)) qW) (kd (.int 7)) modD) (kd (.int 3)) subD) aN)) tupD)) (seqO (sIf (tV (ev2 (ev2 (ev2 (evC 2 (aC (vr 0) (aC (kd (.int 0)) aN)) qW) (kd (.int 7)) j4) (kd (.int 4)) modD) (kd (.int 3)) eqD)) (sSet 5 (evA (aC (ev2 (evC 2 (aC (vr 0) (aC (kd (.int 0)) aN)) qW) (ev2 (kd (.int 10)) (kd (.int 19)) powD) modD) (aC (ev1 (ev2 (evC 2 (aC (vr 0) (aC (kd (.int 1)) aN)) qW) (ev2 (kd (.int 10)) (kd (.int 19)) powD) modD) negD) aN)) tupD)) sN) (seqO (Zk 6 (evA (aC (vr 5) aN) lstD)) (seqO (Zk 7 (evA aN lstD)) (seqO (sFor (evI (evS (vr 0) (oS (vr 1)) (oS (vr 2))) seqD) (gNm 8) ZG) (sRet (evA (aC (vr 6) (aC (vr 7) aN)) tupD)))))))
noncomputable def Qm (ds:List Ka):Option Ka:=ob (Zv (rho0 JZ.length ds)) outD
theorem qa5 (F:Fun K "_law_grown" "_law_grown" Tq12 f fd)(m:mg "_law_grown" = some (.ref f))(b:Binds K fd ["_law_script", "_law_first", "_law_last", "_law_most", "_law_bends"] [])(K__law_cell:Known P w K mg base "_law_cell" 2 1 qW)(K__law_neighbour:Known P w K mg base "_law_neighbour" 2 1 zN)(K__law_joined:KnownU P w K mg base "_law_joined" 5 1 1 Qq)(z_len:mg "len" = none):Known P w K mg base "_law_grown" 5 2 Qm:=by
 refine ⟨f,fd,["_law_script", "_law_first", "_law_last", "_law_most", "_law_bends"],F.pure (k:=1) (u:=Zv) (M':=[]) qg.fs rfl (fun cdv A outer s H E hr G=>?_),m,F.kp,b⟩
 refine qi (M1:=[]) ?_ ?_
 refine qL 5 ?_ ?_ ?_ ?_ ?_ ?_ ?_
 ·exact qg.fs.nd
 ·exact (qg.loc 5 rfl)
 ·rfl
 ·rfl
 ·exact .inl rfl
 ·decide
 exact qU (pda2 (qz ZJ (qz Qp (qj K__law_cell hr (by decide) (qg.gl 0 rfl rfl) (pda2 (pd_v qg 0) qb) rfl) qb) qb) (qz ZJ (qz Qp (qj K__law_cell hr (by decide) (qg.gl 0 rfl rfl) (pda2 (pd_v qg 0) qb) rfl) qb) qb))
 refine qi (M1:=[]) ?_ ?_
 refine zx (q8 (d_eq hr) (qz Qp (qz jt (qj K__law_cell hr (by decide) (qg.gl 0 rfl rfl) (pda2 (pd_v qg 0) qb) rfl) qb) qb) qb (zO _)) ?_ zb
 refine ql ?_
 refine qL 5 ?_ ?_ ?_ ?_ ?_ ?_ ?_
 ·exact qg.fs.nd
 ·exact (qg.loc 5 rfl)
 ·rfl
 ·rfl
 ·exact .inl rfl
 ·decide
 exact qU (pda2 (qz Qp (qj K__law_cell hr (by decide) (qg.gl 0 rfl rfl) (pda2 (pd_v qg 0) qb) rfl) (qz qdu qb qb)) (jJ jH (qz Qp (qj K__law_cell hr (by decide) (qg.gl 0 rfl rfl) (pda2 (pd_v qg 0) qb) rfl) (qz qdu qb qb))))
 refine qi (M1:=[6]) ?_ ?_
 refine Zj 6 ?_ ?_ ?_ ?_ ?_ ?_ ?_ (JK (pda1 (pd_v qg 5)))
 ·exact qg.fs.nd
 ·exact (qg.loc 6 rfl)
 ·rfl
 ·rfl
 ·exact .inl rfl
 ·decide
 ·decide
 refine qi (M1:=[7,6]) ?_ ?_
 refine Zj 7 ?_ ?_ ?_ ?_ ?_ ?_ ?_ (JK zu)
 ·exact qg.fs.nd
 ·exact (qg.loc 7 rfl)
 ·rfl
 ·rfl
 ·exact .inl rfl
 ·decide
 ·decide
 refine qi (M1:=[7,6]) ?_ (ql (qF (qU (pda2 (pd_v qg 6) (pd_v qg 7)))))
 refine Z3 V9 rfl (Qn (jj (pd_v qg 0) (Zi (pd_v qg 1)) (Zi (pd_v qg 2)))) (fun _=>zF qg 8) (fun _=>?_)
 refine qi (M1:=[7,6]) ?_ ?_
 refine qL 9 ?_ ?_ ?_ ?_ ?_ ?_ (qz Qp (qz zP (pd_v qg 8) qb) qb)
 ·exact qg.fs.nd
 ·exact (qg.loc 9 rfl)
 ·rfl
 ·rfl
 ·exact .inl rfl
 ·decide
 refine qi (M1:=[7,6]) ?_ ?_
 refine qch 10 ?_ ?_ ?_ ?_ ?_ ?_ (qx (pd_v qg 6) (qz Qp (pd_v qg 9) (zf ZZ (qg.gl 1 rfl rfl) z_len VW (pda1 (pd_v qg 6)))))
 ·exact qg.fs.nd
 ·exact (qg.loc 10 rfl)
 ·rfl
 ·rfl
 ·exact .inl rfl
 ·decide
 refine qi (M1:=[7,6]) ?_ (ql (zx (PDW.pdt (Wi (q8 (d_in hr) (pd_v qg 11) (pd_v qg 6) rfl) (yw (q8 (qi7 hr) (zf ZZ (qg.gl 1 rfl rfl) z_len VW (pda1 (pd_v qg 6))) (pd_v qg 3) (zO _))))) (qi (M1:=[7,6]) (zx (q8 (YQ hr) (pd_v qg 11) (pd_v qg 6) rfl) (ql (yr 6 (qg.vis 6 rfl) (by decide) (by decide) (pd_v qg 11))) zb) (ql (qe0 7 1 K__law_joined hr (by decide) (qg.gl 3 rfl rfl) (by decide) (by decide) (qeY (pd_v qg 6) (qgj 7 (qg.vis 7 rfl) (pda3 (pd_v qg 10) (pd_v qg 11) (qx (pd_v qg 4) (qz Qp (qz jt (pd_v qg 9) qb) (zf ZZ (qg.gl 1 rfl rfl) z_len VW (pda1 (pd_v qg 4))))))))))) zb))
 refine qL 11 ?_ ?_ ?_ ?_ ?_ ?_ (qj K__law_neighbour hr (by decide) (qg.gl 2 rfl rfl) (pda2 (pd_v qg 10) (qz Qp (qz jt (pd_v qg 9) qb) qb)) rfl)
 ·exact qg.fs.nd
 ·exact (qg.loc 11 rfl)
 ·rfl
 ·rfl
 ·exact .inl rfl
 ·decide
noncomputable abbrev Tq13:KM:=top 55
noncomputable abbrev Ql:List Str:=["_law_cells", "_law_joins", "_law_rising"]
theorem zG:ScOk Ql ["_law_cells", "_law_joins"] ["sorted"] (qe Tq13):=scmk (by kernel_rfl)
noncomputable def jE:Rho->Option Out:=(seqO (sSet 2 (evA (aC (vr 0) aN) Q8)) (sRet (evA (aC (vr 2) (aC (evA (aC (Z1 3 3 (evI (vr 1) seqD) (unpD 3 (gsC (gNm 3) (gsC (gNm 4) (gsC (gNm 5) gsN)))) tT (evA (aC (ev2 (vr 2) (vr 3) jw) (aC (ev2 (vr 2) (vr 4) jw) (aC (vr 5) aN))) tupD)) aN) Q8) aN)) tupD)))
noncomputable def QJ (ds:List Ka):Option Ka:=ob (jE (rho0 Ql.length ds)) outD
theorem qa6 (F:Fun K "_law_sheet" "_law_sheet" Tq13 f fd)(m:mg "_law_sheet" = some (.ref f))(b:Binds K fd ["_law_cells", "_law_joins"] [])(z_sorted:mg "sorted" = none):Known P w K mg base "_law_sheet" 2 1 QJ:=by
 refine ⟨f,fd,["_law_cells", "_law_joins"],F.pure (k:=0) (u:=jE) (M':=[]) zG.fs rfl (fun cdv A outer s H E hr G=>?_),m,F.kp,b⟩
 refine qi (M1:=[]) ?_ (ql (qF (qU (pda2 (pd_v zG 2) (Wg (Wl (w6 hr) (zG.gl 0 rfl rfl) z_sorted jr (pda1 (We (CompOk.of (k:=3) Ql ["_law_cells", "_law_joins", "_law_rising", "_law_a", "_law_b", "_law_bend"] (qe Tq13) rfl rfl rfl (by decide +kernel)) (qdF (Zy (QM (by decide)) (Zy (QM (by decide)) (Zy (QM (by decide)) qbN)))) (Qn (pd_v zG 1)) (fun _ _ _ _ _ _=>qcf rfl (QZ (Zt (i:=3) (CompOk.of (k:=3) Ql ["_law_cells", "_law_joins", "_law_rising", "_law_a", "_law_b", "_law_bend"] (qe Tq13) rfl rfl rfl (by decide +kernel)) rfl (by decide +kernel) _ _ _ _ _ _) (QZ (Zt (i:=4) (CompOk.of (k:=3) Ql ["_law_cells", "_law_joins", "_law_rising", "_law_a", "_law_b", "_law_bend"] (qe Tq13) rfl rfl rfl (by decide +kernel)) rfl (by decide +kernel) _ _ _ _ _ _) (QZ (Zt (i:=5) (CompOk.of (k:=3) Ql ["_law_cells", "_law_joins", "_law_rising", "_law_a", "_law_b", "_law_bend"] (qe Tq13) rfl rfl rfl (by decide +kernel)) rfl (by decide +kernel) _ _ _ _ _ _) qaw)))) (fun _ _ _ _ _ _=>ZP) (fun _ _ _ _ _ _=>qU (pda3 (qce hr (za 2 (qM (by decide +kernel)) (by decide)) (za 3 (qM (by decide +kernel)) (by decide))) (qce hr (za 2 (qM (by decide +kernel)) (by decide)) (za 4 (qM (by decide +kernel)) (by decide))) (za 5 (qM (by decide +kernel)) (by decide))))))))))))
 refine qL 2 ?_ ?_ ?_ ?_ ?_ ?_ (Wg (Wl (w6 hr) (zG.gl 0 rfl rfl) z_sorted jr (pda1 (pd_v zG 0))))
 ·exact zG.fs.nd
 ·exact (zG.loc 2 rfl)
 ·rfl
 ·rfl
 ·exact .inl rfl
 ·decide
noncomputable abbrev Tq19:KM:=top 56
noncomputable abbrev ZX:List Str:=["_law_sheet_here", "_law_near_here", "_law_i", "_law_j", "_law_bend", "_law_way"]
theorem qI:ScOk ZX ["_law_sheet_here"] ["int"] (qe Tq19):=scmk (by kernel_rfl)
noncomputable abbrev Jt:Rho->Option Out:=(seqO (sSet 5 (evA (aC (ev2 (ev2 (ev2 (ev2 (vr 0) (kd (.int 0)) ixD) (vr 2) ixD) (kd (.int 0)) ixD) (ev2 (ev2 (ev2 (vr 0) (kd (.int 0)) ixD) (vr 3) ixD) (kd (.int 0)) ixD) eqD) aN) qbr)) (seqO (qct 1 (vr 2) (evA (aC (vr 5) (aC (vr 3) (aC (vr 4) aN))) tupD)) (qct 1 (vr 3) (evA (aC (ev2 (vr 5) (kd (.int 2)) Qe) (aC (vr 2) (aC (vr 4) aN))) tupD))))
noncomputable def Jd:Rho->Option Out:=(seqO (Wr 1 (qdt 6 1 (evI (ev2 (vr 0) (kd (.int 0)) ixD) seqD) (gNm 6) tT (evA aN lstD))) (seqO (sFor (evI (ev2 (vr 0) (kd (.int 1)) ixD) seqD) (unpD 3 (gsC (gNm 2) (gsC (gNm 3) (gsC (gNm 4) gsN)))) Jt) (sRet (vr 1))))
noncomputable def Zd (ds:List Ka):Option Ka:=ob (Jd (rho0 ZX.length ds)) outD
theorem qbY (F:Fun K "_law_near" "_law_near" Tq19 f fd)(m:mg "_law_near" = some (.ref f))(b:Binds K fd ["_law_sheet_here"] [])(z_int:mg "int" = none):Known P w K mg base "_law_near" 1 1 Zd:=by
 refine ⟨f,fd,["_law_sheet_here"],F.pure (k:=0) (u:=Jd) (M':=[]) qI.fs rfl (fun cdv A outer s H E hr G=>?_),m,F.kp,b⟩
 refine qi (M1:=[1,1001]) (qe2 1 (CompOk.of (k:=1) ZX ["_law_sheet_here", "_law_near_here", "_law_i", "_law_j", "_law_bend", "_law_way", "_law_cell_here"] (qe Tq19) rfl rfl rfl (by decide +kernel)) (QM (by decide)) (qe Tq19) rfl (by decide +kernel) (by decide) (by decide) (Qn (qx (pd_v qI 0) qb)) (fun _ _ _ _ _ _=>Zt (i:=6) (CompOk.of (k:=1) ZX ["_law_sheet_here", "_law_near_here", "_law_i", "_law_j", "_law_bend", "_law_way", "_law_cell_here"] (qe Tq19) rfl rfl rfl (by decide +kernel)) rfl (by decide +kernel) _ _ _ _ _ _) (fun _ _ _ _ _ _=>ZP) (fun _ _ _ _ _ _=>JK zu)) ?_
 refine qi (M1:=[1,1001]) ?_ (ql (qF (pd_v qI 1)))
 refine Z3 V9 rfl (Qn (qx (pd_v qI 0) qb)) (fun _=>Zr rfl (qT (zF qI 2) (qT (zF qI 3) (qT (zF qI 4) QQ)))) (fun _=>?_)
 refine qi (M1:=[1,1001]) ?_ (qi (M1:=[1,1001]) (qcg 1 (qI.vis 1 rfl) (by decide) (pd_v qI 2) (qU (pda3 (pd_v qI 5) (pd_v qI 3) (pd_v qI 4)))) (ql (qcg 1 (qI.vis 1 rfl) (by decide) (pd_v qI 3) (qU (pda3 (qz zV (pd_v qI 5) qb) (pd_v qI 2) (pd_v qI 4))))))
 refine qL 5 ?_ ?_ ?_ ?_ ?_ ?_ (QD b_int (qI.gl 0 rfl rfl) z_int rfl (pda1 (qbe (d_eq hr) (qx (qx (qx (pd_v qI 0) qb) (pd_v qI 2)) qb) (qx (qx (qx (pd_v qI 0) qb) (pd_v qI 3)) qb) (zO _))))
 ·exact qI.fs.nd
 ·exact (qI.loc 5 rfl)
 ·rfl
 ·rfl
 ·exact .inl rfl
 ·decide
noncomputable abbrev Tq8:KM:=top 57
noncomputable abbrev Z5:List Str:=["_law_near_here", "_law_numbers", "_law_pose_here", "_law_at_here", "_law_steps"]
theorem qK:ScOk Z5 ["_law_near_here", "_law_numbers", "_law_pose_here"] ["len", "_law_led", "range"] (qe Tq8):=scmk (by kernel_rfl)
noncomputable abbrev zm:Rho->Option Out:=(seqO (Zk 4 (jG 5 (evI (ev2 (vr 0) (ev2 (vr 1) (vr 3) ixD) ixD) seqD) (tV (ev2 (ev2 (vr 5) (kd (.int 1)) ixD) (ev2 (vr 1) (ev2 (vr 3) (kd (.int 1)) Qe) ixD) eqD)) (vr 5))) (seqO (sIf (tV (ev2 (evA (aC (vr 4) aN) lenD) (kd (.int 0)) eqD)) (sRet (vr 3)) sN) (sSet 2 (evC 3 (aC (vr 2) (aC (ev2 (ev2 (vr 4) (kd (.int 0)) ixD) (kd (.int 0)) ixD) (aC (ev2 (ev2 (vr 4) (kd (.int 0)) ixD) (kd (.int 2)) ixD) aN))) ZL))))
noncomputable def jc:Rho->Option Out:=(seqO (sFor (evR (aC (ev2 (evA (aC (vr 1) aN) lenD) (kd (.int 1)) subD) aN) jK) (gNm 3) zm) (sRet (vr 2)))
noncomputable def Qs (ds:List Ka):Option Ka:=ob (jc (rho0 Z5.length ds)) outD
theorem WR (F:Fun K "_law_walked" "_law_walked" Tq8 f fd)(m:mg "_law_walked" = some (.ref f))(b:Binds K fd ["_law_near_here", "_law_numbers", "_law_pose_here"] [])(K__law_led:Known P w K mg base "_law_led" 3 3 ZL)(z_len:mg "len" = none)(z_range:mg "range" = none):Known P w K mg base "_law_walked" 3 4 Qs:=by
 refine ⟨f,fd,["_law_near_here", "_law_numbers", "_law_pose_here"],F.pure (k:=3) (u:=jc) (M':=[]) qK.fs rfl (fun cdv A outer s H E hr G=>?_),m,F.kp,b⟩
 refine qi (M1:=[]) ?_ (ql (qF (pd_v qK 2)))
 refine yt V9 rfl (jA (qK.gl 2 rfl rfl) z_range (pda1 (qz ZJ (zf ZZ (qK.gl 0 rfl rfl) z_len VW (pda1 (pd_v qK 1))) qb))) (zF qK 3) ?_
 refine qi (M1:=[4]) (qgr 4 (CompOk.of (k:=1) Z5 ["_law_near_here", "_law_numbers", "_law_pose_here", "_law_at_here", "_law_steps", "_law_step"] (qe Tq8) rfl rfl rfl (by decide +kernel)) rfl (by decide +kernel) (qe Tq8) rfl (by decide +kernel) (by decide) (by decide) (Qn (qx (pd_v qK 0) (qx (pd_v qK 1) (pd_v qK 3)))) (fun _ _ _ _ _ _=>qci (q8 (d_eq hr) (qx (za 5 (qM (by decide +kernel)) (by decide)) qb) (qx (za 1 (qM (by decide +kernel)) (by decide)) (qz zV (za 3 (qM (by decide +kernel)) (by decide)) qb)) (zO _))) (fun _ _ _ _ _ _=>za 5 (qM (by decide +kernel)) (by decide))) ?_
 refine qi (M1:=[4]) (zx (q8 (d_eq hr) (zf ZZ (qK.gl 0 rfl rfl) z_len VW (pda1 (pd_v qK 4))) qb (zO _)) (ql (qF (pd_v qK 3))) zb) ?_
 refine ql ?_
 refine qax [] ?_ ?_ ?_
 ·rfl
 ·rfl
 refine qL 2 ?_ ?_ ?_ ?_ ?_ ?_ (qj K__law_led hr (by decide) (qK.gl 1 rfl rfl) (pda3 (pd_v qK 2) (qx (qx (pd_v qK 4) qb) qb) (qx (qx (pd_v qK 4) qb) qb)) rfl)
 ·exact qK.fs.nd
 ·exact (qK.loc 2 rfl)
 ·rfl
 ·rfl
 ·exact .inl rfl
 ·decide
noncomputable abbrev Tq32:KM:=top 58
noncomputable abbrev WY:List Str:=["_law_refusal"]
theorem qN:ScOk WY ["_law_refusal"] ["NoTurn", "NoTree", "NoSquare", "NoSolid", "NoSheet", "NoRow", "NoName", "NoDrawing", "NoBend", "Crowded", "isinstance", "TooMany", "NotClosed", "ValueError", "NoWay", "_law_whole"] (qe Tq32):=scmk (by kernel_rfl)
noncomputable def qaG:Rho->Option Out:=(seqO (sIf (tV (ev1 (vr 0) (isiN XS ["Crowded", "NoBend", "NoDrawing", "NoName", "NoRow", "NoSheet", "NoSolid", "NoSquare", "NoTree", "NoTurn"]))) (sRet (kd .none)) sN) (seqO (sIf (tO (tV (ev1 (vr 0) (isiN XS ["NotClosed", "TooMany"]))) (tN (tV (ev1 (vr 0) (isiN XS ["ValueError"]))))) (sRet (kd .none)) sN) (seqO (sIf (tA (tV (ev1 (vr 0) (isiN XS ["NoWay"]))) (tV (evC 1 (aC (ev1 (vr 0) (exFD XS "at")) aN) QK))) (sRet (ev1 (vr 0) (exFD XS "at"))) sN) (sRet (kd .none)))))
noncomputable def Zx (ds:List Ka):Option Ka:=ob (qaG (rho0 WY.length ds)) outD
theorem qeG (F:Fun K "_law_at" "_law_at" Tq32 f fd)(m:mg "_law_at" = some (.ref f))(b:Binds K fd ["_law_refusal"] [])(K__law_whole:KnownM P w K mg base "_law_whole" 1 1 QK)(z_isinstance:mg "isinstance" = none)(z_ValueError:mg "ValueError" = none)(xf_at:xfB K XS "at" = true)(XT:XTab K mg XS):KnownM P w K mg base "_law_at" 1 2 Zx:=by
 refine ⟨f,fd,["_law_refusal"],F.pureM (k:=1) (u:=qaG) (M':=[]) qN.fs rfl (fun cdv A outer s H E hr G=>?_),m,F.kp,b⟩
 exact qi (M1:=[]) (zx (Q7 (YT XT (qN.gl 10 rfl rfl) z_isinstance rfl (pd_v qN 0) (qdV (zX XT (qN.gl 9 rfl rfl) (zX XT (qN.gl 8 rfl rfl) (zX XT (qN.gl 7 rfl rfl) (zX XT (qN.gl 6 rfl rfl) (zX XT (qN.gl 5 rfl rfl) (zX XT (qN.gl 4 rfl rfl) (zX XT (qN.gl 3 rfl rfl) (zX XT (qN.gl 2 rfl rfl) (zX XT (qN.gl 1 rfl rfl) (zX XT (qN.gl 0 rfl rfl) qcd))))))))))))) (ql (qF Wf)) zb) (qi (M1:=[]) (zx (PDW.pdt (Wi (Q7 (YT XT (qN.gl 10 rfl rfl) z_isinstance rfl (pd_v qN 0) (qdV (zX XT (qN.gl 12 rfl rfl) (zX XT (qN.gl 11 rfl rfl) qcd))))) (yw (yu (Q7 (YT XT (qN.gl 10 rfl rfl) z_isinstance rfl (pd_v qN 0) (qil (T := "ValueError") (by decide) (qN.gl 13 rfl rfl) z_ValueError rfl))))))) (ql (qF Wf)) zb) (qi (M1:=[]) (zx (PDW.pdt (qdZ (Q7 (YT XT (qN.gl 10 rfl rfl) z_isinstance rfl (pd_v qN 0) (qim XT (qN.gl 14 rfl rfl)))) (qcj (Q7 (qau K__law_whole hr (by decide) (qN.gl 15 rfl rfl) (pda1 (qdX XT xf_at (pd_v qN 0))) rfl))))) (ql (qF (qdX XT xf_at (pd_v qN 0)))) zb) (ql (qF Wf))))
noncomputable abbrev Tq20:KM:=top 60
noncomputable abbrev Yt:List Str:=["_law_near_here", "_law_first", "_law_cells", "_law_numbers", "_law_cell_here", "_law_steps"]
theorem qO:ScOk Yt ["_law_near_here", "_law_first", "_law_cells"] ["len"] (qe Tq20):=scmk (by kernel_rfl)
noncomputable abbrev Js:Rho->Option Out:=(seqO (sSet 5 (ev2 (vr 0) (ev2 (vr 3) (ev1 (kd (.int 1)) negD) ixD) ixD)) (sIf (tV (ev2 (evA (aC (vr 5) aN) lenD) (kd (.int 0)) gtD)) (sApp 3 (ev2 (ev2 (vr 5) (ev2 (ev2 (vr 4) (kd (.int 4)) j4) (evA (aC (vr 5) aN) lenD) modD) ixD) (kd (.int 1)) ixD)) sN))
noncomputable def Jc:Rho->Option Out:=(seqO (Zk 3 (evA (aC (ev2 (vr 1) (evA (aC (vr 0) aN) lenD) modD) aN) lstD)) (seqO (sFor (evI (vr 2) seqD) (gNm 4) Js) (sRet (vr 3))))
noncomputable def Zc (ds:List Ka):Option Ka:=ob (Jc (rho0 Yt.length ds)) outF
theorem qbX (F:Fun K "_law_list" "_law_list" Tq20 f fd)(m:mg "_law_list" = some (.ref f))(b:Binds K fd ["_law_near_here", "_law_first", "_law_cells"] [])(z_len:mg "len" = none):KnownN P w K mg base "_law_list" 3 1 Zc:=by
 refine ⟨f,fd,["_law_near_here", "_law_first", "_law_cells"],F.new (k:=0) (u:=Jc) (M':=[]) qO.fs rfl (fun cdv A outer s H E hr G=>?_),m,F.kp,b⟩
 refine qi (M1:=[3]) ?_ ?_
 refine Zj 3 ?_ ?_ ?_ ?_ ?_ ?_ ?_ (JK (pda1 (qz Qp (pd_v qO 1) (zf ZZ (qO.gl 0 rfl rfl) z_len VW (pda1 (pd_v qO 0))))))
 ·exact qO.fs.nd
 ·exact (qO.loc 3 rfl)
 ·rfl
 ·rfl
 ·exact .inl rfl
 ·decide
 ·decide
 refine qi (M1:=[3]) ?_ (ql (qgt 3 (qO.vis 3 rfl) (by decide) (by decide)))
 refine Z3 V9 rfl (Qn (pd_v qO 2)) (fun _=>zF qO 4) (fun _=>?_)
 refine qi (M1:=[3]) ?_ (ql (zx (q8 d_gt (zf ZZ (qO.gl 0 rfl rfl) z_len VW (pda1 (pd_v qO 5))) qb (zO _)) (ql (yr 3 (qO.vis 3 rfl) (by decide) (by decide) (qx (qx (pd_v qO 5) (qz Qp (qz jt (pd_v qO 4) qb) (zf ZZ (qO.gl 0 rfl rfl) z_len VW (pda1 (pd_v qO 5))))) qb))) zb))
 refine qe4 5 ?_ ?_ ?_ ?_ ?_ ?_ (pd_v qO 0) (qx (pd_v qO 3) (jJ jH qb))
 ·exact qO.fs.nd
 ·exact (qO.loc 5 rfl)
 ·rfl
 ·rfl
 ·exact .inl rfl
 ·decide
noncomputable abbrev Tq5:KM:=(clsB (top 28)).getD 1 (.Pass ⟨0,0,0,0⟩)
noncomputable abbrev jP:List Str:=["self", "unit", "out"]
theorem jL:ScOk jP ["self", "unit", "out"] [] (qe Tq5):=scmk (by kernel_rfl)
noncomputable def ZS:Rho->Option Out:=(sRet (vr 1))
noncomputable def QG (ds:List Ka):Option Ka:=ob (ZS (rho0 jP.length ds)) outD
theorem wM (F:Fun K "goes_on" "Join.goes_on" Tq5 f fd):FnOk P w K mg base CX0 1 f fd ["self", "unit", "out"] (spF K 3 QG):=by
 refine F.pure (k:=0) (u:=ZS) (M':=[]) jL.fs rfl (fun cdv A outer s H E hr G=>?_)
 exact ql (qF (pd_v jL 1))
noncomputable abbrev Tq14:KM:=(clsB (top 29)).getD 1 (.Pass ⟨0,0,0,0⟩)
noncomputable abbrev JW:List Str:=["self", "unit", "out"]
theorem JT:ScOk JW ["self", "unit", "out"] [] (qe Tq14):=scmk (by kernel_rfl)
noncomputable def jC:Rho->Option Out:=(sRet (vr 2))
noncomputable def Zn (ds:List Ka):Option Ka:=ob (jC (rho0 JW.length ds)) outD
theorem qa3 (F:Fun K "goes_on" "Up.goes_on" Tq14 f fd):FnOk P w K mg base CX0 1 f fd ["self", "unit", "out"] (spF K 3 Zn):=by
 refine F.pure (k:=0) (u:=jC) (M':=[]) JT.fs rfl (fun cdv A outer s H E hr G=>?_)
 exact ql (qF (pd_v JT 2))
noncomputable abbrev Tq6:KM:=(clsB (top 30)).getD 1 (.Pass ⟨0,0,0,0⟩)
noncomputable abbrev jO:List Str:=["self", "unit", "out"]
theorem ZC:ScOk jO ["self", "unit", "out"] ["negated"] (qe Tq6):=scmk (by kernel_rfl)
noncomputable def ZR:Rho->Option Out:=(sRet (evC 1 (aC (vr 2) aN) QC))
noncomputable def QF (ds:List Ka):Option Ka:=ob (ZR (rho0 jO.length ds)) outD
theorem wL (F:Fun K "goes_on" "Down.goes_on" Tq6 f fd)(K_negated:Known P w K mg base "negated" 1 1 QC):FnOk P w K mg base CX0 2 f fd ["self", "unit", "out"] (spF K 3 QF):=by
 refine F.pure (k:=1) (u:=ZR) (M':=[]) ZC.fs rfl (fun cdv A outer s H E hr G=>?_)
 exact ql (qF (qj K_negated hr (by decide) (ZC.gl 0 rfl rfl) (pda1 (pd_v ZC 2)) rfl))
noncomputable def zB:List (Str×(List Ka->Option Ka)):=[("Join", QG),("Up", Zn),("Down", QF)]
noncomputable abbrev Tq27:KM:=(clsB (top 28)).getD 2 (.Pass ⟨0,0,0,0⟩)
noncomputable abbrev Y6:List Str:=["self", "pose", "way", "unit", "out", "edge", "beyond", "turn"]
theorem qt:ScOk Y6 ["self", "pose", "way"] ["unit_of", "out_of", "cross", "turn_back", "joined_turns", "turned", "added"] (qe Tq27):=scmk (by kernel_rfl)
noncomputable def JN:Rho->Option Out:=(seqO (sSet 3 (evC 2 (aC (vr 1) (aC (vr 2) aN)) ji)) (seqO (sSet 4 (evC 1 (aC (vr 1) aN) jZ)) (seqO (sSet 5 (evC 2 (aC (vr 3) (aC (vr 4) aN)) Zo)) (seqO (sSet 6 (evC 3 (aC (vr 0) (aC (vr 3) (aC (vr 4) aN))) (mtD zB))) (seqO (sSet 7 (evC 2 (aC (evC 1 (aC (evA (aC (vr 3) (aC (vr 4) (aC (vr 5) aN))) tupD) aN) Zg) (aC (evA (aC (vr 6) (aC (evC 2 (aC (vr 5) (aC (vr 6) aN)) Zo) (aC (vr 5) aN))) tupD) aN)) Qg)) (sRet (evA (aC (evC 2 (aC (evC 2 (aC (ev2 (vr 1) (kd (.int 0)) ixD) (aC (vr 3) aN)) Jj) (aC (vr 6) aN)) Jj) (aC (evC 2 (aC (vr 7) (aC (ev2 (vr 1) (kd (.int 1)) ixD) aN)) Qt) (aC (evC 2 (aC (vr 7) (aC (ev2 (vr 1) (kd (.int 2)) ixD) aN)) Qt) aN))) tupD)))))))
noncomputable def Qx (ds:List Ka):Option Ka:=ob (JN (rho0 Y6.length ds)) outD
theorem JB (F:Fun K "led" "Join.led" Tq27 f fd)(K_unit_of:Known P w K mg base "unit_of" 2 2 ji)(K_out_of:Known P w K mg base "out_of" 1 2 jZ)(K_cross:Known P w K mg base "cross" 2 1 Zo)(K_joined_turns:Known P w K mg base "joined_turns" 2 2 Qg)(K_turn_back:Known P w K mg base "turn_back" 1 1 Zg)(K_turned:Known P w K mg base "turned" 2 1 Qt)(K_added:Known P w K mg base "added" 2 1 Jj)(M_goes_on:KnownC P w K mg base "goes_on" 3 2 zB):FnOk P w K mg base CX0 3 f fd ["self", "pose", "way"] (spF K 3 Qx):=by
 refine F.pure (k:=2) (u:=JN) (M':=[]) qt.fs rfl (fun cdv A outer s H E hr G=>?_)
 refine qi (M1:=[]) ?_ ?_
 refine qL 3 ?_ ?_ ?_ ?_ ?_ ?_ (qj K_unit_of hr (by decide) (qt.gl 0 rfl rfl) (pda2 (pd_v qt 1) (pd_v qt 2)) rfl)
 ·exact qt.fs.nd
 ·exact (qt.loc 3 rfl)
 ·rfl
 ·rfl
 ·exact .inl rfl
 ·decide
 refine qi (M1:=[]) ?_ ?_
 refine qL 4 ?_ ?_ ?_ ?_ ?_ ?_ (qj K_out_of hr (by decide) (qt.gl 1 rfl rfl) (pda1 (pd_v qt 1)) rfl)
 ·exact qt.fs.nd
 ·exact (qt.loc 4 rfl)
 ·rfl
 ·rfl
 ·exact .inl rfl
 ·decide
 refine qi (M1:=[]) ?_ ?_
 refine qL 5 ?_ ?_ ?_ ?_ ?_ ?_ (qj K_cross hr (by decide) (qt.gl 2 rfl rfl) (pda2 (pd_v qt 3) (pd_v qt 4)) rfl)
 ·exact qt.fs.nd
 ·exact (qt.loc 5 rfl)
 ·rfl
 ·rfl
 ·exact .inl rfl
 ·decide
 refine qi (M1:=[]) ?_ ?_
 refine qL 6 ?_ ?_ ?_ ?_ ?_ ?_ (qgn M_goes_on hr (by decide) (pd_v qt 0) (pda2 (pd_v qt 3) (pd_v qt 4)))
 ·exact qt.fs.nd
 ·exact (qt.loc 6 rfl)
 ·rfl
 ·rfl
 ·exact .inl rfl
 ·decide
 refine qi (M1:=[]) ?_ (ql (qF (qU (pda3 (qj K_added hr (by decide) (qt.gl 6 rfl rfl) (pda2 (qj K_added hr (by decide) (qt.gl 6 rfl rfl) (pda2 (qx (pd_v qt 1) qb) (pd_v qt 3)) rfl) (pd_v qt 6)) rfl) (qj K_turned hr (by decide) (qt.gl 5 rfl rfl) (pda2 (pd_v qt 7) (qx (pd_v qt 1) qb)) rfl) (qj K_turned hr (by decide) (qt.gl 5 rfl rfl) (pda2 (pd_v qt 7) (qx (pd_v qt 1) qb)) rfl)))))
 refine qL 7 ?_ ?_ ?_ ?_ ?_ ?_ ?_
 ·exact qt.fs.nd
 ·exact (qt.loc 7 rfl)
 ·rfl
 ·rfl
 ·exact .inl rfl
 ·decide
 exact qj K_joined_turns hr (by decide) (qt.gl 4 rfl rfl) (pda2 (qj K_turn_back hr (by decide) (qt.gl 3 rfl rfl) (pda1 (qU (pda3 (pd_v qt 3) (pd_v qt 4) (pd_v qt 5)))) rfl) (qU (pda3 (pd_v qt 6) (qj K_cross hr (by decide) (qt.gl 2 rfl rfl) (pda2 (pd_v qt 5) (pd_v qt 6)) rfl) (pd_v qt 5)))) rfl
noncomputable def w5:List (Str×(List Ka->Option Ka)):=[("Join", Qx),("Up", Qx),("Down", Qx)]
noncomputable abbrev Tq35:KM:=top 39
noncomputable abbrev qby:List Str:=["step", "pose"]
theorem jM:ScOk qby ["step", "pose"] ["join_of"] (qe Tq35):=scmk (by kernel_rfl)
noncomputable def Wx:Rho->Option Out:=(sRet (evC 3 (aC (evC 1 (aC (ev2 (vr 0) (kd (.int 1)) ixD) aN) Jk) (aC (vr 1) (aC (ev2 (vr 0) (kd (.int 0)) ixD) aN))) (mtD w5)))
noncomputable def jh (ds:List Ka):Option Ka:=ob (Wx (rho0 qby.length ds)) outD
theorem qfW (F:Fun K "led_by" "led_by" Tq35 f fd)(m:mg "led_by" = some (.ref f))(b:Binds K fd ["step", "pose"] [])(K_join_of:Known P w K mg base "join_of" 1 3 Jk)(M_led:KnownC P w K mg base "led" 3 3 w5):Known P w K mg base "led_by" 2 4 jh:=by
 refine ⟨f,fd,["step", "pose"],F.pure (k:=3) (u:=Wx) (M':=[]) jM.fs rfl (fun cdv A outer s H E hr G=>?_),m,F.kp,b⟩
 exact ql (qF (qgn M_led hr (by decide) (qj K_join_of hr (by decide) (jM.gl 0 rfl rfl) (pda1 (qx (pd_v jM 0) qb)) rfl) (pda2 (pd_v jM 1) (qx (pd_v jM 0) qb))))
noncomputable abbrev Tq36:KM:=top 40
noncomputable abbrev J4:List Str:=["sheet", "numbers", "pose", "steps", "at", "pair"]
theorem qp:ScOk J4 ["sheet", "numbers", "pose"] ["steps_of", "led_by", "enumerate", "zip", "NoWay"] (qe Tq36):=scmk (by kernel_rfl)
noncomputable abbrev zK:Rho->Option Out:=(seqO (sIf (tV (ev2 (vr 5) (vr 3) qas)) sNo sN) (sSet 2 (evC 2 (aC (ev2 (vr 3) (vr 5) ix2D) (aC (vr 2) aN)) jh)))
noncomputable def WD:Rho->Option Out:=(seqO (sSet 3 (evC 1 (aC (vr 0) aN) Qh)) (seqO (sFor (evI2 (vr 1) (evS (vr 1) (oS (kd (.int 1))) oN) ezD) (unpD 2 (gsC (gNm 4) (gsC (gNm 5) gsN))) zK) (sRet (vr 2))))
noncomputable def j0 (ds:List Ka):Option Ka:=ob (WD (rho0 J4.length ds)) outD
theorem qfZ (F:Fun K "walked" "walked" Tq36 f fd)(m:mg "walked" = some (.ref f))(b:Binds K fd ["sheet", "numbers", "pose"] [])(K_steps_of:Known P w K mg base "steps_of" 1 3 Qh)(K_led_by:Known P w K mg base "led_by" 2 4 jh)(z_enumerate:mg "enumerate" = none)(z_zip:mg "zip" = none)(I_NoWay:KnownI P w K mg base "NoWay" "at" 1):Known P w K mg base "walked" 3 5 j0:=by
 refine ⟨f,fd,["sheet", "numbers", "pose"],F.pure (k:=4) (u:=WD) (M':=[]) qp.fs rfl (fun cdv A outer s H E hr G=>?_),m,F.kp,b⟩
 refine qi (M1:=[]) ?_ ?_
 refine qL 3 ?_ ?_ ?_ ?_ ?_ ?_ (qj K_steps_of hr (by decide) (qp.gl 0 rfl rfl) (pda1 (pd_v qp 0)) rfl)
 ·exact qp.fs.nd
 ·exact (qp.loc 3 rfl)
 ·rfl
 ·rfl
 ·exact .inl rfl
 ·decide
 refine qi (M1:=[]) ?_ (ql (qF (pd_v qp 2)))
 refine Z3 V9 rfl (qc1 (qp.gl 2 rfl rfl) z_enumerate (qp.gl 3 rfl rfl) z_zip (pd_v qp 1) (jj (pd_v qp 1) (Zi qb) yq)) (fun _=>Zr rfl (qT (zF qp 4) (qT (zF qp 5) QQ))) (fun _=>?_)
 refine qi (M1:=[]) (zx (q8 (jY hr) (pd_v qp 5) (pd_v qp 3) rfl) (ql jk) zb) ?_
 refine ql ?_
 refine qL 2 ?_ ?_ ?_ ?_ ?_ ?_ (qj K_led_by hr (by decide) (qp.gl 1 rfl rfl) (pda2 (qc0 hr (pd_v qp 3) (pd_v qp 5)) (pd_v qp 2)) rfl)
 ·exact qp.fs.nd
 ·exact (qp.loc 2 rfl)
 ·rfl
 ·rfl
 ·exact .inl rfl
 ·decide
noncomputable abbrev zU:Rho->Option (Ka×Rho):=(xSeq (sIf (tV (ev2 (vr 5) (vr 3) qas)) sNo sN) (xIf (tV (ev2 (vr 5) (vr 3) qas)) (Y4 "NoWay" "at" (vr 4)) xNo) xNo)
noncomputable def yL:Rho->Option (Ka×Rho):=(xSeq (sSet 3 (evC 1 (aC (vr 0) aN) Qh)) xNo (xSeq (sFor (evI2 (vr 1) (evS (vr 1) (oS (kd (.int 1))) oN) ezD) (unpD 2 (gsC (gNm 4) (gsC (gNm 5) gsN))) zK) (xFor (evI2 (vr 1) (evS (vr 1) (oS (kd (.int 1))) oN) ezD) (unpD 2 (gsC (gNm 4) (gsC (gNm 5) gsN))) zK zU) xNo))
noncomputable def QT (ds:List Ka):Option Ka:=xOut yL J4.length ds
theorem qgL (F:Fun K "walked" "walked" Tq36 f fd)(m:mg "walked" = some (.ref f))(b:Binds K fd ["sheet", "numbers", "pose"] [])(K_steps_of:Known P w K mg base "steps_of" 1 3 Qh)(K_led_by:Known P w K mg base "led_by" 2 4 jh)(z_enumerate:mg "enumerate" = none)(z_zip:mg "zip" = none)(I_NoWay:KnownI P w K mg base "NoWay" "at" 1):KnownR P w K mg base "walked" 3 5 QT:=by
 refine ⟨f,fd,["sheet", "numbers", "pose"],F.raises (k:=4) (wx:=yL) (Mx:=[]) qp.fs rfl (fun cdv A outer s H E hr G=>?_),m,F.kp,b⟩
 refine Wj (M1:=[]) (fr:=.pl) (Mb:=[]) ?_ qkn ?_
 refine qL 3 ?_ ?_ ?_ ?_ ?_ ?_ (qj K_steps_of hr (by decide) (qp.gl 0 rfl rfl) (pda1 (pd_v qp 0)) rfl)
 ·exact qp.fs.nd
 ·exact (qp.loc 3 rfl)
 ·rfl
 ·rfl
 ·exact .inl rfl
 ·decide
 refine Wj (M1:=[]) (fr:=.pl) (Mb:=[]) ?_ ?_ qbj
 refine Z3 V9 rfl (qc1 (qp.gl 2 rfl rfl) z_enumerate (qp.gl 3 rfl rfl) z_zip (pd_v qp 1) (jj (pd_v qp 1) (Zi qb) yq)) (fun _=>Zr rfl (qT (zF qp 4) (qT (zF qp 5) QQ))) (fun _=>?_)
 refine qi (M1:=[]) (zx (q8 (jY hr) (pd_v qp 5) (pd_v qp 3) rfl) (ql jk) zb) ?_
 refine ql ?_
 refine qL 2 ?_ ?_ ?_ ?_ ?_ ?_ (qj K_led_by hr (by decide) (qp.gl 1 rfl rfl) (pda2 (qc0 hr (pd_v qp 3) (pd_v qp 5)) (pd_v qp 2)) rfl)
 ·exact qp.fs.nd
 ·exact (qp.loc 2 rfl)
 ·rfl
 ·rfl
 ·exact .inl rfl
 ·decide
 refine qiw (fr:=.pl) rfl rfl rfl (qc1 (qp.gl 2 rfl rfl) z_enumerate (qp.gl 3 rfl rfl) z_zip (pd_v qp 1) (jj (pd_v qp 1) (Zi qb) yq)) (fun _=>Zr rfl (qT (zF qp 4) (qT (zF qp 5) QQ))) (fun _=>?_) (fun _=>Wj (M1:=[]) (fr:=.pl) (Mb:=[]) (zx (q8 (jY hr) (pd_v qp 5) (pd_v qp 3) rfl) (ql jk) zb) (qkm (q8 (jY hr) (pd_v qp 5) (pd_v qp 3) rfl) (qd0 (qc2 I_NoWay hr (by decide) (qp.gl 4 rfl rfl) (qip (pd_v qp 4)))) qbj) qbj)
 refine qi (M1:=[]) (zx (q8 (jY hr) (pd_v qp 5) (pd_v qp 3) rfl) (ql jk) zb) ?_
 refine ql ?_
 refine qL 2 ?_ ?_ ?_ ?_ ?_ ?_ (qj K_led_by hr (by decide) (qp.gl 1 rfl rfl) (pda2 (qc0 hr (pd_v qp 3) (pd_v qp 5)) (pd_v qp 2)) rfl)
 ·exact qp.fs.nd
 ·exact (qp.loc 2 rfl)
 ·rfl
 ·rfl
 ·exact .inl rfl
 ·decide
noncomputable abbrev Tq21:KM:=top 59
noncomputable abbrev Yu:List Str:=["_law_sheet_here", "_law_numbers", "_law_pose_here", "_law_told_here", "_law_e"]
theorem qP:ScOk Yu ["_law_sheet_here", "_law_numbers", "_law_pose_here"] ["walked", "_law_at", "SheetError"] (qe Tq21):=scmk (by kernel_rfl)
theorem wX:(qe Tq21).names.lookup ("_law_e" : Str)=some NameKind.local:=by decide +kernel
noncomputable def zQ:Rho->Option Out:=(seqO (sSet 3 (kd .none)) (seqO (sTry (sSet 3 (evC 3 (aC (vr 0) (aC (vr 1) (aC (vr 2) aN))) j0)) (WK 3 (aC (vr 0) (aC (vr 1) (aC (vr 2) aN))) QT) ["SheetError", "NoDrawing", "NoBend", "NoSquare", "TooMany", "NoTurn", "NoRow", "NoName", "NotClosed", "NoSheet", "NoSolid", "NoTree", "NoWay", "Crowded"] 4 (sSet 3 (evC 1 (aC (vr 4) aN) Zx))) (sRet (vr 3))))
noncomputable def Z2 (ds:List Ka):Option Ka:=ob (zQ (rho0 Yu.length ds)) outD
theorem qb0 (F:Fun K "_law_told" "_law_told" Tq21 f fd)(m:mg "_law_told" = some (.ref f))(b:Binds K fd ["_law_sheet_here", "_law_numbers", "_law_pose_here"] [])(K_walked:Known P w K mg base "walked" 3 5 j0)(K__law_at:KnownM P w K mg base "_law_at" 1 2 Zx)(XT:XTab K mg XS)(R_walked:KnownR P w K mg base "walked" 3 5 QT):Known P w K mg base "_law_told" 3 6 Z2:=by
 refine ⟨f,fd,["_law_sheet_here", "_law_numbers", "_law_pose_here"],F.pure (k:=5) (u:=zQ) (M':=[]) qP.fs rfl (fun cdv A outer s H E hr G=>?_),m,F.kp,b⟩
 refine qi (M1:=[]) ?_ ?_
 refine qL 3 ?_ ?_ ?_ ?_ ?_ ?_ Wf
 ·exact qP.fs.nd
 ·exact (qP.loc 3 rfl)
 ·rfl
 ·rfl
 ·exact .inl rfl
 ·decide
 refine qi (M1:=[]) ?_ (ql (qF (pd_v qP 3)))
 refine qiu (Mx:=[]) (cs:=["SheetError", "NoDrawing", "NoBend", "NoSquare", "TooMany", "NoTurn", "NoRow", "NoName", "NotClosed", "NoSheet", "NoSolid", "NoTree", "NoWay", "Crowded"]) ?_ (qd0 (qiv R_walked hr (by decide) (qP.gl 0 rfl rfl) (pda3 (pd_v qP 0) (pd_v qP 1) (pd_v qP 2)))) (fun _=>?_) qP.fs.nd wX (by decide) (by decide) (by decide) (qP.gl 2 rfl rfl) (XT.mg1 (by decide +kernel)) (XT.cat1 (by decide +kernel)) (XT.cs1 (by decide +kernel) (by decide +kernel)) rfl rfl rfl
 refine ql ?_
 refine qL 3 ?_ ?_ ?_ ?_ ?_ ?_ (qj K_walked hr (by decide) (qP.gl 0 rfl rfl) (pda3 (pd_v qP 0) (pd_v qP 1) (pd_v qP 2)) rfl)
 ·exact qP.fs.nd
 ·exact (qP.loc 3 rfl)
 ·rfl
 ·rfl
 ·exact .inl rfl
 ·decide
 refine ql ?_
 refine qL 3 ?_ ?_ ?_ ?_ ?_ ?_ (qau K__law_at (hr.m _) (by decide) (qP.gl 1 rfl rfl) (pda1 (pd_v qP 4)) rfl)
 ·exact qP.fs.nd
 ·exact (qP.loc 3 rfl)
 ·rfl
 ·rfl
 ·exact .inl rfl
 ·decide
noncomputable abbrev Tq39:KM:=top 61
noncomputable abbrev qi2:List Str:=["_law_script", "_law_cells", "_law_joins", "_law_sheet_here", "_law_near_here", "_law_numbers", "_law_place", "_law_pose_here", "_law_due", "_law_handed", "_law_turn", "_law_found", "_law_made"]
theorem qD:ScOk qi2 ["_law_script"] ["_law_grown", "_law_sheet", "_law_near", "_law_cell", "_law_list", "len", "_law_pose", "_law_walked", "list", "_law_told", "isinstance", "tuple", "_law_is_pose", "range", "NoWay", "_law_at"] (qe Tq39):=scmk (by kernel_rfl)
noncomputable abbrev qhf:Rho->Option Out:=(seqO (sSet 11 (evC 3 (aC (ev2 (vr 9) (kd (.int 0)) ixD) (aC (ev2 (vr 9) (kd (.int 1)) ixD) (aC (vr 7) aN))) Z2)) (seqO (sIf (tA (tV (ev1 (vr 8) (isiD "tuple"))) (tN (tV (evC 1 (aC (vr 11) aN) QH)))) (sRet (kd (.bool false))) sN) (sIf (tO (tV (ev2 (vr 11) (vr 8) neD)) (tV (ev2 (vr 11) (kd .none) isD))) (sRet (kd (.bool false))) sN)))
noncomputable def qed:Rho->Option Out:=(seqO (sAsg (evC 5 (aC (vr 0) (aC (kd (.int 6)) (aC (kd (.int 40)) (aC (kd (.int 26)) (aC (evA (aC (kd (.int 0)) (aC (kd (.int 0)) (aC (kd (.int 1)) (aC (ev1 (kd (.int 1)) negD) aN)))) lstD) aN))))) Qm) (unpD 2 (gsC (gNm 1) (gsC (gNm 2) gsN)))) (seqO (sSet 3 (evC 2 (aC (vr 1) (aC (vr 2) aN)) QJ)) (seqO (sSet 4 (evC 1 (aC (vr 3) aN) Zd)) (seqO (Zk 5 (evC 3 (aC (vr 4) (aC (evC 2 (aC (vr 0) (aC (kd (.int 2)) aN)) qW) (aC (evS (vr 0) (oS (kd (.int 40))) (oS (kd (.int 60)))) aN))) Zc)) (seqO (sIf (tV (ev2 (ev2 (evC 2 (aC (vr 0) (aC (kd (.int 3)) aN)) qW) (kd (.int 3)) modD) (kd (.int 0)) eqD)) (seqO (sSet 6 (qbK (ev2 (ev2 (evC 2 (aC (vr 0) (aC (kd (.int 3)) aN)) qW) (kd (.int 3)) j4) (ev2 (evA (aC (vr 5) aN) lenD) (kd (.int 1)) Qe) modD))) (sIns 5 (vr 6) (ev2 (evC 2 (aC (vr 0) (aC (kd (.int 4)) aN)) qW) (evA (aC (vr 4) aN) lenD) modD))) sN) (seqO (sSet 7 (evC 2 (aC (evC 2 (aC (vr 0) (aC (kd (.int 4)) aN)) qW) (aC (evC 2 (aC (vr 0) (aC (kd (.int 5)) aN)) qW) aN)) Ze)) (seqO (sSet 8 (evC 3 (aC (vr 4) (aC (vr 5) (aC (vr 7) aN))) Qs)) (seqO (sSet 9 (evA (aC (evA (aC (evA (aC (ev2 (vr 3) (kd (.int 0)) ixD) aN) qan) (aC (evA (aC (ev2 (vr 3) (kd (.int 1)) ixD) aN) qan) aN)) tupD) (aC (evA (aC (vr 5) aN) qan) aN)) lstD)) (seqO (sFor (evR (aC (kd (.int 2)) aN) jK) (gNm 10) qhf) (seqO (sSet 12 (ev2 (evC 2 (aC (vr 0) (aC (kd (.int 3)) aN)) qW) (kd (.int 100)) modD)) (sRet (vA (ev2 (vr 9) (evA (aC (vr 3) (aC (vr 5) aN)) lstD) eqD) (ev2 (evC 1 (aC (ev1 (vr 12) (mkI "NoWay" "at")) aN) Zx) (vr 12) eqD)))))))))))))
noncomputable def qdC (ds:List Ka):Option Ka:=ob (qed (rho0 qi2.length ds)) outD
theorem qka (F:Fun K "law" "law" Tq39 f fd)(K__law_grown:Known P w K mg base "_law_grown" 5 2 Qm)(K__law_sheet:Known P w K mg base "_law_sheet" 2 1 QJ)(K__law_near:Known P w K mg base "_law_near" 1 1 Zd)(K__law_list:KnownN P w K mg base "_law_list" 3 1 Zc)(K__law_cell:Known P w K mg base "_law_cell" 2 1 qW)(K__law_pose:Known P w K mg base "_law_pose" 2 2 Ze)(K__law_walked:Known P w K mg base "_law_walked" 3 4 Qs)(K__law_told:Known P w K mg base "_law_told" 3 6 Z2)(K__law_is_pose:Known P w K mg base "_law_is_pose" 1 3 QH)(K__law_at:KnownM P w K mg base "_law_at" 1 2 Zx)(z_len:mg "len" = none)(z_list:mg "list" = none)(z_isinstance:mg "isinstance" = none)(z_tuple:mg "tuple" = none)(z_range:mg "range" = none)(I_NoWay:KnownI P w K mg base "NoWay" "at" 1):FnOk P w K mg base CX0 7 f fd ["_law_script"] (spF K 1 qdC):=by
 refine F.pure (k:=6) (u:=qed) (M':=[]) qD.fs rfl (fun cdv A outer s H E hr G=>?_)
 refine qi (M1:=[]) (qbi (qj K__law_grown hr (by decide) (qD.gl 0 rfl rfl) (qG (pd_v qD 0) (qG qb (qG qb (qG qb (qG (qbf (qG qb (qG qb (qG qb (qG (jJ jH qb) zu))))) zu))))) rfl) (Zr rfl (qT (zF qD 1) (qT (zF qD 2) QQ)))) ?_
 refine qi (M1:=[]) ?_ ?_
 refine qL 3 ?_ ?_ ?_ ?_ ?_ ?_ (qj K__law_sheet hr (by decide) (qD.gl 1 rfl rfl) (pda2 (pd_v qD 1) (pd_v qD 2)) rfl)
 ·exact qD.fs.nd
 ·exact (qD.loc 3 rfl)
 ·rfl
 ·rfl
 ·exact .inl rfl
 ·decide
 refine qi (M1:=[]) ?_ ?_
 refine qL 4 ?_ ?_ ?_ ?_ ?_ ?_ (qj K__law_near hr (by decide) (qD.gl 2 rfl rfl) (pda1 (pd_v qD 3)) rfl)
 ·exact qD.fs.nd
 ·exact (qD.loc 4 rfl)
 ·rfl
 ·rfl
 ·exact .inl rfl
 ·decide
 refine qi (M1:=[5]) ?_ ?_
 refine Zj 5 ?_ ?_ ?_ ?_ ?_ ?_ ?_ (qgz K__law_list hr (by decide) (qD.gl 4 rfl rfl) (pda3 (pd_v qD 4) (qj K__law_cell hr (by decide) (qD.gl 3 rfl rfl) (pda2 (pd_v qD 0) qb) rfl) (jj (pd_v qD 0) (Zi qb) (Zi qb))) rfl)
 ·exact qD.fs.nd
 ·exact (qD.loc 5 rfl)
 ·rfl
 ·rfl
 ·exact .inl rfl
 ·decide
 ·decide
 refine qi (M1:=[5]) ?_ ?_
 refine zx (q8 (d_eq hr) (qz Qp (qj K__law_cell hr (by decide) (qD.gl 3 rfl rfl) (pda2 (pd_v qD 0) qb) rfl) qb) qb (zO _)) ?_ zb
 refine qi (M1:=[5]) ?_ (ql (qit 5 (qD.vis 5 rfl) (by decide) (by decide) (pd_v qD 6) (qz Qp (qj K__law_cell hr (by decide) (qD.gl 3 rfl rfl) (pda2 (pd_v qD 0) qb) rfl) (zf ZZ (qD.gl 5 rfl rfl) z_len VW (pda1 (pd_v qD 4))))))
 refine qch 6 ?_ ?_ ?_ ?_ ?_ ?_ (qz Qp (qz jt (qj K__law_cell hr (by decide) (qD.gl 3 rfl rfl) (pda2 (pd_v qD 0) qb) rfl) qb) (qz zV (zf ZZ (qD.gl 5 rfl rfl) z_len VW (pda1 (pd_v qD 5))) qb))
 ·exact qD.fs.nd
 ·exact (qD.loc 6 rfl)
 ·rfl
 ·rfl
 ·exact .inl rfl
 ·decide
 refine qi (M1:=[5]) ?_ ?_
 refine qL 7 ?_ ?_ ?_ ?_ ?_ ?_ (qj K__law_pose hr (by decide) (qD.gl 6 rfl rfl) (pda2 (qj K__law_cell hr (by decide) (qD.gl 3 rfl rfl) (pda2 (pd_v qD 0) qb) rfl) (qj K__law_cell hr (by decide) (qD.gl 3 rfl rfl) (pda2 (pd_v qD 0) qb) rfl)) rfl)
 ·exact qD.fs.nd
 ·exact (qD.loc 7 rfl)
 ·rfl
 ·rfl
 ·exact .inl rfl
 ·decide
 refine qi (M1:=[]) ?_ ?_
 refine qax [] ?_ ?_ ?_
 ·rfl
 ·rfl
 refine qL 8 ?_ ?_ ?_ ?_ ?_ ?_ (qj K__law_walked hr (by decide) (qD.gl 7 rfl rfl) (pda3 (pd_v qD 4) (pd_v qD 5) (pd_v qD 7)) rfl)
 ·exact qD.fs.nd
 ·exact (qD.loc 8 rfl)
 ·rfl
 ·rfl
 ·exact .inl rfl
 ·decide
 refine qi (M1:=[]) ?_ ?_
 refine qL 9 ?_ ?_ ?_ ?_ ?_ ?_ ?_
 ·exact qD.fs.nd
 ·exact (qD.loc 9 rfl)
 ·rfl
 ·rfl
 ·exact .inl rfl
 ·decide
 exact qbf (pda2 (qU (pda2 (QD qcB (qD.gl 8 rfl rfl) z_list rfl (pda1 (qx (pd_v qD 3) qb))) (QD qcB (qD.gl 8 rfl rfl) z_list rfl (pda1 (qx (pd_v qD 3) qb))))) (QD qcB (qD.gl 8 rfl rfl) z_list rfl (pda1 (pd_v qD 5))))
 refine qi (M1:=[]) ?_ ?_
 refine yt V9 rfl (jA (qD.gl 13 rfl rfl) z_range (pda1 qb)) (zF qD 10) ?_
 refine qi (M1:=[]) ?_ (qi (M1:=[]) (zx (PDW.pdt (qdZ (Q7 (JG (T := "tuple") (kit_tuple _) (qD.gl 10 rfl rfl) z_isinstance (qD.gl 11 rfl rfl) z_tuple rfl rfl (pd_v qD 8))) (qcj (yu (Q7 (qj K__law_is_pose hr (by decide) (qD.gl 12 rfl rfl) (pda1 (pd_v qD 11)) rfl)))))) (ql (qF qdW)) zb) (ql (zx (PDW.pdt (Wi (q8 (d_ne hr) (pd_v qD 11) (pd_v qD 8) (zO _)) (yw (q8 d_is (pd_v qD 11) Wf (zO _))))) (ql (qF qdW)) zb)))
 refine qL 11 ?_ ?_ ?_ ?_ ?_ ?_ (qj K__law_told hr (by decide) (qD.gl 9 rfl rfl) (pda3 (qx (pd_v qD 9) qb) (qx (pd_v qD 9) qb) (pd_v qD 7)) rfl)
 ·exact qD.fs.nd
 ·exact (qD.loc 11 rfl)
 ·rfl
 ·rfl
 ·exact .inl rfl
 ·decide
 refine qi (M1:=[]) ?_ (ql (qF (qbd (qbe (d_eq hr) (pd_v qD 9) (qbf (pda2 (pd_v qD 3) (pd_v qD 5))) (zO _)) (qbh (qbe (d_eq hr) (qj K__law_at.known hr (by decide) (qD.gl 15 rfl rfl) (pda1 (qgm I_NoWay hr (by decide) (qD.gl 14 rfl rfl) rfl (pd_v qD 12))) rfl) (pd_v qD 12) (zO _))))))
 refine qL 12 ?_ ?_ ?_ ?_ ?_ ?_ (qz Qp (qj K__law_cell hr (by decide) (qD.gl 3 rfl rfl) (pda2 (pd_v qD 0) qb) rfl) qb)
 ·exact qD.fs.nd
 ·exact (qD.loc 12 rfl)
 ·rfl
 ·rfl
 ·exact .inl rfl
 ·decide
end SF
local macro_rules
 | `(tactic| simp_arith [$ts,*] $[$loc]?)=> do
  let q := ("L2.rho0 Kt Ud KA UY Nat.reduceAdd Nat.reduceSub Fj Fn List.replicate_succ List.replicate_zero List.cons_append List.nil_append Vd L2.qgT L2.qbD L2.qfl L2.qfj L2.qfk L2.ifO_t L2.ifO_f L2.sIf_b L2.vIf_b L2.tA_b L2.tO_b L2.vA_b L2.vN L2.qkI L2.qkN L2.qkE L2.qju L2.nxO_s L2.qkH L2.qkC L2.sN L2.sBk L2.sCt L2.tV L2.tN L2.tT L2.ev2_b L2.qjx L2.ev1 L2.vr_z L2.vr_s L2.kd L2.evA L2.evC_b L2.qhl L2.evC0 L2.aC_b L2.qhu L2.aN L2.qj1 L2.qj2 L2.tupD L2.lstD L2.qg3 L2.qg4 L2.qh3 L2.qh4 L2.qjp L2.qkQ L2.qj8 L2.qfH L2.Q6 L2.pow_a L2.pow_b L2.qhz L2.qh7 L2.qj4 L2.gtD_i L2.qhk L2.ixD_l L2.ixD_t L2.atI0 L2.atI1 L2.atI2 L2.atI3 L2.atI4 L2.atI5 L2.qkj L2.qki L2.ob_s L2.gNm L2.gsN_n L2.gsC_c L2.qkY List.set_cons_zero List.set_cons_succ List.set_nil L2.evI L2.evR L2.qkL L2.qkM L2.qiI L2.rngL L2.qhs L2.qho L2.qdn L2.qhq L2.qdq L2.qdp L2.qh5 L2.qkF L2.qjJ L2.j5 L2.qcF L2.yj L2.qhK L2.qhJ L2.qdD if_true if_false VA E7 Bool.not_false Nat.reduceLeDiff and_self and_true true_and Int.reduceToNat Int.reduceAdd Int.reduceSub Int.reduceLE Int.reduceLT Int.reduceNeg reduceIte L2.isiD L2.qjU L2.qjR L2.qjQ L2.qjP L2.qjT L2.qjS String.reduceBEq L2.natLit Int.reduceBEq NU Bool.or_true X3 Bool.or_false L2.qiL L2.qkT L2.qhG L2.qjH L2.qkD L2.qjt L2.qcA L2.qkk L2.isD_n L2.isD_b L2.evS_b L2.qkP L2.oN L2.oS_b L2.qkw Nat.reduceLT decide_true decide_false L2.qjo L2.qgb L2.qgc L2.qgR L2.qjE L2.qjw L2.qiZ L2.qjn L2.qha L2.qhb L2.qiK L2.qhZ L2.qh0 L2.qhd L2.qcv L2.enL_n L2.enL_c L2.qds L2.qht L2.qdm L2.qdk L2.qhp L2.qhr L2.qhn L2.qiJ L2.dpO_s L2.qj9".splitOn " ").toArray.map fun s => Lean.mkIdent s.toName
  `(tactic| simp only [$[$q:term],*, $ts,*] $[$loc]?)
namespace SF
open PySem L2
noncomputable def Z0 (ns:List Int)(k:Int):Int:=ns.getD k.toNat 0
theorem cell_bd {ns:List Int}(h:∀ k∈ns,V0 k<=2 ^ 20)(k:Int):Bd 1048576 (Z0 ns k):=by
 unfold Z0
 by_cases hk:k.toNat<ns.length
 ·rw [Ug,Kn hk]
  exact h _ (List.getElem_mem hk)
 ·rw [Ug,UT (by omega)]
  show V0 0<=1048576
  decide
theorem qeO {a b c d e f:Int}{n m:Nat}(ha:Bd n a)(hb:Bd n b)(hc:Bd n c)(hd:Bd m d)(he:Bd m e)(hf:Bd m f)(hz:n+m<=134217728:=by decide):zc [S3 a b c,S3 d e f]=some (S3 (b*f-c*e) (c*d-a*f) (a*e-b*d)):=by
 simp only [zc,Zu,S3]
 simp_arith []
 simp only [qY (hb.ok hf hz),qY (hc.ok he hz),qY (hc.ok hd hz),qY (ha.ok hf hz),qY (ha.ok he hz),qY (hb.ok hd hz)]
 simp_arith []
structure Tr where
 (p0 p1 p2 q0 q1 q2 r0 r1 r2:Int)
 deriving DecidableEq
noncomputable def encT (t:Tr):Ka:=T3 (S3 t.p0 t.p1 t.p2) (S3 t.q0 t.q1 t.q2) (S3 t.r0 t.r1 t.r2)
noncomputable def QS:List Tr:=[⟨1,0,0,0,1,0,0,0,1⟩,⟨1,0,0,0,-1,0,0,0,-1⟩,⟨1,0,0,0,0,1,0,-1,0⟩,⟨1,0,0,0,0,-1,0,1,0⟩,⟨-1,0,0,0,1,0,0,0,-1⟩,⟨-1,0,0,0,-1,0,0,0,1⟩,⟨-1,0,0,0,0,1,0,1,0⟩,⟨-1,0,0,0,0,-1,0,-1,0⟩,⟨0,1,0,1,0,0,0,0,-1⟩,⟨0,1,0,-1,0,0,0,0,1⟩,⟨0,1,0,0,0,1,1,0,0⟩,⟨0,1,0,0,0,-1,-1,0,0⟩,⟨0,-1,0,1,0,0,0,0,1⟩,⟨0,-1,0,-1,0,0,0,0,-1⟩,⟨0,-1,0,0,0,1,-1,0,0⟩,⟨0,-1,0,0,0,-1,1,0,0⟩,⟨0,0,1,1,0,0,0,1,0⟩,⟨0,0,1,-1,0,0,0,-1,0⟩,⟨0,0,1,0,1,0,-1,0,0⟩,⟨0,0,1,0,-1,0,1,0,0⟩,⟨0,0,-1,1,0,0,0,-1,0⟩,⟨0,0,-1,-1,0,0,0,1,0⟩,⟨0,0,-1,0,1,0,1,0,0⟩,⟨0,0,-1,0,-1,0,-1,0,0⟩]
def TrB (t:Tr):Prop:=Bd 1 t.p0/\Bd 1 t.p1/\Bd 1 t.p2/\Bd 1 t.q0/\Bd 1 t.q1/\Bd 1 t.q2/\Bd 1 t.r0/\Bd 1 t.r1/\Bd 1 t.r2
noncomputable instance (n:Nat) (i:Int):Decidable (Bd n i):=by unfold Bd;exact inferInstance
theorem tr_bd:∀ t∈QS,TrB t:=by
 unfold TrB
 decide
def TrBd (m:Nat)(t:Tr):Prop:=Bd m t.p0/\Bd m t.p1/\Bd m t.p2/\Bd m t.q0/\Bd m t.q1/\Bd m t.q2/\Bd m t.r0/\Bd m t.r1/\Bd m t.r2
theorem TrB.bd {t:Tr}(h:TrB t):TrBd 1 t:=h
noncomputable def mulT (s t:Tr):Tr:=⟨s.p0*t.p0+s.p1*t.q0+s.p2*t.r0,s.p0*t.p1+s.p1*t.q1+s.p2*t.r1,s.p0*t.p2+s.p1*t.q2+s.p2*t.r2,
 s.q0*t.p0+s.q1*t.q0+s.q2*t.r0,s.q0*t.p1+s.q1*t.q1+s.q2*t.r1,s.q0*t.p2+s.q1*t.q2+s.q2*t.r2,
 s.r0*t.p0+s.r1*t.q0+s.r2*t.r0,s.r0*t.p1+s.r1*t.q1+s.r2*t.r1,s.r0*t.p2+s.r1*t.q2+s.r2*t.r2⟩
noncomputable def trT (s:Tr):Tr:=⟨s.p0,s.q0,s.r0,s.p1,s.q1,s.r1,s.p2,s.q2,s.r2⟩
theorem jx {x y z i j k:Int}{n m:Nat}(hx:Bd n x)(hy:Bd n y)(hz:Bd n z)(hi:Bd m i)(hj:Bd m j)(hk:Bd m k):Bd (n+m+2) (x*i+y*j+z*k) :=
 (((hx.mul hi).add (hy.mul hj)).add (hz.mul hk)).mono (by omega)
theorem qkU {m:Nat}{t:Tr}(h:TrBd m t):TrBd m (trT t):=by
 obtain ⟨h1,h2,h3,h4,h5,h6,h7,h8,h9⟩:=h
 exact ⟨h1,h4,h7,h2,h5,h8,h3,h6,h9⟩
theorem qdS {m n:Nat}{s t:Tr}(hs:TrBd m s)(ht:TrBd n t):TrBd (m+n+2) (mulT s t):=by
 obtain ⟨h1,h2,h3,h4,h5,h6,h7,h8,h9⟩:=hs
 obtain ⟨g1,g2,g3,g4,g5,g6,g7,g8,g9⟩:=ht
 exact ⟨jx h1 h2 h3 g1 g4 g7,jx h1 h2 h3 g2 g5 g8,jx h1 h2 h3 g3 g6 g9,jx h4 h5 h6 g1 g4 g7,jx h4 h5 h6 g2 g5 g8,jx h4 h5 h6 g3 g6 g9,jx h7 h8 h9 g1 g4 g7,jx h7 h8 h9 g2 g5 g8,jx h7 h8 h9 g3 g6 g9⟩
structure Sp3 where
 (x y z:Int)
 deriving DecidableEq
noncomputable def encS (s:Sp3):Ka:=S3 s.x s.y s.z
noncomputable def app (t:Tr)(s:Sp3):Sp3:=⟨s.x*t.p0+s.y*t.q0+s.z*t.r0,s.x*t.p1+s.y*t.q1+s.z*t.r1,s.x*t.p2+s.y*t.q2+s.z*t.r2⟩
noncomputable def addS (s t:Sp3):Sp3:=⟨s.x+t.x,s.y+t.y,s.z+t.z⟩
noncomputable def negS (s:Sp3):Sp3:=⟨-s.x,-s.y,-s.z⟩
def SpBd (n:Nat)(s:Sp3):Prop:=Bd n s.x/\Bd n s.y/\Bd n s.z
theorem yJ {t:Tr}{m n:Nat}(ht:TrBd m t){s:Sp3}(hs:SpBd n s)(hz:n+m<=134217728:=by decide):Qt [encT t,encS s]=some (encS (app t s)):=by
 obtain ⟨h1,h2,h3,h4,h5,h6,h7,h8,h9⟩:=ht
 obtain ⟨ha,hb,hc⟩:=hs
 simp only [Qt,Wz,S3,T3,encT,encS,app]
 simp_arith [qY (ha.ok h1 hz),qY (ha.ok h2 hz),qY (ha.ok h3 hz),qY (hb.ok h4 hz),qY (hb.ok h5 hz),qY (hb.ok h6 hz),qY (hc.ok h7 hz),qY (hc.ok h8 hz),qY (hc.ok h9 hz)]
noncomputable def rowP (t:Tr):Sp3:=⟨t.p0,t.p1,t.p2⟩
noncomputable def rowQ (t:Tr):Sp3:=⟨t.q0,t.q1,t.q2⟩
noncomputable def rowR (t:Tr):Sp3:=⟨t.r0,t.r1,t.r2⟩
theorem qeq (t:Tr):encT t=.tuple [encS (rowP t),encS (rowQ t),encS (rowR t)]:=rfl
theorem YZ {m:Nat}{t:Tr}(h:TrBd m t):SpBd m (rowP t)/\SpBd m (rowQ t)/\SpBd m (rowR t):=by
 obtain ⟨h1,h2,h3,h4,h5,h6,h7,h8,h9⟩:=h
 exact ⟨⟨h1,h2,h3⟩,⟨h4,h5,h6⟩,⟨h7,h8,h9⟩⟩
theorem qep (s t:Tr):encT (mulT s t)=.tuple [encS (app t (rowP s)),encS (app t (rowQ s)),encS (app t (rowR s))]:=rfl
theorem qhT {s t:Tr}{m n:Nat}(hs:TrBd m s)(ht:TrBd n t)(hz:m+n<=134217728:=by decide):Qg [encT s,encT t]=some (encT (mulT s t)):=by
 obtain ⟨a1,a2,a3⟩:=YZ hs
 have e1:=yJ ht a1 hz
 have e2:=yJ ht a2 hz
 have e3:=yJ ht a3 hz
 simp only [Qg,ZV,qep,qeq s]
 simp_arith [e1,e2,e3]
noncomputable def Z6 (a b:Sp3):Sp3:=⟨a.y*b.z-a.z*b.y,a.z*b.x-a.x*b.z,a.x*b.y-a.y*b.x⟩
theorem qcC {a b:Sp3}{n m:Nat}(ha:SpBd n a)(hb:SpBd m b)(hz:n+m<=134217728:=by decide):Zo [encS a,encS b]=some (encS (Z6 a b)):=by
 obtain ⟨a1,a2,a3⟩:=ha
 obtain ⟨b1,b2,b3⟩:=hb
 simp only [Zo,qbv,encS,S3,Z6]
 simp_arith [qY (a2.ok b3 hz),qY (a3.ok b2 hz),qY (a3.ok b1 hz),qY (a1.ok b3 hz),qY (a1.ok b2 hz),qY (a2.ok b1 hz)]
theorem qdO {a b:Sp3}{n m:Nat}(ha:SpBd n a)(hb:SpBd m b)(hz:n+m<=134217728:=by decide):zc [encS a,encS b]=some (encS (Z6 a b)):=qeO ha.1 ha.2.1 ha.2.2 hb.1 hb.2.1 hb.2.2 hz
theorem qg2:∀ t∈QS,Z6 (rowP t) (rowQ t)=rowR t:=by decide
noncomputable def encP (x:Sp3)(t:Tr):Ka:=.tuple [encS x,encS (rowP t),encS (rowQ t)]
theorem ixP0 (x:Sp3)(t:Tr):ixD (encP x t) (.int 0)=some (encS x):=rfl
theorem ixP1 (x:Sp3)(t:Tr):ixD (encP x t) (.int 1)=some (encS (rowP t)):=rfl
theorem ixP2 (x:Sp3)(t:Tr):ixD (encP x t) (.int 2)=some (encS (rowQ t)):=rfl
theorem ixS0 (x:Sp3):ixD (encS x) (.int 0)=some (.int x.x):=rfl
theorem ixS1 (x:Sp3):ixD (encS x) (.int 1)=some (.int x.y):=rfl
theorem ixS2 (x:Sp3):ixD (encS x) (.int 2)=some (.int x.z):=rfl
theorem isP (x:Sp3)(t:Tr):isiT "tuple" (encP x t)=true:=rfl
theorem eqvS (a:Sp3):Kq (encS a) (encS a)=true:=qjC _ _ _
theorem neP (x:Sp3)(t:Tr):neD (encP x t) (encP x t)=some (.bool false):=by
 have h:neD (encP x t) (encP x t)=some (.bool (!(Kq (encS x) (encS x)&&(Kq (encS (rowP t)) (encS (rowP t))&&(Kq (encS (rowQ t)) (encS (rowQ t))&&true))))):=rfl
 rw [h,eqvS,eqvS,eqvS]
 rfl
structure Tn (t:Tr):Prop where
 mem:t∈QS
 bd:TrBd 1 t
 bp:SpBd 1 (rowP t)
 bq:SpBd 1 (rowQ t)
 br:SpBd 1 (rowR t)
 cr:Z6 (rowP t) (rowQ t)=rowR t
theorem Tn.of {t:Tr}(h:t∈QS):Tn t :=
 have b:=(tr_bd t h).bd
 ⟨h,b,(YZ b).1,(YZ b).2.1,(YZ b).2.2,qg2 t h⟩
theorem outE {x:Sp3}{t:Tr}(h:Tn t):jZ [encP x t]=some (encS (rowR t)):=by
 have e:=qcC h.bp h.bq
 rw [h.cr] at e
 simp only [jZ,Wy]
 simp_arith [ixP1,ixP2,e]
theorem backE (t:Tr):Zg [encT t]=some (encT (trT t)):=by
 simp only [Zg,Jg,encT,trT,S3,T3]
 simp_arith []
theorem qjq (a b:Sp3):Jj [encS a,encS b]=some (encS (addS a b)):=by
 simp only [Jj,qbu,encS,S3,addS]
 simp_arith []
theorem qca (a:Sp3):QC [encS a]=some (encS (negS a)):=by
 simp only [QC,Yo,encS,S3,negS]
 simp_arith []
noncomputable def unV (t:Tr)(w:Int):Sp3:=if w=0 then rowP t else if w=1 then rowQ t else if w=2 then negS (rowP t) else negS (rowQ t)
noncomputable def beV (t:Tr)(w b:Int):Sp3:=if b=1 then rowR t else if b=-1 then negS (rowR t) else unV t w
noncomputable def nmB (b:Int):Str:=if b=1 then "Up" else if b=-1 then "Down" else "Join"
noncomputable def edV (t:Tr)(w:Int):Sp3:=Z6 (unV t w) (rowR t)
noncomputable def rwT (a b c:Sp3):Tr:=⟨a.x,a.y,a.z,b.x,b.y,b.z,c.x,c.y,c.z⟩
noncomputable def tuV (t:Tr)(w b:Int):Tr:=mulT (trT (rwT (unV t w) (rowR t) (edV t w))) (rwT (beV t w b) (Z6 (edV t w) (beV t w b)) (edV t w))
noncomputable def stV (t:Tr)(w b:Int):Tr:=rwT (app (tuV t w b) (rowP t)) (app (tuV t w b) (rowQ t)) (Z6 (app (tuV t w b) (rowP t)) (app (tuV t w b) (rowQ t)))
noncomputable def spV (x:Sp3)(t:Tr)(w b:Int):Sp3:=addS (addS x (unV t w)) (beV t w b)
noncomputable def Z4:List Int:=[0,1,2,3]
noncomputable def zT:List Int:=[-1,0,1]
noncomputable instance (n:Nat) (s:Sp3):Decidable (SpBd n s):=by unfold SpBd;exact inferInstance
theorem qgV:∀ t∈QS,∀ w∈Z4,∀ b∈zT,stV t w b∈QS:=by decide +kernel
theorem qjm:∀ t∈QS,∀ w∈Z4,SpBd 1 (unV t w)/\SpBd 1 (edV t w):=by decide +kernel
theorem qi5:∀ t∈QS,∀ w∈Z4,∀ b∈zT,SpBd 1 (beV t w b)/\SpBd 1 (Z6 (edV t w) (beV t w b)):=by decide +kernel
theorem unitE (x:Sp3)(t:Tr){w:Int}(hw:w∈Z4):ji [encP x t,.int w]=some (encS (unV t w)):=by
 simp only [Z4,Ko,Vt,or_false] at hw
 simp only [ji,Yp]
 rcases hw with rfl|rfl|rfl|rfl<;>simp_arith [ixP1,ixP2,qca]<;>rfl
theorem mt_j (ds:List Ka):mtD zB (objD "Join" :: ds)=QG (objD "Join" :: ds):=by kernel_rfl
theorem mt_u (ds:List Ka):mtD zB (objD "Up" :: ds)=Zn (objD "Up" :: ds):=by kernel_rfl
theorem mt_d (ds:List Ka):mtD zB (objD "Down" :: ds)=QF (objD "Down" :: ds):=by kernel_rfl
theorem goesE (t:Tr)(w:Int){b:Int}(hb:b∈zT):mtD zB [objD (nmB b),encS (unV t w),encS (rowR t)]=some (encS (beV t w b)):=by
 simp only [zT,Ko,Vt,or_false] at hb
 rcases hb with rfl|rfl|rfl
 ·show mtD zB [objD "Down", encS (unV t w),encS (rowR t)]=some (encS (negS (rowR t)))
  rw [mt_d]
  simp only [QF,ZR]
  simp_arith [qca]
 ·show mtD zB [objD "Join", encS (unV t w),encS (rowR t)]=some (encS (unV t w))
  rw [mt_j]
  simp only [QG,ZS]
  simp_arith []
 ·show mtD zB [objD "Up", encS (unV t w),encS (rowR t)]=some (encS (rowR t))
  rw [mt_u]
  simp only [Zn,jC]
  simp_arith []
theorem mkT3 (a b c:Sp3):VL [encS a,encS b,encS c]=encT (rwT a b c):=rfl
theorem qg1 {n:Nat}{a b c:Sp3}(ha:SpBd n a)(hb:SpBd n b)(hc:SpBd n c):TrBd n (rwT a b c):=⟨ha.1,ha.2.1,ha.2.2,hb.1,hb.2.1,hb.2.2,hc.1,hc.2.1,hc.2.2⟩
theorem ledE (x:Sp3){t:Tr}(h:Tn t){w b:Int}(hw:w∈Z4)(hb:b∈zT):Qx [objD (nmB b),encP x t,.int w]=some (encP (spV x t w b) (stV t w b)):=by
 obtain ⟨u1,u2⟩:=qjm t h.mem w hw
 obtain ⟨u3,u4⟩:=qi5 t h.mem w hw b hb
 have e1:=unitE x t hw
 have e2:=outE (x:=x) h
 have e3:=qcC u1 h.br
 have e4:=goesE t w hb
 have e5:=qcC u2 u3
 have e6:=backE (rwT (unV t w) (rowR t) (edV t w))
 have b1:=qkU (qg1 u1 h.br u2)
 have b2:=qg1 u3 u4 u2
 have e7:=qhT b1 b2
 have e8:=yJ (qdS b1 b2) h.bp
 have e9:=yJ (qdS b1 b2) h.bq
 have e3':Zo [encS (unV t w),encS (rowR t)]=some (encS (edV t w)):=e3
 simp only [Qx,JN]
 simp_arith [e1,e2,e3',e4,e5,mkT3,e6,e7,ixP0,ixP1,ixP2,qjq,e8,e9]
 rfl
noncomputable abbrev Sp:=Int×Int×Int
noncomputable def eS (s:Sp):Ka:=.tuple [.int s.1,.int s.2.1,.int s.2.2]
noncomputable def l3 (s:Sp):List Int:=[s.1,s.2.1,s.2.2]
noncomputable def b3:List Int->Sp
 | [a,b,c]=>(a,b,c)
 | _=>(0,0,0)
theorem qcZ (xs:List Sp):xs.map eS=(xs.map l3).map tI:=by rw [VD];rfl
theorem qaB {xs:List Sp}(h:xs.length<64):∃ ys:List Sp,Q8 [.list (xs.map eS)]=some (.list (ys.map eS))/\ys.Perm xs/\(ys.map l3).Pairwise (fun a b=>HT.lexLt b a=false):=by
 obtain ⟨mss,e,p,o⟩:=yI (nss:=xs.map l3) (by rw [Kj];exact h) (by
  intro ns hn
  obtain ⟨x,_,rfl⟩:=VM.mp hn
  exact fun z=>by cases z)
 have back:∀ m∈mss,(l3 ∘ b3) m=id m:=fun m hm=>by
  obtain ⟨x,_,rfl⟩:=VM.mp (p.mem_iff.mp hm)
  rfl
 have hm:(mss.map b3).map l3=mss:=by
  rw [VD]
  exact (UG back).trans (EV mss)
 refine ⟨mss.map b3,?_,?_,?_⟩
 ·rw [qcZ,e,qcZ,hm]
 ·have:=p.map b3
  rw [VD] at this
  have e2:xs.map (b3 ∘ l3)=xs:=(UG (fun x _=>rfl)).trans (EV xs)
  rwa [e2] at this
 ·rw [hm];exact o
theorem qjD (a b:Sp):Kq (eS a) (eS b)=decide (a=b):=by
 have:Kq (eS a) (eS b)=((a.1==b.1)&&((a.2.1==b.2.1)&&((a.2.2==b.2.2)&&true))):=rfl
 rw [this]
 obtain ⟨a1,a2,a3⟩:=a
 obtain ⟨b1,b2,b3⟩:=b
 by_cases h1:a1=b1<;>by_cases h2:a2=b2<;>by_cases h3:a3=b3<;>simp [h1,h2,h3]
theorem qjy (xs:List Sp):Km (xs.map eS)=true/\Kw (xs.map eS)<=1:=by rw [qcZ];exact J8 _
theorem qbL {α:Type}(enc:α->Ka){g:Ka->Rho->Option Rho}{u:Rho->Option Out}(I:List α->Rho->Prop)(all:List α)(step:∀ a∈all,∀ done ρ,done.length<all.length->I done ρ->∃ ρ',ob (g (enc a) ρ) u=some (.nx ρ')/\I (done++[a]) ρ') :
  ∀ (as done:List α) (ρ:Rho),(∀ a∈as,a∈all)->done.length+as.length=all.length->I done ρ->∃ ρ',forD g u (as.map enc) ρ=some (.nx ρ')/\I (done++as) ρ'
 | [],done,ρ,_,_,h=>⟨ρ,rfl,by rw [Vd];exact h⟩
 | a::as,done,ρ,hm,hl,h=>by
  rw [KA] at hl
  obtain ⟨ρ1,e1,h1⟩:=step a (hm a (.head _)) done ρ (by omega) h
  obtain ⟨ρ2,e2,h2⟩:=qbL enc I all step as (done++[a]) ρ1 (fun x hx=>hm x (.tail _ hx)) (by rw [KG,V1];omega) h1
  refine ⟨ρ2,?_,by rw [Ew] at h2;exact h2⟩
  rw [Kt,j5,e1,yj]
  exact e2
theorem yh {α:Type}(enc:α->Ka){g:Ka->Rho->Option Rho}{u:Rho->Option Out}(I:List α->Rho->Prop)(as:List α)(ρ:Rho)(h:I [] ρ)(step:∀ a∈as,∀ done ρ,done.length<as.length->I done ρ->∃ ρ',ob (g (enc a) ρ) u=some (.nx ρ')/\I (done++[a]) ρ') :
  ∃ ρ',forD g u (as.map enc) ρ=some (.nx ρ')/\I as ρ':=by
 obtain ⟨ρ',e,i⟩:=qbL enc I as step as [] ρ (fun _ h=>h) (by simp) h
 exact ⟨ρ',e,by rwa [List.nil_append] at i⟩
theorem qac {α:Type}(enc:α->Ka){tt:Rho->Option Bool}{te:Rho->Option Ka}{ρ:Rho}(p:α->Bool)(f:α->Ka):∀ (as:List α),(∀ a∈as,tt (ρ++[some (enc a)])=some (p a))->(∀ a∈as,p a=true->te (ρ++[some (enc a)])=some (f a))->QW tt te ρ (as.map enc)=some ((as.filter p).map f)
 | [],_,_=>rfl
 | a::as,h1,h2=>by
  have ih:=qac enc p f as (fun x hx=>h1 x (.tail _ hx)) (fun x hx=>h2 x (.tail _ hx))
  rw [Kt,qdn,h1 a (.head _),List.filter_cons]
  cases e:p a with
  | true=>rw [qdq,h2 a (.head _) e,ih];rfl
  | false=>rw [qdp,ih];rfl
theorem qfi {α:Type}(xs:List α)(v:α):atI (xs++[v]) (-1)=some v:=by
 unfold atI ixN
 rw [if_neg (by decide),if_pos (by rw [KG,V1];omega)]
 have e:((-1:Int)+((xs++[v]).length:Int)).toNat=xs.length:=by
  rw [KG,V1];omega
 show (xs++[v])[((-1:Int)+((xs++[v]).length:Int)).toNat]?=some v
 rw [e,VR (Kr _)]
 simp
theorem Q4 {α β:Type}{f:α->β}{xs:List α}{k:Int}{x:α}(h0:0<=k)(h:xs[k.toNat]?=some x):atI (xs.map f) k=some (f x):=by
 have e1:((k.toNat:Nat):Int)=k:=by omega
 have:=YJ (xs:=xs.map f) (j:=k.toNat) (v:=f x) (by rw [K1,h];rfl)
 rwa [e1] at this
theorem Ym {u w:Rho->Option Out}{ρ ρ':Rho}{r:Option Out}(h:u ρ=some (.nx ρ'))(h2:w ρ'=r):seqO u w ρ=r:=by rw [qgT,h,qbD];exact h2
theorem qbM {α:Type}(enc:α->Ka){g:Ka->Rho->Option Rho}{u:Rho->Option Out}(I:List α->Rho->Prop)(all:List α)(ρ:Rho)(h0:I [] ρ)(step:∀ a done rest ρ,all=done++a::rest->I done ρ->∃ ρ',ob (g (enc a) ρ) u=some (.nx ρ')/\I (done++[a]) ρ') :
  ∃ ρ',forD g u (all.map enc) ρ=some (.nx ρ')/\I all ρ':=by
 have key:∀ (as done:List α) (ρ:Rho),all=done++as->I done ρ->∃ ρ',forD g u (as.map enc) ρ=some (.nx ρ')/\I all ρ':=by
  intro as
  induction as with
  | nil=>intro done ρ e h;rw [Vd] at e;subst e;exact ⟨ρ,rfl,h⟩
  | cons a as ih =>
   intro done ρ e h
   obtain ⟨ρ1,e1,h1⟩:=step a done as ρ e h
   obtain ⟨ρ2,e2,h2⟩:=ih (done++[a]) ρ1 (by rw [e,Ew];rfl) h1
   refine ⟨ρ2,?_,h2⟩
   rw [Kt,j5,e1,yj]
   exact e2
 exact key all [] ρ rfl h0
theorem ixe0 (s:Sp):ixD (eS s) (.int 0)=some (.int s.1):=rfl
theorem ixe1 (s:Sp):ixD (eS s) (.int 1)=some (.int s.2.1):=rfl
theorem ixe2 (s:Sp):ixD (eS s) (.int 2)=some (.int s.2.2):=rfl
theorem qfK (i:Int):flat (.int i)=true:=rfl
theorem qgO (n:Nat):rngL 0 n=(Xg n).map fun k=>KJ (k:Nat):=by
 have:∀ (n m:Nat),rngL (m:Nat) n=(List.range' m n).map fun k=>KJ (k:Nat):=by
  intro n
  induction n with
  | zero=>intro m;rfl
  | succ n ih =>
   intro m
   rw [rngL,List.range'_succ,Kt,← ih (m+1)]
   rfl
 rw [List.range_eq_range']
 exact this n 0
theorem cut_eq (ns:List Int){a b:Nat}:∃ ms:List Int,sliD (.list (ns.map .int)) (some (a:Int)) (some (b:Int))=some (.list (ms.map .int))/\ms.length<=b-a:=by
 refine ⟨(ns.drop (HT.sIx (ns.map KJ).length 0 (some (a:Int)))).take (HT.sIx (ns.map KJ).length (ns.map KJ).length (some (b:Int))-HT.sIx (ns.map KJ).length 0 (some (a:Int))),?_,?_⟩
 ·show some (VQ (cutD (ns.map .int) (some (a:Int)) (some (b:Int))))=_
  unfold cutD
  rw [← En,← E9]
 ·rw [U9,UQ,HT.yH,HT.yH,Kj]
  omega
theorem qdx {α:Type}{xs:List α}(x:Int)(h:0<xs.length):∃ y∈xs,xs[(x % (xs.length:Int)).toNat]?=some y:=by
 have a1:=Xo x (b:=(xs.length:Int)) (by omega)
 have a2:=XI x (b:=(xs.length:Int)) (by omega)
 have hlt:(x % (xs.length:Int)).toNat<xs.length:=by omega
 exact ⟨xs[(x % (xs.length:Int)).toNat],List.getElem_mem hlt,Kn hlt⟩
noncomputable abbrev Ce:=Int×Int
noncomputable def eC (c:Ce):Ka:=.tuple [.int c.1,.int c.2]
noncomputable def l2 (c:Ce):List Int:=[c.1,c.2]
noncomputable def b2:List Int->Ce
 | [a,b]=>(a,b)
 | _=>(0,0)
theorem qfb {xs:List Ce}(h:xs.length<64):∃ ys:List Ce,Q8 [.list (xs.map eC)]=some (.list (ys.map eC))/\ys.Perm xs/\(ys.map l2).Pairwise (fun a b=>HT.lexLt b a=false):=by
 obtain ⟨mss,e,p,o⟩:=yI (nss:=xs.map l2) (by rw [Kj];exact h) (by
  intro ns hn
  obtain ⟨x,_,rfl⟩:=VM.mp hn
  exact fun z=>by cases z)
 have me:∀ zs:List Ce,zs.map eC=(zs.map l2).map tI:=fun zs=>by rw [VD];rfl
 have hm:(mss.map b2).map l2=mss:=by
  rw [VD]
  refine (UG fun m hm=>?_).trans (EV mss)
  obtain ⟨x,_,rfl⟩:=VM.mp (p.mem_iff.mp hm)
  rfl
 refine ⟨mss.map b2,?_,?_,?_⟩
 ·rw [me,e,me,hm]
 ·have:=p.map b2
  rw [VD] at this
  have e2:xs.map (b2 ∘ l2)=xs:=(UG (fun x _=>rfl)).trans (EV xs)
  rwa [e2] at this
 ·rw [hm];exact o
theorem yV (a b:Ce):Kq (eC a) (eC b)=decide (a=b):=by
 have:Kq (eC a) (eC b)=((a.1==b.1)&&((a.2==b.2)&&true)):=rfl
 rw [this]
 obtain ⟨a1,a2⟩:=a
 obtain ⟨b1,b2⟩:=b
 by_cases h1:a1=b1<;>by_cases h2:a2=b2<;>simp [h1,h2]
theorem qfp:∀ xs:List Ce,Km (xs.map eC)=true/\Kw (xs.map eC)<=1:=fun xs=>by
 have me:xs.map eC=(xs.map l2).map tI:=by rw [VD];rfl
 rw [me];exact J8 _
theorem qa0 (xs:List Ce)(q:Ce):inOk (xs.map eC) (eC q)=true:=by
 unfold inOk
 rw [(qfp xs).1,Bool.true_and,Kp]
 exact ⟨rfl,rfl⟩
theorem qfT (xs:List Ce)(q:Ce):inL (xs.map eC) (eC q)=decide (q∈xs):=by
 unfold inL
 rw [List.any_map]
 induction xs with
 | nil=>rfl
 | cons x xs ih =>
  rw [Uz,ih]
  show (Kq (eC x) (eC q)||_)=_
  rw [yV]
  by_cases h:x=q
  ·subst h;rw [decide_eq_true rfl,NU,decide_eq_true VJ]
  ·rw [decide_eq_false h,X3]
   by_cases h2:q∈xs
   ·rw [decide_eq_true h2,decide_eq_true (Vr _ h2)]
   ·rw [decide_eq_false h2,decide_eq_false (by rw [Ko];rintro (rfl|z);exact h rfl;exact h2 z)]
theorem qjM (xs:List Ce)(q:Ce):inD (eC q) (.list (xs.map eC))=some (.bool (decide (q∈xs))):=by
 show (if inOk (xs.map eC) (eC q)=true then some (X6 (inL (xs.map eC) (eC q))) else none)=_
 rw [qa0,qfT];rfl
theorem qh9 (xs:List Ce)(q:Ce):ninD (eC q) (.list (xs.map eC))=some (.bool (!decide (q∈xs))):=by
 show (if inOk (xs.map eC) (eC q)=true then some (X6 (!inL (xs.map eC) (eC q))) else none)=_
 rw [qa0,qfT];rfl
theorem ixc0 (s:Ce):ixD (eC s) (.int 0)=some (.int s.1):=rfl
theorem ixc1 (s:Ce):ixD (eC s) (.int 1)=some (.int s.2):=rfl
theorem qaW (s:Ce):flat (eC s)=true:=rfl
theorem qbR {xs:List Ce}{q:Ce}(h:q∈xs)(hl:xs.length<=900):jw (.list (xs.map eC)) (eC q)=some (.int (xs.idxOf q:Nat)):=by
 have e:(xs.map eC).findIdx? (fun y=>Kq y (eC q))=some (xs.idxOf q):=by
  clear hl
  induction xs with
  | nil=>cases h
  | cons x xs ih =>
   rw [Kt,List.findIdx?_cons,yV,List.idxOf_cons]
   by_cases hx:x=q
   ·subst hx;simp
   ·have hq:q∈xs:=by rcases Ko.mp h with z|z;exact absurd z.symm hx;exact z
    have e1:(x==q)=false:=beq_eq_false_iff_ne.mpr hx
    rw [decide_eq_false hx,ih hq,e1]
    rfl
 show (if inOk (xs.map eC) (eC q)=true/\(xs.map eC).length<=1000 then ob ((xs.map eC).findIdx? fun y=>Kq y (eC q)) (fun j=>some (KJ (j:Nat))) else none)=_
 rw [if_pos ⟨qa0 _ _,by rw [Kj];omega⟩,e]
 rfl
noncomputable abbrev Jn:=(Ce×Ce)×Int
noncomputable def eP (p:Ce×Ce):Ka:=.tuple [eC p.1,eC p.2]
noncomputable def kP (p:Ce×Ce):KX:=.inr [.inr [p.1.1,p.1.2],.inr [p.2.1,p.2.2]]
noncomputable def eJ (js:List Jn):List (Ka×PyData):=js.map fun p=>(eP p.1,.int p.2)
theorem qja (p:Ce×Ce):kxD (kP p)=eP p:=rfl
theorem qfF (p q:Ce×Ce):Kq (eP p) (eP q)=decide (p=q):=by
 have:Kq (eP p) (eP q)=(Kq (eC p.1) (eC q.1)&&(Kq (eC p.2) (eC q.2)&&true)):=rfl
 rw [this,yV,yV]
 obtain ⟨a,b⟩:=p
 obtain ⟨c,d⟩:=q
 by_cases h1:a=c<;>by_cases h2:b=d<;>simp [h1,h2]
theorem qhF (q:Ce×Ce):∀ js:List Jn,zL (eJ js) (kP q)=(js.find? fun p=>decide (p.1=q)).map fun p=>KJ p.2
 | []=>rfl
 | p::js=>by
  have ih:=qhF q js
  unfold zL eJ at *
  rw [Kt,Uo,Uo,qja,qfF]
  rw [qja] at ih
  by_cases h:p.1=q
  ·rw [decide_eq_true h];rfl
  ·rw [decide_eq_false h];exact ih
theorem Ji {α:Type}(enc:α->Ka){k:Nat}{g:Ka->Rho->Option Rho}{te:Rho->Option Ka}{ρ:Rho}(f:α->Ka):∀ (as:List α),(∀ a∈as,ob (g (enc a) (ρ++Vg k none)) te=some (f a))->Qf k g tT te ρ (as.map enc)=some (as.map f)
 | [],_=>rfl
 | a::as,h=>by
  have ih:=Ji enc f as fun x hx=>h x (.tail _ hx)
  obtain ⟨ρ1,e1,e2⟩:=qd (h a (.head _))
  rw [Kt,qds,e1,qdm]
  show qbF (some true) _ _=_
  rw [qdk,e2,ih]
  rfl
theorem qee {α β:Type}(f:α->Ka)(g:β->Ka):∀ (as:List α) (bs:List β),zpL (as.map f) (bs.map g)=(as.zip bs).map fun p=>.tuple [f p.1,g p.2]
 | [],bs=>by rw [Ud,qha];rfl
 | _::_,[]=>by rw [Ud,qhb];rfl
 | a::as,b::bs=>by rw [Kt,Kt,qjn,qee f g as bs];rfl
def Yw (d:Ka):Prop:=Kq d d=true
theorem Jq {α:Type}{f:α->Ka}(h:∀ a,Yw (f a)):∀ xs:List α,Yw (.list (xs.map f))
 | []=>rfl
 | x::xs=>by
  have:Kq (.list ((x::xs).map f)) (.list ((x::xs).map f))=(Kq (f x) (f x)&&Kq (.list (xs.map f)) (.list (xs.map f))):=rfl
  unfold Yw
  rw [this,h x,Jq h xs]
  rfl
theorem qgS (i:Int):Yw (.int i):=by show (i==i)=true;simp
theorem qiM (c:Ce):Yw (eC c):=by unfold Yw;rw [yV,decide_eq_true rfl]
theorem qiN (c:Sp):Yw (eS c):=by unfold Yw;rw [qjD,decide_eq_true rfl]
theorem jf:∀ xs:List Int,Km (xs.map .int)=true/\Kw (xs.map .int)=0
 | []=>⟨rfl,rfl⟩
 | x::xs=>⟨(jf xs).1,by
   have:Kw ((x::xs).map .int)=max 0 (Kw (xs.map .int)):=rfl
   rw [this,(jf xs).2];rfl⟩
def Adj (a b:Ce):Prop:=b=(a.1+1,a.2)\/b=(a.1,a.2+1)
noncomputable def bs (w:Nat)(c:Ce):Ce:=match w with
 | 0=>(c.1+1,c.2)
 | 1=>(c.1,c.2+1)
 | 2=>(c.1-1,c.2)
 | _=>(c.1,c.2-1)
theorem emod4 (x:Int):∃ w:Nat,w<4/\x % 4=(w:Nat):=⟨(x % 4).toNat,by omega,by omega⟩
noncomputable def pk (w:Nat)(c:Ce):Ce×Ce:=match w with
 | 0=>(c,bs 0 c)
 | 1=>(c,bs 1 c)
 | 2=>(bs 2 c,c)
 | _=>(bs 3 c,c)
theorem ltC (a b:Ce):ltX (eC a) (eC b)=some (if a.1=b.1 then decide (a.2<b.2) else decide (a.1<b.1)):=by
 have:ltX (eC a) (eC b)=if Kq (.int a.1) (.int b.1)=true then (if Kq (.int a.2) (.int b.2)=true then some false else some (decide (a.2<b.2))) else some (decide (a.1<b.1)):=by
  simp only [eC,ltX,ltXs]
 have e:∀ x y:Int,(Kq (.int x) (.int y)=true)=(x=y):=fun x y=>by
  have:Kq (.int x) (.int y)=(x==y):=rfl
  rw [this];simp
 rw [this]
 simp only [e]
 by_cases h1:a.1=b.1
 ·rw [if_pos h1,if_pos h1]
  by_cases h2:a.2=b.2
  ·rw [if_pos h2,decide_eq_false (by omega)]
  ·rw [if_neg h2]
 ·rw [if_neg h1,if_neg h1]
theorem gtC (a b:Ce):gtX (eC a) (eC b)=some (if a.1=b.1 then decide (a.2 > b.2) else decide (a.1 > b.1)):=by
 have:gtX (eC a) (eC b)=if Kq (.int a.1) (.int b.1)=true then (if Kq (.int a.2) (.int b.2)=true then some false else some (decide (a.2 > b.2))) else some (decide (a.1 > b.1)):=by
  simp only [eC,gtX,gtXs]
 have e:∀ x y:Int,(Kq (.int x) (.int y)=true)=(x=y):=fun x y=>by
  have:Kq (.int x) (.int y)=(x==y):=rfl
  rw [this];simp
 rw [this]
 simp only [e]
 by_cases h1:a.1=b.1
 ·rw [if_pos h1,if_pos h1]
  by_cases h2:a.2=b.2
  ·rw [if_pos h2,decide_eq_false (by omega)]
  ·rw [if_neg h2]
 ·rw [if_neg h1,if_neg h1]
theorem cmpC {x y:Ce}(h:x.1<y.1\/(x.1=y.1/\x.2<y.2)):ltX (eC x) (eC y)=some true/\ltX (eC y) (eC x)=some false/\gtX (eC y) (eC x)=some true/\gtX (eC x) (eC y)=some false:=by
 rw [ltC,ltC,gtC,gtC]
 by_cases e:x.1=y.1
 ·rw [if_pos e,if_pos e.symm,if_pos e.symm,if_pos e,decide_eq_true (by omega:x.2<y.2),decide_eq_false (by omega:¬ y.2<x.2)]
  exact ⟨rfl,rfl,rfl,rfl⟩
 ·have e':¬ y.1=x.1:=fun z=>e z.symm
  rw [if_neg e,if_neg e',if_neg e',if_neg e,decide_eq_true (by omega:x.1<y.1),decide_eq_false (by omega:¬ y.1<x.1)]
  exact ⟨rfl,rfl,rfl,rfl⟩
theorem minC {a b:Ce}(h:Adj a b):jz [eC a,eC b]=some (eC a)/\jz [eC b,eC a]=some (eC a)/\jy [eC a,eC b]=some (eC b)/\jy [eC b,eC a]=some (eC b):=by
 have c:∀ x y:Ce,K5 (eC x)=true/\K5 (eC y)=true/\(eC y).depth<=50:=fun x y=>⟨rfl,rfl,by show (1:Nat)<=50;decide⟩
 obtain ⟨k1,k2,k3,k4⟩:=cmpC (x:=a) (y:=b) (by rcases h with rfl|rfl<;>dsimp only<;>omega)
 rw [wZ,wZ,wY,wY,if_pos (c _ _),if_pos (c _ _),if_pos (c _ _),if_pos (c _ _),k1,k2,k3,k4]
 exact ⟨rfl,rfl,rfl,rfl⟩
theorem qgD (c:Ce){w:Nat}(hw:w<4):Adj (pk w c).1 (pk w c).2/\(pk w c=(c,bs w c)\/pk w c=(bs w c,c)):=by
 have h:w=0\/w=1\/w=2\/w=3:=by omega
 obtain ⟨x,y⟩:=c
 rcases h with rfl|rfl|rfl|rfl<;>simp [pk,bs,Adj]
theorem mm_eq (c:Ce){w:Nat}(hw:w<4):jz [eC c,eC (bs w c)]=some (eC (pk w c).1)/\jy [eC c,eC (bs w c)]=some (eC (pk w c).2):=by
 obtain ⟨h1,h2⟩:=qgD c hw
 have m:=minC h1
 rcases h2 with e|e<;>rw [e] at m ⊢
 ·exact ⟨m.1,m.2.2.1⟩
 ·exact ⟨m.2.1,m.2.2.2⟩
noncomputable def jn (S:List Ce)(p:Jn):Sp:=((S.idxOf p.1.1:Nat),(S.idxOf p.1.2:Nat),p.2)
abbrev RisC (S:List Ce):Prop:=(S.map l2).Pairwise (fun a b=>HT.lexLt b a=false)
abbrev RisS (J:List Sp):Prop:=(J.map l3).Pairwise (fun a b=>HT.lexLt b a=false)
noncomputable def wy (a b:Ce):Int:=if b.1=a.1+1 then 0 else 1
theorem stepI {a b:Ce}(h:Adj a b):∃ d1 d2,zA [eC a,eC b]=some d1/\Q9 Zm d1=some (.int (wy a b))/\zA [eC b,eC a]=some d2/\Q9 Zm d2=some (.int (wy a b+2)):=by
 have st:∀ x y:Ce,zA [eC x,eC y]=some (.tuple [.int (y.1-x.1),.int (y.2-x.2)]):=fun x y=>by
  simp only [zA,ZW]
  simp_arith [ixc0,ixc1]
 have k0:Q9 Zm (.tuple [.int 1,.int 0])=some (.int 0):=by kernel_rfl
 have k1:Q9 Zm (.tuple [.int 0,.int 1])=some (.int 1):=by kernel_rfl
 have k2:Q9 Zm (.tuple [.int (-1),.int 0])=some (.int 2):=by kernel_rfl
 have k3:Q9 Zm (.tuple [.int 0,.int (-1)])=some (.int 3):=by kernel_rfl
 obtain ⟨x,y⟩:=a
 rcases h with rfl|rfl
 ·have e1:x+1-x=1:=by omega
  have e2:x-(x+1)=-1:=by omega
  have e3:y-y=0:=by omega
  have ew:wy (x,y) (x+1,y)=0:=by simp [wy]
  refine ⟨_,_,st _ _,?_,st _ _,?_⟩<;>rw [ew]<;>dsimp only<;>simp only [e1,e2,e3]
  ·exact k0
  ·exact k2
 ·have e1:y+1-y=1:=by omega
  have e2:y-(y+1)=-1:=by omega
  have e3:x-x=0:=by omega
  have ew:wy (x,y) (x,y+1)=1:=by simp [wy];omega
  refine ⟨_,_,st _ _,?_,st _ _,?_⟩<;>rw [ew]<;>dsimp only<;>simp only [e1,e2,e3]
  ·exact k1
  ·exact k3
def Jok (S:List Ce)(t:Sp):Prop:=0<=t.1/\0<=t.2.1/\∃ a b,S[t.1.toNat]?=some a/\S[t.2.1.toNat]?=some b/\Adj a b
noncomputable def nbF (S:List Ce)(k:Int)(t:Sp):Option Sp:=match S[t.1.toNat]?,S[t.2.1.toNat]? with
 | some a,some b=>if t.1=k then some (wy a b,t.2.1,t.2.2) else if t.2.1=k then some (wy a b+2,t.1,t.2.2) else none
 | _,_=>none
theorem JD {S:List Ce}{k:Int}{t:Sp}{a b:Ce}(ha:S[t.1.toNat]?=some a)(hb:S[t.2.1.toNat]?=some b):nbF S k t=if t.1=k then some (wy a b,t.2.1,t.2.2) else if t.2.1=k then some (wy a b+2,t.1,t.2.2) else none:=by
 unfold nbF;rw [ha,hb]
theorem qjr {a b:Ce}(h:Adj a b):a≠b:=by
 obtain ⟨x,y⟩:=a
 rcases h with rfl|rfl<;>simp<;>omega
theorem in2 (k i j:Int):inD (.int k) (.tuple [.int i,.int j])=some (.bool ((i==k)||((j==k)||false))):=rfl
theorem qj6 {S:List Ce}{J:List Sp}(hJ:∀ t∈J,Jok S t)(hl:J.length<64){k:Int}{r:Ka}(es:Q8 [.list ((J.filterMap (nbF S k)).map eS)]=some r):QL [.tuple [.list (S.map eC),.list (J.map eS)],.int k]=some r:=by
 obtain ⟨ρ',e,o4,o5,o6,o7,rfl⟩:=yh eS (g:=unpD 3 (gsC (gNm 4) (gsC (gNm 5) (gsC (gNm 6) gsN)))) (u:=jW)
  (fun done ρ=>∃ o4 o5 o6 o7:Option Ka,ρ=[some (.tuple [.list (S.map eC),.list (J.map eS)]),some (.int k),some (.list (S.map eC)),some (.list ((done.filterMap (nbF S k)).map eS)),o4,o5,o6,o7]) J [some (.tuple [.list (S.map eC),.list (J.map eS)]),some (.int k),some (.list (S.map eC)),some (.list []),none,none,none,none] ⟨none,none,none,none,rfl⟩ (by
   rintro t ht done ρ hdl ⟨o4,o5,o6,o7,rfl⟩
   obtain ⟨p1,p2,a,b,ea,eb,ad⟩:=hJ t ht
   obtain ⟨d1,d2,s1,t1,s2,t2⟩:=stepI ad
   have x1:atI (S.map eC) t.1=some (eC a):=Q4 p1 ea
   have x2:atI (S.map eC) t.2.1=some (eC b):=Q4 p2 eb
   have hz:((done.filterMap (nbF S k)).map eS).length<1000:=by
    rw [Kj]
    have:=U0 (nbF S k) done
    omega
   have hn:=JD (k:=k) ea eb
   have hu:unpD 3 (gsC (gNm 4) (gsC (gNm 5) (gsC (gNm 6) gsN))) (eS t) [some (.tuple [.list (S.map eC),.list (J.map eS)]),some (.int k),some (.list (S.map eC)),some (.list ((done.filterMap (nbF S k)).map eS)),o4,o5,o6,o7]=some [some (.tuple [.list (S.map eC),.list (J.map eS)]),some (.int k),some (.list (S.map eC)),some (.list ((done.filterMap (nbF S k)).map eS)),some (.int t.1),some (.int t.2.1),some (.int t.2.2),o7]:=rfl
   rw [hu,ob_s]
   rw [E3]
   by_cases h1:t.1=k
   ·have x3:atI (S.map eC) k=some (eC a):=by rw [← h1];exact x1
    rw [if_pos h1] at hn
    refine ⟨_,?_,some (.int t.1),some (.int t.2.1),some (.int t.2.2),some (.int t.2.1),rfl⟩
    have q1:(t.1==k)=true:=by simp [h1]
    have q2:(k==t.1)=true:=by simp [h1]
    simp_arith [in2,q1,q2,x3,x2,s1,t1,hz]
    simp only [Ve,VP,Xn,hn,Kt,Ud,eS]
   ·rw [if_neg h1] at hn
    have q1:(t.1==k)=false:=by simp [h1]
    have q2:(k==t.1)=false:=by simp;omega
    by_cases h2:t.2.1=k
    ·have x3:atI (S.map eC) k=some (eC b):=by rw [← h2];exact x2
     rw [if_pos h2] at hn
     refine ⟨_,?_,some (.int t.1),some (.int t.2.1),some (.int t.2.2),some (.int t.1),rfl⟩
     have q3:(t.2.1==k)=true:=by simp [h2]
     simp_arith [in2,q1,q2,q3,x3,x1,s2,t2,hz]
     simp only [Ve,VP,Xn,hn,Kt,Ud,eS]
    ·rw [if_neg h2] at hn
     refine ⟨_,?_,some (.int t.1),some (.int t.2.1),some (.int t.2.2),o7,rfl⟩
     have q3:(t.2.1==k)=false:=by simp [h2]
     simp_arith [in2,q1,q3]
     simp only [Ve,VP,Xn,hn,Kt,Ud,Vd])
 simp only [QL,jF]
 simp_arith [e,es]
theorem yS (ns:List Int)(k:Int)(hk:0<=k):qW [.list (ns.map .int),.int k]=some (.int (Z0 ns k)):=by
 simp only [qW,j9]
 simp_arith []
 by_cases h:k<((ns.map KJ).length:Int)
 ·have h':k.toNat<ns.length:=by rw [Kj] at h;omega
  have e:atI (ns.map KJ) k=some (.int (Z0 ns k)):=by
   have e1:((k.toNat:Nat):Int)=k:=by omega
   have:=YJ (xs:=ns.map KJ) (j:=k.toNat) (v:=.int (Z0 ns k)) (by
    rw [K1,Kn h']
    unfold Z0
    rw [Ug,Kn h']
    rfl)
   rw [e1] at this
   exact this
  simp_arith [decide_eq_true h,e]
 ·have h':¬ k.toNat<ns.length:=by rw [Kj] at h;omega
  have e:Z0 ns k=0:=by
   unfold Z0
   rw [Ug,UT (by omega)]
   rfl
  simp_arith [decide_eq_false h,e]
noncomputable def sumS (a:Sp3)(k:Int)(c:Sp3):Sp3:=⟨a.x+k*c.x,a.y+k*c.y,a.z+k*c.z⟩
noncomputable def dotS (a c:Sp3):Int:=a.x*c.x+a.y*c.y+a.z*c.z
theorem sumE {n m:Nat}(a:Sp3){k:Int}{c:Sp3}(hk:Bd n k)(hc:SpBd m c)(hz:n+m<=134217728:=by decide):zy [encS a,.int k,encS c]=some (encS (sumS a k c)):=by
 obtain ⟨c1,c2,c3⟩:=hc
 simp only [zy,JQ]
 simp_arith [ixS0,ixS1,ixS2,qY (hk.ok c1 hz),qY (hk.ok c2 hz),qY (hk.ok c3 hz)]
 rfl
theorem dotE {n m:Nat}{a c:Sp3}(ha:SpBd n a)(hc:SpBd m c)(hz:n+m<=134217728:=by decide):zW [encS a,encS c]=some (.int (dotS a c)):=by
 obtain ⟨a1,a2,a3⟩:=ha
 obtain ⟨c1,c2,c3⟩:=hc
 simp only [zW,jD]
 simp_arith [ixS0,ixS1,ixS2,qY (a1.ok c1 hz),qY (a2.ok c2 hz),qY (a3.ok c3 hz)]
 rfl
theorem sum0 (a:Sp3):sumS ⟨0,0,0⟩ 1 a=a:=by
 unfold sumS
 cases a
 congr 1<;>dsimp only<;>omega
theorem sumN (a:Sp3):sumS ⟨0,0,0⟩ (-1) a=negS a:=by
 unfold sumS negS
 congr 1<;>dsimp only<;>omega
theorem sum1 (a b:Sp3):sumS a 1 b=addS a b:=by
 unfold sumS addS
 congr 1<;>omega
theorem qj5 (x:Sp3){t:Tr}(h:Tn t){w:Int}(hw:w∈Z4):Zf [encP x t,.int w]=some (encS (unV t w)):=by
 simp only [Z4,Ko,Vt,or_false] at hw
 have b1:Bd 1 1:=by decide
 have b2:Bd 1 (-1):=by decide
 have e1:=sumE ⟨0,0,0⟩ b1 h.bp
 have e2:=sumE ⟨0,0,0⟩ b1 h.bq
 have e3:=sumE ⟨0,0,0⟩ b2 h.bp
 have e4:=sumE ⟨0,0,0⟩ b2 h.bq
 have k0:mulD (.int 2) (.int (0 / 2))=some (.int 0):=rfl
 have k1:mulD (.int 2) (.int (1 / 2))=some (.int 0):=rfl
 have k2:mulD (.int 2) (.int (2 / 2))=some (.int 2):=rfl
 have k3:mulD (.int 2) (.int (3 / 2))=some (.int 2):=rfl
 have i0:ixD (encP x t) (.int (1+0 % 2))=some (encS (rowP t)):=rfl
 have i1:ixD (encP x t) (.int (1+1 % 2))=some (encS (rowQ t)):=rfl
 have i2:ixD (encP x t) (.int (1+2 % 2))=some (encS (rowP t)):=rfl
 have i3:ixD (encP x t) (.int (1+3 % 2))=some (encS (rowQ t)):=rfl
 have z:VL [.int 0,.int 0,.int 0]=encS ⟨0,0,0⟩:=rfl
 simp only [Zf,Jf]
 rcases hw with rfl|rfl|rfl|rfl
 ·simp_arith [k0,i0,z,e1,sum0]
  rfl
 ·simp_arith [k1,i1,z,e2,sum0]
  rfl
 ·simp_arith [k2,i2,z,e3,sumN]
  rfl
 ·simp_arith [k3,i3,z,e4,sumN]
  rfl
theorem on_eq:∀ t∈QS,∀ w∈Z4,∀ b∈zT,b≠0->sumS ⟨0,0,0⟩ b (rowR t)=beV t w b:=by decide +kernel
theorem qjB:∀ t∈QS,∀ w∈Z4,Bd 1 (dotS (rowP t) (unV t w))/\Bd 1 (dotS (rowP t) (edV t w))/\Bd 1 (dotS (rowQ t) (unV t w))/\Bd 1 (dotS (rowQ t) (edV t w)):=by decide +kernel
theorem qiU:∀ t∈QS,∀ w∈Z4,∀ b∈zT,sumS (sumS ⟨0,0,0⟩ (dotS (rowP t) (unV t w)) (beV t w b)) (dotS (rowP t) (edV t w)) (edV t w)=rowP (stV t w b)/\sumS (sumS ⟨0,0,0⟩ (dotS (rowQ t) (unV t w)) (beV t w b)) (dotS (rowQ t) (edV t w)) (edV t w)=rowQ (stV t w b):=by decide +kernel
theorem lledE (x:Sp3){t:Tr}(h:Tn t){w b:Int}(hw:w∈Z4)(hb:b∈zT):ZL [encP x t,.int w,.int b]=some (encP (spV x t w b) (stV t w b)):=by
 obtain ⟨u1,u2⟩:=qjm t h.mem w hw
 obtain ⟨u3,u4⟩:=qi5 t h.mem w hw b hb
 obtain ⟨d1,d2,d3,d4⟩:=qjB t h.mem w hw
 obtain ⟨t1,t2⟩:=qiU t h.mem w hw b hb
 have b1:Bd 1 1:=by decide
 have bb:Bd 1 b:=by
  simp only [zT,Ko,Vt,or_false] at hb
  rcases hb with rfl|rfl|rfl<;>decide
 have e1:=qj5 x h hw
 have e2:=qdO h.bp h.bq
 rw [h.cr] at e2
 have e3:zc [encS (unV t w),encS (rowR t)]=some (encS (edV t w)):=qdO u1 h.br
 have e4:=sumE ⟨0,0,0⟩ bb h.br
 have e5:=sumE x b1 u1
 have e6:=sumE (sumS x 1 (unV t w)) b1 u3
 have e7:=dotE h.bp u1
 have e8:=dotE h.bp u2
 have e9:=dotE h.bq u1
 have e10:=dotE h.bq u2
 have s1:=sumE ⟨0,0,0⟩ d1 u3
 have s2:=sumE ⟨0,0,0⟩ d3 u3
 have s3:=sumE (sumS ⟨0,0,0⟩ (dotS (rowP t) (unV t w)) (beV t w b)) d2 u2
 have s4:=sumE (sumS ⟨0,0,0⟩ (dotS (rowQ t) (unV t w)) (beV t w b)) d4 u2
 have z:VL [.int 0,.int 0,.int 0]=encS ⟨0,0,0⟩:=rfl
 have sl:sliD (encP x t) (some 1) none=some (.tuple [encS (rowP t),encS (rowQ t)]):=rfl
 have fin:VL [encS (sumS (sumS x 1 (unV t w)) 1 (beV t w b)),encS (rowP (stV t w b)),encS (rowQ (stV t w b))]=encP (spV x t w b) (stV t w b):=by rw [sum1,sum1];rfl
 have fl:∀ s:Sp3,flat (encS s)=true:=fun _=>rfl
 simp only [ZL,JP]
 by_cases h0:b=0
 ·have hn:neD (.int b) (.int 0)=some (.bool false):=by rw [h0];rfl
  have hbe:beV t w b=unV t w:=by rw [h0];rfl
  rw [hbe] at e6 s1 s2 s3 s4 t1 t2 fin
  simp_arith [e1,ixP0,ixP1,ixP2,e2,hn,e3,z,e5,e6,sl,e7,e8,e9,e10,s1,s2,s3,s4,t1,t2,fin,fl]
 ·have hn:neD (.int b) (.int 0)=some (.bool true):=by
   have:neD (.int b) (.int 0)=some (.bool (!(b==0))):=rfl
   rw [this,beq_eq_false_iff_ne.mpr h0];rfl
  rw [on_eq t h.mem w hw b hb h0] at e4
  simp_arith [e1,ixP0,ixP1,ixP2,e2,hn,e3,z,e4,e5,e6,sl,e7,e8,e9,e10,s1,s2,s3,s4,t1,t2,fin,fl]
theorem qbT (x:Sp3)(t:Tr):QH [encP x t]=some (.bool true):=by kernel_rfl
theorem qid (z:Int):Bd 100 (z % 10 ^ 29-10 ^ 28):=Bd.of (by
 have a1:=Xo z (b:=10 ^ 29) (by decide)
 have a2:=XI z (b:=10 ^ 29) (by decide)
 generalize z % 10 ^ 29=z at a1 a2 ⊢
 omega)
theorem qjl:Bd 2 2:=by decide
theorem md13 (z:Int):modD (.int z) (.int (10 ^ 29))=some (.int (z % 10 ^ 29)):=Q6 z (by decide)
theorem ma13 (z:Int):mulD (.int 2) (.int (z % 9-4))=some (.int (2*(z % 9-4))):=qY (qjl.ok (m:=100) (Bd.of (by omega)))
theorem mb13 (z:Int):mulD (.int 2) (.int (z % 10 ^ 29-10 ^ 28))=some (.int (2*(z % 10 ^ 29-10 ^ 28))):=qY (qjl.ok (qid z))
theorem pl13 {P Q:Int}(p1:powD (.int 10) (.int 29)=some (.int P))(p2:powD (.int 10) (.int 28)=some (.int Q))(md:∀ z:Int,modD (.int z) (.int P)=some (.int (z % P)))(m2:∀ z:Int,mulD (.int 2) (.int (z % P-Q))=some (.int (2*(z % P-Q))))(a0 a2 a3 a4:Option Ka)(far o0 o1 o2:Int):∃ (i j k:Int) (a7 a8:Option Ka),forD (gNm 7) Ju [.int 0,.int 1,.int 2] [a0,some (.int far),a2,a3,a4,some (.tuple [.int o0,.int o1,.int o2]),some (.list []),none,none] =
  some (.nx [a0,some (.int far),a2,a3,a4,some (.tuple [.int o0,.int o1,.int o2]),some (.list [.int i,.int j,.int k]),a7,a8]):=by
 have k0:mulD (.int 4) (.int 0)=some (.int 0):=rfl
 have k1:mulD (.int 4) (.int 1)=some (.int 4):=rfl
 have k2:mulD (.int 4) (.int 2)=some (.int 8):=rfl
 by_cases h:far % 3=1
 ·simp_arith [k0,k1,k2,ma13,m2,md,p1,p2,h,beq_self_eq_true]
  exact ⟨_,_,_,_,_,rfl⟩
 ·have e:(far % 3==1)=false:=beq_eq_false_iff_ne.mpr h
  simp_arith [k0,k1,k2,ma13,m2,md,p1,p2,e]
  exact ⟨_,_,_,_,_,rfl⟩
noncomputable def tw13 (u v:Sp3):Tr:=rwT u v (Z6 u v)
theorem qkv (c far:Int):∃ x t,Ze [.int c,.int far]=some (encP x t)/\Tn t:=by
 have h6:c % 6=0\/c % 6=1\/c % 6=2\/c % 6=3\/c % 6=4\/c % 6=5:=by omega
 have h4:c / 6 % 4=0\/c / 6 % 4=1\/c / 6 % 4=2\/c / 6 % 4=3:=by omega
 have k00:mulD (.int 0) (.int 0)=some (.int 0):=rfl
 have k01:mulD (.int 0) (.int 1)=some (.int 0):=rfl
 have k02:mulD (.int 0) (.int (-1))=some (.int 0):=rfl
 have k10:mulD (.int 1) (.int 0)=some (.int 0):=rfl
 have k11:mulD (.int 1) (.int 1)=some (.int 1):=rfl
 have k12:mulD (.int 1) (.int (-1))=some (.int (-1)):=rfl
 have k20:mulD (.int (-1)) (.int 0)=some (.int 0):=rfl
 have k21:mulD (.int (-1)) (.int 1)=some (.int (-1)):=rfl
 have k22:mulD (.int (-1)) (.int (-1))=some (.int 1):=rfl
 have hr:∀ ρ:Rho,(evR (aC (kd (.int 3)) aN) jK) ρ=some [.int 0,.int 1,.int 2]:=fun _=>rfl
 simp only [Ze,Je]
 rcases h6 with h6|h6|h6|h6|h6|h6<;>rcases h4 with h4|h4|h4|h4 <;>
  (
   simp_arith [-L2.j5,-L2.qcF,h6,h4,zc,Zu,zW,jD,k00,k01,k02,k10,k11,k12,k20,k21,k22,Int.reduceSub,Int.reduceBEq,hr]
   obtain ⟨i,j,k,a7,a8,e⟩:=pl13 rfl rfl md13 mb13 _ _ _ _ far _ _ _
   rw [e]
   simp_arith []
   exact ⟨⟨i,j,k⟩,tw13 ⟨_,_,_⟩ ⟨_,_,_⟩,rfl,Tn.of (by decide)⟩)
theorem qjV {b:Int}(hb:b∈zT):Jk [.int b]=some (objD (nmB b)):=by
 simp only [zT,Ko,Vt,or_false] at hb
 rcases hb with rfl|rfl|rfl<;>kernel_rfl
theorem qh6 {b:Int}(hb:b∈zT)(ds:List Ka):mtD w5 (objD (nmB b)::ds)=Qx (objD (nmB b)::ds):=by
 simp only [zT,Ko,Vt,or_false] at hb
 rcases hb with rfl|rfl|rfl<;>kernel_rfl
theorem qh2 (x:Sp3){t:Tr}(h:Tn t){w b:Int}(hw:w∈Z4)(hb:b∈zT):jh [eC (w,b),encP x t]=some (encP (spV x t w b) (stV t w b)):=by
 have e1:=qjV hb
 have e2:=qh6 hb [encP x t,.int w]
 rw [ledE x h hw hb] at e2
 simp only [jh,Wx]
 simp_arith [ixc0,ixc1,e1,e2]
noncomputable def eT3 (p:Jn):Ka:=.tuple [eC p.1.1,eC p.1.2,.int p.2]
theorem qcb (c:Ce){w:Nat}(hw:w<4):zN [eC c,.int (w:Nat)]=some (eC (bs w c)):=by
 have h:w=0\/w=1\/w=2\/w=3:=by omega
 simp only [zN,Q3,eC]
 rcases h with rfl|rfl|rfl|rfl
 ·have e:((0:Nat):Int)=0:=rfl
  simp_arith [e];simp [bs]
 ·have e:((1:Nat):Int)=1:=rfl
  simp_arith [e];simp [bs]
 ·have e:((2:Nat):Int)=2:=rfl
  simp_arith [e];simp [bs];omega
 ·have e:((3:Nat):Int)=3:=rfl
  simp_arith [e];simp [bs];omega
theorem qfq:∀ xs:List (Ce×Ce),Km (xs.map eP)=true
 | []=>rfl
 | x::xs=>by
  show (KL (eP x)&&Km (xs.map eP))=true
  rw [qfq xs];rfl
theorem qjN (xs:List (Ce×Ce))(q:Ce×Ce):inL (xs.map eP) (eP q)=decide (q∈xs):=by
 unfold inL
 rw [List.any_map]
 induction xs with
 | nil=>rfl
 | cons x xs ih =>
  rw [Uz,ih]
  show (Kq (eP x) (eP q)||_)=_
  rw [qfF]
  by_cases h:x=q
  ·subst h;rw [decide_eq_true rfl,NU,decide_eq_true VJ]
  ·rw [decide_eq_false h,X3]
   by_cases h2:q∈xs
   ·rw [decide_eq_true h2,decide_eq_true (Vr _ h2)]
   ·rw [decide_eq_false h2,decide_eq_false (by rw [Ko];rintro (rfl|z);exact h rfl;exact h2 z)]
theorem qia (xs:List (Ce×Ce))(q:Ce×Ce):ninD (eP q) (.list (xs.map eP))=some (.bool (!decide (q∈xs))):=by
 show (if inOk (xs.map eP) (eP q)=true then some (X6 (!inL (xs.map eP) (eP q))) else none)=_
 have ok:inOk (xs.map eP) (eP q)=true:=by
  unfold inOk
  rw [qfq xs,Bool.true_and,Kp]
  exact ⟨rfl,rfl⟩
 rw [ok,qjN];rfl
theorem qae:∀ xs:List Jn,qfJ (.list (xs.map eT3))=true
 | []=>rfl
 | _::xs=>qae xs
noncomputable def jnd (T:List Jn)(k:Ce×Ce)(v:Int):List Jn:=if k∈T.map (·.1) then T else T++[(k,v)]
theorem qbU (d:Ka)(T:List Jn)(hT:T.length<=900){c o:Ce}{k:Ce×Ce}(m1:jz [eC c,eC o]=some (eC k.1))(m2:jy [eC c,eC o]=some (eC k.2))(v:Int) :
  Qq [d,.list (T.map eT3),eC c,eC o,.int v]=some (.list ((jnd T k v).map eT3)):=by
 have hc:Qf 3 (unpD 3 (gsC (gNm 6) (gsC (gNm 7) (gsC (gNm 8) gsN)))) tT (evA (aC (vr 6) (aC (vr 7) aN)) tupD) [some d,some (.list (T.map eT3)),some (eC c),some (eC o),some (.int v),some (eP k)] (T.map eT3)=some ((T.map (·.1)).map eP):=by
  rw [VD]
  exact Ji eT3 _ T fun a _=>by simp_arith [eT3];rfl
 have pp:(VL [eC k.1,eC k.2])=eP k:=rfl
 have x0:ixD (eP k) (.int 0)=some (eC k.1):=rfl
 have x1:ixD (eP k) (.int 1)=some (eC k.2):=rfl
 have hlen:(T.map eT3).length<=1000:=by rw [Kj];omega
 have hz:(T.map eT3).length<1000:=by rw [Kj];omega
 have nn:=qia (T.map (·.1)) k
 unfold jnd
 simp only [Qq,jb]
 by_cases h:k∈T.map (·.1)
 ·rw [decide_eq_true h] at nn
  rw [if_pos h]
  simp_arith [m1,m2,pp,hlen,hc,nn,outU]
 ·rw [decide_eq_false h] at nn
  rw [if_neg h]
  simp_arith [m1,m2,pp,hlen,hc,nn,x0,x1,hz,outU]
  rw [Ve]
  rfl
structure G13 (n:Nat)(fs:List Ce)(T:List Jn):Prop where
 h0:0<fs.length
 h1:fs.length<=26
 h2:fs.Nodup
 h3:T.length<=n
 h4:(T.map (·.1)).Nodup
 h5:∀ p∈T,p.1.1∈fs/\p.1.2∈fs/\Adj p.1.1 p.1.2/\p.2∈zT
theorem G13.put {n:Nat}{fs:List Ce}{T:List Jn}{k:Ce×Ce}{v:Int}(g:G13 n fs T)(m1:k.1∈fs)(m2:k.2∈fs)(ad:Adj k.1 k.2)(hv:v∈zT):G13 (n+1) fs (jnd T k v):=by
 unfold jnd
 split
 ·exact ⟨g.h0,g.h1,g.h2,Nat.le_succ_of_le g.h3,g.h4,g.h5⟩
 ·rename_i hk
  refine ⟨g.h0,g.h1,g.h2,by rw [KG];have:=g.h3;simp;omega,?_,fun p hp=>?_⟩
  ·rw [Ve,Nv]
   refine ⟨g.h4,by simp,fun a ha b hb e=>?_⟩
   simp at hb
   subst hb
   exact hk (by rw [← e];exact ha)
  ·rcases VN.mp hp with q|q
   ·exact g.h5 p q
   ·have:=Vm.mp q
    subst this
    exact ⟨m1,m2,ad,hv⟩
theorem G13.more {n:Nat}{fs:List Ce}{T:List Jn}{o:Ce}(g:G13 n fs T)(ho:o∉fs)(hl:fs.length<26):G13 n (fs++[o]) T:=by
 refine ⟨by simp,by simp;omega,?_,g.h3,g.h4,fun p hp=>?_⟩
 ·rw [Nv]
  refine ⟨g.h2,by simp,fun a ha b hb e=>?_⟩
  have:=Vm.mp hb
  subst this
  exact ho (by rw [← e];exact ha)
 ·obtain ⟨a,b,c⟩:=g.h5 p hp
  exact ⟨UB _ a,UB _ b,c⟩
theorem qi6 (ns:List Int){a b:Nat}:∃ ms:List Int,sliD (.list (ns.map .int)) (some (a:Int)) (some (b:Int))=some (.list (ms.map .int))/\ms.length<=b-a/\∀ m∈ms,m∈ns:=by
 refine ⟨(ns.drop (HT.sIx (ns.map KJ).length 0 (some (a:Int)))).take (HT.sIx (ns.map KJ).length (ns.map KJ).length (some (b:Int))-HT.sIx (ns.map KJ).length 0 (some (a:Int))),?_,?_,fun m hm=>E5 (E6 hm)⟩
 ·show some (VQ (cutD (ns.map .int) (some (a:Int)) (some (b:Int))))=_
  unfold cutD
  rw [← En,← E9]
 ·rw [U9,UQ,HT.yH,HT.yH,Kj]
  omega
noncomputable def bl13:List Ka:=[.int 0,.int 0,.int 1,.int (-1)]
theorem qjv (y:Int):∃ v,atI bl13 (y % 4)=some (.int v)/\v∈zT:=by
 have h:y % 4=0\/y % 4=1\/y % 4=2\/y % 4=3:=by omega
 rcases h with h|h|h|h<;>rw [h]
 ·exact ⟨0,rfl,by decide⟩
 ·exact ⟨0,rfl,by decide⟩
 ·exact ⟨1,rfl,by decide⟩
 ·exact ⟨-1,rfl,by decide⟩
theorem qfQ {ns ms:List Int}(hb:∀ k∈ns,V0 k<=2 ^ 20)(hm:∀ m∈ms,m∈ns)(hl:ms.length<=34)(d0 d5:Ka)(s:Ce) :
  ∃ (fs:List Ce) (T:List Jn) (o8 o9 o10 o11:Option Ka),forD (gNm 8) ZG (ms.map .int) [some d0,some (.int 6),some (.int 40),some (.int 26),some (.list bl13),some d5,some (.list [eC s]),some (.list []),none,none,none,none] =
   some (.nx [some d0,some (.int 6),some (.int 40),some (.int 26),some (.list bl13),some d5,some (.list (fs.map eC)),some (.list (T.map eT3)),o8,o9,o10,o11])/\G13 ms.length fs T:=by
 obtain ⟨ρ',e,fs,T,o8,o9,o10,o11,rfl,g⟩:=yh KJ (g:=gNm 8) (u:=ZG)
  (fun done ρ=>∃ (fs:List Ce) (T:List Jn) (o8 o9 o10 o11:Option Ka),ρ=[some d0,some (.int 6),some (.int 40),some (.int 26),some (.list bl13),some d5,some (.list (fs.map eC)),some (.list (T.map eT3)),o8,o9,o10,o11]/\G13 done.length fs T) ms [some d0,some (.int 6),some (.int 40),some (.int 26),some (.list bl13),some d5,some (.list [eC s]),some (.list []),none,none,none,none]
  ⟨[s],[],none,none,none,none,rfl,by simp,by simp,by simp,by simp,by simp,fun p hp=>nomatch hp⟩ (by
   rintro x hx done ρ hdl ⟨fs,T,o8,o9,o10,o11,rfl,g⟩
   have hlen:(done++[x]).length=done.length+1:=by simp
   have bx:Bd 1048576 x:=hb x (hm x hx)
   have em:mulD (.int x) (.int 48271)=some (.int (x*48271)):=qY (bx.ok (Bd.of (n:=16) (by decide)))
   have e1:modD (.int (x*48271)) (.int 1000003)=some (.int (x*48271 % 1000003)):=Q6 _ (by decide)
   generalize x*48271 % 1000003=y at e1
   obtain ⟨c,hc,ec⟩:=qdx y g.h0
   have e3:modD (.int y) (.int (((fs.map eC).length:Nat):Int))=some (.int (y % (fs.length:Int))):=by rw [Kj];exact Q6 _ (by have:=g.h0;omega)
   have e4:atI (fs.map eC) (y % (fs.length:Int))=some (eC c):=Q4 (Xo _ (by have:=g.h0;omega)) ec
   obtain ⟨w,hw,ew⟩:=emod4 (y / 64)
   have e5:=qcb c hw
   obtain ⟨m1,m2⟩:=mm_eq c hw
   obtain ⟨ad,hp⟩:=qgD c hw
   have nn:=qh9 fs (bs w c)
   have ii:=qjM fs (bs w c)
   obtain ⟨v,ev,hv⟩:=qjv (y / 256)
   have lb:lenD [.list bl13]=some (.int 4):=rfl
   have hT:T.length<=900:=by have:=g.h3;omega
   have hz:(fs.map eC).length<1000:=by rw [Kj];have:=g.h1;omega
   generalize ho:bs w c=o at *
   generalize hk:pk w c=k at *
   have fo:=qae (jnd T k v)
   by_cases hin:o∈fs
   ·have ej:=qbU (.list (fs.map eC)) T hT m1 m2 v
    have mk:k.1∈fs/\k.2∈fs:=by rcases hp with z|z<;>rw [z]<;>exact ⟨by assumption,by assumption⟩
    refine ⟨[some d0,some (.int 6),some (.int 40),some (.int 26),some (.list bl13),some d5,some (.list (fs.map eC)),some (.list ((jnd T k v).map eT3)),some (.int x),some (.int y),some (eC c),some (eC o)],?_,fs,_,_,_,_,_,rfl,by rw [hlen];exact g.put mk.1 mk.2 ad hv⟩
    simp_arith [em,e1,e3,e4,qaW,ew,e5,ii,nn,decide_eq_true hin,qbm,lb,ev,ej,fo]
   ·cases hlt:decide ((((fs.map eC).length:Nat):Int)<26) with
    | false =>
     refine ⟨[some d0,some (.int 6),some (.int 40),some (.int 26),some (.list bl13),some d5,some (.list (fs.map eC)),some (.list (T.map eT3)),some (.int x),some (.int y),some (eC c),some (eC o)],?_,fs,T,_,_,_,_,rfl,by rw [hlen];exact ⟨g.h0,g.h1,g.h2,Nat.le_succ_of_le g.h3,g.h4,g.h5⟩⟩
     simp_arith [em,e1,e3,e4,qaW,ew,e5,ii,nn,decide_eq_false hin,hlt]
    | true =>
     have hlt':fs.length<26:=by have:=of_decide_eq_true hlt;rw [Kj] at this;omega
     have g':=g.more hin hlt'
     have ej:=qbU (.list ((fs++[o]).map eC)) T hT m1 m2 v
     have em2:∀ z:Ce,z∈fs++[o]↔z∈fs\/z=o:=fun z=>by simp
     have mk:k.1∈fs++[o]/\k.2∈fs++[o]:=by rcases hp with z|z<;>rw [z]<;>simp [hc]
     refine ⟨[some d0,some (.int 6),some (.int 40),some (.int 26),some (.list bl13),some d5,some (.list ((fs++[o]).map eC)),some (.list ((jnd T k v).map eT3)),some (.int x),some (.int y),some (eC c),some (eC o)],?_,_,_,_,_,_,_,rfl,by rw [hlen];exact g'.put mk.1 mk.2 ad hv⟩
     rw [Ve,Kt,Ud] at ej
     simp_arith [em,e1,e3,e4,qaW,ew,e5,ii,nn,decide_eq_false hin,hlt,hz,qbm,lb,ev]
     rw [ej]
     simp_arith [fo]
     simp only [Ve,Kt,Ud])
 exact ⟨fs,T,o8,o9,o10,o11,e,g⟩
theorem qhL {ns:List Int}(hb:∀ k∈ns,V0 k<=2 ^ 20):∃ (fs:List Ce) (T:List Jn),Qm [.list (ns.map .int),.int 6,.int 40,.int 26,.list bl13]=some (.tuple [.list (fs.map eC),.list (T.map eT3)])/\G13 34 fs T:=by
 obtain ⟨ms,es,hl,hm⟩:=qi6 ns (a:=6) (b:=40)
 have c0:=yS ns 0 (by decide)
 have c1:=yS ns 1 (by decide)
 generalize Z0 ns 0=x at c0
 generalize Z0 ns 1=y at c1
 have p19:powD (.int 10) (.int 19)=some (.int (10 ^ 19)):=rfl
 have mx:modD (.int x) (.int (10 ^ 19))=some (.int (x % 10 ^ 19)):=Q6 _ (by decide)
 have my:modD (.int y) (.int (10 ^ 19))=some (.int (y % 10 ^ 19)):=Q6 _ (by decide)
 have es':sliD (.list (ns.map .int)) (some 6) (some 40)=some (.list (ms.map .int)):=es
 have pc:∀ a b:Int,(VL [.int a,.int b])=eC (a,b):=fun _ _=>rfl
 cases hq:(x / 7 % 4==3) with
 | true =>
  obtain ⟨fs,T,o8,o9,o10,o11,e,g⟩:=qfQ hb hm hl (.list (ns.map .int)) (eC (x % 10 ^ 19,-(y % 10 ^ 19))) (x % 10 ^ 19,-(y % 10 ^ 19))
  refine ⟨fs,T,?_,⟨g.h0,g.h1,g.h2,Vo g.h3 hl,g.h4,g.h5⟩⟩
  simp only [Qm,Zv]
  simp_arith [c0,c1,p19,mx,my,hq,es',pc,e]
 | false =>
  obtain ⟨fs,T,o8,o9,o10,o11,e,g⟩:=qfQ hb hm hl (.list (ns.map .int)) (eC (x % 7-3,y % 7-3)) (x % 7-3,y % 7-3)
  refine ⟨fs,T,?_,⟨g.h0,g.h1,g.h2,Vo g.h3 hl,g.h4,g.h5⟩⟩
  simp only [Qm,Zv]
  simp_arith [c0,c1,p19,mx,my,hq,es',pc,e]
theorem qiO {fs:List Ce}{T:List Jn}(hf:fs.length<64)(hj:T.length<64)(hm:∀ p∈T,p.1.1∈fs/\p.1.2∈fs):∃ (S:List Ce) (J:List Sp),QJ [.list (fs.map eC),.list (T.map eT3)]=some (.tuple [.list (S.map eC),.list (J.map eS)])/\S.Perm fs/\RisC S/\J.Perm (T.map (jn S))/\RisS J:=by
 obtain ⟨S,es,p,r⟩:=qfb hf
 have hl:S.length<=900:=by rw [p.length_eq];omega
 have hc:Qf 3 (unpD 3 (gsC (gNm 3) (gsC (gNm 4) (gsC (gNm 5) gsN)))) tT (evA (aC (ev2 (vr 2) (vr 3) jw) (aC (ev2 (vr 2) (vr 4) jw) (aC (vr 5) aN))) tupD) [some (.list (fs.map eC)),some (.list (T.map eT3)),some (.list (S.map eC))] (T.map eT3)=some ((T.map (jn S)).map eS):=by
  rw [VD]
  refine Ji eT3 _ T fun a ha=>?_
  obtain ⟨m1,m2⟩:=hm a ha
  have i1:=qbR (p.mem_iff.mpr m1) hl
  have i2:=qbR (p.mem_iff.mpr m2) hl
  simp_arith [eT3,i1,i2]
  rfl
 have hlen:(T.map eT3).length<=1000:=by rw [Kj];omega
 obtain ⟨J,ej,pj,rj⟩:=qaB (xs:=T.map (jn S)) (by rw [Kj];exact hj)
 refine ⟨S,J,?_,p,r,pj,rj⟩
 simp only [QJ,jE]
 simp_arith [es,hlen,hc,ej]
structure J13 (S:List Ce)(J:List Sp):Prop where
 nd:S.Nodup
 ok:∀ t∈J,Jok S t
 bd:∀ t∈J,t.2.2∈zT
 un:(J.map fun t=>(t.1,t.2.1)).Nodup
 lj:J.length<=34
 ls:S.length<=26
 s0:0<S.length
theorem jok13 {fs S:List Ce}{T:List Jn}{J:List Sp}(g:G13 34 fs T)(pS:S.Perm fs)(pJ:J.Perm (T.map (jn S))):J13 S J:=by
 have at':∀ a∈fs,S[S.idxOf a]?=some a:=fun a ha=>by
  have h:=List.idxOf_lt_length_iff.mpr (pS.mem_iff.mpr ha)
  rw [Kn h,List.getElem_idxOf h]
 refine ⟨pS.nodup_iff.mpr g.h2,fun t ht=>?_,fun t ht=>?_,?_,by rw [pJ.length_eq,Kj];exact g.h3,by rw [pS.length_eq];exact g.h1,by rw [pS.length_eq];exact g.h0⟩
 ·obtain ⟨p,hp,rfl⟩:=VM.mp (pJ.mem_iff.mp ht)
  obtain ⟨m1,m2,ad,_⟩:=g.h5 p hp
  exact ⟨Nl _,Nl _,p.1.1,p.1.2,by show S[((S.idxOf p.1.1:Nat):Int).toNat]?=_;rw [UE];exact at' _ m1,by show S[((S.idxOf p.1.2:Nat):Int).toNat]?=_;rw [UE];exact at' _ m2,ad⟩
 ·obtain ⟨p,hp,rfl⟩:=VM.mp (pJ.mem_iff.mp ht)
  exact (g.h5 p hp).2.2.2
 ·rw [(pJ.map _).nodup_iff,VD]
  have h4:=g.h4
  unfold Ez at h4 ⊢
  rw [Xr] at h4 ⊢
  refine List.Pairwise.imp_of_mem (fun {a b} ha hb n e=>n ?_) h4
  have e1:((S.idxOf a.1.1:Nat):Int)=(S.idxOf b.1.1:Nat):=congrArg Prod.fst e
  have e2:((S.idxOf a.1.2:Nat):Int)=(S.idxOf b.1.2:Nat):=congrArg Prod.snd e
  have q1:=at' _ (g.h5 a ha).1
  have q2:=at' _ (g.h5 b hb).1
  have q3:=at' _ (g.h5 a ha).2.1
  have q4:=at' _ (g.h5 b hb).2.1
  rw [show S.idxOf a.1.1=S.idxOf b.1.1 by omega,q2] at q1
  rw [show S.idxOf a.1.2=S.idxOf b.1.2 by omega,q4] at q3
  exact Prod.ext (V6 q1).symm (V6 q3).symm
noncomputable def eLS (LL:List (List Sp)):Ka:=.list (LL.map fun l=>.list (l.map eS))
theorem qdJ {LL:List (List Sp)}{i:Int}{x:Sp}{l:List Sp}(h0:0<=i)(e:LL[i.toNat]?=some l)(hl:l.length<1000)(ρ:Rho):kapO (some (eLS LL)) (some (.int i)) (some (eS x)) 1 ρ=some (.nx (ρ.set 1 (some (eLS (LL.set i.toNat (l++[x])))))):=by
 obtain ⟨hlt,he⟩:=KD.mp e
 have h1:ym (eLS LL) (.int i)=some i.toNat:=by
  show ixN (LL.map _).length i=_
  unfold ixN
  rw [if_pos h0,if_pos (by rw [Kj];omega)]
 have h2:qaj (eLS LL) i.toNat=some (.list (l.map eS)):=by
  show (LL.map _)[i.toNat]?=_
  rw [K1,e];rfl
 have h3:appD (.list (l.map eS)) (eS x)=some (.list ((l++[x]).map eS)):=by
  show (if (l.map eS).length<1000 then some (VQ (l.map eS++[eS x])) else none)=_
  rw [if_pos (by rw [Kj];exact hl),Ve]
  rfl
 have h4:qbb (eLS LL) i.toNat (.list ((l++[x]).map eS))=eLS (LL.set i.toNat (l++[x])):=by
  show VQ ((LL.map _).set i.toNat _)=_
  unfold eLS
  rw [List.map_set]
 show ob (ym (eLS LL) (.int i)) _=_
 rw [h1,ob_s,h2,ob_s,h3,ob_s,h4]
noncomputable def nrL (S:List Ce)(J:List Sp):List (List Sp):=(Xg S.length).map fun k:Nat=>J.filterMap (nbF S (k:Int))
theorem Wc {S:List Ce}(J:List Sp){k:Nat}(h:k<S.length):(nrL S J)[k]?=some (J.filterMap (nbF S (k:Int))):=by
 unfold nrL
 rw [K1,N0 h]
 rfl
theorem qgf {S:List Ce}{J:List Sp}{t:Sp}{a b:Ce}(p1:0<=t.1)(p2:0<=t.2.1)(ea:S[t.1.toNat]?=some a)(eb:S[t.2.1.toNat]?=some b)(ne:t.1.toNat≠t.2.1.toNat) :
  ((nrL S J).set t.1.toNat (J.filterMap (nbF S t.1)++[(wy a b,t.2.1,t.2.2)])).set t.2.1.toNat (J.filterMap (nbF S t.2.1)++[(wy a b+2,t.1,t.2.2)])=nrL S (J++[t]):=by
 have l1:=(KD.mp ea).1
 have l2:=(KD.mp eb).1
 have len:∀ J:List Sp,(nrL S J).length=S.length:=fun J=>by unfold nrL;rw [Kj,Xq]
 refine List.ext_getElem? fun m=>?_
 by_cases hm:m<S.length
 ·rw [Wc _ hm,E3]
  have hn:=JD (k:=(m:Int)) ea eb
  by_cases e2:t.2.1.toNat=m
  ·subst e2
   have q1:¬ t.1=((t.2.1.toNat:Nat):Int):=by omega
   have q2:t.2.1=((t.2.1.toNat:Nat):Int):=by omega
   rw [if_neg q1,if_pos q2] at hn
   rw [Vp (by rw [Vx,len];exact hm),VP,hn,Xn,← q2]
  ·rw [Vw e2]
   by_cases e1:t.1.toNat=m
   ·subst e1
    have q1:t.1=((t.1.toNat:Nat):Int):=by omega
    rw [if_pos q1] at hn
    rw [Vp (by rw [len];exact hm),VP,hn,Xn,← q1]
   ·rw [Vw e1,Wc _ hm,VP]
    rw [if_neg (by omega),if_neg (by omega)] at hn
    rw [hn,Xn,Vd]
 ·rw [UT (by rw [Vx,Vx,len];omega),UT (by rw [len];omega)]
theorem qj7 {S:List Ce}{J:List Sp}(h:J13 S J):Zd [.tuple [.list (S.map eC),.list (J.map eS)]]=some (eLS (nrL S J)):=by
 have hv:∀ o1 o2 o3 o4 o5:Option Ka,qdt 6 1 (evI (ev2 (vr 0) (kd (.int 0)) ixD) seqD) (gNm 6) tT (evA aN lstD) [some (.tuple [.list (S.map eC),.list (J.map eS)]),o1,o2,o3,o4,o5]=some (eLS (nrL S [])):=fun o1 o2 o3 o4 o5=>by
  have hc:Qf 1 (gNm 6) tT (evA aN lstD) [some (.tuple [.list (S.map eC),.list (J.map eS)]),o1,o2,o3,o4,o5] (S.map eC)=some (S.map fun _=>.list []) :=
   Ji eC _ S fun a _=>by simp_arith []
  have hlen:(S.map eC).length<=1000:=by rw [Kj];have:=h.ls;omega
  have hg:Z1 6 1 (evI (ev2 (vr 0) (kd (.int 0)) ixD) seqD) (gNm 6) tT (evA aN lstD) [some (.tuple [.list (S.map eC),.list (J.map eS)]),o1,o2,o3,o4,o5]=some (.list (S.map fun _=>.list [])):=by
   simp_arith [hlen,hc]
  show ob (Z1 6 1 (evI (ev2 (vr 0) (kd (.int 0)) ixD) seqD) (gNm 6) tT (evA aN lstD) [some (.tuple [.list (S.map eC),.list (J.map eS)]),o1,o2,o3,o4,o5]) _=_
  rw [hg,ob_s]
  show (if (S.map fun _=>VQ []).all qdH=true then some (VQ (S.map fun _=>VQ [])) else none)=_
  rw [if_pos (by rw [List.all_map];exact KW.mpr fun _ _=>rfl)]
  unfold eLS nrL
  rw [VD]
  refine congrArg (fun z=>some (VQ z)) (List.ext_getElem? fun m=>?_)
  rw [K1,K1]
  by_cases hm:m<S.length
  ·rw [N0 hm,Kn hm];rfl
  ·rw [UT (by omega),UT (by rw [Xq];omega)]
   rfl
 obtain ⟨ρ',e,o2,o3,o4,o5,rfl⟩:=yh eS (g:=unpD 3 (gsC (gNm 2) (gsC (gNm 3) (gsC (gNm 4) gsN)))) (u:=Jt)
  (fun done ρ=>∃ o2 o3 o4 o5:Option Ka,ρ=[some (.tuple [.list (S.map eC),.list (J.map eS)]),some (eLS (nrL S done)),o2,o3,o4,o5]) J [some (.tuple [.list (S.map eC),.list (J.map eS)]),some (eLS (nrL S [])),none,none,none,none] ⟨none,none,none,none,rfl⟩ (by
   rintro t ht done ρ hdl ⟨o2,o3,o4,o5,rfl⟩
   obtain ⟨p1,p2,a,b,ea,eb,ad⟩:=h.ok t ht
   have l1:=(KD.mp ea).1
   have l2:=(KD.mp eb).1
   have ne:t.1.toNat≠t.2.1.toNat:=fun z=>by rw [z,eb] at ea;exact qjr ad (V6 ea).symm
   have x1:atI (S.map eC) t.1=some (eC a):=Q4 p1 ea
   have x2:atI (S.map eC) t.2.1=some (eC b):=Q4 p2 eb
   have hu:unpD 3 (gsC (gNm 2) (gsC (gNm 3) (gsC (gNm 4) gsN))) (eS t) [some (.tuple [.list (S.map eC),.list (J.map eS)]),some (eLS (nrL S done)),o2,o3,o4,o5]=some [some (.tuple [.list (S.map eC),.list (J.map eS)]),some (eLS (nrL S done)),some (.int t.1),some (.int t.2.1),some (.int t.2.2),o5]:=rfl
   rw [hu,ob_s]
   have fl:∀ k:Int,(done.filterMap (nbF S k)).length<1000:=fun k=>by have:=U0 (nbF S k) done;have:=h.lj;omega
   have way:(if (a.1==b.1)=true then (1:Int) else 0)=wy a b:=by
    unfold wy
    obtain ⟨x,y⟩:=a
    rcases ad with rfl|rfl
    ·simp;omega
    ·simp;omega
   have g1:(nrL S done)[t.1.toNat]?=some (done.filterMap (nbF S t.1)):=by
    have:=Wc (S:=S) done l1
    rwa [show ((t.1.toNat:Nat):Int)=t.1 by omega] at this
   have g2:((nrL S done).set t.1.toNat (done.filterMap (nbF S t.1)++[(wy a b,t.2.1,t.2.2)]))[t.2.1.toNat]?=some (done.filterMap (nbF S t.2.1)):=by
    rw [Vw ne]
    have:=Wc (S:=S) done l2
    rwa [show ((t.2.1.toNat:Nat):Int)=t.2.1 by omega] at this
   have k1:=fun ρ=>qdJ (x:=(wy a b,t.2.1,t.2.2)) p1 g1 (fl _) ρ
   have k2:=fun ρ=>qdJ (x:=(wy a b+2,t.1,t.2.2)) p2 g2 (fl _) ρ
   rw [qgf p1 p2 ea eb ne] at k2
   have s1:VL [.int (wy a b),.int t.2.1,.int t.2.2]=eS (wy a b,t.2.1,t.2.2):=rfl
   have s2:VL [.int (wy a b+2),.int t.1,.int t.2.2]=eS (wy a b+2,t.1,t.2.2):=rfl
   refine ⟨_,?_,some (.int t.1),some (.int t.2.1),some (.int t.2.2),some (.int (wy a b)),rfl⟩
   simp_arith [x1,x2,ixc0,qcv,way,s1,k1,s2,k2])
 simp only [Zd,Jd]
 have hl:(1:Nat)<6:=by decide
 simp_arith [hv,e]
theorem qbA {a b:Ce}(h:Adj a b)(h':Adj b a):False:=by
 obtain ⟨x,y⟩:=a
 obtain ⟨x',y'⟩:=b
 rcases h with h|h<;>rcases h' with h'|h'<;>simp at h h'<;>omega
theorem nb_un {S:List Ce}{J:List Sp}(h:J13 S J)(k:Int):((J.filterMap (nbF S k)).map (·.2.1)).Nodup:=by
 unfold Ez
 rw [Xr,List.pairwise_filterMap]
 have un:=h.un
 unfold Ez at un
 rw [Xr] at un
 refine List.Pairwise.imp_of_mem (fun {t t'} ht ht' ne s hs s' hs' e=>?_) un
 obtain ⟨p1,p2,a,b,ea,eb,ad⟩:=h.ok t ht
 obtain ⟨p1',p2',a',b',ea',eb',ad'⟩:=h.ok t' ht'
 rw [JD ea eb] at hs
 rw [JD ea' eb'] at hs'
 split at hs
 ·rename_i k1
  cases hs
  split at hs'
  ·rename_i k2
   cases hs'
   exact ne (Prod.ext (k1.trans k2.symm) e)
  ·split at hs'
   ·rename_i k2
    cases hs'
    have e:t.2.1=t'.1:=e
    rw [← e,eb] at ea'
    rw [k2,← k1,ea] at eb'
    cases ea'
    cases eb'
    exact qbA ad ad'
   ·cases hs'
 ·split at hs
  ·rename_i k1
   cases hs
   split at hs'
   ·rename_i k2
    cases hs'
    have e:t.1=t'.2.1:=e
    rw [← e,ea] at eb'
    rw [k2,← k1,eb] at ea'
    cases ea'
    cases eb'
    exact qbA ad ad'
   ·split at hs'
    ·rename_i k2
     cases hs'
     exact ne (Prod.ext e (k1.trans k2.symm))
    ·cases hs'
  ·cases hs
noncomputable def kC3 (c:Ce):KX:=.inr [.inl c.1,.inl c.2]
noncomputable def eW (ws:List (Ce×Ce)):List (Ka×PyData):=ws.map fun p=>(eC p.1,eC p.2)
theorem qcM (ws:List (Ce×Ce))(c:Ce):kOk (eW ws) (kC3 c)=true:=by
 unfold kOk eW
 rw [List.all_map]
 exact KW.mpr fun p _=>rfl
theorem qaV (c:Ce):∀ ws:List (Ce×Ce),zL (eW ws) (kC3 c)=(ws.find? fun p=>decide (p.1=c)).map fun p=>eC p.2
 | []=>rfl
 | p::ws=>by
  have ih:=qaV c ws
  have kk:kxD (kC3 c)=eC c:=rfl
  unfold zL eW at *
  rw [Kt,Uo,Uo,kk,yV]
  rw [kk] at ih
  by_cases h:p.1=c
  ·rw [decide_eq_true h];rfl
  ·rw [decide_eq_false h];exact ih
theorem qhy {ws:List (Ce×Ce)}{q:Ce}(v:Ce)(hl:ws.length<900)(h:∀ p∈ws,p.1≠q):wH (.dict (eW ws)) (eC q) (eC v)=some (.dict (eW (ws++[(q,v)]))):=by
 have hf:zL (eW ws) (kC3 q)=none:=by
  rw [qaV,Nm.mpr fun p hp=>by simp only [decide_eq_true_eq];exact h p hp]
  rfl
 show ob (kxOf (eC q)) (fun ks=>if kOk (eW ws) ks=true/\(eW ws).length<1000 then some (PyData.dict (putD (eW ws) ks (eC v))) else none)=_
 rw [show kxOf (eC q)=some (kC3 q) from rfl,ob_s,if_pos ⟨qcM _ _,by unfold eW;rw [Kj];omega⟩]
 unfold putD
 rw [hf,if_neg (by decide),show kxD (kC3 q)=eC q from rfl]
 unfold eW
 rw [Ve]
 rfl
structure W13 (S:List Ce)(J:List Sp)(m:Nat)(W:List (Ce×Ce)):Prop where
 nd:(W.map (·.1)).Nodup
 len:W.length<=m*34
 iff:∀ p,p∈W↔0<=p.1.1/\p.1.1<(m:Int)/\∃ s∈J.filterMap (nbF S p.1.1),p=((p.1.1,s.2.1),(s.1,s.2.2))
theorem key13 {W:List (Ce×Ce)}(nd:(W.map (·.1)).Nodup){p q:Ce×Ce}(hp:p∈W)(hq:q∈W)(e:p.1=q.1):p=q:=by
 unfold Ez at nd
 rw [Xr] at nd
 by_cases h:p=q
 ·exact h
 ·induction W with
  | nil=>cases hp
  | cons x W ih =>
   rw [List.pairwise_cons] at nd
   rcases Ko.mp hp with z|hp'
   ·rcases Ko.mp hq with z'|hq'
    ·exact z.trans z'.symm
    ·exact absurd e (by rw [z];exact nd.1 q hq')
   ·rcases Ko.mp hq with z'|hq'
    ·exact absurd e.symm (by rw [z'];exact nd.1 p hp')
    ·exact ih nd.2 hp' hq'
theorem qhP {S:List Ce}{J:List Sp}(h:J13 S J){m:Nat}(hm:m<S.length){W:List (Ce×Ce)}(w:W13 S J m W)(d0:Ka){ys:List Sp}(py:ys.Perm (J.filterMap (nbF S (m:Int))))(o3 o4 o5:Option Ka) :
  ∃ (W':List (Ce×Ce)) (r3 r4 r5:Option Ka),forD (unpD 3 (gsC (gNm 3) (gsC (gNm 4) (gsC (gNm 5) gsN)))) jo (ys.map eS) [some d0,some (.dict (eW W)),some (.int (m:Nat)),o3,o4,o5]=some (.nx [some d0,some (.dict (eW W')),some (.int (m:Nat)),r3,r4,r5])/\W13 S J (m+1) W':=by
 have ly:ys.length<=34:=by rw [py.length_eq];have:=U0 (nbF S (m:Int)) J;have:=h.lj;omega
 have un:=(py.map (·.2.1)).nodup_iff.mpr (nb_un h (m:Int))
 have wm:m*34<=25*34:=Nat.mul_le_mul_right _ (by have:=h.ls;omega)
 obtain ⟨ρ',e,r3,r4,r5,rfl⟩:=qbM eS (g:=unpD 3 (gsC (gNm 3) (gsC (gNm 4) (gsC (gNm 5) gsN)))) (u:=jo)
  (fun done ρ=>∃ o3 o4 o5:Option Ka,ρ=[some d0,some (.dict (eW (W++done.map fun s=>(((m:Nat):Int),s.2.1,s.1,s.2.2) |> fun z=>((z.1,z.2.1),z.2.2)))),some (.int (m:Nat)),o3,o4,o5]) ys [some d0,some (.dict (eW W)),some (.int (m:Nat)),o3,o4,o5] ⟨o3,o4,o5,by simp⟩ (by
   rintro t done rest ρ eall ⟨o3,o4,o5,rfl⟩
   have hu:unpD 3 (gsC (gNm 3) (gsC (gNm 4) (gsC (gNm 5) gsN))) (eS t) [some d0,some (.dict (eW (W++done.map fun s=>(((m:Nat):Int),s.2.1,s.1,s.2.2) |> fun z=>((z.1,z.2.1),z.2.2)))),some (.int (m:Nat)),o3,o4,o5]=some [some d0,some (.dict (eW (W++done.map fun s=>(((m:Nat):Int),s.2.1,s.1,s.2.2) |> fun z=>((z.1,z.2.1),z.2.2)))),some (.int (m:Nat)),some (.int t.1),some (.int t.2.1),some (.int t.2.2)]:=rfl
   rw [hu,ob_s]
   have dl:done.length<=34:=by rw [eall] at ly;simp at ly;omega
   have fr:∀ p∈W++done.map (fun s=>(((m:Nat):Int),s.2.1,s.1,s.2.2) |> fun z=>((z.1,z.2.1),z.2.2)),p.1≠(((m:Nat):Int),t.2.1):=fun p hp z=>by
    rcases VN.mp hp with q|q
    ·have:=((w.iff p).mp q).2.1
     rw [z] at this
     exact absurd this (by dsimp only;omega)
    ·obtain ⟨s,hs,rfl⟩:=VM.mp q
     have e2:s.2.1=t.2.1:=congrArg Prod.snd z
     rw [eall,Ve] at un
     exact (Nv.mp un).2.2 s.2.1 (VM.mpr ⟨s,hs,rfl⟩) t.2.1 (by simp) e2
   have dp:=qhy (t.1,t.2.2) (by rw [KG,Kj];have:=w.len;omega) fr
   have s1:VL [.int ((m:Nat):Int),.int t.2.1]=eC (((m:Nat):Int),t.2.1):=rfl
   have s2:VL [.int t.1,.int t.2.2]=eC (t.1,t.2.2):=rfl
   refine ⟨_,?_,some (.int t.1),some (.int t.2.1),some (.int t.2.2),rfl⟩
   simp_arith [s1,s2,dp]
   rw [Ve,Ew]
   rfl)
 refine ⟨_,r3,r4,r5,e,?_,?_,fun p=>?_⟩
 ·rw [Ve,Nv]
  refine ⟨w.nd,?_,fun a ha b hb z=>?_⟩
  ·rw [VD]
   unfold Ez at un ⊢
   rw [Xr] at un ⊢
   exact un.imp fun n z=>n (congrArg Prod.snd z)
  ·obtain ⟨p,hp,rfl⟩:=VM.mp ha
   obtain ⟨q,hq,rfl⟩:=VM.mp hb
   obtain ⟨s,hs,rfl⟩:=VM.mp hq
   have:=((w.iff p).mp hp).2.1
   rw [z] at this
   exact absurd this (by dsimp only;omega)
 ·rw [KG,Kj]
  have:=w.len
  omega
 ·rw [VN,w.iff p]
  constructor
  ·rintro (⟨a,b,c⟩|q)
   ·exact ⟨a,by omega,c⟩
   ·obtain ⟨s,hs,rfl⟩:=VM.mp q
    exact ⟨Nl _,by dsimp only;omega,s,py.mem_iff.mp hs,rfl⟩
  ·rintro ⟨a,b,s,hs,c⟩
   by_cases hb:p.1.1<(m:Int)
   ·exact .inl ⟨a,hb,s,hs,c⟩
   ·have ep:p.1.1=(m:Int):=by omega
    rw [ep] at hs c
    exact .inr (VM.mpr ⟨s,py.mem_iff.mpr hs,c.symm⟩)
theorem qiQ {S:List Ce}{J:List Sp}(h:J13 S J):∃ W:List (Ce×Ce),Qh [.tuple [.list (S.map eC),.list (J.map eS)]]=some (.dict (eW W))/\W13 S J S.length W:=by
 obtain ⟨ρ',e,W,o2,o3,o4,o5,rfl,w⟩:=qbM (fun k:Nat=>KJ (k:Nat)) (g:=gNm 2) (u:=J6)
  (fun done ρ=>∃ (W:List (Ce×Ce)) (o2 o3 o4 o5:Option Ka),ρ=[some (.tuple [.list (S.map eC),.list (J.map eS)]),some (.dict (eW W)),o2,o3,o4,o5]/\W13 S J done.length W) (Xg S.length) [some (.tuple [.list (S.map eC),.list (J.map eS)]),some (.dict []),none,none,none,none]
  ⟨[],none,none,none,none,rfl,N2,Vv _,fun p=>⟨fun z=>(nomatch z),fun ⟨a,b,_⟩=>absurd b (by simp;omega)⟩⟩ (by
   rintro k done rest ρ eall ⟨W,o2,o3,o4,o5,rfl,w⟩
   have hlt:done.length<S.length:=by
    have:=congrArg N7 eall
    simp at this
    omega
   have hk:k=done.length:=by
    have h2:(Xg S.length)[done.length]?=(done++k::rest)[done.length]?:=by rw [← eall]
    rw [N0 hlt,VR (Kr _),Fn] at h2
    exact (V6 h2).symm
   subst hk
   obtain ⟨ys,es,py,_⟩:=qaB (xs:=J.filterMap (nbF S ((done.length:Nat):Int))) (by have:=U0 (nbF S ((done.length:Nat):Int)) J;have:=h.lj;omega)
   have nb:=qj6 h.ok (by have:=h.lj;omega) es
   obtain ⟨W',o3',o4',o5',e,w'⟩:=qhP h hlt w (.tuple [.list (S.map eC),.list (J.map eS)]) py o3 o4 o5
   refine ⟨_,?_,W',some (.int (done.length:Nat)),o3',o4',o5',rfl,by rw [KG,V1];exact w'⟩
   simp_arith [-L2.j5,-L2.qcF,nb,e])
 rw [Xq] at w
 refine ⟨W,?_,w⟩
 have hr:(if (-1000:Int)<=(((S.map eC).length:Nat):Int)/\(((S.map eC).length:Nat):Int)<=1000 then some (rngL 0 ((((S.map eC).length:Nat):Int)).toNat) else none)=some ((Xg S.length).map fun k:Nat=>KJ (k:Nat)):=by
  rw [Kj,if_pos (by have:=h.ls;omega),UE,qgO]
 simp only [Qh,JR]
 simp_arith [hr,e]
noncomputable def lk13 (S:List Ce)(J:List Sp)(a b:Int):Option Sp:=(J.filterMap (nbF S a)).find? fun s=>decide (s.2.1=b)
theorem nb_in {S:List Ce}{J:List Sp}(h:J13 S J){a:Int}{s:Sp}(hs:s∈J.filterMap (nbF S a)):(0<=a/\a<(S.length:Int))/\0<=s.2.1/\s.2.1<(S.length:Int):=by
 obtain ⟨t,ht,hs⟩:=Ut.mp hs
 obtain ⟨p1,p2,a',b',ea,eb,ad⟩:=h.ok t ht
 have l1:=(KD.mp ea).1
 have l2:=(KD.mp eb).1
 rw [JD ea eb] at hs
 split at hs
 ·rename_i k1
  cases hs
  exact ⟨by omega,p2,by show t.2.1<_;omega⟩
 ·split at hs
  ·rename_i k1
   cases hs
   exact ⟨by omega,p1,by show t.1<_;omega⟩
  ·cases hs
theorem qfI {S:List Ce}{J:List Sp}{W:List (Ce×Ce)}(h:J13 S J)(w:W13 S J S.length W){a b:Int}:zL (eW W) (kC3 (a,b))=(lk13 S J a b).map fun s=>eC (s.1,s.2.2):=by
 rw [qaV]
 cases hl:lk13 S J a b with
 | none =>
  rw [Nm.mpr fun p hp=>?_]
  ·rfl
  ·simp only [decide_eq_true_eq]
   intro z
   obtain ⟨_,_,s,hs,c⟩:=(w.iff p).mp hp
   unfold lk13 at hl
   rw [Nm] at hl
   have e1:p.1.1=a:=by rw [z]
   rw [e1] at hs
   have e2:s.2.1=b:=by
    have:p.1.2=b:=by rw [z]
    rw [c] at this
    exact this
   exact hl s hs (decide_eq_true e2)
 | some s =>
  have hl':(J.filterMap (nbF S a)).find? (fun s=>decide (s.2.1=b))=some s:=hl
  have hs:=UU hl'
  have hb:s.2.1=b:=by have z:=NV hl';exact of_decide_eq_true z
  have av:=(nb_in h hs).1
  have mem:((a,b),(s.1,s.2.2))∈W:=(w.iff _).mpr ⟨av.1,av.2,s,hs,by rw [hb]⟩
  cases hf:W.find? fun p=>decide (p.1=(a,b)) with
  | none =>
   rw [Nm] at hf
   exact absurd (decide_eq_true rfl) (hf _ mem)
  | some p =>
   have hp:=UU hf
   have e:p.1=(a,b):=by have z:=NV hf;exact of_decide_eq_true z
   rw [key13 w.nd hp mem e]
   rfl
theorem nin13 {S:List Ce}{J:List Sp}{W:List (Ce×Ce)}(h:J13 S J)(w:W13 S J S.length W){a b:Int}:qas (eC (a,b)) (.dict (eW W))=some (.bool (lk13 S J a b).isNone):=by
 show ob (kxOf (eC (a,b))) (fun ks=>if kOk (eW W) ks=true then some (X6 (!(zL (eW W) ks).isSome)) else none)=_
 rw [show kxOf (eC (a,b))=some (kC3 (a,b)) from rfl,ob_s,if_pos (qcM _ _),qfI h w]
 cases lk13 S J a b<;>rfl
theorem ix13 {S:List Ce}{J:List Sp}{W:List (Ce×Ce)}(h:J13 S J)(w:W13 S J S.length W){a b:Int}{s:Sp}(hl:lk13 S J a b=some s):ix2D (.dict (eW W)) (eC (a,b))=some (eC (s.1,s.2.2)):=by
 show ob (kxOf (eC (a,b))) (fun ks=>if kOk (eW W) ks=true then zL (eW W) ks else none)=_
 rw [show kxOf (eC (a,b))=some (kC3 (a,b)) from rfl,ob_s,if_pos (qcM _ _),qfI h w,hl]
 rfl
noncomputable def zZ (S:List Ce)(J:List Sp):List Ce->Nat->Sp3->Tr->Nat ⊕ (Sp3×Tr)
 | [],_,x,t=>.inr (x,t)
 | p::ps,n,x,t=>match lk13 S J p.1 p.2 with
  | none=>.inl n
  | some s=>zZ S J ps (n+1) (spV x t s.1 s.2.2) (stV t s.1 s.2.2)
theorem qjc {S:List Ce}{J:List Sp}(h:J13 S J){a b:Int}{s:Sp}(e:lk13 S J a b=some s):s.1∈Z4/\s.2.2∈zT:=by
 have e':(J.filterMap (nbF S a)).find? (fun s=>decide (s.2.1=b))=some s:=e
 obtain ⟨t,ht,hs⟩:=Ut.mp (UU e')
 obtain ⟨p1,p2,a',b',ea,eb,ad⟩:=h.ok t ht
 have hb:=h.bd t ht
 rw [JD ea eb] at hs
 have w:wy a' b'=0\/wy a' b'=1:=by unfold wy;split<;>simp
 split at hs
 ·cases hs
  exact ⟨by rcases w with w|w<;>rw [show (wy a' b',t.2.1,t.2.2).1=wy a' b' from rfl,w]<;>decide,hb⟩
 ·split at hs
  ·cases hs
   exact ⟨by rcases w with w|w<;>rw [show (wy a' b'+2,t.1,t.2.2).1=wy a' b'+2 from rfl,w]<;>decide,hb⟩
  ·cases hs
theorem qjz {α:Type}(f:α->Ka)(xs:List α):sliD (.list (xs.map f)) (some 1) none=some (.list ((xs.drop 1).map f)):=by
 show some (VQ (cutD (xs.map f) (some ((1:Nat):Int)) none))=_
 unfold cutD
 rw [HT.yH]
 have h0:HT.sIx (xs.map f).length (xs.map f).length none=(xs.map f).length:=rfl
 rw [h0,Kj]
 by_cases hk:1<=xs.length
 ·rw [Nat.min_eq_left hk,En,ES (by rw [UQ,Kj];exact Kr _)]
 ·rw [Nat.min_eq_right (by omega),XM (l:=xs) (by omega),XM (by rw [Kj];exact Kr _),Fn]
  rfl
theorem qg9 {u:Rho->Option Out}{w1 w2:Rho->Option (Ka×Rho)}{ρ ρ':Rho}(h1:w1 ρ=none)(h2:u ρ=some (.nx ρ')):xSeq u w1 w2 ρ=w2 ρ':=by unfold xSeq;rw [h1,h2]
theorem xs13b {u:Rho->Option Out}{w1 w2:Rho->Option (Ka×Rho)}{ρ:Rho}{r:Ka×Rho}(h1:w1 ρ=some r):xSeq u w1 w2 ρ=some r:=by unfold xSeq;rw [h1]
theorem sh13:∀ n,n<100->(shOk (.int (n:Nat))&&flat (.int (n:Nat)))=true:=by decide +kernel
theorem qf5 {S:List Ce}{J:List Sp}(h:J13 S J){W:List (Ce×Ce)}(w:W13 S J S.length W)(d0 d1:Ka):∀ (ps:List Ce) (n:Nat) (x:Sp3) (t:Tr) (o4 o5:Option Ka),n+ps.length<=90->Tn t->
  match zZ S J ps n x t with
  | .inr r=>(∃ r4 r5:Option Ka,forD (unpD 2 (gsC (gNm 4) (gsC (gNm 5) gsN))) zK (enL n (ps.map eC)) [some d0,some d1,some (encP x t),some (.dict (eW W)),o4,o5]=some (.nx [some d0,some d1,some (encP r.1 r.2),some (.dict (eW W)),r4,r5]))/\
    forX (unpD 2 (gsC (gNm 4) (gsC (gNm 5) gsN))) zK zU (enL n (ps.map eC)) [some d0,some d1,some (encP x t),some (.dict (eW W)),o4,o5]=none/\Tn r.2
  | .inl m=>∃ ρ',forX (unpD 2 (gsC (gNm 4) (gsC (gNm 5) gsN))) zK zU (enL n (ps.map eC)) [some d0,some d1,some (encP x t),some (.dict (eW W)),o4,o5]=some (excD "NoWay" (.tuple [.str "at", .int (m:Nat)]),ρ')
 | [],n,x,t,o4,o5,_,ht=>⟨⟨o4,o5,rfl⟩,rfl,ht⟩
 | p::ps,n,x,t,o4,o5,hn,ht=>by
  rw [KA] at hn
  have nn:qas (eC p) (.dict (eW W))=some (.bool (lk13 S J p.1 p.2).isNone):=nin13 h w
  have hu:unpD 2 (gsC (gNm 4) (gsC (gNm 5) gsN)) (.tuple [.int (n:Nat),eC p]) [some d0,some d1,some (encP x t),some (.dict (eW W)),o4,o5]=some [some d0,some d1,some (encP x t),some (.dict (eW W)),some (.int (n:Nat)),some (eC p)]:=rfl
  have en:enL n ((p::ps).map eC)=.tuple [.int (n:Nat),eC p]::enL (n+1) (ps.map eC):=rfl
  unfold zZ
  cases hl:lk13 S J p.1 p.2 with
  | none =>
   rw [hl] at nn
   dsimp only
   have hx:zU [some d0,some d1,some (encP x t),some (.dict (eW W)),some (.int (n:Nat)),some (eC p)]=some (excD "NoWay" (.tuple [.str "at", .int (n:Nat)]),[some d0,some d1,some (encP x t),some (.dict (eW W)),some (.int (n:Nat)),some (eC p)]):=by
    have i1:Fb (none:Option Sp)=true:=rfl
    have sh:=sh13 n (by omega)
    unfold zU xSeq xIf Y4 xNo
    simp_arith [nn,i1,sh]
   rw [en,forX,hu,ob_s,hx]
   exact ⟨_,rfl⟩
  | some s =>
   rw [hl] at nn
   obtain ⟨hw,hb⟩:=qjc h hl
   have ix:ix2D (.dict (eW W)) (eC p)=some (eC (s.1,s.2.2)):=ix13 h w hl
   have le:=qh2 x ht hw hb
   have ih:=qf5 h w d0 d1 ps (n+1) (spV x t s.1 s.2.2) (stV t s.1 s.2.2) (some (.int (n:Nat))) (some (eC p)) (by omega) (Tn.of (qgV t ht.mem s.1 hw s.2.2 hb))
   have hx:zU [some d0,some d1,some (encP x t),some (.dict (eW W)),some (.int (n:Nat)),some (eC p)]=none:=by
    have i1:Fb (some s)=false:=rfl
    unfold zU xSeq xIf Y4 xNo
    simp_arith [nn,i1]
   have hbd:zK [some d0,some d1,some (encP x t),some (.dict (eW W)),some (.int (n:Nat)),some (eC p)]=some (.nx [some d0,some d1,some (encP (spV x t s.1 s.2.2) (stV t s.1 s.2.2)),some (.dict (eW W)),some (.int (n:Nat)),some (eC p)]):=by
    have i1:Fb (some s)=false:=rfl
    simp_arith [nn,i1,ix,le]
   dsimp only
   rw [en,forX,hu,ob_s,hx,hbd]
   rw [j5,hu,ob_s,hbd,yj]
   exact ih
theorem qg7 {S:List Ce}{J:List Sp}(h:J13 S J){ks:List Int}(hl:ks.length<=90)(x:Sp3){t:Tr}(ht:Tn t) :
  match zZ S J (ks.zip (ks.drop 1)) 0 x t with
  | .inr r=>j0 [.tuple [.list (S.map eC),.list (J.map eS)],.list (ks.map .int),encP x t]=some (encP r.1 r.2)/\QT [.tuple [.list (S.map eC),.list (J.map eS)],.list (ks.map .int),encP x t]=none/\Tn r.2
  | .inl m=>QT [.tuple [.list (S.map eC),.list (J.map eS)],.list (ks.map .int),encP x t]=some (excD "NoWay" (.tuple [.str "at", .int (m:Nat)])):=by
 obtain ⟨W,es,w⟩:=qiQ h
 have lz:0+(ks.zip (ks.drop 1)).length<=90:=by rw [EO];omega
 have lp:=qf5 h w (.tuple [.list (S.map eC),.list (J.map eS)]) (.list (ks.map .int)) (ks.zip (ks.drop 1)) 0 x t none none lz ht
 have sl:sliD (.list (ks.map .int)) (some 1) none=some (.list ((ks.drop 1).map .int)):=qjz KJ ks
 have zz:ezD (.list (ks.map .int)) (.list ((ks.drop 1).map .int))=some (enL 0 ((ks.zip (ks.drop 1)).map eC)):=by
  rw [qjF,qee]
  rfl
 have s1:∀ o3 o4 o5:Option Ka,sSet 3 (evC 1 (aC (vr 0) aN) Qh) [some (.tuple [.list (S.map eC),.list (J.map eS)]),some (.list (ks.map .int)),some (encP x t),o3,o4,o5]=some (.nx [some (.tuple [.list (S.map eC),.list (J.map eS)]),some (.list (ks.map .int)),some (encP x t),some (.dict (eW W)),o4,o5]):=fun o3 o4 o5=>by
  simp_arith [es]
 have it:∀ o4 o5:Option Ka,evI2 (vr 1) (evS (vr 1) (oS (kd (.int 1))) oN) ezD [some (.tuple [.list (S.map eC),.list (J.map eS)]),some (.list (ks.map .int)),some (encP x t),some (.dict (eW W)),o4,o5]=some (enL 0 ((ks.zip (ks.drop 1)).map eC)):=fun o4 o5=>by
  simp_arith [sl,zz]
 have r0:rho0 J4.length [.tuple [.list (S.map eC),.list (J.map eS)],.list (ks.map .int),encP x t]=[some (.tuple [.list (S.map eC),.list (J.map eS)]),some (.list (ks.map .int)),some (encP x t),none,none,none]:=rfl
 cases hw:zZ S J (ks.zip (ks.drop 1)) 0 x t with
 | inr r =>
  rw [hw] at lp
  dsimp only at lp ⊢
  obtain ⟨⟨r4,r5,e1⟩,e2,e3⟩:=lp
  have fl:sFor (evI2 (vr 1) (evS (vr 1) (oS (kd (.int 1))) oN) ezD) (unpD 2 (gsC (gNm 4) (gsC (gNm 5) gsN))) zK [some (.tuple [.list (S.map eC),.list (J.map eS)]),some (.list (ks.map .int)),some (encP x t),some (.dict (eW W)),none,none]=some (.nx [some (.tuple [.list (S.map eC),.list (J.map eS)]),some (.list (ks.map .int)),some (encP r.1 r.2),some (.dict (eW W)),r4,r5]):=by
   simp_arith [sl,zz,e1]
  have fx:xFor (evI2 (vr 1) (evS (vr 1) (oS (kd (.int 1))) oN) ezD) (unpD 2 (gsC (gNm 4) (gsC (gNm 5) gsN))) zK zU [some (.tuple [.list (S.map eC),.list (J.map eS)]),some (.list (ks.map .int)),some (encP x t),some (.dict (eW W)),none,none]=none:=by
   unfold xFor
   rw [it,ob_s,e2]
  refine ⟨?_,?_,e3⟩
  ·unfold j0 WD
   rw [r0,Ym (s1 _ _ _) (Ym fl rfl)]
   rfl
  ·unfold QT xOut yL
   rw [r0,qg9 rfl (s1 _ _ _),qg9 fx fl]
   rfl
 | inl m =>
  rw [hw] at lp
  dsimp only at lp ⊢
  obtain ⟨ρ',e⟩:=lp
  have fx:xFor (evI2 (vr 1) (evS (vr 1) (oS (kd (.int 1))) oN) ezD) (unpD 2 (gsC (gNm 4) (gsC (gNm 5) gsN))) zK zU [some (.tuple [.list (S.map eC),.list (J.map eS)]),some (.list (ks.map .int)),some (encP x t),some (.dict (eW W)),none,none]=some (excD "NoWay" (.tuple [.str "at", .int (m:Nat)]),ρ'):=by
   unfold xFor
   rw [it,ob_s,e]
  unfold QT xOut yL
  rw [r0,qg9 rfl (s1 _ _ _),xs13b fx]
  rfl
theorem qhH (x:Sp3)(t:Tr):flat (encP x t)=true:=rfl
theorem qje {S:List Ce}{J:List Sp}{k:Int}(h0:0<=k)(h1:k<(S.length:Int)):ixD (eLS (nrL S J)) (.int k)=some (.list ((J.filterMap (nbF S k)).map eS)):=by
 have e:=Wc (S:=S) J (k:=k.toNat) (by omega)
 rw [show ((k.toNat:Nat):Int)=k by omega] at e
 exact Q4 h0 e
theorem qdP {S:List Ce}{J:List Sp}(h:J13 S J){ks:List Int}(hk:∀ k∈ks,0<=k/\k<(S.length:Int)):∀ (m n:Nat) (x:Sp3) (t:Tr) (o3 o4:Option Ka),n+m+1=ks.length->Tn t->
  match zZ S J ((ks.zip (ks.drop 1)).drop n) n x t with
  | .inr r=>∃ r3 r4:Option Ka,forD (gNm 3) zm (rngL (n:Nat) m) [some (eLS (nrL S J)),some (.list (ks.map .int)),some (encP x t),o3,o4]=some (.nx [some (eLS (nrL S J)),some (.list (ks.map .int)),some (encP r.1 r.2),r3,r4])
  | .inl j=>forD (gNm 3) zm (rngL (n:Nat) m) [some (eLS (nrL S J)),some (.list (ks.map .int)),some (encP x t),o3,o4]=some (.rt (.int (j:Nat)))
 | 0,n,x,t,o3,o4,hn,ht=>by
  have e:(ks.zip (ks.drop 1)).drop n=[]:=XM (by rw [EO,UQ];omega)
  rw [e]
  exact ⟨o3,o4,rfl⟩
 | m+1,n,x,t,o3,o4,hn,ht=>by
  obtain ⟨a,ea⟩:∃ a,ks[n]?=some a:=⟨_,Kn (by omega)⟩
  obtain ⟨b,eb⟩:∃ b,ks[n+1]?=some b:=⟨_,Kn (by omega)⟩
  obtain ⟨a0,a1⟩:=hk a (Vs ea)
  have hz:(ks.zip (ks.drop 1))[n]?=some (a,b):=Ex.mpr ⟨ea,by rw [List.getElem?_drop,Fi 1];exact eb⟩
  obtain ⟨hlt,he⟩:=KD.mp hz
  rw [VF hlt,he]
  have x1:atI (ks.map KJ) ((n:Nat):Int)=some (.int a):=YJ (by rw [K1,ea];rfl)
  have x2:atI (ks.map KJ) (((n:Nat):Int)+1)=some (.int b):=YJ (j:=n+1) (by rw [K1,eb];rfl)
  have nx:=qje (J:=J) a0 a1
  have hc:QW (tV (ev2 (ev2 (vr 5) (kd (.int 1)) ixD) (ev2 (vr 1) (ev2 (vr 3) (kd (.int 1)) Qe) ixD) eqD)) (vr 5) [some (eLS (nrL S J)),some (.list (ks.map .int)),some (encP x t),some (.int (n:Nat)),o4] ((J.filterMap (nbF S a)).map eS)=some (((J.filterMap (nbF S a)).filter fun s=>decide (s.2.1=b)).map eS) :=
   qac eS (fun s=>decide (s.2.1=b)) eS _ (fun s _=>by simp_arith [ixe1,x2];rfl) (fun s _ _=>rfl)
  have hlen:((J.filterMap (nbF S a)).map eS).length<=1000:=by rw [Kj];have:=U0 (nbF S a) J;have:=h.lj;omega
  have hd:((J.filterMap (nbF S a)).filter fun s=>decide (s.2.1=b)).head?=lk13 S J a b:=List.head?_filter ..
  have rn:rngL (n:Nat) (m+1)=.int (n:Nat)::rngL ((n+1:Nat):Int) m:=rfl
  unfold zZ
  generalize hF:((J.filterMap (nbF S a)).filter fun s=>decide (s.2.1=b))=F at hc hd
  cases F with
  | nil =>
   rw [← hd]
   dsimp only [List.head?_nil]
   have hb:zm [some (eLS (nrL S J)),some (.list (ks.map .int)),some (encP x t),some (.int (n:Nat)),o4]=some (.rt (.int (n:Nat))):=by
    simp_arith [x1,nx,hlen,hc]
   rw [rn,j5]
   show forO (zm [some (eLS (nrL S J)),some (.list (ks.map .int)),some (encP x t),some (.int (n:Nat)),o4]) _ _ _=_
   rw [hb,qdD]
  | cons s F =>
   rw [← hd]
   dsimp only [List.head?_cons]
   obtain ⟨hw,hbd⟩:=qjc h hd.symm
   have le:=lledE x ht hw hbd
   have ih:=qdP h hk m (n+1) (spV x t s.1 s.2.2) (stV t s.1 s.2.2) (some (.int (n:Nat))) (some (.list ((s::F).map eS))) (by omega) (Tn.of (qgV t ht.mem s.1 hw s.2.2 hbd))
   have hb:zm [some (eLS (nrL S J)),some (.list (ks.map .int)),some (encP x t),some (.int (n:Nat)),o4]=some (.nx [some (eLS (nrL S J)),some (.list (ks.map .int)),some (encP (spV x t s.1 s.2.2) (stV t s.1 s.2.2)),some (.int (n:Nat)),some (.list ((s::F).map eS))]):=by
    have l0:((((F.map eS).length+1:Nat):Int)==0)=false:=beq_eq_false_iff_ne.mpr (by omega)
    simp_arith [x1,nx,hlen,hc,l0,ixe0,ixe2,le,qhH]
   rw [rn,j5]
   show (match zZ S J ((ks.zip (ks.drop 1)).drop (n+1)) (n+1) (spV x t s.1 s.2.2) (stV t s.1 s.2.2) with
    | .inr r=>∃ r3 r4:Option Ka,forO (zm [some (eLS (nrL S J)),some (.list (ks.map .int)),some (encP x t),some (.int (n:Nat)),o4]) _ _ _=_
    | .inl j=>forO (zm [some (eLS (nrL S J)),some (.list (ks.map .int)),some (encP x t),some (.int (n:Nat)),o4]) _ _ _=_)
   rw [hb,yj]
   exact ih
noncomputable def yc:Nat ⊕ (Sp3×Tr)->Ka
 | .inl j=>.int (j:Nat)
 | .inr r=>encP r.1 r.2
theorem qaq {S:List Ce}{J:List Sp}(h:J13 S J){ks:List Int}(hk:∀ k∈ks,0<=k/\k<(S.length:Int))(h0:0<ks.length)(hl:ks.length<=90)(x:Sp3){t:Tr}(ht:Tn t) :
  Qs [eLS (nrL S J),.list (ks.map .int),encP x t]=some (yc (zZ S J (ks.zip (ks.drop 1)) 0 x t)):=by
 have lp:=qdP h hk (ks.length-1) 0 x t none none (by omega) ht
 rw [List.drop_zero] at lp
 have hr:(if (-1000:Int)<=(((ks.map KJ).length:Nat):Int)-1/\(((ks.map KJ).length:Nat):Int)-1<=1000 then some (rngL 0 ((((ks.map KJ).length:Nat):Int)-1).toNat) else none)=some (rngL ((0:Nat):Int) (ks.length-1)):=by
  rw [Kj,if_pos (by omega),show ((ks.length:Int)-1).toNat=ks.length-1 by omega]
  rfl
 simp only [Qs,jc]
 cases hw:zZ S J (ks.zip (ks.drop 1)) 0 x t with
 | inr r =>
  rw [hw] at lp
  dsimp only at lp
  obtain ⟨r3,r4,e⟩:=lp
  rw [Int.natCast_zero] at e hr
  simp_arith [-L2.rngL,hr,e]
  rfl
 | inl j =>
  rw [hw] at lp
  dsimp only at lp
  rw [Int.natCast_zero] at lp hr
  simp_arith [-L2.rngL,hr,lp]
  rfl
theorem qj3 {S:List Ce}{J:List Sp}(h:J13 S J)(c:Int)(ms:List Int)(hm:ms.length<=30):∃ ks:List Int,Zc [eLS (nrL S J),.int c,.list (ms.map .int)]=some (.list (ks.map .int))/\(∀ k∈ks,0<=k/\k<(S.length:Int))/\0<ks.length/\ks.length<=1+ms.length:=by
 have ln:((nrL S J).map fun l=>VQ (l.map eS)).length=S.length:=by rw [Kj];unfold nrL;rw [Kj,Xq]
 have lnn:lenD [eLS (nrL S J)]=some (.int (S.length:Nat)):=by
  have:lenD [eLS (nrL S J)]=some (.int (((nrL S J).map fun l=>VQ (l.map eS)).length:Nat)):=rfl
  rw [this,ln]
 have md:modD (.int c) (.int (S.length:Nat))=some (.int (c % (S.length:Int))):=Q6 _ (by have:=h.s0;omega)
 obtain ⟨ρ',e,ks,o4,o5,rfl,hk,hn⟩:=yh KJ (g:=gNm 4) (u:=Js)
  (fun done ρ=>∃ (ks:List Int) (o4 o5:Option Ka),ρ=[some (eLS (nrL S J)),some (.int c),some (.list (ms.map .int)),some (.list (ks.map .int)),o4,o5]/\(∀ k∈ks,0<=k/\k<(S.length:Int))/\0<ks.length/\ks.length<=1+done.length) ms [some (eLS (nrL S J)),some (.int c),some (.list (ms.map .int)),some (.list [.int (c % (S.length:Int))]),none,none]
  ⟨[c % (S.length:Int)],none,none,rfl,fun k hk=>by rw [Vm.mp hk];have:=h.s0;exact ⟨Xo _ (by omega),XI _ (by omega)⟩,by simp,by simp⟩ (by
   rintro v hv done ρ hdl ⟨ks,o4,o5,rfl,hk,h0,hn⟩
   obtain ⟨a,hla⟩:∃ a,ks.getLast?=some a:=by
    cases hq:ks.getLast? with
    | none=>rw [List.getLast?_eq_none_iff] at hq;rw [hq] at h0;cases h0
    | some a=>exact ⟨a,rfl⟩
   obtain ⟨pre,rfl⟩:=List.getLast?_eq_some_iff.mp hla
   obtain ⟨a0,a1⟩:=hk a (by simp)
   have la:atI ((pre++[a]).map KJ) (-1)=some (.int a):=by rw [Ve];exact qfi _ _
   have nx:=qje (J:=J) a0 a1
   have hz:((pre++[a]).map KJ).length<1000:=by rw [Kj];omega
   have hln:(done++[v]).length=done.length+1:=by simp
   cases hF:J.filterMap (nbF S a) with
   | nil =>
    rw [hF] at nx
    refine ⟨[some (eLS (nrL S J)),some (.int c),some (.list (ms.map .int)),some (.list ((pre++[a]).map .int)),some (.int v),some (.list [])],?_,_,_,_,rfl,hk,h0,by omega⟩
    simp_arith [la,nx]
   | cons s F =>
    rw [hF] at nx
    obtain ⟨u,hu,eu⟩:=qdx (xs:=s::F) (v / 4) (by simp)
    have md2:modD (.int (v / 4)) (.int ((((s::F).map eS).length:Nat):Int))=some (.int (v / 4 % ((s::F).length:Int))):=by rw [Kj];exact Q6 _ (by simp)
    have au:atI ((s::F).map eS) (v / 4 % ((s::F).length:Int))=some (eS u):=Q4 (Xo _ (by simp;omega)) eu
    have ub:0<=u.2.1/\u.2.1<(S.length:Int):=by
     rw [← hF] at hu
     obtain ⟨t,ht,hs⟩:=Ut.mp hu
     obtain ⟨p1,p2,a',b',ea,eb,ad⟩:=h.ok t ht
     have l1:=(KD.mp ea).1
     have l2:=(KD.mp eb).1
     rw [JD ea eb] at hs
     split at hs
     ·cases hs;exact ⟨p2,by show t.2.1<_;omega⟩
     ·split at hs
      ·cases hs;exact ⟨p1,by show t.1<_;omega⟩
      ·cases hs
    have gt:decide (((((s::F).map eS).length:Nat):Int) > 0)=true:=decide_eq_true (by simp)
    refine ⟨[some (eLS (nrL S J)),some (.int c),some (.list (ms.map .int)),some (.list ((pre++[a]++[u.2.1]).map .int)),some (.int v),some (.list ((s::F).map eS))],?_,_,_,_,rfl,fun k q=>?_,by simp,by simp at hn ⊢;omega⟩
    ·generalize hG:(s::F)=GG at *
     simp_arith [la,nx,gt,md2,au,ixe1,hz]
     simp only [Ve,Kt,Ud]
    ·rcases VN.mp q with q|q
     ·exact hk k q
     ·rw [Vm.mp q];exact ub)
 refine ⟨ks,?_,hk,hn⟩
 simp only [Zc,Jc]
 simp_arith [lnn,md,e]
theorem at13 (m:Int):Zx [excD "NoWay" (.tuple [.str "at", .int m])]=some (.int m):=by kernel_rfl
theorem on13 (f:Ka->Option (Ka×Rho)):ob (none:Option Ka) f=none:=rfl
theorem qg0 {S:List Ce}{J:List Sp}(h:J13 S J){ks:List Int}(hl:ks.length<=90)(x:Sp3){t:Tr}(ht:Tn t) :
  Z2 [.tuple [.list (S.map eC),.list (J.map eS)],.list (ks.map .int),encP x t]=some (yc (zZ S J (ks.zip (ks.drop 1)) 0 x t)):=by
 have wk:=qg7 h hl x ht
 generalize VL [.list (S.map eC),.list (J.map eS)]=d0 at wk ⊢
 generalize VQ (ks.map .int)=d1 at wk ⊢
 have s1:sSet 3 (kd .none) [some d0,some d1,some (encP x t),none,none]=some (.nx [some d0,some d1,some (encP x t),some .none,none]):=by simp_arith []
 cases hw:zZ S J (ks.zip (ks.drop 1)) 0 x t with
 | inr r =>
  rw [hw] at wk
  dsimp only at wk
  obtain ⟨hf,hx,_⟩:=wk
  have hw:WK 3 (aC (vr 0) (aC (vr 1) (aC (vr 2) aN))) QT [some d0,some d1,some (encP x t),some .none,none]=none:=by
   unfold WK
   simp_arith [hx,on13]
  have key:zQ [some d0,some d1,some (encP x t),none,none]=some (.rt (encP r.1 r.2)):=by
   unfold zQ
   refine Ym s1 (Ym (ρ':=[some d0,some d1,some (encP x t),some (encP r.1 r.2),none]) ?_ (by simp_arith []))
   rw [qkJ hw]
   simp_arith [hf]
  show ob (zQ [some d0,some d1,some (encP x t),none,none]) _=_
  rw [key]
  rfl
 | inl m =>
  rw [hw] at wk
  dsimp only at wk
  have hw:WK 3 (aC (vr 0) (aC (vr 1) (aC (vr 2) aN))) QT [some d0,some d1,some (encP x t),some .none,none]=some (excD "NoWay" (.tuple [.str "at", .int (m:Nat)]),[some d0,some d1,some (encP x t),some .none,none]):=by
   unfold WK
   simp_arith [wk]
  have ea:=at13 (m:Nat)
  have key:zQ [some d0,some d1,some (encP x t),none,none]=some (.rt (.int (m:Nat))):=by
   unfold zQ
   refine Ym s1 (Ym (ρ':=[some d0,some d1,some (encP x t),some (.int (m:Nat)),none]) ?_ (by simp_arith []))
   rw [qkK hw (by decide +kernel)]
   simp_arith [ea]
   rfl
  show ob (zQ [some d0,some d1,some (encP x t),none,none]) _=_
  rw [key]
  rfl
theorem qfE (w:Nat ⊕ (Sp3×Tr)):neD (yc w) (yc w)=some (.bool false):=by
 cases w with
 | inl j =>
  show (some (X6 (!(((j:Nat):Int)==((j:Nat):Int)))):Option Ka)=_
  simp
 | inr r=>exact neP r.1 r.2
theorem qdw (w:Nat ⊕ (Sp3×Tr)):isD (yc w) .none=some (.bool false):=by cases w<;>rfl
theorem qjK (cs:List Ce)(js:List Sp)(ks:List Int):eqD (.list [.tuple [.list (cs.map eC),.list (js.map eS)],.list (ks.map .int)]) (.list [.tuple [.list (cs.map eC),.list (js.map eS)],.list (ks.map .int)])=some (.bool true):=by
 have hc:=qfp cs
 have hj:=qjy js
 have hi:=jf ks
 have sh:K5 (.list [.tuple [.list (cs.map eC),.list (js.map eS)],.list (ks.map .int)])=true:=by
  have h2:UZ (.list [.tuple [.list (cs.map eC),.list (js.map eS)],.list (ks.map .int)])=max (max (Kw (cs.map eC)+1) (max (Kw (js.map eS)+1) 0)+1) (max (Kw (ks.map .int)+1) 0)+1:=rfl
  have h3:KL (.list [.tuple [.list (cs.map eC),.list (js.map eS)],.list (ks.map .int)])=((Km (cs.map eC)&&(Km (js.map eS)&&true))&&(Km (ks.map .int)&&true)):=rfl
  unfold K5
  rw [h2,h3,hc.1,hj.1,hi.1,Kp]
  exact ⟨rfl,decide_eq_true (by omega)⟩
 unfold eqD
 have:Kq (.list [.tuple [.list (cs.map eC),.list (js.map eS)],.list (ks.map .int)]) (.list [.tuple [.list (cs.map eC),.list (js.map eS)],.list (ks.map .int)])=((Kq (.list (cs.map eC)) (.list (cs.map eC))&&(Kq (.list (js.map eS)) (.list (js.map eS))&&true))&&(Kq (.list (ks.map .int)) (.list (ks.map .int))&&true)):=rfl
 rw [if_pos ⟨sh,sh⟩,this,Jq qiM cs,Jq qiN js,Jq qgS ks]
 rfl
theorem ins13 {S:List Ce}{ks:List Int}(hk:∀ k∈ks,0<=k/\k<(S.length:Int))(hl:ks.length<=90)(p c:Int)(h0:0<S.length):∃ ks':List Int,insD (.list (ks.map .int)) (.int (p % ((ks.length:Int)+1))) (.int (c % (S.length:Int)))=some (.list (ks'.map .int))/\(∀ k∈ks',0<=k/\k<(S.length:Int))/\0<ks'.length/\ks'.length=ks.length+1:=by
 obtain ⟨n,hn⟩:∃ n:Nat,p % ((ks.length:Int)+1)=(n:Nat):=⟨(p % ((ks.length:Int)+1)).toNat,by rw [Int.toNat_of_nonneg (Xo _ (by omega))]⟩
 have hlt:n<=ks.length:=by have:=XI p (b:=(ks.length:Int)+1) (by omega);omega
 refine ⟨ks.take n++(c % (S.length:Int))::ks.drop n,?_,fun k q=>?_,by rw [KG,KA];omega,?_⟩
 ·rw [hn]
  show (if n<=(ks.map KJ).length/\(ks.map KJ).length<1000 then some (VQ ((ks.map KJ).take n++.int (c % (S.length:Int))::(ks.map KJ).drop n)) else none)=_
  rw [if_pos (by rw [Kj];omega),Ve,Kt,E9,En]
 ·rcases VN.mp q with q|q
  ·exact hk k (E6 q)
  ·rcases Ko.mp q with q|q
   ·rw [q];exact ⟨Xo _ (by omega),XI _ (by omega)⟩
   ·exact hk k (E5 q)
 ·rw [KG,KA,U9,UQ];omega
theorem qeN (ns:List Int)(_:ns.length<=63)(hb:∀ k∈ns,V0 k<=2 ^ 20):qdC [.list (ns.map .int)]=some (.bool true):=by
 obtain ⟨fs,T,eg,g⟩:=qhL hb
 obtain ⟨S,J,es,pS,rS,pJ,rJ⟩:=qiO (fs:=fs) (T:=T) (by have:=g.h1;omega) (by have:=g.h3;omega) fun p hp=>⟨(g.h5 p hp).1,(g.h5 p hp).2.1⟩
 have h:=jok13 g pS pJ
 have en:=qj7 h
 have c2:=yS ns 2 (by decide)
 have c3:=yS ns 3 (by decide)
 have c4:=yS ns 4 (by decide)
 have c5:=yS ns 5 (by decide)
 generalize Z0 ns 2=v2 at c2
 generalize Z0 ns 3=v3 at c3
 generalize Z0 ns 4=v4 at c4
 generalize Z0 ns 5=v5 at c5
 obtain ⟨ms,em,lm,_⟩:=qi6 ns (a:=40) (b:=60)
 have em':sliD (.list (ns.map .int)) (some 40) (some 60)=some (.list (ms.map .int)):=em
 obtain ⟨ks,ek,hk,h0,hl⟩:=qj3 h v2 ms (by omega)
 obtain ⟨x,t,ep,ht⟩:=qkv v4 v5
 have ln:((nrL S J).map fun l=>VQ (l.map eS)).length=S.length:=by rw [Kj];unfold nrL;rw [Kj,Xq]
 have lnn:lenD [eLS (nrL S J)]=some (.int (S.length:Nat)):=by
  have:lenD [eLS (nrL S J)]=some (.int (((nrL S J).map fun l=>VQ (l.map eS)).length:Nat)):=rfl
  rw [this,ln]
 have bl:VQ [.int 0,.int 0,.int 1,.int (-1)]=.list bl13:=rfl
 obtain ⟨n,hn⟩:∃ n:Nat,v3 % 100=(n:Nat):=⟨(v3 % 100).toNat,by omega⟩
 have mk:mkI "NoWay" "at" (.int (v3 % 100))=some (excD "NoWay" (.tuple [.str "at", .int (v3 % 100)])):=by
  unfold mkI
  rw [hn,if_pos (sh13 n (by omega))]
 have ea:=at13 (v3 % 100)
 have fi:∀ j:Int,isiT "tuple" (.int j)=false:=fun _=>rfl
 have hd:=fun ks=>qjK S J ks
 have se:((v3 % 100)==(v3 % 100))=true:=beq_self_eq_true _
 cases hq:(v3 % 3==0) with
 | false =>
  have lw:=qaq h hk h0 (by omega) x ht
  have tl:=qg0 (ks:=ks) h (by omega) x ht
  have hdk:=hd ks
  have dn:=qfE (zZ S J (ks.zip (ks.drop 1)) 0 x t)
  have dm:=qdw (zZ S J (ks.zip (ks.drop 1)) 0 x t)
  generalize zZ S J (ks.zip (ks.drop 1)) 0 x t=w at lw tl dn dm
  simp only [qdC,qed]
  cases w with
  | inl j =>
   simp only [yc] at lw tl dn dm
   simp_arith [bl,eg,es,en,c2,em',ek,c3,hq,c4,c5,ep,lw,tl,fi,dn,dm,hdk,mk,ea,se]
  | inr r =>
   simp only [yc] at lw tl dn dm
   simp_arith [bl,eg,es,en,c2,em',ek,c3,hq,c4,c5,ep,lw,tl,isP,qbT,dn,dm,hdk,mk,ea,se]
 | true =>
  obtain ⟨ks',ei,hk',h0',hl'⟩:=ins13 hk (by omega) (v3 / 3) v4 h.s0
  have lw:=qaq h hk' h0' (by omega) x ht
  have tl:=qg0 (ks:=ks') h (by omega) x ht
  have hdk:=hd ks'
  have dn:=qfE (zZ S J (ks'.zip (ks'.drop 1)) 0 x t)
  have dm:=qdw (zZ S J (ks'.zip (ks'.drop 1)) 0 x t)
  generalize zZ S J (ks'.zip (ks'.drop 1)) 0 x t=w at lw tl dn dm
  have md1:modD (.int (v3 / 3)) (.int ((((ks.map KJ).length:Nat):Int)+1))=some (.int (v3 / 3 % ((ks.length:Int)+1))):=by rw [Kj];exact Q6 _ (by omega)
  have md2:modD (.int v4) (.int (S.length:Nat))=some (.int (v4 % (S.length:Int))):=Q6 _ (by have:=h.s0;omega)
  simp only [qdC,qed]
  cases w with
  | inl j =>
   simp only [yc] at lw tl dn dm
   simp_arith [bl,eg,es,en,c2,em',ek,c3,hq,md1,md2,qfK,lnn,sIns,ei,c4,c5,ep,lw,tl,fi,dn,dm,hdk,mk,ea,se]
  | inr r =>
   simp only [yc] at lw tl dn dm
   simp_arith [bl,eg,es,en,c2,em',ek,c3,hq,md1,md2,qfK,lnn,sIns,ei,c4,c5,ep,lw,tl,isP,qbT,dn,dm,hdk,mk,ea,se]
theorem qjs {l:Es}{w:KI}{K:Kd}{h:KC}{fa f39:Kf}(X:K.In h)(G:h.Ns mainGlobals mg)(hfa:mg "law" = some (.ref fa))
  {od39 an39:Option Kf} {sl39:Array (Option Ke)} {oc39 kV39 dc39 pm39 cd39 ct39:Ke}
  (h0:FnK K "is_whole" Tq22)
  (h1:FnK K "added" Tq37)
  (h2:FnK K "negated" Tq28)
  (h3:FnK K "cross" Tq38)
  (h4:FnK K "turned" Tq33)
  (h5:FnK K "joined_turns" Tq1)
  (h6:FnK K "turn_back" Tq15)
  (h7:FnK K "out_of" Tq34)
  (h8:FnK K "unit_of" Tq29)
  (h9:FnK K "is_bend" Tq30)
  (h10:FnK K "join_of" Tq31)
  (h11:FnK K "step_between" Tq2)
  (h12:FnK K "neighbours" Tq9)
  (h13:FnK K "steps_of" Tq23)
  (h14:FnK K "_law_cell" Tq16)
  (h15:FnK K "_law_whole" Tq10)
  (h16:FnK K "_law_cross" Tq11)
  (h17:FnK K "_law_dot" Tq24)
  (h18:FnK K "_law_sum" Tq25)
  (h19:FnK K "_law_unit" Tq17)
  (h20:FnK K "_law_led" Tq26)
  (h21:FnK K "_law_pose" Tq18)
  (h22:FnK K "_law_is_spot" Tq3)
  (h23:FnK K "_law_is_pose" Tq4)
  (h24:FnK K "_law_neighbour" Tq0)
  (h25:FnK K "_law_joined" Tq7)
  (h26:FnK K "_law_grown" Tq12)
  (h27:FnK K "_law_sheet" Tq13)
  (h28:FnK K "_law_near" Tq19)
  (h29:FnK K "_law_walked" Tq8)
  (h30:FnK K "_law_at" Tq32)
  (h31:FnK K "_law_list" Tq20)
  (h36:FnK K "led_by" Tq35)
  (h37:FnK K "walked" Tq36)
  (h38:FnK K "_law_told" Tq21)
  (a39:Kx K mainGlobals "law" = some (some (.ref f39))) (l39:K.lookup f39=some ⟨oc39,od39,.func (Uv "law" "law" (Q5 Tq39) (zp Tq39) (qe Tq39) .none kV39 dc39 pm39 an39 cd39 ct39),sl39⟩) (c39:Xa K cd39 "law" = true) (k39:Vf K (.ref f39)=true)
  (z0:Kx K mainGlobals "isinstance" = some none)
  (z1:Kx K mainGlobals "int" = some none)
  (z2:Kx K mainGlobals "bool" = some none)
  (z3:Kx K mainGlobals "tuple" = some none)
  (z4:Kx K mainGlobals "range" = some none)
  (z5:Kx K mainGlobals "sorted" = some none)
  (z6:Kx K mainGlobals "len" = some none)
  (z7:Kx K mainGlobals "abs" = some none)
  (z8:Kx K mainGlobals "all" = some none)
  (z9:Kx K mainGlobals "max" = some none)
  (z10:Kx K mainGlobals "min" = some none)
  (z11:Kx K mainGlobals "ValueError" = some none)
  (z12:Kx K mainGlobals "enumerate" = some none)
  (z13:Kx K mainGlobals "zip" = some none)
  (z14:Kx K mainGlobals "list" = some none)
  (ct:ctB K CS=true)
  (xf_at:xfB K XS "at" = true)
  (hi_NoWay:IniF K "NoWay" "at" "SheetError" "NoWay.__init__" Ws)
  (hm0:MthK K "Join" "goes_on" "Join.goes_on" Tq5)
  (hm1:MthK K "Up" "goes_on" "Up.goes_on" Tq14)
  (hm2:MthK K "Down" "goes_on" "Down.goes_on" Tq6)
  (hm3:MthK K "Join" "led" "Join.led" Tq27)
  (hm4:MthK K "Up" "led" "Join.led" Tq27)
  (hm5:MthK K "Down" "led" "Join.led" Tq27)
  (xt:xtB K XS=true)
  {kc0_a0:Kf}
  {kc0_d0:Option Kf}
  {kc0_n0:Nat}
  {kc0_s0:Array (Option Ke)}
  {kc0_t4:Tok}
  {kc0_t5:Tok}
  {kc0_t6:Tok}
  (kc0:Kx K mainGlobals "BENDS" = some (some (.ref kc0_a0)))
  (kc0_h0:K.lookup kc0_a0=some ⟨.type "tuple", kc0_d0,.seq #[(.int (-1) kc0_t4),(.int (0) kc0_t5),(.int (1) kc0_t6)] kc0_n0,kc0_s0⟩)
  {kc1_a0:Kf}
  {kc1_n0:Nat}
  {kc1_s0:Array (Option Ke)}
  {kc1_a3:Kf}
  {kc1_d3:Option Kf}
  {kc1_n3:Nat}
  {kc1_s3:Array (Option Ke)}
  {kc1_t7:Tok}
  {kc1_t8:Tok}
  {kc1_a9:Kf}
  {kc1_d9:Option Kf}
  {kc1_n9:Nat}
  {kc1_s9:Array (Option Ke)}
  {kc1_t13:Tok}
  {kc1_t14:Tok}
  {kc1_a15:Kf}
  {kc1_d15:Option Kf}
  {kc1_n15:Nat}
  {kc1_s15:Array (Option Ke)}
  {kc1_t19:Tok}
  {kc1_t20:Tok}
  {kc1_a21:Kf}
  {kc1_d21:Option Kf}
  {kc1_n21:Nat}
  {kc1_s21:Array (Option Ke)}
  {kc1_t25:Tok}
  {kc1_t26:Tok}
  (kc1:Kx K mainGlobals "STEPS" = some (some (.ref kc1_a0)))
  (kc1_h0:K.lookup kc1_a0=some ⟨.type "tuple", none,.seq #[(.ref kc1_a3),(.ref kc1_a9),(.ref kc1_a15),(.ref kc1_a21)] kc1_n0,kc1_s0⟩)
  (kc1_h3:K.lookup kc1_a3=some ⟨.type "tuple", kc1_d3,.seq #[(.int (1) kc1_t7),(.int (0) kc1_t8)] kc1_n3,kc1_s3⟩)
  (kc1_h9:K.lookup kc1_a9=some ⟨.type "tuple", kc1_d9,.seq #[(.int (0) kc1_t13),(.int (1) kc1_t14)] kc1_n9,kc1_s9⟩)
  (kc1_h15:K.lookup kc1_a15=some ⟨.type "tuple", kc1_d15,.seq #[(.int (-1) kc1_t19),(.int (0) kc1_t20)] kc1_n15,kc1_s15⟩)
  (kc1_h21:K.lookup kc1_a21=some ⟨.type "tuple", kc1_d21,.seq #[(.int (0) kc1_t25),(.int (-1) kc1_t26)] kc1_n21,kc1_s21⟩)
  : ∃ fd:K7,(∀ (s:Kg) (v:Ke),BindsTo s fd ⟨[v],[]⟩ [("_law_script", v)])/\∀ base:KC,K.In base->base.Ns mainGlobals mg->FnOk l.prog w K mg base CX0 7 fa fd ["_law_script"] (qc7 K 63):=by
 have g {n:Str} {v:Ke} (e:Kx K mainGlobals n=some (some v)):mg n=some v:=XA X G e
 have e:=hfa.symm.trans (g a39)
 cases e
 obtain ⟨f0,d0,a0,F0⟩:=h0
 have b0:=F0.binds (ps:=["thing"]) fun _ _ _ _ _ _ us hl=>match us,hl with | [_],_=>rfl
 obtain ⟨f1,d1,a1,F1⟩:=h1
 have b1:=F1.binds (ps:=["one", "other"]) fun _ _ _ _ _ _ us hl=>match us,hl with | [_,_],_=>rfl
 obtain ⟨f2,d2,a2,F2⟩:=h2
 have b2:=F2.binds (ps:=["spot"]) fun _ _ _ _ _ _ us hl=>match us,hl with | [_],_=>rfl
 obtain ⟨f3,d3,a3,F3⟩:=h3
 have b3:=F3.binds (ps:=["one", "other"]) fun _ _ _ _ _ _ us hl=>match us,hl with | [_,_],_=>rfl
 obtain ⟨f4,d4,a4,F4⟩:=h4
 have b4:=F4.binds (ps:=["turn", "spot"]) fun _ _ _ _ _ _ us hl=>match us,hl with | [_,_],_=>rfl
 obtain ⟨f5,d5,a5,F5⟩:=h5
 have b5:=F5.binds (ps:=["first", "second"]) fun _ _ _ _ _ _ us hl=>match us,hl with | [_,_],_=>rfl
 obtain ⟨f6,d6,a6,F6⟩:=h6
 have b6:=F6.binds (ps:=["turn"]) fun _ _ _ _ _ _ us hl=>match us,hl with | [_],_=>rfl
 obtain ⟨f7,d7,a7,F7⟩:=h7
 have b7:=F7.binds (ps:=["pose"]) fun _ _ _ _ _ _ us hl=>match us,hl with | [_],_=>rfl
 obtain ⟨f8,d8,a8,F8⟩:=h8
 have b8:=F8.binds (ps:=["pose", "way"]) fun _ _ _ _ _ _ us hl=>match us,hl with | [_,_],_=>rfl
 obtain ⟨f9,d9,a9,F9⟩:=h9
 have b9:=F9.binds (ps:=["thing"]) fun _ _ _ _ _ _ us hl=>match us,hl with | [_],_=>rfl
 obtain ⟨f10,d10,a10,F10⟩:=h10
 have b10:=F10.binds (ps:=["bend"]) fun _ _ _ _ _ _ us hl=>match us,hl with | [_],_=>rfl
 obtain ⟨f11,d11,a11,F11⟩:=h11
 have b11:=F11.binds (ps:=["cell", "other"]) fun _ _ _ _ _ _ us hl=>match us,hl with | [_,_],_=>rfl
 obtain ⟨f12,d12,a12,F12⟩:=h12
 have b12:=F12.binds (ps:=["sheet", "k"]) fun _ _ _ _ _ _ us hl=>match us,hl with | [_,_],_=>rfl
 obtain ⟨f13,d13,a13,F13⟩:=h13
 have b13:=F13.binds (ps:=["sheet"]) fun _ _ _ _ _ _ us hl=>match us,hl with | [_],_=>rfl
 obtain ⟨f14,d14,a14,F14⟩:=h14
 have b14:=F14.binds (ps:=["_law_script", "_law_k"]) fun _ _ _ _ _ _ us hl=>match us,hl with | [_,_],_=>rfl
 obtain ⟨f15,d15,a15,F15⟩:=h15
 have b15:=F15.binds (ps:=["_law_found"]) fun _ _ _ _ _ _ us hl=>match us,hl with | [_],_=>rfl
 obtain ⟨f16,d16,a16,F16⟩:=h16
 have b16:=F16.binds (ps:=["_law_one", "_law_other"]) fun _ _ _ _ _ _ us hl=>match us,hl with | [_,_],_=>rfl
 obtain ⟨f17,d17,a17,F17⟩:=h17
 have b17:=F17.binds (ps:=["_law_one", "_law_other"]) fun _ _ _ _ _ _ us hl=>match us,hl with | [_,_],_=>rfl
 obtain ⟨f18,d18,a18,F18⟩:=h18
 have b18:=F18.binds (ps:=["_law_one", "_law_many", "_law_other"]) fun _ _ _ _ _ _ us hl=>match us,hl with | [_,_,_],_=>rfl
 obtain ⟨f19,d19,a19,F19⟩:=h19
 have b19:=F19.binds (ps:=["_law_pose_here", "_law_way"]) fun _ _ _ _ _ _ us hl=>match us,hl with | [_,_],_=>rfl
 obtain ⟨f20,d20,a20,F20⟩:=h20
 have b20:=F20.binds (ps:=["_law_pose_here", "_law_way", "_law_bend"]) fun _ _ _ _ _ _ us hl=>match us,hl with | [_,_,_],_=>rfl
 obtain ⟨f21,d21,a21,F21⟩:=h21
 have b21:=F21.binds (ps:=["_law_cell_here", "_law_far"]) fun _ _ _ _ _ _ us hl=>match us,hl with | [_,_],_=>rfl
 obtain ⟨f22,d22,a22,F22⟩:=h22
 have b22:=F22.binds (ps:=["_law_thing"]) fun _ _ _ _ _ _ us hl=>match us,hl with | [_],_=>rfl
 obtain ⟨f23,d23,a23,F23⟩:=h23
 have b23:=F23.binds (ps:=["_law_thing"]) fun _ _ _ _ _ _ us hl=>match us,hl with | [_],_=>rfl
 obtain ⟨f24,d24,a24,F24⟩:=h24
 have b24:=F24.binds (ps:=["_law_cell_here", "_law_way"]) fun _ _ _ _ _ _ us hl=>match us,hl with | [_,_],_=>rfl
 obtain ⟨f25,d25,a25,F25⟩:=h25
 have b25:=F25.binds (ps:=["_law_cells", "_law_joins", "_law_one", "_law_other", "_law_bend"]) fun _ _ _ _ _ _ us hl=>match us,hl with | [_,_,_,_,_],_=>rfl
 obtain ⟨f26,d26,a26,F26⟩:=h26
 have b26:=F26.binds (ps:=["_law_script", "_law_first", "_law_last", "_law_most", "_law_bends"]) fun _ _ _ _ _ _ us hl=>match us,hl with | [_,_,_,_,_],_=>rfl
 obtain ⟨f27,d27,a27,F27⟩:=h27
 have b27:=F27.binds (ps:=["_law_cells", "_law_joins"]) fun _ _ _ _ _ _ us hl=>match us,hl with | [_,_],_=>rfl
 obtain ⟨f28,d28,a28,F28⟩:=h28
 have b28:=F28.binds (ps:=["_law_sheet_here"]) fun _ _ _ _ _ _ us hl=>match us,hl with | [_],_=>rfl
 obtain ⟨f29,d29,a29,F29⟩:=h29
 have b29:=F29.binds (ps:=["_law_near_here", "_law_numbers", "_law_pose_here"]) fun _ _ _ _ _ _ us hl=>match us,hl with | [_,_,_],_=>rfl
 obtain ⟨f30,d30,a30,F30⟩:=h30
 have b30:=F30.binds (ps:=["_law_refusal"]) fun _ _ _ _ _ _ us hl=>match us,hl with | [_],_=>rfl
 obtain ⟨f31,d31,a31,F31⟩:=h31
 have b31:=F31.binds (ps:=["_law_near_here", "_law_first", "_law_cells"]) fun _ _ _ _ _ _ us hl=>match us,hl with | [_,_,_],_=>rfl
 obtain ⟨f36,d36,a36,F36⟩:=h36
 have b36:=F36.binds (ps:=["step", "pose"]) fun _ _ _ _ _ _ us hl=>match us,hl with | [_,_],_=>rfl
 obtain ⟨f37,d37,a37,F37⟩:=h37
 have b37:=F37.binds (ps:=["sheet", "numbers", "pose"]) fun _ _ _ _ _ _ us hl=>match us,hl with | [_,_,_],_=>rfl
 obtain ⟨f38,d38,a38,F38⟩:=h38
 have b38:=F38.binds (ps:=["_law_sheet_here", "_law_numbers", "_law_pose_here"]) fun _ _ _ _ _ _ us hl=>match us,hl with | [_,_,_],_=>rfl
 have F39:=qaY (st:=Tq39) l39 c39 k39
 have z_isinstance:=Vn X G z0
 have z_int:=Vn X G z1
 have z_bool:=Vn X G z2
 have z_tuple:=Vn X G z3
 have z_range:=Vn X G z4
 have z_sorted:=Vn X G z5
 have z_len:=Vn X G z6
 have z_abs:=Vn X G z7
 have z_all:=Vn X G z8
 have z_max:=Vn X G z9
 have z_min:=Vn X G z10
 have z_ValueError:=Vn X G z11
 have z_enumerate:=Vn X G z12
 have z_zip:=Vn X G z13
 have z_list:=Vn X G z14
 obtain ⟨C_0,g_0,e_0,n_0,me_0,Fm_0⟩:=hm0
 have bm_0:=Fm_0.binds (ps:=["self", "unit", "out"]) fun _ _ _ _ _ _ us hl=>match us,hl with | [_,_,_],_=>rfl
 obtain ⟨C_1,g_1,e_1,n_1,me_1,Fm_1⟩:=hm1
 have bm_1:=Fm_1.binds (ps:=["self", "unit", "out"]) fun _ _ _ _ _ _ us hl=>match us,hl with | [_,_,_],_=>rfl
 obtain ⟨C_2,g_2,e_2,n_2,me_2,Fm_2⟩:=hm2
 have bm_2:=Fm_2.binds (ps:=["self", "unit", "out"]) fun _ _ _ _ _ _ us hl=>match us,hl with | [_,_,_],_=>rfl
 obtain ⟨C_3,g_3,e_3,n_3,me_3,Fm_3⟩:=hm3
 have bm_3:=Fm_3.binds (ps:=["self", "pose", "way"]) fun _ _ _ _ _ _ us hl=>match us,hl with | [_,_,_],_=>rfl
 obtain ⟨C_4,g_4,e_4,n_4,me_4,Fm_4⟩:=hm4
 have bm_4:=Fm_4.binds (ps:=["self", "pose", "way"]) fun _ _ _ _ _ _ us hl=>match us,hl with | [_,_,_],_=>rfl
 obtain ⟨C_5,g_5,e_5,n_5,me_5,Fm_5⟩:=hm5
 have bm_5:=Fm_5.binds (ps:=["self", "pose", "way"]) fun _ _ _ _ _ _ us hl=>match us,hl with | [_,_,_],_=>rfl
 have CT:=qhv X G ct
 have XT:=qiY X G xt
 have C_BENDS:qcx K mg "BENDS" qaP:=⟨(.ref kc0_a0),(.ref kc0_a0),XA X G kc0,rfl,fun H S=>(.tuple (xs:=[(.int (-1)),(.int (0)),(.int (1))]) (.inr ⟨_,_,_,kc0_h0,rfl,rfl,(show 3<=sizeLine by decide),(.cons ⟨_,rfl⟩ (.cons ⟨_,rfl⟩ (.cons ⟨_,rfl⟩ .nil)))⟩) (.cons (.int (-1)) (.cons (.int (0)) (.cons (.int (1)) .nil))))⟩
 have C_STEPS:qcy K mg "STEPS" Zm:=⟨_,_,XA X G kc1,kc1_h0,rfl,rfl,fun H S=>(.tuple (xs:=[(.ref kc1_a3),(.ref kc1_a9),(.ref kc1_a15),(.ref kc1_a21)]) (.inr ⟨_,_,_,kc1_h0,rfl,rfl,(show 4<=sizeLine by decide),(.cons rfl (.cons rfl (.cons rfl (.cons rfl .nil))))⟩) (.cons (.tuple (xs:=[(.int (1)),(.int (0))]) (.inr ⟨_,_,_,kc1_h3,rfl,rfl,(show 2<=sizeLine by decide),(.cons ⟨_,rfl⟩ (.cons ⟨_,rfl⟩ .nil))⟩) (.cons (.int (1)) (.cons (.int (0)) .nil))) (.cons (.tuple (xs:=[(.int (0)),(.int (1))]) (.inr ⟨_,_,_,kc1_h9,rfl,rfl,(show 2<=sizeLine by decide),(.cons ⟨_,rfl⟩ (.cons ⟨_,rfl⟩ .nil))⟩) (.cons (.int (0)) (.cons (.int (1)) .nil))) (.cons (.tuple (xs:=[(.int (-1)),(.int (0))]) (.inr ⟨_,_,_,kc1_h15,rfl,rfl,(show 2<=sizeLine by decide),(.cons ⟨_,rfl⟩ (.cons ⟨_,rfl⟩ .nil))⟩) (.cons (.int (-1)) (.cons (.int (0)) .nil))) (.cons (.tuple (xs:=[(.int (0)),(.int (-1))]) (.inr ⟨_,_,_,kc1_h21,rfl,rfl,(show 2<=sizeLine by decide),(.cons ⟨_,rfl⟩ (.cons ⟨_,rfl⟩ .nil))⟩) (.cons (.int (0)) (.cons (.int (-1)) .nil))) .nil)))))⟩
 refine ⟨Uv "law" "law" (Q5 Tq39) (zp Tq39) (qe Tq39) .none kV39 dc39 pm39 an39 cd39 ct39,fun s v=>.of_eq rfl,fun base _ _=>?_⟩
 have b39:=F39.binds (ps:=["_law_script"]) fun _ _ _ _ _ _ us hl=>match us,hl with | [_],_=>rfl
 have I_NoWay:=qhM l.prog w base X G hi_NoWay
 have K_is_whole:=qcQ l.prog w base F0 (g a0) b0 z_isinstance z_int z_bool
 have K_added:=qhX l.prog w base F1 (g a1) b1
 have K_negated:=qeJ l.prog w base F2 (g a2) b2
 have K_cross:=qhY l.prog w base F3 (g a3) b3
 have K_turned:=qfY l.prog w base F4 (g a4) b4 z_tuple z_range
 have K_joined_turns:=wQ l.prog w base F5 (g a5) b5 K_turned
 have K_turn_back:=qb2 l.prog w base F6 (g a6) b6 z_tuple z_range
 have K_out_of:=qfX l.prog w base F7 (g a7) b7 K_cross
 have K_unit_of:=qeK l.prog w base F8 (g a8) b8 K_negated
 have K_is_bend:=qeH l.prog w base F9 (g a9) b9 K_is_whole C_BENDS
 have K_join_of:=qeI l.prog w base F10 (g a10) b10 K_is_bend CT
 have K_step_between:=wR l.prog w base F11 (g a11) b11
 have K_neighbours:=qa8 l.prog w base F12 (g a12) b12 K_step_between z_sorted C_STEPS
 have K_steps_of:=qcR l.prog w base F13 (g a13) b13 K_neighbours z_range z_len
 have K__law_cell:=qbW l.prog w base F14 (g a14) b14 z_len
 have K__law_whole:=qa7 l.prog w base F15 (g a15) b15 z_isinstance z_int z_bool
 have K__law_cross:=qa4 l.prog w base F16 (g a16) b16
 have K__law_dot:=qcN l.prog w base F17 (g a17) b17
 have K__law_sum:=qcP l.prog w base F18 (g a18) b18
 have K__law_unit:=qb1 l.prog w base F19 (g a19) b19 K__law_sum
 have K__law_led:=qcO l.prog w base F20 (g a20) b20 K__law_unit K__law_cross K__law_sum K__law_dot z_tuple
 have K__law_pose:=qbZ l.prog w base F21 (g a21) b21 K__law_dot K__law_cross z_abs z_range z_tuple
 have K__law_is_spot:=wO l.prog w base F22 (g a22) b22 K__law_whole z_isinstance z_tuple z_len z_all
 have K__law_is_pose:=wN l.prog w base F23 (g a23) b23 K__law_is_spot z_isinstance z_tuple z_len z_all
 have K__law_neighbour:=Ye l.prog w base F24 (g a24) b24
 have K__law_joined:=WQ l.prog w base F25 (g a25) b25 z_max z_min
 have K__law_grown:=qa5 l.prog w base F26 (g a26) b26 K__law_cell K__law_neighbour K__law_joined z_len
 have K__law_sheet:=qa6 l.prog w base F27 (g a27) b27 z_sorted
 have K__law_near:=qbY l.prog w base F28 (g a28) b28 z_int
 have K__law_walked:=WR l.prog w base F29 (g a29) b29 K__law_led z_len z_range
 have K__law_at:=qeG l.prog w base F30 (g a30) b30 K__law_whole z_isinstance z_ValueError xf_at XT
 have K__law_list:=qbX l.prog w base F31 (g a31) b31 z_len
 have M_goes_on:KnownC l.prog w K mg base "goes_on" 3 2 zB:=⟨fun p hp=>by
  simp only [zB,Ko,Vt,or_false] at hp
  rcases hp with rfl|rfl|rfl
  ·exact ⟨_,_,_,_,_,n_0,me_0,by decide,wM l.prog w base Fm_0,bm_0⟩
  ·exact ⟨_,_,_,_,_,n_1,me_1,by decide,qa3 l.prog w base Fm_1,bm_1⟩
  ·exact ⟨_,_,_,_,_,n_2,me_2,by decide,wL l.prog w base Fm_2 K_negated,bm_2⟩⟩
 have M_led:KnownC l.prog w K mg base "led" 3 3 w5:=⟨fun p hp=>by
  simp only [w5,Ko,Vt,or_false] at hp
  rcases hp with rfl|rfl|rfl
  ·exact ⟨_,_,_,_,_,n_3,me_3,by decide,JB l.prog w base Fm_3 K_unit_of K_out_of K_cross K_joined_turns K_turn_back K_turned K_added M_goes_on,bm_3⟩
  ·exact ⟨_,_,_,_,_,n_4,me_4,by decide,JB l.prog w base Fm_4 K_unit_of K_out_of K_cross K_joined_turns K_turn_back K_turned K_added M_goes_on,bm_4⟩
  ·exact ⟨_,_,_,_,_,n_5,me_5,by decide,JB l.prog w base Fm_5 K_unit_of K_out_of K_cross K_joined_turns K_turn_back K_turned K_added M_goes_on,bm_5⟩⟩
 have K_led_by:=qfW l.prog w base F36 (g a36) b36 K_join_of M_led
 have K_walked:=qfZ l.prog w base F37 (g a37) b37 K_steps_of K_led_by z_enumerate z_zip I_NoWay
 have R_walked:=qgL l.prog w base F37 (g a37) b37 K_steps_of K_led_by z_enumerate z_zip I_NoWay
 have K__law_told:=qb0 l.prog w base F38 (g a38) b38 K_walked K__law_at XT R_walked
 exact qf2 (qka l.prog w base F39 K__law_grown K__law_sheet K__law_near K__law_list K__law_cell K__law_pose K__law_walked K__law_told K__law_is_pose K__law_at z_len z_list z_isinstance z_tuple z_range I_NoWay) qeN
end SF
open PySem PySem.W PyProof.Rows
set_option maxRecDepth 100000 in
set_option maxHeartbeats 0 in
theorem PySem.Challenge.cw_sheetfold_k13_walked_holds : PySem.Challenge.rw_sheetfold_k13_walked.Holds := by
 w_on;o_law
 refine PySem.W.holds_open (q:=HD.vw) (YP:=(PySem.W.kHook HD.KH HD.kA HD.kE).says) HD.left (PySem.W.Hook.of _) (PySem.W.Hook.keeps _) (fun s e=>PySem.W.xl_of s (NW.mp e).1) PySem.W.XL.keeps (by rfl) (by rfl) (by rfl) (fun s e=>PySem.W.recFacts_of (NW.mp e).2) (by rfl) (by first|assumption|decide +kernel) (by decide +kernel) ⟨rfl,rfl,rfl,rfl,rfl,by decide +kernel⟩ ?hw ?hc
 case hw=>w_witness2
 k_fill
 refine L2.qfe (l:=PySem.Challenge.rw_sheetfold_k13_walked) (n:=63) (k:=7) (x := "_law_script") rfl (by decide) rfl ⟨rfl,by decide,by decide,rfl⟩ (fun w h Y=>PySem.W.kIn_of Y) ?F
 case F =>
  intro w mg fa h KX G hmg
  refine' SF.qjs KX G hmg ?_ ?_ ?_ ?_ ?_ ?_ ?_ ?_ ?_ ?_ ?_ ?_ ?_ ?_ ?_ ?_ ?_ ?_ ?_ ?_ ?_ ?_ ?_ ?_ ?_ ?_ ?_ ?_ ?_ ?_ ?_ ?_ ?_ ?_ ?_ ?_ ?_ ?_ ?_ ?_ ?_ ?_ ?_ ?_ ?_ ?_ ?_ ?_ ?_ ?_ ?_ ?_ ?_ ?_ ?_ ?_ ?_ ?_ ?_ ?_ ?_ ?_ ?_ ?_ ?_ ?_ ?_ ?_ ?_ ?_ ?_ ?_
  all_goals try first|k_is|exact L2.FnK.of (by k_is) (by k_is) (by k_is) (by k_is)|exact L2.MthK.of (by k_is) (by k_is) (by k_is) (by k_is) (by k_is) (by k_is)|exact L2.IniF.of (by k_is) (by k_is) (by k_is) (by k_is) (by k_is) (by k_is) (by kernel_rfl)|kernel_rfl
