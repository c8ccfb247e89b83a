import PyProof.Rows.All
import Wide.All
import OpenK.AllK
import Wide.FinOn
import Lean
import PyProof.EqAt
import PyProof.EqKinds
import PyProof.TupleCall
import PySem.Challenge.RW_sheetfold_k23_crowded_edges
set_option Elab.async false
set_option linter.all false
set_option maxRecDepth 100000
open PySem renaming PyData→Ka,Value→Kb,wpAny_bind→Kc,Addr→Ke,Shared→Kf,wpAny_pure→Kl,Program→Kt,Expr→Kw,Heap→Kx,World→KF,Around→KG,Stmt→KY,Paired→Vk,FuncData→Vo,wpAny_mono→Vq,wpAny_newObj_type→Vy,Scope→VE,wpAny_holding→VP,mem_of_lookup→V8,wpAny_Call_Name_kw→Uc,wpAny_call_entry→Ud,codeAny_call_builtin→Ul,ReadsAll→Up,codeAny_builtin→Uq,wpAny_field→Uw,Builtin→UA,DictEntry→UB,plainId_quiet→UC,wpAny_typeNameOfWhole_keyiter→UE,wpAny_callSpecial?_slot→UH,wpAny_execs_cons→UL,wpAny_seqItems→UM,sizeLine_eq→UP,wpAny_truthy_bool→UZ,wpAny_loadPart_at→U1,Keyword→U6,intBits_le_iff→Xa,wpAny_setField→Xb,boot_len→Xd,wpAny_typeNameOf_keyiter→Xg,wpAny_standAt→Xm,Reads→Xr,intKind_is→Xt,wpAny_tryCatch→XA,wpAny_call→XE,wpAny_execs_nil→XO,wpAny_passesOwn→XQ,codeAny_mono→XY,wpAny_pyIter_list→Na,wpAny_of_eq→Nh,wpAny_isOneOf_keyiter→NB,wpAny_specialOf→NG,IntMulOk→NP,wpAny_fieldsOf→NR,wpAny_pyIter_tuple→NX,wpAny_newFunctionEnv_cells→N3,wpAny_newList→N7,strLen_append→N9,wpAny_dictEntries→Eh,NameKind→Ep,concat_meets→Es,noFill_tuple_add→Et,wpAny_typeOf→Ew,wpAny_forIn_list→Ex,pushCells_keeps→EK,wpAny_dictEpoch→EN,wpAny_updateSeq→EO,wpAny_letGo→EX,wpAny_Expr_any→E2
open PySem.W renaming Frag→Kd,nsIn→KM,findIn→K6,kia_one→Va,kitOne→Vd,mg_none_of→VB,mroIn→VJ,keepIn→VQ,clsIn→V2,fnOf→Us,looks_findIn→UN,Looks→UV,hideAll→UW,codeIn→U7,looks_mroIn→U9,typeIn→Xc,kas_rev→Xn,callWith_K→Xo,specialIn→Xw,mg_of→XI,cellsFrom_some→Nc,kas_desc→Nt,kas_descPart→NL,methodObj→Eb,kitx_list→Ec,kitx_dict→Ed,OpenLaw→Ee,emptyDict→Ei,plainGet→En,kas_sort→EA,instObj→EI,takesIn→EJ,lookIn→E3,hideAll_none→E6,hideAll_get→Fd,of_hideAll→Fe,kitx_tuple→Fg,codeRec_of→Fh,isNs_of_in→Fi,isFn→Fj,hasDictIn→Fm,plainOver→Fn,kitx_none→Fo,kitx_bool→Fp
open PySem.Str renaming ofString→Kg,empty→Ff
open Option renaming none→Kh,some→Kn,ne_none_iff_exists'→N8,isSome_iff_exists→Er,map_eq_some_iff→EY
open PySem.Heap renaming get?_push_of_some→Ki,lt_size→Ku,get?_push_size→Kv,get?_update_other→VA,get?_update_self→VZ,size_push→Uk,get?_update_ne→UI,SameBut→US
open List renaming length_map→Kj,mem_cons→Kk,map_cons→Km,length_append→Kp,getElem?_eq_getElem→Kq,length_singleton→Ky,all_eq_true→Kz,size_toArray→KA,length_cons→KC,find?_cons→KJ,mem_singleton→KL,mem_map→KN,map_append→KW,mem_cons_self→KZ,not_mem_nil→K3,mem_append_right→K4,mem_cons_of_mem→K9,getElem?_map→Vb,mem_of_getElem?→Ve,map_map→Vf,getElem?_eq_some_iff→Vg,lookup_cons→Vi,append_nil→Vl,replicate→Vn,getElem?_set_self→Vr,map_nil→Vt,mem_append→Vv,length_set→Vw,mem_filter→VC,map_congr_left→VD,getElem?_append_left→VF,getElem?_set_ne→VR,nodup_cons→VS,drop_eq_getElem_cons→VV,length_replicate→VY,getD_eq_getElem?_getD→V3,foldl_append→V6,flatMap_cons→V7,any_cons→Ug,mem_append_left→Ui,foldl_cons→Ur,getElem?_append_right→Ut,mem_flatMap→Uu,find?_eq_none→Uv,lookup→Ux,getElem?_replicate→UG,flatMap_append→UJ,append_assoc→U2,nodup_nil→U8,filter_cons→Xh,filterMap_cons→Xk,length_nil→Xs,length→Xv,nil_append→XU,count_pos_iff→X4,count_eq_zero→X5,range→X7,pairwise_map→Nb,drop_eq_nil_of_le→Nf,length_take→Nn,drop_length→Np,any_eq_true→Nr,getElem_mem→Nu,zipIdx_cons→Nv,getElem?_eq_none→Nz,getElem?_toArray→NC,of_mem_zip→ND,all_map→NM,zipIdx_map_fst→NO,mem_filterMap→NW,zip_cons_cons→NY,pairwise_cons→N0,length_zipIdx→N1,nodup_append→Ej,count_append→Ek,mem_of_find?_eq_some→Em,length_drop→Eu,filter_map→ES,count_cons→ET,map_id→EZ,mem_range→E1,set_append_right→E5,range_eq_range'→E8
open Nat renaming le_refl→Ko,lt_of_lt_of_le→KB,ne_of_lt→KR,zero_le→Vc,le_trans→Vs,lt_irrefl→VI,le_of_lt→VM,add_le_add→Uo,ne_of_gt→Uy,le_succ→UQ,lt_succ_of_lt→U0,zero_add→Xf,le_succ_of_le→Xy,lt_trans→X0,add_assoc→Nm,le_max_right→Ez,min_le_left→EL,le_max_left→EM
open PySem.PyData renaming canLayAll0→Kr,depthAll→KI,eqv→KP,canLay0→KQ,int→KU,tuple→VN,depth→Uz,dict→XM,bool→Ni,list→Nj
open Bool renaming and_eq_true→Ks,false→KO,true→K8,false_ne_true→VG,false_eq_true→VH,eq_iff_iff→Ua,false_or→XH,eq_false_iff→X9,or_eq_true→NH,and_eq_true_iff→NK,not_eq_true'→Ef,true_or→EB,and_false→E4,not_true→E9,and_self→Fc
open PySem.Value renaming ref→KD,builtin→KS,bool→K1,none→K5,type→Vp,str→XW,int→XX,notImplemented→E7,float→Fq
open PySem.Pos renaming mk→KE
open Array renaming length_toList→K0,getElem?_eq_some_iff→V4,getElem?_eq_getElem→Ub,mem_toList_iff→XD,getElem?_eq_none→Ng,getElem?_setIfInBounds_self→Nk,getElem?_toList→Nx,getElem_toList→NI,append_assoc→NV
open PySem.SeqAt renaming canLay_of_shaped→K7,shaped→VT,eqAt_reads→Ey
open PySem.NameKind renaming free→Vh,cell→VL,globalImplicit→UF
open PySem.Obj renaming mk→Vj,mapSeq→VW,data_mapFields→UT,mapFields→UY,isFreed_of_fields→Ny,cls_mapFields→Eg
open PySem.PassesOwn renaming never→Vm
open PySem.Expr renaming Name→Vu,Attribute→Uh,FormattedValue→Xj,JoinedStr→X6,Constant→Nl,Call→EH
open PySem.Builtin.Tuple renaming tupleHashOf→Vx,tupleExact→Xe,tupleItemsOf→N5
open False renaming elim→Vz
open Int renaming toNat_natCast→VO,natCast_zero→Xi,add_zero→ED,emod_nonneg→ER,zero_mul→Fk
open Ne renaming symm→VU
open PySem.ClassData renaming mk→VX
open Option.some renaming inj→V0
open PySem.Around renaming under_plainId→V1,under→Eo
open PySem.Data renaming dict→V5,cls→UK,fields→U5,func→NS
open PySem.Builtin.Int renaming intBits→V9
open PySem.F renaming plain_min_loop→Ue,slot_dict_keyiterator_next→Um,slot_tuple_iterator_next→UX,plainAttrs_list→Xl,slot_list_append→Xp,slot_tuple_hash→Xx,excAttr_ValueError→XF,args_tuple_add_2→XZ,type_list_append→X2,slot_list_getattribute→X3,entry_tuple_add→X8,slot_tuple_add→Nd,entry_min_loop→Nq,typeOf_object_class→Nw,slot_dict_get→NA,args_dict_keyiterator_next_1→NJ,entry_dict_keyiterator_next→NN,args_tuple_iterator_next_1→NQ,entry_tuple_iterator_next→NZ,excBase_ValueError→Ea,slot_dict_getitem→El,store_ValueError→EC,slot_list_index→EE,args_dict_get_3→EF,entry_dict_get→EW,slot_gs_get→Fb
open True renaming intro→Uj
open Prod.mk renaming injEq→UD
open PyProof.Rows renaming slot_tuple_getitem→UO,int_text_len_1921→Xu,callWith_type1→XC,AllBare→XJ,callWith_builtin1→NF,listUpdate_at→N6,seqEpoch_at→EU
open PySem.ScopeKind renaming function→UR
open PySem.Builtin.Builtins renaming bindParams→UU
open PySem.Builtin.Slice renaming slicePlaces→U3,sliceAdjust→XR,sliceApplied→N4
open PySem.Builtin.SmallTypes renaming nextOf→U4
open ForInStep renaming yield→Xq
open PySem.FuncBody renaming stmts→Xz
open PySem.W.Fast renaming tw14364793385576792824→XB,tw14082659384304107361→NT,te14364793385576792824→NU,tw1435165496053646825→N2
open PySem.Paired renaming length→XG,cons→EV
open PySem.Heap.SameBut renaming update→XN
open PySem.W.Looks renaming ld→X1
namespace HD
open PySem PySem.W PySem.Calls PyProof.Rows
noncomputable def vw:Kt:=view PySem.Challenge.pw_sheetfold_k23_crowded_edges [1,2,3,4,5,6,7,8,9,10,11,12,13,14,16,18,19,20,22,23,24,25,26,27,28,29,30,32,34,35,36,37,39,40,41,42,43,44,45,46,47,48,49,50,51]
def tp (i:Nat):KY:=PySem.Challenge.pw_sheetfold_k23_crowded_edges.main.body.getD i (.Pass ⟨0,0,0,0⟩)
def dA:KY->Arguments
 | .FunctionDef _ a _ _ _ _ _ _ _ _=>a
 | _=>default
def dB:KY->List KY
 | .FunctionDef _ _ b _ _ _ _ _ _ _=>b
 | _=>[]
def dS:KY->VE
 | .FunctionDef _ _ _ _ _ _ s _ _ _=>s
 | _=>default
abbrev de (P:Params)(x:String)(t:Nat)(v:Kb):UB:=DictEntry.mk (PyData.keyHash P (Kg x)) (XW (Kg x) t) v
abbrev S (x:String)(t:Nat):Kb:=XW (Kg x) t
abbrev I (n:Int)(t:Nat):Kb:=XX n t
abbrev R (a:Ke):Kb:=KD a
abbrev Y (x:String):Kb:=Vp x
abbrev N:Kb:=K5
abbrev tu (a:Array Kb):Obj:=Vj (Vp "tuple") Kh (Data.seq a) #[]
abbrev cc (x:String)(t1 t2 t3:Nat)(l n:Int)(a1:Ke)(k:Int)(a2:Ke)(u v:Kb)(a3:Ke)(t4:Int)(t5:Nat):Obj:=Vj (Vp "code") Kh (U5 #[S x t1,S x t2,S "/claim/cut.py" t3,I l 0,I n 0,I 0 0,I 0 0,I 3 0,R a1,K1 K8,I k 0,R a2,N,u,v,R a3,I t4 0,I l 0,S "/claim/cut.py" t5]) #[]
abbrev fu (x:String)(i:Nat)(m:String)(t:Nat)(c:Ke):Obj:=Vj (Vp "function") Kh (NS (FuncData.mk (Kg x) (Kg x) (dA (tp i)) (Xz (dB (tp i))) (dS (tp i)) 3 [] N N N (S m t) Kh (R c) N 0)) #[]
set_option maxHeartbeats 0 in
noncomputable def KH:Params->Kd:=fun P =>
(nat_lit 2,Vj N Kh (V5 #[]) #[]) ::
(nat_lit 3,Vj (Y "dict") Kh (V5 #[de P "__name__" 165 (S "law_sheetfold_k23_crowded_edges" 609),de P "__doc__" 166 N,de P "__package__" 167 N,de P "__loader__" 168 (KS "__main__.__loader__#opaque"),de P "__spec__" 169 N,de P "__annotations__" 170 (R 6),de P "__builtins__" 171 (R 4),de P "__file__" 173 (S "/claim/cut.py" 172),de P "__cached__" 174 N,de P "SheetError" 206 (R 24),de P "NoDrawing" 222 (R 37),de P "NoBend" 238 (R 49),de P "NoSquare" 254 (R 61),de P "TooMany" 270 (R 73),de P "NoTurn" 286 (R 85),de P "NoRow" 302 (R 97),de P "NoName" 318 (R 109),de P "NotClosed" 334 (R 121),de P "NoSheet" 359 (R 140),de P "NoSolid" 384 (R 159),de P "NoTree" 409 (R 178),de P "NoWay" 434 (R 197),de P "Crowded" 459 (R 216),de P "numbers_of" 467 (R 223),de P "UNITS" 491 (R 230),de P "added" 499 (R 237),de P "negated" 506 (R 244),de P "axis_of" 514 (R 249),de P "around" 520 (R 254),de P "edges_of" 527 (R 261),de P "squares_at" 533 (R 266),de P "middle_of" 540 (R 273),de P "cube_of" 547 (R 280),de P "cubes_at" 553 (R 285),de P "skin_of" 559 (R 290),de P "edge_counts" 569 (R 297),de P "outward_from" 581 (R 304),de P "CROWD" 585 (I 4 584),de P "crowded" 591 (R 309),de P "skin_joins" 597 (R 314),de P "bend_over" 608 (R 321),de P "_law_cell_at" 618 (R 328),de P "_law_whole" 625 (R 335),de P "_law_spots" 634 (R 342),de P "_law_base" 643 (R 349),de P "_law_solid" 659 (R 356),de P "_law_skin" 665 (R 361),de P "_law_near" 677 (R 368),de P "_law_met" 683 (R 373),de P "_law_kinds" 692 (R 380),de P "_law_due" 698 (R 385),de P "_law_refused" 709 (R 392),de P "_law_right" 719 (R 399),de P "law" 725 (R 404)] 54) #[]) ::
(nat_lit 15,tu #[Y "ValueError"]) ::
(nat_lit 22,tu #[]) ::
(nat_lit 23,Vj (Y "dict") Kh (V5 #[de P "__module__" 196 (S "sheetfold.errors" 187),de P "__firstlineno__" 200 (I 2 199),de P "__static_attributes__" 201 (R 22),de P "__weakref__" 203 (R 25),de P "__doc__" 204 N] 3) #[]) ::
(nat_lit 24,Vj (Y "type") Kh (UK (VX (Kg "SheetError") [Y "ValueError"] [R 24,Y "ValueError", Y "Exception", Y "BaseException", Y "object"] 23 (Kg "SheetError") K8 [] [R 37,R 49,R 61,R 73,R 85,R 97,R 109,R 121,R 140,R 159,R 178,R 197,R 216] KO Kh KO)) #[Kn (R 15),Kh,Kn (S "SheetError" 189),Kn (S "SheetError" 197),Kn (KS "ValueError.__new__"),Kn (K1 K8)]) ::
(nat_lit 25,Vj (Y "getset_descriptor") Kh (U5 #[S "__weakref__" 202,R 24,KS "ExceptionGroup.__weakref__", N]) #[]) ::
(nat_lit 28,tu #[R 24]) ::
(nat_lit 35,tu #[]) ::
(nat_lit 36,Vj (Y "dict") Kh (V5 #[de P "__module__" 214 (S "sheetfold.errors" 187),de P "__firstlineno__" 218 (I 4 217),de P "__static_attributes__" 219 (R 35),de P "__doc__" 220 N] 2) #[]) ::
(nat_lit 37,Vj (Y "type") Kh (UK (VX (Kg "NoDrawing") [R 24] [R 37,R 24,Y "ValueError", Y "Exception", Y "BaseException", Y "object"] 36 (Kg "NoDrawing") K8 [] [] KO Kh KO)) #[Kn (R 28),Kh,Kn (S "NoDrawing" 207),Kn (S "NoDrawing" 215),Kn (KS "ValueError.__new__"),Kn (K1 K8)]) ::
(nat_lit 40,tu #[R 24]) ::
(nat_lit 47,tu #[]) ::
(nat_lit 48,Vj (Y "dict") Kh (V5 #[de P "__module__" 230 (S "sheetfold.errors" 187),de P "__firstlineno__" 234 (I 6 233),de P "__static_attributes__" 235 (R 47),de P "__doc__" 236 N] 2) #[]) ::
(nat_lit 49,Vj (Y "type") Kh (UK (VX (Kg "NoBend") [R 24] [R 49,R 24,Y "ValueError", Y "Exception", Y "BaseException", Y "object"] 48 (Kg "NoBend") K8 [] [] KO Kh KO)) #[Kn (R 40),Kh,Kn (S "NoBend" 223),Kn (S "NoBend" 231),Kn (KS "ValueError.__new__"),Kn (K1 K8)]) ::
(nat_lit 52,tu #[R 24]) ::
(nat_lit 59,tu #[]) ::
(nat_lit 60,Vj (Y "dict") Kh (V5 #[de P "__module__" 246 (S "sheetfold.errors" 187),de P "__firstlineno__" 250 (I 8 249),de P "__static_attributes__" 251 (R 59),de P "__doc__" 252 N] 2) #[]) ::
(nat_lit 61,Vj (Y "type") Kh (UK (VX (Kg "NoSquare") [R 24] [R 61,R 24,Y "ValueError", Y "Exception", Y "BaseException", Y "object"] 60 (Kg "NoSquare") K8 [] [] KO Kh KO)) #[Kn (R 52),Kh,Kn (S "NoSquare" 239),Kn (S "NoSquare" 247),Kn (KS "ValueError.__new__"),Kn (K1 K8)]) ::
(nat_lit 64,tu #[R 24]) ::
(nat_lit 71,tu #[]) ::
(nat_lit 72,Vj (Y "dict") Kh (V5 #[de P "__module__" 262 (S "sheetfold.errors" 187),de P "__firstlineno__" 266 (I 10 265),de P "__static_attributes__" 267 (R 71),de P "__doc__" 268 N] 2) #[]) ::
(nat_lit 73,Vj (Y "type") Kh (UK (VX (Kg "TooMany") [R 24] [R 73,R 24,Y "ValueError", Y "Exception", Y "BaseException", Y "object"] 72 (Kg "TooMany") K8 [] [] KO Kh KO)) #[Kn (R 64),Kh,Kn (S "TooMany" 255),Kn (S "TooMany" 263),Kn (KS "ValueError.__new__"),Kn (K1 K8)]) ::
(nat_lit 76,tu #[R 24]) ::
(nat_lit 83,tu #[]) ::
(nat_lit 84,Vj (Y "dict") Kh (V5 #[de P "__module__" 278 (S "sheetfold.errors" 187),de P "__firstlineno__" 282 (I 12 281),de P "__static_attributes__" 283 (R 83),de P "__doc__" 284 N] 2) #[]) ::
(nat_lit 85,Vj (Y "type") Kh (UK (VX (Kg "NoTurn") [R 24] [R 85,R 24,Y "ValueError", Y "Exception", Y "BaseException", Y "object"] 84 (Kg "NoTurn") K8 [] [] KO Kh KO)) #[Kn (R 76),Kh,Kn (S "NoTurn" 271),Kn (S "NoTurn" 279),Kn (KS "ValueError.__new__"),Kn (K1 K8)]) ::
(nat_lit 88,tu #[R 24]) ::
(nat_lit 95,tu #[]) ::
(nat_lit 96,Vj (Y "dict") Kh (V5 #[de P "__module__" 294 (S "sheetfold.errors" 187),de P "__firstlineno__" 298 (I 14 297),de P "__static_attributes__" 299 (R 95),de P "__doc__" 300 N] 2) #[]) ::
(nat_lit 97,Vj (Y "type") Kh (UK (VX (Kg "NoRow") [R 24] [R 97,R 24,Y "ValueError", Y "Exception", Y "BaseException", Y "object"] 96 (Kg "NoRow") K8 [] [] KO Kh KO)) #[Kn (R 88),Kh,Kn (S "NoRow" 287),Kn (S "NoRow" 295),Kn (KS "ValueError.__new__"),Kn (K1 K8)]) ::
(nat_lit 100,tu #[R 24]) ::
(nat_lit 107,tu #[]) ::
(nat_lit 108,Vj (Y "dict") Kh (V5 #[de P "__module__" 310 (S "sheetfold.errors" 187),de P "__firstlineno__" 314 (I 16 313),de P "__static_attributes__" 315 (R 107),de P "__doc__" 316 N] 2) #[]) ::
(nat_lit 109,Vj (Y "type") Kh (UK (VX (Kg "NoName") [R 24] [R 109,R 24,Y "ValueError", Y "Exception", Y "BaseException", Y "object"] 108 (Kg "NoName") K8 [] [] KO Kh KO)) #[Kn (R 100),Kh,Kn (S "NoName" 303),Kn (S "NoName" 311),Kn (KS "ValueError.__new__"),Kn (K1 K8)]) ::
(nat_lit 112,tu #[R 24]) ::
(nat_lit 119,tu #[]) ::
(nat_lit 120,Vj (Y "dict") Kh (V5 #[de P "__module__" 326 (S "sheetfold.errors" 187),de P "__firstlineno__" 330 (I 18 329),de P "__static_attributes__" 331 (R 119),de P "__doc__" 332 N] 2) #[]) ::
(nat_lit 121,Vj (Y "type") Kh (UK (VX (Kg "NotClosed") [R 24] [R 121,R 24,Y "ValueError", Y "Exception", Y "BaseException", Y "object"] 120 (Kg "NotClosed") K8 [] [] KO Kh KO)) #[Kn (R 112),Kh,Kn (S "NotClosed" 319),Kn (S "NotClosed" 327),Kn (KS "ValueError.__new__"),Kn (K1 K8)]) ::
(nat_lit 124,tu #[R 24]) ::
(nat_lit 131,tu #[]) ::
(nat_lit 133,tu #[S "self" 350,S "why" 351]) ::
(nat_lit 134,tu #[]) ::
(nat_lit 136,Vj (Y "code") Kh (U5 #[S "__init__" 347,S "NoSheet.__init__" 348,S "/claim/cut.py" 349,I 22 0,I 2 0,I 0 0,I 0 0,I 3 0,R 131,K1 K8,I 181 0,R 132,N,R 133,R 134,R 135,I 352 0,I 22 0,S "/claim/cut.py" 353]) #[]) ::
(nat_lit 137,Vj (Y "function") Kh (NS (FuncData.mk (Kg "__init__") (Kg "NoSheet.__init__") (Arguments.mk [] [Arg.mk (Kg "self") Kh (KE 22 17 22 21),Arg.mk (Kg "why") Kh (KE 22 23 22 26)] Kh [] [] Kh []) (Xz [Stmt.Expr (EH (Uh (Vu (Kg "SheetError") (KE 23 8 23 18)) (Kg "__init__") (KE 23 8 23 27)) [Vu (Kg "self") (KE 23 28 23 32),X6 [Nl (Const.str (Kg "no sheet: ")) 0 (KE 23 36 23 46),Xj (Vu (Kg "why") (KE 23 47 23 50)) 114 Kh (KE 23 46 23 53)] (KE 23 34 23 54)] [] (KE 23 8 23 55)) (KE 23 8 23 55),Stmt.Assign [Uh (Vu (Kg "self") (KE 24 8 24 12)) (Kg "why") (KE 24 8 24 16)] (Vu (Kg "why") (KE 24 19 24 22)) (KE 24 8 24 22)]) (Scope.mk UR [(Kg "self", NameKind.local),(Kg "why", NameKind.local),(Kg "SheetError", UF)] KO KO []) 3 [] N N N (S "sheetfold.errors" 187) Kh (R 136) N 0)) #[]) ::
(nat_lit 138,tu #[S "why" 355]) ::
(nat_lit 139,Vj (Y "dict") Kh (V5 #[de P "__module__" 342 (S "sheetfold.errors" 187),de P "__firstlineno__" 346 (I 20 345),de P "__init__" 354 (R 137),de P "__static_attributes__" 356 (R 138),de P "__doc__" 357 N] 2) #[]) ::
(nat_lit 140,Vj (Y "type") Kh (UK (VX (Kg "NoSheet") [R 24] [R 140,R 24,Y "ValueError", Y "Exception", Y "BaseException", Y "object"] 139 (Kg "NoSheet") K8 [] [] KO Kh KO)) #[Kn (R 124),Kh,Kn (S "NoSheet" 335),Kn (S "NoSheet" 343),Kn (KS "ValueError.__new__"),Kn (K1 K8)]) ::
(nat_lit 143,tu #[R 24]) ::
(nat_lit 150,tu #[]) ::
(nat_lit 152,tu #[S "self" 375,S "why" 376]) ::
(nat_lit 153,tu #[]) ::
(nat_lit 155,Vj (Y "code") Kh (U5 #[S "__init__" 372,S "NoSolid.__init__" 373,S "/claim/cut.py" 374,I 27 0,I 2 0,I 0 0,I 0 0,I 3 0,R 150,K1 K8,I 181 0,R 151,N,R 152,R 153,R 154,I 377 0,I 27 0,S "/claim/cut.py" 378]) #[]) ::
(nat_lit 156,Vj (Y "function") Kh (NS (FuncData.mk (Kg "__init__") (Kg "NoSolid.__init__") (Arguments.mk [] [Arg.mk (Kg "self") Kh (KE 27 17 27 21),Arg.mk (Kg "why") Kh (KE 27 23 27 26)] Kh [] [] Kh []) (Xz [Stmt.Expr (EH (Uh (Vu (Kg "SheetError") (KE 28 8 28 18)) (Kg "__init__") (KE 28 8 28 27)) [Vu (Kg "self") (KE 28 28 28 32),X6 [Nl (Const.str (Kg "no solid: ")) 0 (KE 28 36 28 46),Xj (Vu (Kg "why") (KE 28 47 28 50)) 114 Kh (KE 28 46 28 53)] (KE 28 34 28 54)] [] (KE 28 8 28 55)) (KE 28 8 28 55),Stmt.Assign [Uh (Vu (Kg "self") (KE 29 8 29 12)) (Kg "why") (KE 29 8 29 16)] (Vu (Kg "why") (KE 29 19 29 22)) (KE 29 8 29 22)]) (Scope.mk UR [(Kg "self", NameKind.local),(Kg "why", NameKind.local),(Kg "SheetError", UF)] KO KO []) 3 [] N N N (S "sheetfold.errors" 187) Kh (R 155) N 0)) #[]) ::
(nat_lit 157,tu #[S "why" 380]) ::
(nat_lit 158,Vj (Y "dict") Kh (V5 #[de P "__module__" 367 (S "sheetfold.errors" 187),de P "__firstlineno__" 371 (I 25 370),de P "__init__" 379 (R 156),de P "__static_attributes__" 381 (R 157),de P "__doc__" 382 N] 2) #[]) ::
(nat_lit 159,Vj (Y "type") Kh (UK (VX (Kg "NoSolid") [R 24] [R 159,R 24,Y "ValueError", Y "Exception", Y "BaseException", Y "object"] 158 (Kg "NoSolid") K8 [] [] KO Kh KO)) #[Kn (R 143),Kh,Kn (S "NoSolid" 360),Kn (S "NoSolid" 368),Kn (KS "ValueError.__new__"),Kn (K1 K8)]) ::
(nat_lit 162,tu #[R 24]) ::
(nat_lit 169,tu #[]) ::
(nat_lit 171,tu #[S "self" 400,S "why" 401]) ::
(nat_lit 172,tu #[]) ::
(nat_lit 174,Vj (Y "code") Kh (U5 #[S "__init__" 397,S "NoTree.__init__" 398,S "/claim/cut.py" 399,I 32 0,I 2 0,I 0 0,I 0 0,I 3 0,R 169,K1 K8,I 181 0,R 170,N,R 171,R 172,R 173,I 402 0,I 32 0,S "/claim/cut.py" 403]) #[]) ::
(nat_lit 175,Vj (Y "function") Kh (NS (FuncData.mk (Kg "__init__") (Kg "NoTree.__init__") (Arguments.mk [] [Arg.mk (Kg "self") Kh (KE 32 17 32 21),Arg.mk (Kg "why") Kh (KE 32 23 32 26)] Kh [] [] Kh []) (Xz [Stmt.Expr (EH (Uh (Vu (Kg "SheetError") (KE 33 8 33 18)) (Kg "__init__") (KE 33 8 33 27)) [Vu (Kg "self") (KE 33 28 33 32),X6 [Nl (Const.str (Kg "no tree: ")) 0 (KE 33 36 33 45),Xj (Vu (Kg "why") (KE 33 46 33 49)) 114 Kh (KE 33 45 33 52)] (KE 33 34 33 53)] [] (KE 33 8 33 54)) (KE 33 8 33 54),Stmt.Assign [Uh (Vu (Kg "self") (KE 34 8 34 12)) (Kg "why") (KE 34 8 34 16)] (Vu (Kg "why") (KE 34 19 34 22)) (KE 34 8 34 22)]) (Scope.mk UR [(Kg "self", NameKind.local),(Kg "why", NameKind.local),(Kg "SheetError", UF)] KO KO []) 3 [] N N N (S "sheetfold.errors" 187) Kh (R 174) N 0)) #[]) ::
(nat_lit 176,tu #[S "why" 405]) ::
(nat_lit 177,Vj (Y "dict") Kh (V5 #[de P "__module__" 392 (S "sheetfold.errors" 187),de P "__firstlineno__" 396 (I 30 395),de P "__init__" 404 (R 175),de P "__static_attributes__" 406 (R 176),de P "__doc__" 407 N] 2) #[]) ::
(nat_lit 178,Vj (Y "type") Kh (UK (VX (Kg "NoTree") [R 24] [R 178,R 24,Y "ValueError", Y "Exception", Y "BaseException", Y "object"] 177 (Kg "NoTree") K8 [] [] KO Kh KO)) #[Kn (R 162),Kh,Kn (S "NoTree" 385),Kn (S "NoTree" 393),Kn (KS "ValueError.__new__"),Kn (K1 K8)]) ::
(nat_lit 181,tu #[R 24]) ::
(nat_lit 188,tu #[]) ::
(nat_lit 190,tu #[S "self" 425,S "at" 426]) ::
(nat_lit 191,tu #[]) ::
(nat_lit 193,Vj (Y "code") Kh (U5 #[S "__init__" 422,S "NoWay.__init__" 423,S "/claim/cut.py" 424,I 37 0,I 2 0,I 0 0,I 0 0,I 3 0,R 188,K1 K8,I 181 0,R 189,N,R 190,R 191,R 192,I 427 0,I 37 0,S "/claim/cut.py" 428]) #[]) ::
(nat_lit 194,Vj (Y "function") Kh (NS (FuncData.mk (Kg "__init__") (Kg "NoWay.__init__") (Arguments.mk [] [Arg.mk (Kg "self") Kh (KE 37 17 37 21),Arg.mk (Kg "at") Kh (KE 37 23 37 25)] Kh [] [] Kh []) (Xz [Stmt.Expr (EH (Uh (Vu (Kg "SheetError") (KE 38 8 38 18)) (Kg "__init__") (KE 38 8 38 27)) [Vu (Kg "self") (KE 38 28 38 32),X6 [Nl (Const.str (Kg "no join leads on from place ")) 0 (KE 38 36 38 64),Xj (Vu (Kg "at") (KE 38 65 38 67)) 114 Kh (KE 38 64 38 70)] (KE 38 34 38 71)] [] (KE 38 8 38 72)) (KE 38 8 38 72),Stmt.Assign [Uh (Vu (Kg "self") (KE 39 8 39 12)) (Kg "at") (KE 39 8 39 15)] (Vu (Kg "at") (KE 39 18 39 20)) (KE 39 8 39 20)]) (Scope.mk UR [(Kg "self", NameKind.local),(Kg "at", NameKind.local),(Kg "SheetError", UF)] KO KO []) 3 [] N N N (S "sheetfold.errors" 187) Kh (R 193) N 0)) #[]) ::
(nat_lit 195,tu #[S "at" 430]) ::
(nat_lit 196,Vj (Y "dict") Kh (V5 #[de P "__module__" 417 (S "sheetfold.errors" 187),de P "__firstlineno__" 421 (I 35 420),de P "__init__" 429 (R 194),de P "__static_attributes__" 431 (R 195),de P "__doc__" 432 N] 2) #[]) ::
(nat_lit 197,Vj (Y "type") Kh (UK (VX (Kg "NoWay") [R 24] [R 197,R 24,Y "ValueError", Y "Exception", Y "BaseException", Y "object"] 196 (Kg "NoWay") K8 [] [] KO Kh KO)) #[Kn (R 181),Kh,Kn (S "NoWay" 410),Kn (S "NoWay" 418),Kn (KS "ValueError.__new__"),Kn (K1 K8)]) ::
(nat_lit 200,tu #[R 24]) ::
(nat_lit 207,tu #[]) ::
(nat_lit 209,tu #[S "self" 450,S "edge" 451]) ::
(nat_lit 210,tu #[]) ::
(nat_lit 212,Vj (Y "code") Kh (U5 #[S "__init__" 447,S "Crowded.__init__" 448,S "/claim/cut.py" 449,I 42 0,I 2 0,I 0 0,I 0 0,I 3 0,R 207,K1 K8,I 181 0,R 208,N,R 209,R 210,R 211,I 452 0,I 42 0,S "/claim/cut.py" 453]) #[]) ::
(nat_lit 213,Vj (Y "function") Kh (NS (FuncData.mk (Kg "__init__") (Kg "Crowded.__init__") (Arguments.mk [] [Arg.mk (Kg "self") Kh (KE 42 17 42 21),Arg.mk (Kg "edge") Kh (KE 42 23 42 27)] Kh [] [] Kh []) (Xz [Stmt.Expr (EH (Uh (Vu (Kg "SheetError") (KE 43 8 43 18)) (Kg "__init__") (KE 43 8 43 27)) [Vu (Kg "self") (KE 43 28 43 32),X6 [Nl (Const.str (Kg "four squares meet at ")) 0 (KE 43 36 43 57),Xj (Vu (Kg "edge") (KE 43 58 43 62)) 114 Kh (KE 43 57 43 65)] (KE 43 34 43 66)] [] (KE 43 8 43 67)) (KE 43 8 43 67),Stmt.Assign [Uh (Vu (Kg "self") (KE 44 8 44 12)) (Kg "edge") (KE 44 8 44 17)] (Vu (Kg "edge") (KE 44 20 44 24)) (KE 44 8 44 24)]) (Scope.mk UR [(Kg "self", NameKind.local),(Kg "edge", NameKind.local),(Kg "SheetError", UF)] KO KO []) 3 [] N N N (S "sheetfold.errors" 187) Kh (R 212) N 0)) #[]) ::
(nat_lit 214,tu #[S "edge" 455]) ::
(nat_lit 215,Vj (Y "dict") Kh (V5 #[de P "__module__" 442 (S "sheetfold.errors" 187),de P "__firstlineno__" 446 (I 40 445),de P "__init__" 454 (R 213),de P "__static_attributes__" 456 (R 214),de P "__doc__" 457 N] 2) #[]) ::
(nat_lit 216,Vj (Y "type") Kh (UK (VX (Kg "Crowded") [R 24] [R 216,R 24,Y "ValueError", Y "Exception", Y "BaseException", Y "object"] 215 (Kg "Crowded") K8 [] [] KO Kh KO)) #[Kn (R 200),Kh,Kn (S "Crowded" 435),Kn (S "Crowded" 443),Kn (KS "ValueError.__new__"),Kn (K1 K8)]) ::
(nat_lit 219,tu #[]) ::
(nat_lit 222,cc "numbers_of" 462 463 464 46 1 219 181 220 N N 221 465 466) ::
(nat_lit 223,fu "numbers_of" 16 "sheetfold.hanging" 460 222) ::
(nat_lit 224,tu #[I (-1) 471,I 0 472,I 0 473]) ::
(nat_lit 225,tu #[I 0 474,I (-1) 476,I 0 477]) ::
(nat_lit 226,tu #[I 0 478,I 0 479,I (-1) 481]) ::
(nat_lit 227,tu #[I 0 482,I 0 483,I 1 484]) ::
(nat_lit 228,tu #[I 0 485,I 1 486,I 0 487]) ::
(nat_lit 229,tu #[I 1 488,I 0 489,I 0 490]) ::
(nat_lit 230,tu #[R 224,R 225,R 226,R 227,R 228,R 229]) ::
(nat_lit 231,tu #[]) ::
(nat_lit 233,tu #[S "one" 495,S "other" 496]) ::
(nat_lit 234,tu #[]) ::
(nat_lit 236,cc "added" 492 493 494 50 2 231 181 232 (R 233) (R 234) 235 497 498) ::
(nat_lit 237,fu "added" 19 "sheetfold.turns" 468 236) ::
(nat_lit 238,tu #[]) ::
(nat_lit 240,tu #[S "spot" 503]) ::
(nat_lit 241,tu #[]) ::
(nat_lit 243,cc "negated" 500 501 502 52 1 238 181 239 (R 240) (R 241) 242 504 505) ::
(nat_lit 244,fu "negated" 20 "sheetfold.turns" 468 243) ::
(nat_lit 245,tu #[]) ::
(nat_lit 248,cc "axis_of" 509 510 511 55 1 245 181 246 N N 247 512 513) ::
(nat_lit 249,fu "axis_of" 22 "sheetfold.squares" 507 248) ::
(nat_lit 250,tu #[]) ::
(nat_lit 253,cc "around" 515 516 517 57 2 250 181 251 N N 252 518 519) ::
(nat_lit 254,fu "around" 23 "sheetfold.squares" 507 253) ::
(nat_lit 255,tu #[]) ::
(nat_lit 257,tu #[S "square" 524]) ::
(nat_lit 258,tu #[]) ::
(nat_lit 260,cc "edges_of" 521 522 523 59 1 255 181 256 (R 257) (R 258) 259 525 526) ::
(nat_lit 261,fu "edges_of" 24 "sheetfold.squares" 507 260) ::
(nat_lit 262,tu #[]) ::
(nat_lit 265,cc "squares_at" 528 529 530 61 1 262 181 263 N N 264 531 532) ::
(nat_lit 266,fu "squares_at" 25 "sheetfold.squares" 507 265) ::
(nat_lit 267,tu #[]) ::
(nat_lit 269,tu #[S "cube" 537]) ::
(nat_lit 270,tu #[]) ::
(nat_lit 272,cc "middle_of" 534 535 536 63 1 267 181 268 (R 269) (R 270) 271 538 539) ::
(nat_lit 273,fu "middle_of" 26 "sheetfold.squares" 507 272) ::
(nat_lit 274,tu #[]) ::
(nat_lit 276,tu #[S "spot" 544]) ::
(nat_lit 277,tu #[]) ::
(nat_lit 279,cc "cube_of" 541 542 543 65 1 274 181 275 (R 276) (R 277) 278 545 546) ::
(nat_lit 280,fu "cube_of" 27 "sheetfold.squares" 507 279) ::
(nat_lit 281,tu #[]) ::
(nat_lit 284,cc "cubes_at" 548 549 550 67 1 281 181 282 N N 283 551 552) ::
(nat_lit 285,fu "cubes_at" 28 "sheetfold.squares" 507 284) ::
(nat_lit 286,tu #[]) ::
(nat_lit 289,cc "skin_of" 554 555 556 71 1 286 181 287 N N 288 557 558) ::
(nat_lit 290,fu "skin_of" 29 "sheetfold.squares" 507 289) ::
(nat_lit 291,tu #[]) ::
(nat_lit 293,tu #[S "squares" 563,S "counts" 564,S "square" 565,S "edge" 566]) ::
(nat_lit 294,tu #[]) ::
(nat_lit 296,cc "edge_counts" 560 561 562 78 1 291 181 292 (R 293) (R 294) 295 567 568) ::
(nat_lit 297,fu "edge_counts" 30 "sheetfold.squares" 507 296) ::
(nat_lit 298,tu #[]) ::
(nat_lit 300,tu #[S "solid" 575,S "square" 576,S "pair" 577,S "within" 578]) ::
(nat_lit 301,tu #[]) ::
(nat_lit 303,cc "outward_from" 572 573 574 85 2 298 181 299 (R 300) (R 301) 302 579 580) ::
(nat_lit 304,fu "outward_from" 32 "sheetfold.solids" 570 303) ::
(nat_lit 305,tu #[]) ::
(nat_lit 308,cc "crowded" 586 587 588 91 1 305 181 306 N N 307 589 590) ::
(nat_lit 309,fu "crowded" 35 "sheetfold.skins" 582 308) ::
(nat_lit 310,tu #[]) ::
(nat_lit 313,cc "skin_joins" 592 593 594 94 1 310 181 311 N N 312 595 596) ::
(nat_lit 314,fu "skin_joins" 36 "sheetfold.skins" 582 313) ::
(nat_lit 315,tu #[]) ::
(nat_lit 317,tu #[S "solid" 601,S "square" 602,S "edge" 603,S "other" 604,S "beyond" 605]) ::
(nat_lit 318,tu #[]) ::
(nat_lit 320,cc "bend_over" 598 599 600 105 4 315 181 316 (R 317) (R 318) 319 606 607) ::
(nat_lit 321,fu "bend_over" 37 "sheetfold.skins" 582 320) ::
(nat_lit 322,tu #[]) ::
(nat_lit 324,tu #[S "_law_script" 614,S "_law_k" 615]) ::
(nat_lit 325,tu #[]) ::
(nat_lit 327,cc "_law_cell_at" 611 612 613 111 2 322 181 323 (R 324) (R 325) 326 616 617) ::
(nat_lit 328,fu "_law_cell_at" 39 "law_sheetfold_k23_crowded_edges" 609 327) ::
(nat_lit 329,tu #[]) ::
(nat_lit 331,tu #[S "_law_found" 622]) ::
(nat_lit 332,tu #[]) ::
(nat_lit 334,cc "_law_whole" 619 620 621 115 1 329 181 330 (R 331) (R 332) 333 623 624) ::
(nat_lit 335,fu "_law_whole" 40 "law_sheetfold_k23_crowded_edges" 609 334) ::
(nat_lit 336,tu #[]) ::
(nat_lit 338,tu #[S "_law_found" 629,S "_law_spot" 630,S "_law_number" 631]) ::
(nat_lit 339,tu #[]) ::
(nat_lit 341,cc "_law_spots" 626 627 628 117 1 336 181 337 (R 338) (R 339) 340 632 633) ::
(nat_lit 342,fu "_law_spots" 41 "law_sheetfold_k23_crowded_edges" 609 341) ::
(nat_lit 343,tu #[]) ::
(nat_lit 345,tu #[S "_law_cells" 638,S "_law_base_here" 639,S "_law_cell" 640]) ::
(nat_lit 346,tu #[]) ::
(nat_lit 348,cc "_law_base" 635 636 637 127 1 343 181 344 (R 345) (R 346) 347 641 642) ::
(nat_lit 349,fu "_law_base" 42 "law_sheetfold_k23_crowded_edges" 609 348) ::
(nat_lit 350,tu #[]) ::
(nat_lit 352,tu #[S "_law_cells" 647,S "_law_base_here" 648,S "_law_kind" 649,S "_law_cubes" 650,S "_law_corner" 651,S "_law_spot" 652,S "_law_k" 653,S "_law_cell" 654,S "_law_cube" 655,S "_law_axis" 656]) ::
(nat_lit 353,tu #[]) ::
(nat_lit 355,cc "_law_solid" 644 645 646 135 3 350 181 351 (R 352) (R 353) 354 657 658) ::
(nat_lit 356,fu "_law_solid" 43 "law_sheetfold_k23_crowded_edges" 609 355) ::
(nat_lit 357,tu #[]) ::
(nat_lit 360,cc "_law_skin" 660 661 662 151 1 357 181 358 N N 359 663 664) ::
(nat_lit 361,fu "_law_skin" 44 "law_sheetfold_k23_crowded_edges" 609 360) ::
(nat_lit 362,tu #[]) ::
(nat_lit 364,tu #[S "_law_spot" 669,S "_law_axes" 670,S "_law_found" 671,S "_law_axis" 672,S "_law_by" 673,S "_law_made" 674]) ::
(nat_lit 365,tu #[]) ::
(nat_lit 367,cc "_law_near" 666 667 668 163 2 362 181 363 (R 364) (R 365) 366 675 676) ::
(nat_lit 368,fu "_law_near" 45 "law_sheetfold_k23_crowded_edges" 609 367) ::
(nat_lit 369,tu #[]) ::
(nat_lit 372,cc "_law_met" 678 679 680 171 1 369 181 370 N N 371 681 682) ::
(nat_lit 373,fu "_law_met" 46 "law_sheetfold_k23_crowded_edges" 609 372) ::
(nat_lit 374,tu #[]) ::
(nat_lit 376,tu #[S "_law_e" 687,S "_law_one" 688,S "_law_two" 689]) ::
(nat_lit 377,tu #[]) ::
(nat_lit 379,cc "_law_kinds" 684 685 686 179 1 374 181 375 (R 376) (R 377) 378 690 691) ::
(nat_lit 380,fu "_law_kinds" 47 "law_sheetfold_k23_crowded_edges" 609 379) ::
(nat_lit 381,tu #[]) ::
(nat_lit 384,cc "_law_due" 693 694 695 183 1 381 181 382 N N 383 696 697) ::
(nat_lit 385,fu "_law_due" 48 "law_sheetfold_k23_crowded_edges" 609 384) ::
(nat_lit 386,tu #[]) ::
(nat_lit 388,tu #[S "_law_solid_here" 702,S "_law_due_here" 703,S "_law_kinds_here" 704,S "_law_told" 705,S "_law_e" 706]) ::
(nat_lit 389,tu #[]) ::
(nat_lit 391,cc "_law_refused" 699 700 701 189 2 386 181 387 (R 388) (R 389) 390 707 708) ::
(nat_lit 392,fu "_law_refused" 49 "law_sheetfold_k23_crowded_edges" 609 391) ::
(nat_lit 393,tu #[]) ::
(nat_lit 395,tu #[S "_law_solid_here" 713,S "_law_due_here" 714,S "_law_mine" 715,S "_law_found" 716]) ::
(nat_lit 396,tu #[]) ::
(nat_lit 398,cc "_law_right" 710 711 712 199 1 393 181 394 (R 395) (R 396) 397 717 718) ::
(nat_lit 399,fu "_law_right" 50 "law_sheetfold_k23_crowded_edges" 609 398) ::
(nat_lit 400,tu #[]) ::
(nat_lit 403,cc "law" 720 721 722 208 1 400 181 401 N N 402 723 724) ::
(nat_lit 404,fu "law" 51 "law_sheetfold_k23_crowded_edges" 609 403)::[]
def kA:List Ke:=[2,3,15,22,23,24,25,28,35,36,37,40,47,48,49,52,59,60,61,64,71,72,73,76,83,84,85,88,95,96,97,100,107,108,109,112,119,120,121,124,131,133,134,136,137,138,139,140,143,150,152,153,155,156,157,158,159,162,169,171,172,174,175,176,177,178,181,188,190,191,193,194,195,196,197,200,207,209,210,212,213,214,215,216,219,222,223,224,225,226,227,228,229,230,231,233,234,236,237,238,240,241,243,244,245,248,249,250,253,254,255,257,258,260,261,262,265,266,267,269,270,272,273,274,276,277,279,280,281,284,285,286,289,290,291,293,294,296,297,298,300,301,303,304,305,308,309,310,313,314,315,317,318,320,321,322,324,325,327,328,329,331,332,334,335,336,338,339,341,342,343,345,346,348,349,350,352,353,355,356,357,360,361,362,364,365,367,368,369,372,373,374,376,377,379,380,381,384,385,386,388,389,391,392,393,395,396,398,399,400,403,404]
theorem kE (P:Params):kA=(KH P).map (·.1):=by kernel_rfl
noncomputable abbrev hk:Hook:=kHook KH kA kE
noncomputable def tfQ (tr:(String->Option UA)->Kt->KF->Nat->Option Kb->Nat->Kf->Thread->Option Kf)(tb:String->Option UA)(p:Kt)(w:KF)(N:Nat)(s:Kf):Option Kf :=
 match s.heap.isNs mainGlobals&&s.gens.size==0 with
 | true=>(tr tb p w s.heap.objs.size (s.heap.nsMap mainGlobals "__annotations__") N s (topStub p)).bind fun u =>
   match staticsOk (importedModules p.main.body) s.heap u.heap&&namesBound p u.heap&&gensDone u&&laidKept s.heap u.heap with
   | true=>some u
   | false=>none
 | false=>none
theorem tf_q (p:Kt)(w:KF)(N:Nat):topFrom treeTable p w N=tfQ NT XB p w N:=by
 rw [← Fast.te14082659384304107361,← NU]
 rfl
noncomputable def opQ (p:Kt)(w:KF)(N:Nat):Option Kf :=
 (Fast.tw10274390034422433532 XB (opening p) w N (N2 (opening p)).1 (N2 (opening p)).2).bind (Fast.tw14289696077712309145 p)
theorem op_q (p:Kt)(w:KF)(N:Nat):fencedOpening treeTable p w N=opQ p w N:=by
 unfold opQ
 rw [← Fast.te10274390034422433532,← NU,← Fast.te1435165496053646825,← Fast.te14289696077712309145]
 rfl
noncomputable def endsQ (p:Kt)(w:KF)(N:Nat):Option Kf:=(opQ p w N).bind (tfQ NT XB p w N)
theorem qjI (p:Kt)(w:KF)(N:Nat):openEnds treeTable p w N=endsQ p w N:=by
 unfold openEnds endsQ
 rw [op_q,tf_q]
set_option maxHeartbeats 0 in
theorem left:LeftO PySem.Challenge.pw_sheetfold_k23_crowded_edges vw [] (fun s=>xlAt vw [] s&&recOk (RowW.records (OpenRow.toRowW (OpenLaw.row PySem.Challenge.rw_sheetfold_k23_crowded_edges))) s) (Hook.obs hk) (Hook.val hk) 8298:=by
 intro w
 rw [qjI,Fast.te4187177175401517315]
 kernel_rfl
end HD
namespace L2
open PySem PySem.Spec PyProof.Rows
abbrev Key:=Sum Int Str
def qjj:Key->Kb->Bool
 | .inl k,v=>Value.isInt k v
 | .inr x,v=>Value.isStrOf x v
def keyH (w:KF):Key->Int
 | .inl k=>hashInt k
 | .inr x=>hashStr w x
theorem zR:∀ {k:Key} {v:Kb},qjj k v=true->(∃ i t,k=Sum.inl i/\v=XX i t)\/(∃ x t,k=Sum.inr x/\v=XW x t)
 | .inl i,v,h=>by
  obtain ⟨t,e⟩:=Value.isInt_shape (k:=i) (v:=v) h
  exact .inl ⟨i,t,rfl,e⟩
 | .inr x,v,h=>by
  obtain ⟨t,e⟩:=Value.isStrOf_shape (x:=x) (v:=v) h
  exact .inr ⟨x,t,rfl,e⟩
theorem qj1 (a b:Int):decide ((Sum.inl a:Key)=Sum.inl b)=(a==b):=by
 by_cases e:a=b
 ·subst e;simp
 ·have h:¬ (Sum.inl a:Key)=Sum.inl b:=fun q=>e (Sum.inl.inj q)
  rw [decide_eq_false h]
  exact (beq_eq_false_iff_ne.mpr e).symm
theorem qj4 (a b:Str):decide ((Sum.inr a:Key)=Sum.inr b)=decide (a=b):=by
 by_cases e:a=b
 ·subst e;simp
 ·have h:¬ (Sum.inr a:Key)=Sum.inr b:=fun q=>e (Sum.inr.inj q)
  rw [decide_eq_false h,decide_eq_false e]
theorem qj2 (a:Int)(b:Str):decide ((Sum.inl a:Key)=Sum.inr b)=false:=decide_eq_false (fun q=>nomatch q)
theorem qj3 (a:Str)(b:Int):decide ((Sum.inr a:Key)=Sum.inl b)=false:=decide_eq_false (fun q=>nomatch q)
def qdS (prog:Kt)(w:KF):PySem.KeyKind prog w Key where
 is:=qjj
 hash:=keyH w
 inj:=fun v a b ha hb=>by
  rcases zR ha with ⟨i,t,rfl,rfl⟩|⟨x,t,rfl,rfl⟩
  ·rcases zR hb with ⟨j,u,rfl,e⟩|⟨y,u,rfl,e⟩
   ·injection e with e1 _;rw [e1]
   ·exact nomatch e
  ·rcases zR hb with ⟨j,u,rfl,e⟩|⟨y,u,rfl,e⟩
   ·exact nomatch e
   ·injection e with e1 _;rw [e1]
 byValue:=fun k v h=>by
  rcases zR h with ⟨i,t,rfl,rfl⟩|⟨x,t,rfl,rfl⟩<;>rfl
 pyHash:=fun hv h=>by
  rcases zR hv with ⟨i,t,rfl,rfl⟩|⟨x,t,rfl,rfl⟩
  ·exact wpAny_pyHash_int h
  ·exact wpAny_pyHash_str h
 eqBool:=fun hu hv h=>by
  rcases zR hu with ⟨i,t,rfl,rfl⟩|⟨x,t,rfl,rfl⟩
  ·rcases zR hv with ⟨j,u,rfl,rfl⟩|⟨y,u,rfl,rfl⟩
   ·rw [qj1] at h;exact wpAny_eqBool_int h
   ·rw [qj2] at h;exact SeqAt.EqAt.int_str i t y u _ _ _ _ h
  ·rcases zR hv with ⟨j,u,rfl,rfl⟩|⟨y,u,rfl,rfl⟩
   ·rw [qj3] at h;exact SeqAt.EqAt.str_int x t j u _ _ _ _ h
   ·rw [qj4] at h;exact wpAny_eqBool_str h
 «strs»:=fun k x t v h=>by
  rcases zR h with ⟨i,u,rfl,e⟩|⟨y,u,rfl,e⟩
  ·exact nomatch e
  ·injection e with e1 _
   subst e1
   cases v<;>rfl
inductive V where
 | non|bl (b:Bool)|int (i:Int)|str (x:Str)|byt (b:Array UInt8)|flt (b:UInt64)|ref (a:Ke)|ty (n:String)
 deriving DecidableEq
def RelV:V->Kb->Prop
 | .non,u=>u=K5
 | .bl b,u=>u=K1 b
 | .int i,u=>∃ t,u=XX i t
 | .str x,u=>∃ t,u=XW x t
 | .byt b,u=>∃ t,u=Value.bytes b t
 | .flt b,u=>∃ t,u=Fq b t
 | .ref a,u=>u=KD a
 | .ty n,u=>u=Vp n
abbrev Vals:List V->List Kb->Prop:=Vk RelV
theorem Vals.length {xs:List V}{us:List Kb}(r:Vals xs us):xs.length=us.length:=XG r
theorem Vals.get:∀ {xs:List V} {us:List Kb} {i:Nat} {x:V},Vals xs us->xs[i]?=some x->∃ u,us[i]?=some u/\RelV x u
 | _,_,_,_,.nil,e=>by simp at e
 | _,_,0,_,.cons r _,e=>by simp at e;subst e;exact ⟨_,rfl,r⟩
 | _,_,i+1,x,.cons _ t,e=>by
  obtain ⟨u,h1,h2⟩:=Vals.get (i:=i) (x:=x) t (by simpa using e)
  exact ⟨u,by simpa using h1,h2⟩
theorem Vals.set {x:V}{u:Kb}(r:RelV x u):∀ {xs:List V} {us:List Kb} (i:Nat),Vals xs us->Vals (xs.set i x) (us.set i u)
 | _,_,_,.nil=>.nil
 | _,_,0,.cons _ t=>.cons r t
 | _,_,i+1,.cons q t=>.cons q (Vals.set r i t)
theorem Vals.append:∀ {xs ys:List V} {us ws:List Kb},Vals xs us->Vals ys ws->Vals (xs++ys) (us++ws)
 | _,_,_,_,.nil,s=>s
 | _,_,_,_,.cons r t,s=>.cons r (Vals.append t s)
theorem Vals.take:∀ {xs:List V} {us:List Kb} (n:Nat),Vals xs us->Vals (xs.take n) (us.take n)
 | _,_,0,_=>.nil
 | _,_,_+1,.nil=>.nil
 | _,_,n+1,.cons r t=>.cons r (Vals.take n t)
theorem Vals.drop:∀ {xs:List V} {us:List Kb} (n:Nat),Vals xs us->Vals (xs.drop n) (us.drop n)
 | _,_,0,r=>r
 | _,_,_+1,.nil=>.nil
 | _,_,n+1,.cons _ t=>Vals.drop n t
def RelO:Option V->Option Kb->Prop
 | some v,some u=>RelV v u
 | none,none=>True
 | _,_=>False
def KV {κ:Type}:List (κ×V)->List (κ×Value)->Prop:=Vk fun (p:κ×V) (q:κ×Value)=>p.1=q.1/\RelV p.2 q.2
def kV:Key->V
 | .inl i=>.int i
 | .inr x=>.str x
inductive HO where
 | lst (xs:List V)
 | tup (xs:List V)
 | dK (kvs:List (Key×V))|dT (kvs:List (List Key×V))
 | set (S:Int->Bool) (n:Nat)
 | ins (C dx:Ke) (fs:List (Str×V))
 | own (x:Ke)
 | xd (fs:List (Str×V))
 | met (f x:Ke)
 | rng (lo hi:Int)
 | frz (o:Obj) (u:HO)
 | tbl (ps:Array Kb)
 | ext (φ:Kx->Prop)
abbrev Hp:=Ke->Option HO
def upd (H:Hp)(a:Ke)(o:HO):Hp:=fun b=>if b=a then some o else H b
theorem qF {H:Hp}{a:Ke}{o:HO}:upd H a o a=some o:=by unfold upd;rw [if_pos rfl]
theorem qD {H:Hp}{a b:Ke}{o:HO}(h:b≠a):upd H a o b=H b:=by unfold upd;rw [if_neg h]
theorem ne_of {H:Hp}{a b:Ke}{o u:HO}(h:H a=some o)(h':H b=some u)(d:o≠u):a≠b:=by
 intro e;subst e;rw [h] at h';exact d (V0 h')
theorem qW {H:Hp}{a b:Ke}{o:HO}(h:H a=some o)(h':H b=none):a≠b:=by
 intro e;subst e;rw [h] at h';cases h'
section
variable (P:Kt)(w:KF)
def zM (H:Hp)(h:Kx)(a:Ke):HO->Prop
 | .lst xs=>xs.length<=sizeLine/\∃ (its:List Kb) (n:Nat),Vals xs its/\h.get? a=some { cls:=.type "list", data:=.seq its.toArray n }
 | .tup xs=>xs.length<=sizeLine/\∃ its:List Kb,Vals xs its/\IsTup h a its.toArray
 | .dK kvs=>kvs.length<=sizeLine/\(a==sysModules)=false/\∃ vs,KV kvs vs/\h.DictOf (qdS P w) a vs
 | .dT kvs=>kvs.length<=sizeLine/\(a==sysModules)=false/\∃ xs:List (List Key×Addr×Value),
   Vk (fun (p:List Key×V) (q:List Key×Addr×Value)=>p.1=q.1/\H q.2.1=some (.tup (p.1.map kV))/\RelV p.2 q.2.2) kvs xs/\
   ∃ o es ep,h.get? a=some o/\o.ExactDict/\o.data=.dict es ep/\es.toList=xs.map (entryOfKey (tupleKind (qdS P w)))/\(xs.map (·.1)).Nodup
 | .set S n=>h.SetOf (intKind P w) a S n
 | .ins C dx fs=>H dx=some (.own a)/\fs.length<=1000/\dx≠a/\h.get? a=some (EI C dx)/\
   ∃ mA,h.Ns1 dx mA/\(∀ f,RelO (fs.lookup f) (mA f))/\PySem.Within mA (fs.map (·.1))
 | .own _=>∃ o,h.get? a=some o
 | .xd fs=>∃ mA,h.Ns1 a mA/\∀ f,RelO (fs.lookup f) (mA f)
 | .rng lo hi=>∃ t u v,h.get? a=some { cls:=.type "range", data:=.fields #[.int lo t,.int hi u,.int 1 v] }
 | .frz o u=>h.get? a=some o/\zM H h a u
 | .tbl ps=>h.get? a=some { cls:=.none,data:=.fields ps }
 | .met f x=>h.get? a=some (Eb (.ref f) (.ref x))
 | .ext φ=>φ h/\(∃ o,h.get? a=some o)/\∀ h1 h2:Kx,φ h1->(∀ o,h1.get? a=some o->h2.get? a=some o)->φ h2
def HOk (H:Hp)(h:Kx):Prop:=∀ a o,H a=some o->zM P w H h a o
end
section
variable {P:Kt}{w:KF}{H H':Hp}{h h':Kx}{a:Ke}{o:HO}
theorem zM.lt (x:zM P w H h a o):a<h.objs.size:=by
 cases o with
 | lst xs=>obtain ⟨_,_,_,_,e⟩:=x;exact Ku e
 | tup xs=>obtain ⟨_,_,_,p⟩:=x;exact p.lt
 | dK kvs=>obtain ⟨_,_,_,_,o,_,_,e,_⟩:=x;exact Ku e
 | dT kvs=>obtain ⟨_,_,_,_,o,_,_,e,_⟩:=x;exact Ku e
 | set S n=>obtain ⟨o,_,_,_,e,_⟩:=x;exact Ku e
 | ins C dx fs=>obtain ⟨_,_,_,e,_⟩:=x;exact Ku e
 | own y=>obtain ⟨_,e⟩:=x;exact Ku e
 | xd fs=>obtain ⟨_,⟨_,_,_,e,_⟩,_⟩:=x;exact Ku e
 | rng lo hi=>obtain ⟨_,_,_,e⟩:=x;exact Ku e
 | frz ob u=>obtain ⟨e,_⟩:=x;exact Ku e
 | tbl ps=>exact Ku (show h.get? a=some _ from x)
 | met f y=>exact Ku (show h.get? a=some _ from x)
 | ext φ=>obtain ⟨_,⟨_,e⟩,_⟩:=x;exact Ku e
theorem Paired.mapP {α β:Type}{F G:α->β->Prop}:∀ {l₁:List α} {l₂:List β},Vk F l₁ l₂->(∀ a b,F a b->G a b)->Vk G l₁ l₂
 | _,_,.nil,_=>.nil
 | _,_,.cons r t,f=>.cons (f _ _ r) (Paired.mapP t f)
theorem zM.stay (x:zM P w H h a o)(k:∀ b u,(b=a\/H b=some (.own a))->h.get? b=some u->h'.get? b=some u)
  (ho:∀ b,H b=some (.own a)->H' b=some (.own a)) (ht:∀ b xs,H b=some (.tup xs)->H' b=some (.tup xs)):zM P w H' h' a o:=by
 induction o with
 | lst xs=>obtain ⟨z,its,n,r,e⟩:=x;exact ⟨z,its,n,r,k _ _ (.inl rfl) e⟩
 | tup xs=>obtain ⟨z,its,r,ob,e,c⟩:=x;exact ⟨z,its,r,ob,k _ _ (.inl rfl) e,c⟩
 | dK kvs=>obtain ⟨z,y,vs,r,ob,es,ep,e,c⟩:=x;exact ⟨z,y,vs,r,ob,es,ep,k _ _ (.inl rfl) e,c⟩
 | dT kvs =>
  obtain ⟨z,y,xs,r,ob,es,ep,e,c⟩:=x
  exact ⟨z,y,xs,Paired.mapP r fun p q z=>⟨z.1,ht _ _ z.2.1,z.2.2⟩,ob,es,ep,k _ _ (.inl rfl) e,c⟩
 | set S n=>obtain ⟨ob,es,ep,t,e,c⟩:=x;exact ⟨ob,es,ep,t,k _ _ (.inl rfl) e,c⟩
 | ins C dx fs =>
  obtain ⟨d,z,ne,e,mA,⟨od,es,ep,e2,c⟩,r⟩:=x
  exact ⟨ho _ d,z,ne,k _ _ (.inl rfl) e,mA,⟨od,es,ep,k _ _ (.inr d) e2,c⟩,r⟩
 | own y=>obtain ⟨ob,e⟩:=x;exact ⟨ob,k _ _ (.inl rfl) e⟩
 | xd fs=>obtain ⟨mA,⟨od,es,ep,e,c⟩,r⟩:=x;exact ⟨mA,⟨od,es,ep,k _ _ (.inl rfl) e,c⟩,r⟩
 | rng lo hi=>obtain ⟨t,u,v,e⟩:=x;exact ⟨t,u,v,k _ _ (.inl rfl) e⟩
 | frz ob u ih=>obtain ⟨e,q⟩:=x;exact ⟨k _ _ (.inl rfl) e,ih q⟩
 | tbl ps =>
  have e:h.get? a=some { cls:=.none,data:=.fields ps }:=x
  show h'.get? a=some { cls:=.none,data:=.fields ps }
  exact k a _ (.inl rfl) e
 | met f y =>
  have e:h.get? a=some (Eb (.ref f) (.ref y)):=x
  show h'.get? a=some (Eb (.ref f) (.ref y))
  exact k a _ (.inl rfl) e
 | ext φ=>obtain ⟨p,⟨o,e⟩,st⟩:=x;exact ⟨st _ _ p fun o q=>k _ _ (.inl rfl) q,⟨o,k _ _ (.inl rfl) e⟩,st⟩
theorem HOk.lt (x:HOk P w H h)(e:H a=some o):a<h.objs.size:=(x a o e).lt
theorem HOk.fresh (x:HOk P w H h)(e:h.objs.size<=a):H a=none:=by
 cases q:H a with
 | none=>rfl
 | some u=>exact absurd (KB (x.lt q) e) (VI _)
theorem HOk.kept (x:HOk P w H h)(k:∀ b u,h.get? b=some u->h'.get? b=some u):HOk P w H h':=fun a o e =>
 (x a o e).stay (fun b u _ q=>k b u q) (fun _ q=>q) fun _ _ q=>q
theorem HOk.laid (x:HOk P w H h)(k:∀ b u,h.get? b=some u->h'.get? b=some u)(hp:h.objs.size<=a)(new:zM P w (upd H a o) h' a o):HOk P w (upd H a o) h':=fun b u e=>by
 have hn:=x.fresh hp
 by_cases hb:b=a
 ·subst hb;rw [qF] at e;cases e;exact new
 ·rw [qD hb] at e
  exact (x b u e).stay (fun c v _ q=>k c v q) (fun c q=>by rw [qD (qW q hn)];exact q) fun c xs q=>by rw [qD (qW q hn)];exact q
end
def Rd (H:Hp)(a:Ke)(u:HO):Prop:=H a=some u\/∃ o,H a=some (.frz o u)
theorem Rd.ok {P:Kt}{w:KF}{H:Hp}{h:Kx}{a:Ke}{u:HO}(r:Rd H a u)(x:HOk P w H h):zM P w H h a u:=by
 rcases r with r|⟨o,r⟩
 ·exact x a u r
 ·obtain ⟨_,q⟩:=x a _ r
  exact q
def Mut:Option HO->Prop
 | some (.lst _)=>True
 | some (.dK _)=>True
 | some (.dT _)=>True
 | some (.set _ _)=>True
 | some (.ins _ _ _)=>True
 | some (.ext _)=>True
 | _=>False
section
variable {P:Kt}{w:KF}{H:Hp}{h h':Kx}{x e:Ke}{o':HO}
theorem HOk.write (ok:HOk P w H h)(mu:Mut (H x))(he:e=x\/H e=some (.own x))(k:∀ b u,b≠e->h.get? b=some u->h'.get? b=some u)(heo:∃ u,h'.get? e=some u)
  (new:zM P w (upd H x o') h' x o'):HOk P w (upd H x o') h':=fun b u q=>by
 have nown:∀ c y,H c=some (.own y)->c≠x:=fun c y r z=>by subst z;rw [r] at mu;exact mu
 have ntup:∀ c xs,H c=some (.tup xs)->c≠x:=fun c xs r z=>by subst z;rw [r] at mu;exact mu
 by_cases hb:b=x
 ·subst hb;rw [qF] at q;cases q;exact new
 ·rw [qD hb] at q
  by_cases hbe:b=e
  ·have q':H b=some (.own x):=by
    rcases he with z|z
    ·exact absurd (hbe.trans z) hb
    ·rw [hbe];exact z
   rw [q] at q';cases q'
   obtain ⟨v,hv⟩:=heo
   exact ⟨v,by rw [hbe];exact hv⟩
  ·refine (ok b u q).stay (fun c v hc r=>k c v ?_ r) (fun c r=>by rw [qD (nown c b r)];exact r) fun c xs r=>by rw [qD (ntup c xs r)];exact r
   rcases hc with rfl|hc
   ·exact hbe
   ·rintro rfl
    rcases he with z|z
    ·exact nown c b hc z
    ·rw [hc] at z;cases z;exact hb rfl
end
structure Un (fs ex:List Ke)(H H':Hp)(h h':Kx):Prop where
 keep:∀ b o,h.get? b=some o->H b=none->b∉fs->b∉ex->h'.get? b=some o
 slot:∀ b o,h.get? b=some o->H b=none->b∈fs->b∉ex->∃ sl,h'.get? b=some { o with slots:=sl }
 free:∀ b o,h.get? b=some o->H b=none->b∉ex->H' b=none
 there:∀ b o,h.get? b=some o->b∉ex->∃ o',h'.get? b=some o'
 tups:∀ b xs,H b=some (.tup xs)->H' b=some (.tup xs)
 frzs:∀ b o u,H b=some (.frz o u)->H' b=some (.frz o u)
 tbls:∀ b ps,H b=some (.tbl ps)->∃ more,H' b=some (.tbl (ps++more))
section
variable {fs fs' ex ex':List Ke}{H H1 H2:Hp}{h h1 h2 h':Kx}{a x e:Ke}{o:HO}
theorem Un.any (u:Un fs ex H H1 h h1){b:Ke}{ob:Obj}(q:h.get? b=some ob)(n:H b=none)(hx:b∉ex):∃ sl,h1.get? b=some { ob with slots:=sl }:=by
 by_cases hb:b∈fs
 ·exact u.slot b ob q n hb hx
 ·exact ⟨ob.slots,u.keep b ob q n hb hx⟩
theorem Un.trans (a:Un fs ex H H1 h h1)(b:Un fs ex H1 H2 h1 h2):Un fs ex H H2 h h2 where
 keep:=fun c ob q n hc hx=>b.keep c ob (a.keep c ob q n hc hx) (a.free c ob q n hx) hc hx
 slot:=fun c ob q n hc hx=>by
  obtain ⟨sl,e1⟩:=a.slot c ob q n hc hx
  obtain ⟨sl',e2⟩:=b.slot c _ e1 (a.free c ob q n hx) hc hx
  exact ⟨sl',e2⟩
 free:=fun c ob q n hx=>by
  obtain ⟨o',e1⟩:=a.there c ob q hx
  exact b.free c o' e1 (a.free c ob q n hx) hx
 there:=fun c ob q hx=>by
  obtain ⟨o',e1⟩:=a.there c ob q hx
  exact b.there c o' e1 hx
 tups:=fun c xs q=>b.tups c xs (a.tups c xs q)
 frzs:=fun c ob xs q=>b.frzs c ob xs (a.frzs c ob xs q)
 tbls:=fun c ps q=>by
  obtain ⟨m1,e1⟩:=a.tbls c ps q
  obtain ⟨m2,e2⟩:=b.tbls c _ e1
  exact ⟨m1++m2,by rw [e2,NV]⟩
theorem Un.kept (k:∀ b u,h.get? b=some u->h'.get? b=some u):Un fs ex H H h h' :=
 ⟨fun b ob q _ _ _=>k b ob q,fun b ob q _ _ _=>⟨ob.slots,k b ob q⟩,fun _ _ _ n _=>n,fun b ob q _=>⟨ob,k b ob q⟩,fun _ _ q=>q,fun _ _ _ q=>q,fun _ ps q=>⟨#[],by rw [q];simp⟩⟩
theorem Un.refl:Un fs ex H H h h:=Un.kept fun _ _ q=>q
theorem Un.laid (k:∀ b u,h.get? b=some u->h'.get? b=some u)(hp:h.objs.size<=a)(hn:H a=none):Un fs ex H (upd H a o) h h' where
 keep:=fun b u q _ _ _=>k b u q
 slot:=fun b u q _ _ _=>⟨u.slots,k b u q⟩
 free:=fun b u q n _=>by rw [qD (KR (KB (Ku q) hp))];exact n
 there:=fun b u q _=>⟨u,k b u q⟩
 tups:=fun b xs q=>by rw [qD (qW q hn)];exact q
 frzs:=fun b u xs q=>by rw [qD (qW q hn)];exact q
 tbls:=fun b ps q=>⟨#[],by rw [qD (qW q hn),q];simp⟩
theorem Un.write (mu:Mut (H x))(he:e=x\/H e=some (.own x))(k:∀ b u,b≠e->h.get? b=some u->h'.get? b=some u)(heo:∃ u,h'.get? e=some u):Un fs ex H (upd H x o) h h':=by
 have hx:∀ b,H b=none->b≠x:=fun b n z=>by subst z;rw [n] at mu;exact mu
 have hb:∀ b,H b=none->b≠e:=fun b n z=>by
  subst z
  rcases he with r|r
  ·exact hx b n r
  ·rw [n] at r;cases r
 have hm:∀ b u,H b=some u->¬ Mut (some u)->b≠x:=fun b u q nm z=>by subst z;rw [q] at mu;exact nm mu
 refine ⟨fun b u q n _ _=>k b u (hb b n) q,fun b u q n _ _=>⟨u.slots,k b u (hb b n) q⟩,fun b u q n _=>by rw [qD (hx b n)];exact n,fun b u q _=>?_,
  fun b xs q=>by rw [qD (hm b _ q fun z=>z)];exact q,fun b u xs q=>by rw [qD (hm b _ q fun z=>z)];exact q,fun b ps q=>⟨#[],by rw [qD (hm b _ q fun z=>z),q];simp⟩⟩
 by_cases hbe:b=e
 ·subst hbe;exact heo
 ·exact ⟨u,k b u hbe q⟩
end
def trk (h:Kx)(H:Hp):List Ke:=(X7 h.objs.size).filter fun a=>(H a).isSome
def hidT (h:Kx)(H:Hp):Kx:=UW h (trk h H)
theorem qeJ (h:Kx)(H:Hp):(hidT h H).objs.size=h.objs.size:=PySem.W.hideAll_size _ _
theorem qf4 {h:Kx}{H:Hp}{b:Ke}{o:Obj}(e:h.get? b=some o)(n:H b=none):(hidT h H).get? b=some o :=
 Fd _ e fun hm=>by
  have q:(H b).isSome=true:=(VC.mp hm).2
  rw [n] at q;simp at q
theorem qir {h:Kx}{H:Hp}{b:Ke}{o:Obj}(e:(hidT h H).get? b=some o):h.get? b=some o/\H b=none:=by
 have e':h.get? b=some o:=Fe (trk h H) e
 refine ⟨e',?_⟩
 cases q:H b with
 | none=>rfl
 | some x =>
  have hm:b∈trk h H:=VC.mpr ⟨E1.mpr (Ku e'),by simp [q]⟩
  have z:(hidT h H).get? b=none:=E6 (trk h H) hm
  rw [z] at e;cases e
structure Mod (K:Kd)(mg:Str->Option Kb)(base:Kx):Prop where
 kin:K.In base
 glob:base.Ns mainGlobals mg
 blt:∃ mb,base.Ns builtinsNs mb/\∀ x:Str,x ≠ "__name__"->mb x=bootBuiltins x
 nolimit:base.NoLimit
structure Cx where
 prog:Kt
 w:KF
 K:Kd
 mg:Str->Option Kb
 base:Kx
 A:KG
 N:List Str
 s₀:Kf
 H₀:Hp
 env:Env
 outer:List Env
 stack:List Env
 ex:List Ke
 fn:Str->Bool
 calm:Bool
 pn:List (Ke×Obj)
 xe:Kb->Kf->Prop
def frs (l:List Env):List Ke:=l.filterMap (·.frame)
abbrev Cx.fs (X:Cx):List Ke:=frs X.outer
def Vis (sc:VE)(x:Str):Prop:=sc.names.lookup x=some .local\/sc.names.lookup x=some .cell\/sc.names.lookup x=some .free
def Loc (sc:VE)(x:Str):Prop:=sc.names.lookup x=some .local\/sc.names.lookup x=some .cell
def Look (env:Env)(h:Kx)(m:Str->Option Kb)(x:Str)(u:Kb):Prop :=
 (env.kindOf x=some .local/\m x=some u)\/((env.kindOf x=some .cell\/env.kindOf x=some .free)/\∃ c,env.cells.lookup x=some c/\h.IsCell c (some u))
structure Cx.Ok (X:Cx):Prop where
 mod:Mod X.K X.mg X.base
 kind:X.env.scope.kind=.function
 glob:X.env.globals=mainGlobals
 blt:X.env.builtins=builtinsNs
 above:X.s₀.heap.objs.size<=X.env.locals
 inj:∀ x y c,X.env.cells.lookup x=some c->X.env.cells.lookup y=some c->x=y
 has:∀ x,(X.env.kindOf x=some .cell\/X.env.kindOf x=some .free)->∃ c,X.env.cells.lookup x=some c
 cab:∀ x c,X.fn x=true->X.env.cells.lookup x=some c->X.s₀.heap.objs.size<=c
 hd:X.calm=true->X.A.handled=none
 frames:X.A.frames=some X.stack
 stk:X.stack=X.outer\/(X.stack=X.env::X.outer/\X.env.frame=some X.env.locals)
 exf:∀ b∈X.ex,b≠X.env.locals/\∀ x c,X.env.cells.lookup x=some c->c≠b
 bs:∀ b o,X.base.get? b=some o->X.s₀.heap.get? b=some o/\X.H₀ b=none
 bsz:X.base.objs.size<=X.s₀.heap.objs.size
 noex:∀ b o,X.base.get? b=some o->b∉X.ex
 exfs:∀ b∈X.ex,b∉X.fs
 funs:X.s₀.heap.FunFrames X.base X.outer
 frf:∀ b∈X.fs,X.H₀ b=none
structure Inv (X:Cx)(pins:List (Ke×Obj))(σ:List (Option V))(H:Hp)(s:Kf):Prop where
 ok:X.Ok
 os:s.os=X.s₀.os
 bare:XJ s.gens
 base:Un X.fs X.ex X.H₀ H X.s₀.heap s.heap
 loc:∃ m,s.heap.Ns X.env.locals m/\∀ (i:Nat) (x:Str) (v:V),X.N[i]?=some x->σ[i]?=some (some v)->Vis X.env.scope x->∃ u,RelV v u/\Look X.env s.heap m x u
 cell:∀ x c,X.env.cells.lookup x=some c->∃ v,s.heap.IsCell c v
 free:H X.env.locals=none
 freeC:∀ x c,X.env.cells.lookup x=some c->H c=none
 pin:∀ p∈X.pn++pins,s.heap.get? p.1=some p.2/\H p.1=none/\p.1≠X.env.locals/\p.1∉X.fs/\∀ v,p.2.data≠.cell v
 hok:HOk X.prog X.w H s.heap
 len:σ.length=X.N.length
section
variable {X:Cx}{pins:List (Ke×Obj)}{σ:List (Option V)}{H H':Hp}{s:Kf}{h':Kx}
theorem Cx.Ok.nofr (ok:X.Ok){b:Ke}{o:Obj}(e:X.base.get? b=some o):b∉X.fs:=fun hb=>by
 have:=(ok.funs.mem hb).1
 rw [e] at this;cases this
theorem Inv.bs (I:Inv X pins σ H s):∀ b o,X.base.get? b=some o->s.heap.get? b=some o/\H b=none:=fun b o e =>
 ⟨I.base.keep b o (I.ok.bs b o e).1 (I.ok.bs b o e).2 (I.ok.nofr e) (I.ok.noex b o e),I.base.free b o (I.ok.bs b o e).1 (I.ok.bs b o e).2 (I.ok.noex b o e)⟩
theorem Inv.bk (I:Inv X pins σ H s):∀ b o,X.base.get? b=some o->s.heap.get? b=some o:=fun b o e=>(I.bs b o e).1
theorem Inv.mod (I:Inv X pins σ H s):Mod X.K X.mg X.base:=I.ok.mod
theorem Inv.kIn (I:Inv X pins σ H s):X.K.In s.heap:=I.ok.mod.kin.keeps I.bk
theorem Inv.lt (I:Inv X pins σ H s):X.env.locals<s.heap.objs.size:=let ⟨_,hn,_⟩:=I.loc;hn.lt
theorem Inv.sz (I:Inv X pins σ H s):X.s₀.heap.objs.size<=s.heap.objs.size:=Vs I.ok.above (VM I.lt)
theorem Inv.nofs (I:Inv X pins σ H s){a:Ke}(h:s.heap.objs.size<=a):a∉X.fs:=fun hb=>by
 obtain ⟨_,o,ho,_⟩:=I.ok.funs.mem hb
 exact absurd (KB (Ku ho) (Vs I.sz h)) (VI _)
theorem Inv.cne (I:Inv X pins σ H s):∀ x c,X.env.cells.lookup x=some c->c≠X.env.locals:=fun x c e z=>by
 obtain ⟨v,o,ho,hd⟩:=I.cell x c e
 obtain ⟨m,⟨o',es,ep,ho',hd',_⟩,_⟩:=I.loc
 rw [z,ho'] at ho;cases ho;rw [hd'] at hd;cases hd
theorem Inv.funs (I:Inv X pins σ H s):s.heap.FunFrames X.base X.outer:=by
 have all:∀ (l:List Env),(∀ b∈frs l,b∈X.fs)->X.s₀.heap.FunFrames X.base l->s.heap.FunFrames X.base l:=by
  intro l
  induction l with
  | nil=>intro _ _;trivial
  | cons env r ih =>
   intro hs hl
   obtain ⟨hk,⟨L,o,hf,hn,ho,hd⟩,hr⟩:=hl
   have hL:L∈X.fs:=hs L (by unfold frs;rw [Xk,hf];exact KZ)
   obtain ⟨sl,e⟩:=I.base.slot L o ho (I.ok.frf L hL) hL fun z=>I.ok.exfs L z hL
   exact ⟨hk,⟨L,_,hf,hn,e,hd⟩,ih (fun b hb=>hs b (by unfold frs;rw [Xk,hf];exact K9 _ hb)) hr⟩
 exact all X.outer (fun _ hb=>hb) I.ok.funs
theorem Inv.stack (I:Inv X pins σ H s):s.heap.FunFrames X.base X.stack:=by
 rcases I.ok.stk with e|⟨e,hf⟩
 ·rw [e];exact I.funs
 ·rw [e]
  obtain ⟨m,hn,_⟩:=I.loc
  refine .cons (by rw [I.ok.kind];decide) hf hn ?_ I.funs
  exact Heap.get?_none_of_le (Vs I.ok.bsz I.ok.above)
theorem Inv.stkSub (I:Inv X pins σ H s):∀ b∈frs X.stack,b∈X.env.locals::X.fs:=fun b hb=>by
 rcases I.ok.stk with e|⟨e,hf⟩
 ·rw [e] at hb;exact K9 _ hb
 ·rw [e] at hb
  unfold frs at hb
  rw [Xk,hf] at hb
  exact hb
theorem Inv.stkFree (I:Inv X pins σ H s):∀ b∈frs X.stack,H b=none:=fun b hb=>by
 rcases Kk.mp (I.stkSub b hb) with e|hb
 ·rw [e];exact I.free
 ·obtain ⟨_,o,ho,_⟩:=I.ok.funs.mem hb
  exact I.base.free b o ho (I.ok.frf b hb) fun z=>I.ok.exfs b z hb
theorem Inv.step {g':Array GenState}{t':Nat}{d':Drawn}{ch:List Ke}(I:Inv X pins σ H s)
  (hch:∀ b∈ch,(b∈X.ex\/X.s₀.heap.objs.size<=b)/\b≠X.env.locals/\(∀ x c,X.env.cells.lookup x=some c->c≠b)/\∀ p∈X.pn++pins,p.1≠b)
  (keep:∀ b o,b≠X.env.locals->b∉X.fs->b∉ch->s.heap.get? b=some o->H b=none->h'.get? b=some o)
  (slot:∀ b o,b≠X.env.locals->b∈X.fs->b∉ch->s.heap.get? b=some o->H b=none->∃ sl,h'.get? b=some { o with slots:=sl }) (free:∀ b o,b∉ch->s.heap.get? b=some o->H b=none->H' b=none)
  (there:∀ b o,b∉ch->s.heap.get? b=some o->∃ o',h'.get? b=some o')
  (tups:∀ b xs,H b=some (.tup xs)->H' b=some (.tup xs)) (frzs:∀ b o u,H b=some (.frz o u)->H' b=some (.frz o u)) (tbls:∀ b ps,H b=some (.tbl ps)->∃ more,H' b=some (.tbl (ps++more)))
  (ns:∀ m,s.heap.Ns X.env.locals m->h'.Ns X.env.locals m) (hok:HOk X.prog X.w H' h') (hg:XJ g') :
  Inv X pins σ H' { s with heap:=h',gens:=g',drawn:=d',toks:=t' }:=by
 have neL:∀ b o,X.s₀.heap.get? b=some o->b≠X.env.locals:=fun b o e=>KR (KB (Ku e) I.ok.above)
 have neC:∀ b o,X.s₀.heap.get? b=some o->b∉X.ex->b∉ch:=fun b o e hx hb=>by
  rcases (hch b hb).1 with z|z
  ·exact hx z
  ·exact absurd (KB (Ku e) z) (VI _)
 have cellK:∀ x c,X.env.cells.lookup x=some c->∀ v,s.heap.IsCell c v->h'.IsCell c v:=fun x c e v ⟨o,ho,hd⟩=>by
  have nch:c∉ch:=fun z=>(hch c z).2.2.1 x c e rfl
  by_cases hc:c∈X.fs
  ·obtain ⟨sl,q⟩:=slot c o (I.cne x c e) hc nch ho (I.freeC x c e)
   exact ⟨_,q,hd⟩
  ·exact ⟨o,keep c o (I.cne x c e) hc nch ho (I.freeC x c e),hd⟩
 refine ⟨I.ok,I.os,hg,⟨fun b o e n hb hx=>?_,fun b o e n hb hx=>?_,fun b o e n hx=>?_,fun b o e hx=>?_,fun b xs e=>tups b xs (I.base.tups b xs e),fun b o xs e=>frzs b o xs (I.base.frzs b o xs e),fun b ps e=>?_⟩,?_,fun x c e=>?_,?_,fun x c e=>?_,fun p hp=>?_,hok,I.len⟩
 ·exact keep b o (neL b o e) hb (neC b o e hx) (I.base.keep b o e n hb hx) (I.base.free b o e n hx)
 ·obtain ⟨sl,e1⟩:=I.base.slot b o e n hb hx
  obtain ⟨sl',e2⟩:=slot b _ (neL b o e) hb (neC b o e hx) e1 (I.base.free b o e n hx)
  exact ⟨sl',e2⟩
 ·obtain ⟨o',e1⟩:=I.base.there b o e hx
  exact free b o' (neC b o e hx) e1 (I.base.free b o e n hx)
 ·obtain ⟨o',e1⟩:=I.base.there b o e hx
  exact there b o' (neC b o e hx) e1
 ·obtain ⟨m1,e1⟩:=I.base.tbls b ps e
  obtain ⟨m2,e2⟩:=tbls b _ e1
  exact ⟨m1++m2,by rw [e2,NV]⟩
 ·obtain ⟨m,hn,hl⟩:=I.loc
  refine ⟨m,ns m hn,fun i x v e1 e2 e3=>?_⟩
  obtain ⟨u,r,l⟩:=hl i x v e1 e2 e3
  refine ⟨u,r,?_⟩
  rcases l with l|⟨k,c,e,z⟩
  ·exact .inl l
  ·exact .inr ⟨k,c,e,cellK x c e _ z⟩
 ·obtain ⟨v,z⟩:=I.cell x c e
  exact ⟨v,cellK x c e v z⟩
 ·obtain ⟨m,⟨o,_,_,ho,_⟩,_⟩:=I.loc
  exact free _ o (fun z=>(hch _ z).2.1 rfl) ho I.free
 ·obtain ⟨v,o,ho,hd⟩:=I.cell x c e
  exact free c o (fun z=>(hch c z).2.2.1 x c e rfl) ho (I.freeC x c e)
 ·obtain ⟨e,n,ne,nf,d⟩:=I.pin p hp
  have nch:p.1∉ch:=fun z=>(hch p.1 z).2.2.2 p hp rfl
  exact ⟨keep p.1 p.2 ne nf nch e n,free p.1 p.2 nch e n,ne,nf,d⟩
theorem Inv.un {t':Nat}(I:Inv X pins σ H s)(u:Un X.fs [] H H' s.heap h')(hok:HOk X.prog X.w H' h'):Inv X pins σ H' { s with heap:=h',toks:=t' }:=by
 obtain ⟨m,⟨o,es,ep,ho,r⟩,_⟩:=id I.loc
 obtain ⟨sl,hL⟩:=u.any ho I.free (by simp)
 exact I.step (g':=s.gens) (d':=s.drawn) (ch:=[]) (fun _ z=>nomatch z) (fun b o _ hb _ e n=>u.keep b o e n hb (by simp)) (fun b o _ hb _ e n=>u.slot b o e n hb (by simp)) (fun b o _ e n=>u.free b o e n (by simp)) (fun b o _ e=>u.there b o e (by simp)) u.tups u.frzs u.tbls (fun m' hm=>by
  obtain ⟨o',es',ep',ho',r'⟩:=hm
  rw [ho] at ho';cases ho'
  exact ⟨_,es',ep',hL,r'⟩) hok I.bare
theorem Inv.call {g':Array GenState}{t':Nat}{d':Drawn}{ch:List Ke}(I:Inv X pins σ H s)(u:Un (frs X.stack) ch H H' s.heap h')(hok:HOk X.prog X.w H' h')(hg:XJ g')
  (hch:∀ b∈ch,(b∈X.ex\/X.s₀.heap.objs.size<=b)/\b≠X.env.locals/\(∀ x c,X.env.cells.lookup x=some c->c≠b)/\∀ p∈X.pn++pins,p.1≠b) :
  Inv X pins σ H' { s with heap:=h',gens:=g',drawn:=d',toks:=t' }:=by
 obtain ⟨m,⟨o,es,ep,ho,r⟩,_⟩:=id I.loc
 obtain ⟨sl,hL⟩:=u.any ho I.free fun z=>(hch _ z).2.1 rfl
 exact I.step (ch:=ch) hch (fun b o hL hb hc e n=>u.keep b o e n (fun z=>(Kk.mp (I.stkSub b z)).elim hL hb) hc) (fun b o _ _ hc e n=>u.any e n hc) (fun b o hc e n=>u.free b o e n hc) (fun b o hc e=>u.there b o e hc) u.tups u.frzs u.tbls (fun m' hm=>by
  obtain ⟨o',es',ep',ho',r'⟩:=hm
  rw [ho] at ho';cases ho'
  exact ⟨_,es',ep',hL,r'⟩) hok hg
theorem Inv.turned {t':Nat}{it:Ke}(I:Inv X pins σ H s)(k:∀ b o,b≠it->s.heap.get? b=some o->h'.get? b=some o)(hn:H it=none)(hL:it≠X.env.locals)
  (h1:it∈X.ex\/X.s₀.heap.objs.size<=it) (h2:∀ x c,X.env.cells.lookup x=some c->c≠it) (h3:∀ p∈X.pn++pins,p.1≠it):Inv X pins σ H { s with heap:=h',toks:=t' }:=by
 have nit:∀ b u,H b=some u->b≠it:=fun b u e z=>by rw [z,hn] at e;cases e
 refine I.step (g':=s.gens) (d':=s.drawn) (ch:=[it]) (fun b hb=>?_) (fun b o _ _ hc e _=>k b o (fun z=>hc (by simp [z])) e) (fun b o _ _ hc e _=>⟨o.slots,k b o (fun z=>hc (by simp [z])) e⟩) (fun _ _ _ _ n=>n)
  (fun b o hc e=>⟨o,k b o (fun z=>hc (by simp [z])) e⟩) (fun _ _ e=>e) (fun _ _ _ e=>e) (fun b ps e=>⟨#[],by rw [e];simp⟩) (fun m hm=>?_) (fun b u e=>?_) I.bare
 ·have e:b=it:=by simpa using hb
  subst e
  exact ⟨h1,hL,h2,h3⟩
 ·obtain ⟨o,es,ep,ho,r⟩:=hm
  exact ⟨o,es,ep,k _ o (VU hL) ho,r⟩
 ·refine (I.hok b u e).stay (fun c v hc q=>k c v ?_ q) (fun _ q=>q) fun _ _ q=>q
  rcases hc with z|z
  ·rw [z];exact nit b u e
  ·exact nit c _ z
theorem Inv.tok (I:Inv X pins σ H s)(t:Nat):Inv X pins σ H { s with toks:=t }:=I.un (h':=s.heap) (t':=t) Un.refl I.hok
theorem Inv.kept {t':Nat}(I:Inv X pins σ H s)(k:∀ b u,s.heap.get? b=some u->h'.get? b=some u):Inv X pins σ H { s with heap:=h',toks:=t' }:=I.un (Un.kept k) (I.hok.kept k)
theorem Inv.laid {a:Ke}{o:HO}{t':Nat}(I:Inv X pins σ H s)(k:∀ b u,s.heap.get? b=some u->h'.get? b=some u)(hp:s.heap.objs.size<=a)(new:zM X.prog X.w (upd H a o) h' a o) :
  Inv X pins σ (upd H a o) { s with heap:=h',toks:=t' }:=I.un (Un.laid k hp (I.hok.fresh hp)) (I.hok.laid k hp new)
theorem Inv.write {x e:Ke}{o:HO}{t':Nat}(I:Inv X pins σ H s)(mu:Mut (H x))(he:e=x\/H e=some (.own x))(k:∀ b u,b≠e->s.heap.get? b=some u->h'.get? b=some u)(heo:∃ u,h'.get? e=some u)
  (new:zM X.prog X.w (upd H x o) h' x o):Inv X pins σ (upd H x o) { s with heap:=h',toks:=t' }:=I.un (Un.write mu he k heo) (I.hok.write mu he k heo new)
theorem Inv.pins_of {pins':List (Ke×Obj)}(I:Inv X pins σ H s)(h:∀ p∈pins',s.heap.get? p.1=some p.2/\H p.1=none/\p.1≠X.env.locals/\p.1∉X.fs/\∀ v,p.2.data≠.cell v):Inv X pins' σ H s :=
 ⟨I.ok,I.os,I.bare,I.base,I.loc,I.cell,I.free,I.freeC,fun p hp=>(Vv.mp hp).elim (fun z=>I.pin p (Ui _ z)) (h p),I.hok,I.len⟩
theorem wZ {N:List Str}(hN:N.Nodup){i j:Nat}{x:Str}(a:N[i]?=some x)(b:N[j]?=some x):i=j:=by
 obtain ⟨h1,e1⟩:=Vg.mp a
 obtain ⟨h2,e2⟩:=Vg.mp b
 exact (List.getElem_inj hN).mp (e1.trans e2.symm)
theorem qaw {M:Model}{A:KG}{E:Kb->Kf->Prop}{i:Nat}{x:Str}{v:V}{u:Kb}{Q:Unit->Kf->Prop}(I:Inv X pins σ H s)(hN:X.N.Nodup)(hi:X.N[i]?=some x)(hx:Loc X.env.scope x)(r:RelV v u)
  (h:∀ s',Inv X pins (σ.set i (some v)) H s'->(∃ a,US a s.heap s'.heap/\(a=X.env.locals\/X.env.cells.lookup x=some a))->Q () s') (hf:X.fn x=true\/X.env.scope.names.lookup x=some .local:=by first|exact .inl rfl|exact .inr rfl|assumption):wpAny M A (storeName X.env x u) Q E s:=by
 obtain ⟨m,hn,hl⟩:=id I.loc
 have hcls:(X.env.scope.kind==.class||(X.env.scope.kind==.module&&X.env.locals != X.env.globals))=false:=by rw [I.ok.kind];rfl
 have hiσ:i<σ.length:=by rw [I.len];exact (Vg.mp hi).1
 have cne:=I.cne
 have tracked:∀ {a:Ke} {h':Kx},(∃ o,s.heap.get? a=some o/\H a=none)->US a s.heap h'->HOk X.prog X.w H h':=fun {a h'} ha hs b ob e=>by
  obtain ⟨_,_,hfree⟩:=ha
  refine (I.hok b ob e).stay (fun c w' hc q=>(hs.2 c ?_).trans q) (fun _ q=>q) fun _ _ q=>q
  rintro rfl
  rcases hc with rfl|hc
  ·rw [hfree] at e;cases e
  ·rw [hfree] at hc;cases hc
 rcases hx with hk|hk
 ·refine wpAny_storeName_local hk hn (fun h' hn' hs=>?_) hcls
  obtain ⟨oL,_,_,hoL,_⟩:=id hn
  refine h _ ⟨I.ok,I.os,I.bare,⟨fun b o e n hb hx=>?_,fun b o e n hb hx=>?_,I.base.free,fun b o e hx=>?_,I.base.tups,I.base.frzs,I.base.tbls⟩,⟨_,hn',fun j y v' e1 e2 e3=>?_⟩,fun y c e=>?_,I.free,I.freeC,fun p hp=>?_,tracked ⟨oL,hoL,I.free⟩ hs,by simpa using I.len⟩ ⟨_,hs,.inl rfl⟩
  ·exact (hs.2 b (KR (KB (Ku e) I.ok.above))).trans (I.base.keep b o e n hb hx)
  ·obtain ⟨sl,e1⟩:=I.base.slot b o e n hb hx
   exact ⟨sl,(hs.2 b (KR (KB (Ku e) I.ok.above))).trans e1⟩
  ·obtain ⟨o',e1⟩:=I.base.there b o e hx
   exact ⟨o',(hs.2 b (KR (KB (Ku e) I.ok.above))).trans e1⟩
  ·by_cases hj:j=i
   ·subst hj
    rw [hi] at e1;cases e1
    rw [Vr hiσ] at e2
    cases e2
    exact ⟨u,r,.inl ⟨hk,by simp⟩⟩
   ·rw [VR (VU hj)] at e2
    obtain ⟨u',r',q⟩:=hl j y v' e1 e2 e3
    refine ⟨u',r',?_⟩
    rcases q with ⟨k,e⟩|⟨k,c,e,z⟩
    ·refine .inl ⟨k,?_⟩
     have:y≠x:=fun e=>hj (wZ hN e1 (e ▸ hi))
     simp [this,e]
    ·exact .inr ⟨k,c,e,z.sameBut hs (cne y c e)⟩
  ·obtain ⟨w',z⟩:=I.cell y c e
   exact ⟨w',z.sameBut hs (cne y c e)⟩
  ·obtain ⟨e,n,ne,nf,d⟩:=I.pin p hp
   exact ⟨(hs.2 p.1 ne).trans e,n,ne,nf,d⟩
 ·have hfn:X.fn x=true:=by
   rcases hf with z|z
   ·exact z
   ·rw [z] at hk;cases hk
  obtain ⟨c,hc⟩:=I.ok.has x (.inl hk)
  obtain ⟨w',z⟩:=I.cell x c hc
  refine wpAny_storeName_cell I.ok.kind hk hc z (fun h' hc' hs=>?_)
  obtain ⟨oc,hoc,hocd⟩:=id z
  refine h { s with heap:=h' } ⟨I.ok,I.os,I.bare,⟨fun b o e n hb hx=>?_,fun b o e n hb hx=>?_,I.base.free,fun b o e hx=>?_,I.base.tups,I.base.frzs,I.base.tbls⟩,⟨m,hn.sameBut hs (VU (cne x c hc)),fun j y v' e1 e2 e3=>?_⟩,fun y c' e=>?_,I.free,I.freeC,fun p hp=>?_,tracked ⟨oc,hoc,I.freeC x c hc⟩ hs,by simpa using I.len⟩ ⟨c,hs,.inr hc⟩
  ·exact (hs.2 b (KR (KB (Ku e) (I.ok.cab x c hfn hc)))).trans (I.base.keep b o e n hb hx)
  ·obtain ⟨sl,e1⟩:=I.base.slot b o e n hb hx
   exact ⟨sl,(hs.2 b (KR (KB (Ku e) (I.ok.cab x c hfn hc)))).trans e1⟩
  ·obtain ⟨o',e1⟩:=I.base.there b o e hx
   exact ⟨o',(hs.2 b (KR (KB (Ku e) (I.ok.cab x c hfn hc)))).trans e1⟩
  ·by_cases hj:j=i
   ·subst hj
    rw [hi] at e1;cases e1
    rw [Vr hiσ] at e2
    cases e2
    exact ⟨u,r,.inr ⟨.inl hk,c,hc,hc'⟩⟩
   ·rw [VR (VU hj)] at e2
    obtain ⟨u',r',q⟩:=hl j y v' e1 e2 e3
    refine ⟨u',r',?_⟩
    rcases q with q|⟨k,c',e,z'⟩
    ·exact .inl q
    ·refine .inr ⟨k,c',e,z'.sameBut hs ?_⟩
     rintro rfl
     exact hj (wZ hN e1 (I.ok.inj _ _ _ e hc ▸ hi))
  ·by_cases hcc:c'=c
   ·subst hcc;exact ⟨_,hc'⟩
   ·obtain ⟨w2,z2⟩:=I.cell y c' e
    exact ⟨w2,z2.sameBut hs hcc⟩
  ·obtain ⟨e,n,ne,nf,d⟩:=I.pin p hp
   refine ⟨(hs.2 p.1 ?_).trans e,n,ne,nf,d⟩
   intro q
   rw [q,hoc] at e
   have q':oc=p.2:=V0 e
   exact d w' (by rw [← q'];exact hocd)
theorem Wq {M:Model}{A:KG}{E:Kb->Kf->Prop}{i:Nat}{x:Str}{v:V}{u:Kb}{Q:Unit->Kf->Prop}(I:Inv X pins σ H s)(hN:X.N.Nodup)(hi:X.N[i]?=some x)(hx:Loc X.env.scope x)(r:RelV v u)
  (h:∀ s',Inv X pins (σ.set i (some v)) H s'->Q () s') (hf:X.fn x=true\/X.env.scope.names.lookup x=some .local:=by first|exact .inl rfl|exact .inr rfl|assumption):wpAny M A (storeName X.env x u) Q E s :=
 qaw I hN hi hx r (fun s' I' _=>h s' I') hf
theorem Inv.call' {s':Kf}{ch:List Ke}(I:Inv X pins σ H s)(ho:s'.os=s.os)(u:Un (frs X.stack) ch H H' s.heap s'.heap)(hok:HOk X.prog X.w H' s'.heap)(hg:XJ s'.gens)
  (hch:∀ b∈ch,(b∈X.ex\/X.s₀.heap.objs.size<=b)/\b≠X.env.locals/\(∀ x c,X.env.cells.lookup x=some c->c≠b)/\∀ p∈X.pn++pins,p.1≠b):Inv X pins σ H' s':=by
 obtain ⟨h',g',d',t',o'⟩:=s'
 have e:o'=s.os:=ho
 subst e
 exact I.call (g':=g') (t':=t') (d':=d') u hok hg hch
end
abbrev XK:=Kb->Option Ke->Hp->Prop
abbrev St:=List (Option V)
abbrev VK:=V->Hp->Prop
abbrev TE:=St->Hp->VK->Prop
abbrev TT:=St->Hp->(Bool->Hp->Prop)->Prop
abbrev TA:=St->Hp->(List V->Hp->Prop)->Prop
structure Ends where
 nx:St->Hp->Prop
 rt:VK
 bk:St->Hp->Prop:=fun _ _=>False
 ct:St->Hp->Prop:=fun _ _=>False
abbrev TS:=Ends->St->Hp->Prop
def EP (X:Cx)(pins:List (Ke×Obj))(σ:St)(Q:VK)(u:Kb)(s':Kf):Prop:=∃ v H',Inv X pins σ H' s'/\RelV v u/\Q v H'
def TP (X:Cx)(pins:List (Ke×Obj))(σ:St)(Q:Bool->Hp->Prop)(b:Bool)(s':Kf):Prop:=∃ H',Inv X pins σ H' s'/\Q b H'
def AP (X:Cx)(pins:List (Ke×Obj))(σ:St)(Q:List V->Hp->Prop)(us:List Kb)(s':Kf):Prop:=∃ vs H',Inv X pins σ H' s'/\Vals vs us/\Q vs H'
def SP (X:Cx)(pins:List (Ke×Obj))(D:Ends)(f:Flow)(s':Kf):Prop :=
 match f with
 | .next=>∃ σ' H',Inv X pins σ' H' s'/\D.nx σ' H'
 | .brk=>∃ σ' H',Inv X pins σ' H' s'/\D.bk σ' H'
 | .cont=>∃ σ' H',Inv X pins σ' H' s'/\D.ct σ' H'
 | .ret u=>∃ v σ' H',Inv X pins σ' H' s'/\RelV v u/\D.rt v H'
def PE (X:Cx)(e:Kw)(t:TE):Prop :=
 ∀ (pins:List (Ke×Obj)) (s:Kf) (σ:St) (H:Hp) (Q:VK),Inv X pins σ H s->t σ H Q->wpAny (model X.prog X.w) X.A (eval e X.env) (EP X pins σ Q) X.xe s
def PT (X:Cx)(e:Kw)(t:TT):Prop :=
 ∀ (pins:List (Ke×Obj)) (s:Kf) (σ:St) (H:Hp) (Q:Bool->Hp->Prop),Inv X pins σ H s->t σ H Q->wpAny (model X.prog X.w) X.A (isTrue e X.env (eval e X.env)) (TP X pins σ Q) X.xe s
def PW (X:Cx)(e:Kw)(t:TT):Prop :=
 ∀ (whole:Sem Kb) (pins:List (Ke×Obj)) (s:Kf) (σ:St) (H:Hp) (Q:Bool->Hp->Prop),Inv X pins σ H s->t σ H Q->wpAny (model X.prog X.w) X.A (isTrue e X.env whole) (TP X pins σ Q) X.xe s
theorem PW.pt {X:Cx}{e:Kw}{t:TT}(h:PW X e t):PT X e t:=h _
def PA (X:Cx)(es:List Kw)(t:TA):Prop :=
 ∀ (pos:Pos) (pins:List (Ke×Obj)) (s:Kf) (σ:St) (H:Hp) (Q:List V->Hp->Prop),Inv X pins σ H s->t σ H Q->wpAny (model X.prog X.w) X.A (spliced (backTo pos (starEach es X.env))) (AP X pins σ Q) X.xe s
def PS (X:Cx)(st:KY)(t:TS):Prop :=
 ∀ (pins:List (Ke×Obj)) (s:Kf) (σ:St) (H:Hp) (D:Ends),Inv X pins σ H s->t D σ H->wpAny (model X.prog X.w) X.A (exec st X.env) (SP X pins D) X.xe s
def PSs (X:Cx)(st:List KY)(t:TS):Prop :=
 ∀ (pins:List (Ke×Obj)) (s:Kf) (σ:St) (H:Hp) (D:Ends),Inv X pins σ H s->t D σ H->wpAny (model X.prog X.w) X.A (execs st X.env) (SP X pins D) X.xe s
theorem thn {α:Type}{t:Sem α}{Q Q':α->Kf->Prop}{M:Model}{A:KG}{E:Kb->Kf->Prop}{s:Kf}(h:wpAny M A t Q E s)(hQ:∀ a s,Q a s->Q' a s):wpAny M A t Q' E s:=Vq h hQ fun _ _ x=>x
section
variable {X:Cx}
def tVar (i:Nat):TE:=fun σ H Q=>∃ v,σ[i]?=some (some v)/\Q v H
def tC (v:V):TE:=fun _ H Q=>Q v H
theorem Yb {i:Nat}{x:Str}{pos:Pos}(hN:X.N[i]?=some x)(hv:Vis X.env.scope x)(hd:(x==("__debug__" : Str))=false:=by decide)(hcd:(x==("__classdict__" : Str))=false:=by decide):PE X (.Name x pos) (tVar i):=by
 intro pins s σ H Q I h
 obtain ⟨v,e,h⟩:=h
 obtain ⟨m,hn,hl⟩:=I.loc
 obtain ⟨u,r,l⟩:=hl i x v hN e hv
 have fin:EP X pins σ Q u s:=⟨v,H,I,r,h⟩
 rcases l with ⟨hk,hm⟩|⟨hk,c,hc,hcell⟩
 ·exact wpAny_Name (wpAny_loadName_local I.ok.kind hk hn hm fin) hd
 ·rcases hk with hk|hk
  ·exact wpAny_Name (wpAny_loadName_cell I.ok.kind hk hc hcell fin) hd
  ·exact wpAny_Name (wpAny_loadName_free I.ok.kind hk hc hcell fin hcd) hd
theorem qku {i j pos}:PE X (.Constant (.int i) j pos) (tC (.int i)):=fun _ _ _ H _ I h=>wpAny_Constant_int ⟨.int i,H,I.tok _,⟨_,rfl⟩,h⟩
theorem pe_bl {b j pos}:PE X (.Constant (.bool b) j pos) (tC (.bl b)):=fun _ _ _ H _ I h=>Constant_bool ⟨.bl b,H,I,rfl,h⟩
theorem qkv {j pos}:PE X (.Constant .none j pos) (tC .non):=fun _ _ _ H _ I h=>Constant_none ⟨.non,H,I,rfl,h⟩
def Gl (X:Cx)(x:Str):Prop:=X.env.kindOf x=some .globalImplicit
theorem ZW {E:Kb->Kf->Prop}{pins:List (Ke×Obj)}{s:Kf}{σ:St}{H:Hp}{x:Str}{u:Kb}{pos:Pos}{Q:Kb->Kf->Prop}(I:Inv X pins σ H s)(hg:Gl X x)(hm:X.mg x=some u)(h:Q u s)
  (hd:(x==("__debug__" : Str))=false:=by decide):wpAny (model X.prog X.w) X.A (eval (.Name x pos) X.env) Q E s :=
 Calls.Name_function_global I.ok.kind hg (Calls.loadGlobal_global (by rw [I.ok.glob];exact I.mod.glob.keeps I.bk) hm h) hd
theorem yQ {E:Kb->Kf->Prop}{pins:List (Ke×Obj)}{s:Kf}{σ:St}{H:Hp}{x:Str}{u:Kb}{pos:Pos}{Q:Kb->Kf->Prop}(I:Inv X pins σ H s)(hg:Gl X x)(hm:X.mg x=none)(hv:bootBuiltins x=some u)(h:Q u s)
  (hn:x ≠ "__name__" := by decide) (hd:(x==("__debug__" : Str))=false:=by decide):wpAny (model X.prog X.w) X.A (eval (.Name x pos) X.env) Q E s:=by
 obtain ⟨mb,h1,h2⟩:=I.mod.blt
 exact Calls.Name_function_global I.ok.kind hg (Calls.loadGlobal_builtin (by rw [I.ok.glob];exact I.mod.glob.keeps I.bk) hm (by rw [I.ok.blt];exact h1.keeps I.bk) ((h2 x hn).trans hv) h) hd
theorem qa2 {x:Str}{v:V}{u:Kb}{pos:Pos}(hg:Gl X x)(hm:X.mg x=some u)(r:RelV v u)(hd:(x==("__debug__" : Str))=false:=by decide):PE X (.Name x pos) (tC v) :=
 fun _ _ _ H _ I h=>ZW I hg hm ⟨v,H,I,r,h⟩ hd
theorem qd7 {x:Str}{v:V}{u:Kb}{pos:Pos}(hg:Gl X x)(hm:X.mg x=none)(hv:bootBuiltins x=some u)(r:RelV v u)(hn:x ≠ "__name__" := by decide)(hd:(x==("__debug__" : Str))=false:=by decide):PE X (.Name x pos) (tC v) :=
 fun _ _ _ H _ I h=>yQ I hg hm hv ⟨v,H,I,r,h⟩ hn hd
variable {a b:Kw}{ta tb:TE}{pos:Pos}
def tB (t:TE):TT:=fun σ H Q=>t σ H fun x H1=>∃ c,x=.bl c/\Q c H1
theorem qkE {e:Kw}{t:TE}(h:PE X e t)(he:∀ whole,isTrue e X.env whole=(do let v ← whole;standAt e.pos;holding [v] (truthy v)):=by intro _;rfl):PT X e (tB t):=by
 intro pins s σ H Q I hw
 refine isTrue_plain (thn (h pins s σ H _ I hw) fun v s1 ⟨x,H1,I1,r1,q1⟩=>?_) (he _)
 obtain ⟨d,rfl,q⟩:=q1
 cases r1
 exact UZ ⟨H1,I1,q⟩
variable {tA tB':TT}{rest:List Kw}
def tAnd (t u:TT):TT:=fun σ H Q=>t σ H fun c H1=>if c=true then u σ H1 Q else Q false H1
def tOr (t u:TT):TT:=fun σ H Q=>t σ H fun c H1=>if c=true then Q true H1 else u σ H1 Q
def tNot (t:TT):TT:=fun σ H Q=>t σ H fun c H1=>Q (!c) H1
theorem qiV (ha:PT X a tA):PW X (.BoolOp .And [a] pos) tA:=by
 intro wh pins s σ H Q I h
 refine isTrue_and (thn (ha pins s σ H Q I h) fun c s1 e=>?_)
 cases c with
 | true=>exact isTrue_and_nil e
 | false=>exact e
theorem qkH (ha:PT X a tA):PW X (.BoolOp .Or [a] pos) tA:=by
 intro wh pins s σ H Q I h
 refine isTrue_or (thn (ha pins s σ H Q I h) fun c s1 e=>?_)
 cases c with
 | false=>exact isTrue_or_nil e
 | true=>exact e
theorem qkG (ha:PT X a tA)(hb:PW X (.BoolOp .And (b::rest) pos) tB'):PW X (.BoolOp .And (a::b::rest) pos) (tAnd tA tB'):=by
 intro wh pins s σ H Q I h
 refine isTrue_and (thn (ha pins s σ H _ I h) fun c s1 ⟨H1,I1,q1⟩=>?_)
 cases c with
 | true=>exact hb wh pins s1 σ H1 Q I1 q1
 | false=>exact ⟨H1,I1,q1⟩
theorem pw_or (ha:PT X a tA)(hb:PW X (.BoolOp .Or (b::rest) pos) tB'):PW X (.BoolOp .Or (a::b::rest) pos) (tOr tA tB'):=by
 intro wh pins s σ H Q I h
 refine isTrue_or (thn (ha pins s σ H _ I h) fun c s1 ⟨H1,I1,q1⟩=>?_)
 cases c with
 | true=>exact ⟨H1,I1,q1⟩
 | false=>exact hb wh pins s1 σ H1 Q I1 q1
theorem qkD (ha:PT X a tA):PT X (.UnaryOp .Not a pos) (tNot tA):=by
 intro pins s σ H Q I h
 exact isTrue_not (ha pins s σ H (fun c H1=>Q (!c) H1) I h)
def tAndV (ta tb:TE):TE:=fun σ H Q=>ta σ H fun x H1=>∃ c,x=.bl c/\if c=true then tb σ H1 Q else Q (.bl false) H1
def tOrV (ta tb:TE):TE:=fun σ H Q=>ta σ H fun x H1=>∃ c,x=.bl c/\if c=true then Q (.bl true) H1 else tb σ H1 Q
def tNotV (ta:TE):TE:=fun σ H Q=>ta σ H fun x H1=>∃ c,x=.bl c/\Q (.bl (!c)) H1
theorem qkx {op}{t:TE}(h:PE X a t):PE X (.BoolOp op [a] pos) t:=fun pins s σ H Q I hw=>BoolOp_one (h pins s σ H Q I hw)
theorem qkt (ha:PE X a ta)(hb:PE X (.BoolOp .And (b::rest) pos) tb):PE X (.BoolOp .And (a::b::rest) pos) (tAndV ta tb):=by
 intro pins s σ H Q I h
 refine BoolOp_and (thn (ha pins s σ H _ I h) fun v s1 ⟨x,H1,I1,r1,q1⟩=>?_)
 obtain ⟨c,rfl,q1⟩:=q1
 cases r1
 refine UZ ?_
 cases c with
 | true=>exact hb pins s1 σ H1 Q I1 q1
 | false=>exact ⟨.bl false,H1,I1,rfl,q1⟩
theorem pe_or (ha:PE X a ta)(hb:PE X (.BoolOp .Or (b::rest) pos) tb):PE X (.BoolOp .Or (a::b::rest) pos) (tOrV ta tb):=by
 intro pins s σ H Q I h
 refine BoolOp_or (thn (ha pins s σ H _ I h) fun v s1 ⟨x,H1,I1,r1,q1⟩=>?_)
 obtain ⟨c,rfl,q1⟩:=q1
 cases r1
 refine UZ ?_
 cases c with
 | false=>exact hb pins s1 σ H1 Q I1 q1
 | true=>exact ⟨.bl true,H1,I1,rfl,q1⟩
theorem qkw (ha:PE X a ta):PE X (.UnaryOp .Not a pos) (tNotV ta):=by
 intro pins s σ H Q I h
 refine UnaryOp_ (thn (ha pins s σ H _ I h) fun v s1 ⟨x,H1,I1,r1,q1⟩=>?_)
 obtain ⟨c,rfl,q1⟩:=q1
 cases r1
 exact not_of (UZ ⟨.bl (!c),H1,I1,rfl,q1⟩)
def tIf (t:TT)(ta tb:TE):TE:=fun σ H Q=>t σ H fun c H1=>if c=true then ta σ H1 Q else tb σ H1 Q
theorem qgM {c:Kw}(hc:PT X c tA)(ha:PE X a ta)(hb:PE X b tb):PE X (.IfExp c a b pos) (tIf tA ta tb):=by
 intro pins s σ H Q I h
 refine wpAny_IfExp (thn (hc pins s σ H _ I h) fun d s1 ⟨H1,I1,q1⟩=>?_)
 cases d with
 | true=>exact ha pins s1 σ H1 Q I1 q1
 | false=>exact hb pins s1 σ H1 Q I1 q1
end
def SqL (K:Kd)(H:Hp)(a:Ke)(xs:List V):Prop :=
 Rd H a (.lst xs)\/
  ∃ (o:Obj) (its:Array Kb) (n:Nat),K.lookup a=some o/\o.cls=.type "list"/\o.dict=none/\o.data=.seq its n/\its.size<=sizeLine/\Vals xs its.toList
def SqT (K:Kd)(H:Hp)(a:Ke)(xs:List V):Prop :=
 Rd H a (.tup xs)\/
  ∃ (o:Obj) (its:Array Kb) (n:Nat),K.lookup a=some o/\o.cls=.type "tuple"/\o.data=.seq its n/\its.size<=sizeLine/\Vals xs its.toList
def absV:Kb->Option V
 | .none=>some .non
 | .bool b=>some (.bl b)
 | .int i _=>some (.int i)
 | .str x _=>some (.str x)
 | .bytes b _=>some (.byt b)
 | .float b _=>some (.flt b)
 | .ref a=>some (.ref a)
 | .type n=>some (.ty n)
 | _=>none
theorem RelV.abs {x:V}{u:Kb}(r:RelV x u):absV u=some x:=by
 cases x with
 | non=>cases r;rfl
 | bl _=>cases r;rfl
 | int _=>obtain ⟨t,rfl⟩:=r;rfl
 | str _=>obtain ⟨t,rfl⟩:=r;rfl
 | byt _=>obtain ⟨t,rfl⟩:=r;rfl
 | flt _=>obtain ⟨t,rfl⟩:=r;rfl
 | ref _=>cases r;rfl
 | ty _=>cases r;rfl
theorem RelV.inj {x y:V}{u:Kb}(r:RelV x u)(q:RelV y u):x=y:=V0 (r.abs.symm.trans q.abs)
theorem Vals.inj:∀ {xs ys:List V} {us:List Kb},Vals xs us->Vals ys us->xs=ys
 | _,_,_,.nil,.nil=>rfl
 | _,_,_,.cons r t,.cons r' t'=>by rw [r.inj r',Vals.inj t t']
section
variable {X:Cx}{pins:List (Ke×Obj)}{σ:St}{H:Hp}{s:Kf}{a:Ke}{xs ys:List V}
theorem SqL.of {K:Kd}(h:H a=some (.lst xs)):SqL K H a xs:=.inl (.inl h)
theorem SqT.of {K:Kd}(h:H a=some (.tup xs)):SqT K H a xs:=.inl (.inl h)
theorem Inv.list (I:Inv X pins σ H s)(h:SqL X.K H a xs):∃ its:List Kb,Vals xs its/\PlainL s.heap a its.toArray/\xs.length<=sizeLine:=by
 rcases h with h|⟨o,its,n,hk,hc,hd,hs,hz,r⟩
 ·obtain ⟨z,its,n,r,e⟩:=h.ok I.hok
  exact ⟨its,r,⟨_,n,e,rfl,rfl,rfl⟩,z⟩
 ·refine ⟨its.toList,r,⟨o,n,I.kIn a o hk,hc,hd,by simpa using hs⟩,?_⟩
  have e:=r.length
  simp only [K0] at e
  omega
theorem Inv.tuple (I:Inv X pins σ H s)(h:SqT X.K H a xs):∃ its:List Kb,Vals xs its/\IsTup s.heap a its.toArray/\xs.length<=sizeLine:=by
 rcases h with h|⟨o,its,n,hk,hc,hs,hz,r⟩
 ·obtain ⟨z,its,r,p⟩:=h.ok I.hok
  exact ⟨its,r,p,z⟩
 ·refine ⟨its.toList,r,⟨o,I.kIn a o hk,hc,n,by simpa using hs⟩,?_⟩
  have e:=r.length
  simp only [K0] at e
  omega
theorem Inv.list_inj (I:Inv X pins σ H s)(h:SqL X.K H a xs)(h':SqL X.K H a ys):xs=ys:=by
 obtain ⟨its,r,⟨o,n,e,_,_,d⟩,_⟩:=I.list h
 obtain ⟨its',r',⟨o',n',e',_,_,d'⟩,_⟩:=I.list h'
 rw [e] at e';cases e'
 rw [d] at d'
 injection d' with d1 _
 have:its=its':=by simpa using congrArg Array.toList d1
 subst this
 exact r.inj r'
theorem Inv.tuple_inj (I:Inv X pins σ H s)(h:SqT X.K H a xs)(h':SqT X.K H a ys):xs=ys:=by
 obtain ⟨its,r,⟨o,e,_,n,d⟩,_⟩:=I.tuple h
 obtain ⟨its',r',⟨o',e',_,n',d'⟩,_⟩:=I.tuple h'
 rw [e] at e';cases e'
 rw [d] at d'
 injection d' with d1 _
 have:its=its':=by simpa using congrArg Array.toList d1
 subst this
 exact r.inj r'
end
abbrev Cx.wish (X:Cx)(E:Kb->Kf->Prop):Cx:={ X with xe:=E }
abbrev Cx.nox (X:Cx):Cx:=X.wish fun _ _=>False
theorem Cx.Ok.wish {X:Cx}(ok:X.Ok)(E:Kb->Kf->Prop):(X.wish E).Ok :=
 ⟨ok.mod,ok.kind,ok.glob,ok.blt,ok.above,ok.inj,ok.has,ok.cab,ok.hd,ok.frames,ok.stk,ok.exf,ok.bs,ok.bsz,ok.noex,ok.exfs,ok.funs,ok.frf⟩
theorem Cx.Ok.unwish {X:Cx}{E:Kb->Kf->Prop}(ok:(X.wish E).Ok):X.Ok :=
 ⟨ok.mod,ok.kind,ok.glob,ok.blt,ok.above,ok.inj,ok.has,ok.cab,ok.hd,ok.frames,ok.stk,ok.exf,ok.bs,ok.bsz,ok.noex,ok.exfs,ok.funs,ok.frf⟩
section
variable {X:Cx}{pins:List (Ke×Obj)}{σ:St}{H:Hp}{s:Kf}{E:Kb->Kf->Prop}
theorem Inv.wish (I:Inv X pins σ H s)(E:Kb->Kf->Prop):Inv (X.wish E) pins σ H s:=⟨I.ok.wish E,I.os,I.bare,I.base,I.loc,I.cell,I.free,I.freeC,I.pin,I.hok,I.len⟩
theorem Inv.unwish (I:Inv (X.wish E) pins σ H s):Inv X pins σ H s:=⟨I.ok.unwish,I.os,I.bare,I.base,I.loc,I.cell,I.free,I.freeC,I.pin,I.hok,I.len⟩
theorem SP.unwish {D:Ends}{f:Flow}{s':Kf}(h:SP (X.wish E) pins D f s'):SP X pins D f s':=by
 cases f with
 | next=>obtain ⟨σ',H',I,q⟩:=h;exact ⟨σ',H',I.unwish,q⟩
 | brk=>obtain ⟨σ',H',I,q⟩:=h;exact ⟨σ',H',I.unwish,q⟩
 | cont=>obtain ⟨σ',H',I,q⟩:=h;exact ⟨σ',H',I.unwish,q⟩
 | ret u=>obtain ⟨v,σ',H',I,r,q⟩:=h;exact ⟨v,σ',H',I.unwish,r,q⟩
theorem PSs.nox {st:List KY}{t:TS}(h:PSs X.nox st t):PSs X st t:=fun pins s σ H D I hw =>
 Vq (h pins s σ H D (I.wish _) hw) (fun _ _ q=>q.unwish) fun _ _ z=>Vz z
end
section
variable {X:Cx}{st:KY}{rest:List KY}{t u:TS}{e:Kw}{te:TE}{pos:Pos}
def tNext:TS:=fun D σ H=>D.nx σ H
def tSeq (t u:TS):TS:=fun D σ H=>t { D with nx:=u D } σ H
theorem qiQ:PSs X [] tNext:=fun _ _ σ H _ I h=>XO ⟨σ,H,I,h⟩
theorem qgW (h1:PS X st t)(h2:PSs X rest u):PSs X (st::rest) (tSeq t u):=by
 intro pins s σ H D I h
 refine UL (thn (h1 pins s σ H { D with nx:=u D } I h) fun f s1 q=>?_)
 cases f with
 | next =>
  obtain ⟨σ',H',I',q⟩:=q
  exact h2 pins s1 σ' H' D I' q
 | ret v=>exact q
 | brk=>exact q
 | cont=>exact q
theorem qiR (h1:PS X st t):PSs X [st] t:=by
 intro pins s σ H D I h
 refine UL (thn (h1 pins s σ H D I h) fun f s1 q=>?_)
 cases f with
 | next=>exact XO q
 | ret v=>exact q
 | brk=>exact q
 | cont=>exact q
theorem Inv.quiet {pins:List (Ke×Obj)}{σ:St}{H:Hp}{s:Kf}(I:Inv X pins σ H s):interactive X.env=false:=by simp [interactive,I.ok.kind]
def tDrop (te:TE):TS:=fun D σ H=>te σ H fun _ H1=>D.nx σ H1
theorem YZ (he:PE X e te)(hs:swapsWith e none pos.line X.env=pure false:=by rfl):PS X (.Expr e pos) (tDrop te):=by
 intro pins s σ H D I h
 exact E2 (thn (he pins s σ H _ I h) fun v s1 ⟨x,H1,I1,r1,q1⟩=>⟨σ,H1,I1,q1⟩) I.quiet hs
def tRet (te:TE):TS:=fun D σ H=>te σ H D.rt
theorem qkC (he:PE X e te):PS X (.Return (some e) pos) (tRet te):=by
 intro pins s σ H D I h
 exact wpAny_Return_some (thn (he pins s σ H _ I h) fun v s1 ⟨x,H1,I1,r1,q1⟩=>⟨x,σ,H1,I1,r1,q1⟩)
def tIfS (c:TT)(t u:TS):TS:=fun D σ H=>c σ H fun b H1=>if b=true then t D σ H1 else u D σ H1
theorem ps_if {c:Kw}{a b:List KY}{tc:TT}(hc:PT X c tc)(ha:PSs X a t)(hb:PSs X b u):PS X (.If c a b pos) (tIfS tc t u):=by
 intro pins s σ H D I h
 refine wpAny_If (thn (hc pins s σ H _ I h) fun d s1 ⟨H1,I1,q1⟩=>?_)
 cases d with
 | true=>exact ha pins s1 σ H1 D I1 q1
 | false=>exact hb pins s1 σ H1 D I1 q1
end
abbrev TG:=V->St->Hp->(St->Hp->Prop)->Prop
abbrev TGs:=List V->St->Hp->(St->Hp->Prop)->Prop
def PG (X:Cx)(target:Kw)(t:TG):Prop :=
 ∀ (pins:List (Ke×Obj)) (s:Kf) (σ:St) (H:Hp) (v:V) (u:Kb) (Q:St->Hp->Prop),Inv X pins σ H s->RelV v u->t v σ H Q->
  wpAny (model X.prog X.w) X.A (assign target X.env u) (fun _ s'=>∃ σ' H',Inv X pins σ' H' s'/\Q σ' H') X.xe s
def PGs (X:Cx)(ts:List Kw)(t:TGs):Prop :=
 ∀ (pins:List (Ke×Obj)) (s:Kf) (σ:St) (H:Hp) (vs:List V) (us:List Kb) (Q:St->Hp->Prop),Inv X pins σ H s->Vals vs us->t vs σ H Q->
  wpAny (model X.prog X.w) X.A (assignInOrder ((assignEach ts X.env).map (·.2)) us) (fun _ s'=>∃ σ' H',Inv X pins σ' H' s'/\Q σ' H') X.xe s
abbrev TSet:=V->V->V->Hp->(Hp->Prop)->Prop
def PSet (X:Cx)(t:TSet):Prop :=
 ∀ (pins:List (Ke×Obj)) (s:Kf) (σ:St) (H:Hp) (o i v:V) (ov iv u:Kb) (Q:Hp->Prop),Inv X pins σ H s->RelV o ov->RelV i iv->RelV v u->t o i v H Q->
  wpAny (model X.prog X.w) X.A (setItem ov iv u) (fun _ s'=>∃ H',Inv X pins σ H' s'/\Q H') X.xe s
section
variable {X:Cx}{pos:Pos}
def qdE (i:Nat):TG:=fun v σ H Q=>Q (σ.set i (some v)) H
theorem qd9 {i:Nat}{x:Str}(hN:X.N.Nodup)(hi:X.N[i]?=some x)(hx:Loc X.env.scope x)(hf:X.fn x=true\/X.env.scope.names.lookup x=some .local:=by first|exact .inl rfl|exact .inr rfl|assumption):PG X (.Name x pos) (qdE i):=by
 intro pins s σ H v u Q I r h
 exact wpAny_assign_Name (Wq I hN hi hx r (fun s' I'=>⟨_,H,I',h⟩) hf)
def gNil:TGs:=fun vs σ H Q=>vs=[]/\Q σ H
def gCons (t:TG)(u:TGs):TGs:=fun vs σ H Q=>∃ v r,vs=v::r/\t v σ H fun σ' H'=>u r σ' H' Q
theorem qiK:PGs X [] gNil:=by
 intro pins s σ H vs us Q I r h
 obtain ⟨e,h⟩:=h
 subst e
 cases r
 exact assignInOrder_nil ⟨σ,H,I,h⟩
theorem qgR {e:Kw}{es:List Kw}{t:TG}{u:TGs}(h1:PG X e t)(h2:PGs X es u)
  (hs:(assignEach (e::es) X.env).map (·.2)=assign e X.env::(assignEach es X.env).map (·.2):=by rfl):PGs X (e::es) (gCons t u):=by
 intro pins s σ H vs us Q I r h
 obtain ⟨v,vr,e1,h⟩:=h
 subst e1
 cases r with
 | cons r rr =>
  rw [hs]
  refine assignInOrder_cons (thn (h1 pins s σ H _ _ _ I r h) fun _ s1 ⟨σ1,H1,I1,q1⟩=>?_)
  exact h2 pins s1 σ1 H1 _ _ Q I1 rr q1
def gTup (K:Kd)(n:Nat)(t:TGs):TG:=fun v σ H Q=>∃ a xs,v=.ref a/\SqT K H a xs/\xs.length=n/\t xs σ H Q
theorem qky {es:List Kw}{k:Nat}{t:TGs}{n:Nat}(hc:X.calm=true)(h:PGs X es t)
  (hn:(assignEach es X.env).length=n:=by rfl) (hst:(assignEach es X.env).findIdx? (·.1)=none:=by rfl):PG X (.Tuple es k pos) (gTup X.K n t):=by
 intro pins s σ H v u Q I r hw
 obtain ⟨a,xs,e1,hq,hl,hw⟩:=hw
 subst e1
 cases r
 obtain ⟨its,rv,ht,hz⟩:=I.tuple hq
 refine assign_Tuple_tuple (I.ok.hd hc) ht (by simp [hn,← hl,rv.length]) hst fun h' hx=>?_
 have I1:Inv X pins σ H { s with heap:=h' }:=I.kept (t':=s.toks) fun b o e=>hx b o (KR (Ku e)) e
 exact h pins _ σ H xs _ Q I1 (by simpa using rv) hw
def gSub (to ti:TE)(t:TSet):TG:=fun v σ H Q=>to σ H fun o H1=>ti σ H1 fun i H2=>t o i v H2 fun H3=>Q σ H3
theorem qcW {o i:Kw}{to ti:TE}{t:TSet}(ho:PE X o to)(hi:PE X i ti)(hs:PSet X t)
  (ha:∀ v,assign (.Subscript o i pos) X.env v=(do
   let ov ← holding [v] (eval o X.env)
   let iv ← holding [v,ov] (eval i X.env)
   standAt pos
   holding [v,ov,iv] (setItem ov iv v)
   release [v,ov,iv] []):=by intro _;rfl):PG X (.Subscript o i pos) (gSub to ti t):=by
 intro pins s σ H v u Q I r h
 rw [ha]
 refine Kc (VP (thn (ho pins s σ H _ I h) fun ov s1 ⟨x,H1,I1,r1,q1⟩=>?_))
 refine Kc (VP (thn (hi pins s1 σ H1 _ I1 q1) fun iv s2 ⟨y,H2,I2,r2,q2⟩=>?_))
 refine Kc (Xm (Kc (VP (thn (hs pins s2 σ H2 x y v ov iv u _ I2 r1 r2 r q2) fun _ s3 ⟨H3,I3,q3⟩=>?_))))
 exact wpAny_release ⟨σ,H3,I3,q3⟩
def tAsg (te:TE)(g:TG):TS:=fun D σ H=>te σ H fun x H1=>g x σ H1 D.nx
theorem qcY {tg e:Kw}{te:TE}{g:TG}(he:PE X e te)(hg:PG X tg g)(hs:swapsWithSole [tg] e pos.line X.env=pure false:=by rfl)(hw:swappedStores [tg] e X.env=pure none:=by rfl)
  (h1:(assignEach [tg] X.env).map (·.2)=[assign tg X.env]:=by rfl):PS X (.Assign [tg] e pos) (tAsg te g):=by
 intro pins s σ H D I h
 refine wpAny_Assign_stores (thn (he pins s σ H _ I h) fun v s1 ⟨x,H1,I1,r1,q1⟩=>?_) hs hw
 rw [h1]
 exact thn (hg pins s1 σ H1 x v _ I1 r1 q1) fun _ s2 q=>q
theorem qa3 {i:Nat}{x:Str}{e:Kw}{te:TE}{pos':Pos}(hN:X.N.Nodup)(hi:X.N[i]?=some x)(hx:Loc X.env.scope x)(he:PE X e te)(hs:swapsWith e (some (.Name x pos')) pos.line X.env=pure false:=by rfl)(hf:X.fn x=true\/X.env.scope.names.lookup x=some .local:=by first|exact .inl rfl|exact .inr rfl|assumption) :
  PS X (.Assign [.Name x pos'] e pos) (tAsg te (qdE i)):=by
 intro pins s σ H D I h
 refine wpAny_Assign_Name (thn (he pins s σ H _ I h) fun v s1 ⟨y,H1,I1,r1,q1⟩=>?_) hs
 exact Wq I1 hN hi hx r1 (fun s2 I2=>⟨_,H1,I2,q1⟩) hf
end
structure It where
 go:Nat->Hp->Prop
 yld:Nat->Hp->V->Hp->Prop
 stop:Nat->Hp->Prop
def FpOk (X:Cx)(pins:List (Ke×Obj))(H:Hp)(b:Ke):Prop :=
 H b=none/\b≠X.env.locals/\b∉X.fs/\(b∈X.ex\/X.s₀.heap.objs.size<=b)/\(∀ x c,X.env.cells.lookup x=some c->c≠b)/\∀ p∈X.pn++pins,p.1≠b
theorem Inv.fpOk {X:Cx}{pins:List (Ke×Obj)}{σ:St}{H H':Hp}{s:Kf}{b:Ke}(I:Inv X pins σ H s)(hb:s.heap.objs.size<=b)(hn:H' b=none):FpOk X pins H' b:=by
 refine ⟨hn,Uy (KB I.lt hb),I.nofs hb,.inr (Vs I.sz hb),fun x c e z=>?_,fun p hp z=>?_⟩
 ·obtain ⟨v,q⟩:=I.cell x c e
  exact absurd (KB q.lt (by rw [z];exact hb)) (VI _)
 ·exact absurd (KB (Ku (I.pin p hp).1) (by rw [z];exact hb)) (VI _)
structure Turn (P:Kt)(w:KF)(K:Kd)(tg:Kw)(J:It)(fp:List Ke)(it:Ke)(tn:Nat->Kx->Prop):Prop where
 mem:it∈fp
 obj:∀ i h,tn i h->∀ b∈fp,∃ o,h.get? b=some o/\∀ v,o.data≠.cell v
 keep:∀ i h h',tn i h->(∀ b∈fp,∀ o,h.get? b=some o->h'.get? b=some o)->tn i h'
 item:∀ (X:Cx),X.prog=P->X.w=w->X.K=K->X.calm=true->∀ (i:Nat) (pins:List (Ke×Obj)) (s:Kf) (σ:St) (H:Hp) (E:Kb->Kf->Prop),Inv X pins σ H s->(∀ b∈fp,FpOk X pins H b)->tn i s.heap->J.go i H->
  wpAny (model P w) X.A (pyNext (.ref it)) (fun r s1=>∃ u,r=some u/\
   wpAny (model P w) X.A (letOwnedTupleGo tg (.ref it) u) (fun _ s2=>∃ x H',Inv X pins σ H' s2/\RelV x u/\J.yld i H x H'/\tn (i+1) s2.heap/\∀ b∈fp,H' b=none) E s1) E s
 done:∀ (X:Cx),X.prog=P->X.w=w->X.K=K->X.calm=true->∀ (i:Nat) (pins:List (Ke×Obj)) (s:Kf) (σ:St) (H:Hp) (E:Kb->Kf->Prop),Inv X pins σ H s->(∀ b∈fp,FpOk X pins H b)->tn i s.heap->J.stop i H->
  wpAny (model P w) X.A (pyNext (.ref it)) (fun r s1=>r=none/\Inv X pins σ H s1) E s
 self:∀ (A:KG) (i:Nat) (s:Kf) (Q:Kb->Kf->Prop) (E:Kb->Kf->Prop),tn i s.heap->Q (.ref it) s->wpAny (model P w) A (pyIter (.ref it)) Q E s
abbrev TI:=St->Hp->(It->Hp->Prop)->Prop
def PIE (X:Cx)(pins:List (Ke×Obj))(σ:St)(tg:Kw)(R:It->Hp->Prop)(itv:Kb)(s2:Kf):Prop :=
 ∃ (it:Ke) (fp:List Ke) (tn:Nat->Kx->Prop) (J:It) (H':Hp),itv=.ref it/\Inv X pins σ H' s2/\Turn X.prog X.w X.K tg J fp it tn/\tn 0 s2.heap/\(∀ b∈fp,FpOk X pins H' b)/\R J H'
def PI (X:Cx)(tg iter:Kw)(wi:TI):Prop :=
 ∀ (pins:List (Ke×Obj)) (s:Kf) (σ:St) (H:Hp) (R:It->Hp->Prop),Inv X pins σ H s->wi σ H R->
  wpAny (model X.prog X.w) X.A (eval iter X.env) (fun v s1=>wpAny (model X.prog X.w) X.A (pyIter v) (PIE X pins σ tg R) X.xe s1) X.xe s
theorem qdG {M:Model}{A:KG}{E:Kb->Kf->Prop}{s:Kf}{tg:Kw}{it:Ke}{u:Kb}{o:Obj}{n:String}{vs:Array Kb}{Q:Unit->Kf->Prop}(ho:s.heap.get? it=some o)(hc:o.cls=.type n)(hd:o.data=.fields vs)
  (hn:["enumerate", "zip", "dict_itemiterator", "dict_reverseitemiterator", "odict_iterator", "itertools.zip_longest", "itertools.pairwise"].contains n=false) (hQ:Q () s):wpAny M A (letOwnedTupleGo tg (.ref it) u) Q E s:=by
 unfold letOwnedTupleGo
 cases tg<;>first
  | exact Kl hQ
  | (cases u<;>first
    | exact Kl hQ
    | (
      refine Kc (wpAny_load ho ?_)
      rw [hc,hd]
      show wpAny M A (if (["enumerate", "zip", "dict_itemiterator", "dict_reverseitemiterator", "odict_iterator", "itertools.zip_longest", "itertools.pairwise"].contains n&&vs[0]?==some (rawInt _))=true then _ else _) Q E s
      rw [if_neg (by intro h;rw [hn,Bool.false_and] at h;cases h)]
      exact Kl hQ))
def Itl (K:Kd)(a:Ke):It :=
 ⟨fun i H=>∃ xs x,SqL K H a xs/\xs[i]?=some x,fun i H x H'=>H'=H/\∀ xs,SqL K H a xs->xs[i]?=some x,fun i H=>∃ xs,SqL K H a xs/\xs.length<=i⟩
def Itt (K:Kd)(a:Ke):It :=
 ⟨fun i H=>∃ xs x,SqT K H a xs/\xs[i]?=some x,fun i H x H'=>H'=H/\∀ xs,SqT K H a xs->xs[i]?=some x,fun i H=>∃ xs,SqT K H a xs/\xs.length<=i⟩
def Itr (lo:Int)(n:Nat):It:=⟨fun i _=>i<n,fun i H x H'=>H'=H/\x=.int (lo+i),fun i _=>n<=i⟩
theorem qfm {P:Kt}{w:KF}{K:Kd}{tg:Kw}(a it:Ke):Turn P w K tg (Itl K a) [it] it (fun i h=>h.IsListIter it a i) where
 mem:=by simp
 obj:=fun i h st b hb=>by
  have e:b=it:=by simpa using hb
  subst e
  obtain ⟨o,e,c,d⟩:=st
  exact ⟨o,e,fun v z=>by rw [d] at z;cases z⟩
 keep:=fun i h h' st k=>st.at fun o e=>k it (by simp) o e
 item:=by
  intro X hP hw hK hc i pins s σ H E I hf st hg
  subst hP hw hK
  obtain ⟨xs,x,hq,hx⟩:=hg
  obtain ⟨its,rv,p,hz⟩:=I.list hq
  obtain ⟨u,hu,ru⟩:=rv.get hx
  obtain ⟨f0,f1,f2,f3,f4,f5⟩:=hf it (by simp)
  refine wpAny_pyNext_list_item st p.isList (x:=u) (by simpa using hu) fun h' st' sb=>?_
  have I1:Inv X pins σ H { s with heap:=h' }:=I.turned (t':=s.toks) (fun b o hb e=>(sb.2 b hb).trans e) f0 f1 f3 f4 f5
  obtain ⟨o,e,c,d⟩:=id st'
  exact ⟨u,rfl,qdG (s:={ s with heap:=h' }) e c d (by decide) ⟨x,H,I1,ru,⟨rfl,fun ys hy=>by rw [I.list_inj hy hq];exact hx⟩,st',fun b hb=>(hf b hb).1⟩⟩
 done:=by
  intro X hP hw hK hc i pins s σ H E I hf st hg
  subst hP hw hK
  obtain ⟨xs,hq,hx⟩:=hg
  obtain ⟨its,rv,p,hz⟩:=I.list hq
  obtain ⟨f0,f1,f2,f3,f4,f5⟩:=hf it (by simp)
  have hl:=rv.length
  exact wpAny_pyNext_list_end (I.ok.hd hc) st p.isList (by simp;omega) fun h' eb=>⟨rfl,I.turned (t':=s.toks) (fun b o hb e=>eb b o hb e) f0 f1 f3 f4 f5⟩
 self:=fun _ _ _ _ _ st h=>wpAny_pyIter_listiter st h
theorem qc6 {P:Kt}{w:KF}{K:Kd}{tg:Kw}(a it:Ke):Turn P w K tg (Itt K a) [it] it (fun i h=>h.IsTupleIter it a i) where
 mem:=by simp
 obj:=fun i h st b hb=>by
  have e:b=it:=by simpa using hb
  subst e
  obtain ⟨o,e,c,d⟩:=st
  exact ⟨o,e,fun v z=>by rw [d] at z;cases z⟩
 keep:=fun i h h' st k=>st.at fun o e=>k it (by simp) o e
 item:=by
  intro X hP hw hK hc i pins s σ H E I hf st hg
  subst hP hw hK
  obtain ⟨xs,x,hq,hx⟩:=hg
  obtain ⟨its,rv,p,hz⟩:=I.tuple hq
  obtain ⟨u,hu,ru⟩:=rv.get hx
  obtain ⟨f0,f1,f2,f3,f4,f5⟩:=hf it (by simp)
  refine wpAny_pyNext_tuple_item st (show s.heap.IsTuple a its.toArray from p) (x:=u) (by simpa using hu) fun h' st' sb=>?_
  have I1:Inv X pins σ H { s with heap:=h' }:=I.turned (t':=s.toks) (fun b o hb e=>(sb.2 b hb).trans e) f0 f1 f3 f4 f5
  obtain ⟨o,e,c,d⟩:=id st'
  exact ⟨u,rfl,qdG (s:={ s with heap:=h' }) e c d (by decide) ⟨x,H,I1,ru,⟨rfl,fun ys hy=>by rw [I.tuple_inj hy hq];exact hx⟩,st',fun b hb=>(hf b hb).1⟩⟩
 done:=by
  intro X hP hw hK hc i pins s σ H E I hf st hg
  subst hP hw hK
  obtain ⟨xs,hq,hx⟩:=hg
  obtain ⟨its,rv,p,hz⟩:=I.tuple hq
  obtain ⟨f0,f1,f2,f3,f4,f5⟩:=hf it (by simp)
  have hl:=rv.length
  exact wpAny_pyNext_tuple_end (I.ok.hd hc) st (show s.heap.IsTuple a its.toArray from p) (by simp;omega) fun h' eb=>⟨rfl,I.turned (t':=s.toks) (fun b o hb e=>eb b o hb e) f0 f1 f3 f4 f5⟩
 self:=fun _ _ _ _ _ st h=>wpAny_pyIter_tupleiter st h
theorem qc5 {P:Kt}{w:KF}{K:Kd}{tg:Kw}(it:Ke)(lo:Int)(n:Nat):Turn P w K tg (Itr lo n) [it] it (fun i h=>IsRangeIter h it (lo+(i:Nat)*1) ((n:Int)-(i:Nat)) 1) where
 mem:=by simp
 obj:=fun i h st b hb=>by
  have e:b=it:=by simpa using hb
  subst e
  exact ⟨_,st,fun v z=>by
   have z':U5 _=Data.cell v:=z
   cases z'⟩
 keep:=fun i h h' st k=>k it (by simp) _ st
 item:=by
  intro X hP hw hK hc i pins s σ H E I hf st hg
  subst hP hw hK
  obtain ⟨f0,f1,f2,f3,f4,f5⟩:=hf it (by simp)
  have W:=Walks.range (prog:=X.prog) (w:=X.w) (I.ok.hd hc) it lo 1 n
  refine W.item i s _ _ hg st fun v h' tk hv st' kk=>?_
  obtain ⟨t,rfl⟩:=hv
  have I1:Inv X pins σ H { s with heap:=h',toks:=tk }:=I.turned (fun b o hb e=>kk b o (by simpa using hb) e) f0 f1 f3 f4 f5
  refine ⟨_,rfl,qdG (s:={ s with heap:=h',toks:=tk }) (n := "range_iterator") st' rfl rfl (by decide) ⟨.int (lo+i),H,I1,⟨t,?_⟩,⟨rfl,rfl⟩,st',fun b hb=>(hf b hb).1⟩⟩
  rw [Int.mul_one]
 done:=by
  intro X hP hw hK hc i pins s σ H E I hf st hg
  subst hP hw hK
  obtain ⟨f0,f1,f2,f3,f4,f5⟩:=hf it (by simp)
  exact wpAny_pyNext_range_end (I.ok.hd hc) st (by have:n<=i:=hg;omega) fun h' eb=>⟨rfl,I.turned (t':=s.toks) (fun b o hb e=>eb b o hb e) f0 f1 f3 f4 f5⟩
 self:=fun _ _ _ _ _ st h=>wpAny_pyIter_rangeiter st h
section
variable {X:Cx}{tg:Kw}
theorem qg0 {pins:List (Ke×Obj)}{σ:St}{H:Hp}{s:Kf}{R:It->Hp->Prop}{E:Kb->Kf->Prop}{lo hi:Int}{t u v:Tok}{tk:Nat}(I:Inv X pins σ H s)(h1:-(2 ^ 62)<=lo)(h2:lo<2 ^ 62)(h3:-(2 ^ 62)<=hi)(h4:hi<2 ^ 62)
  (q:R (Itr lo (hi-lo).toNat) H):wpAny (model X.prog X.w) X.A (pyIter (.ref s.heap.objs.size)) (PIE X pins σ tg R) E { s with heap:=s.heap.push { cls:=.type "range", data:=.fields #[.int lo t,.int hi u,.int 1 v] },toks:=tk }:=by
 refine wpAny_pyIter_range (IsRange.new ..) (small_one h1 h2 h3 h4) ?_
 have I1:Inv X pins σ H { s with heap:=s.heap.push { cls:=.type "range", data:=.fields #[.int lo t,.int hi u,.int 1 v] },toks:=tk }:=I.kept fun b o e=>Ki _ e
 refine ⟨(s.heap.push { cls:=.type "range", data:=.fields #[.int lo t,.int hi u,.int 1 v] }).objs.size,[(s.heap.push { cls:=.type "range", data:=.fields #[.int lo t,.int hi u,.int 1 v] }).objs.size],_,_,H,rfl,
  I1.kept (t':=tk) fun b o e=>Ki _ e,qc5 _ lo (hi-lo).toNat,?_,fun b hb=>?_,q⟩
 ·have e1:lo+((0:Nat):Int)*1=lo:=by simp
  have e2:(((hi-lo).toNat:Nat):Int)-((0:Nat):Int)=Builtin.Range.rangeSize lo hi 1:=by rw [rangeSize_one];split<;>omega
  show IsRangeIter _ _ (lo+((0:Nat):Int)*1) ((((hi-lo).toNat:Nat):Int)-((0:Nat):Int)) 1
  rw [e1,e2]
  exact Kv _ rfl
 ·have e:b=(s.heap.push { cls:=.type "range", data:=.fields #[.int lo t,.int hi u,.int 1 v] }).objs.size:=by simpa using hb
  subst e
  exact I1.fpOk (Ko _) (I1.hok.fresh (Ko _))
def iRng1 (ta:TA):TI:=fun σ H R=>ta σ H fun vs H1=>∃ j:Int,vs=[.int j]/\-(2 ^ 62)<=j/\j<2 ^ 62/\R (Itr 0 j.toNat) H1
theorem qaq {a:Kw}{ta:TA}{p pos:Pos}(hg:Gl X "range")(hm:X.mg "range" = none)(ha:PA X [a] ta)(hs:starEach [a] X.env=[(false,eval a X.env)]:=by rfl):PI X tg (.Call (.Name "range" p) [a] [] pos) (iRng1 ta):=by
 intro pins s σ H R I h
 refine Call_ (yQ I hg hm boot_range (XC (thn (ha pos pins s σ H _ I h) fun us s1 ⟨vs,H1,I1,r1,q1⟩=>?_) hs rfl))
 obtain ⟨j,e,q1,q2,q⟩:=q1
 subst e
 cases r1 with
 | cons r rr =>
  cases rr
  obtain ⟨t,rfl⟩:=r
  exact call_range_1 (qg0 I1 (by omega) (by omega) q1 q2 (by simpa using q))
def tFor (wi:TI)(g:TG)(tb:TS):TS:=fun D σ H=>wi σ H fun J H1=>∃ W:Nat->Nat->St->Hp->Prop,(∃ m,W 0 m σ H1)/\∀ i m σ H,W i m σ H->
 (J.stop i H/\D.nx σ H)\/(J.go i H/\∃ N:St->Hp->Prop,(∀ σ' H',N σ' H'->∃ m',m'<m/\W (i+1) m' σ' H')/\∀ x H',J.yld i H x H'->g x σ H' fun σ2 H2=>tb { D with nx:=N,ct:=N,bk:=D.nx } σ2 H2)
def Zj (fp:List Ke)(h:Kx):List (Ke×Obj):=fp.filterMap fun b=>(h.get? b).map fun o=>(b,o)
theorem Q8 {fp:List Ke}{h:Kx}{b:Ke}{o:Obj}(hb:b∈fp)(e:h.get? b=some o):(b,o)∈Zj fp h:=NW.mpr ⟨b,hb,by rw [e];rfl⟩
theorem yV {fp:List Ke}{h:Kx}{p:Ke×Obj}(hp:p∈Zj fp h):p.1∈fp/\h.get? p.1=some p.2:=by
 obtain ⟨b,hb,e⟩:=NW.mp hp
 cases q:h.get? b with
 | none=>rw [q] at e;cases e
 | some o =>
  rw [q] at e
  have e':(b,o)=p:=V0 e
  subst e'
  exact ⟨hb,q⟩
theorem Inv.pinned {pins:List (Ke×Obj)}{σ:St}{H:Hp}{s:Kf}{fp:List Ke}(I:Inv X pins σ H s)(hf:∀ b∈fp,FpOk X pins H b)(ho:∀ b∈fp,∃ o,s.heap.get? b=some o/\∀ v,o.data≠.cell v):Inv X (pins++Zj fp s.heap) σ H s :=
 I.pins_of fun p hp=>(Vv.mp hp).elim (fun z=>I.pin p (K4 _ z)) fun z=>by
  obtain ⟨hb,e⟩:=yV z
  obtain ⟨f0,f1,f2,_⟩:=hf p.1 hb
  obtain ⟨o,e',d⟩:=ho p.1 hb
  rw [e] at e';cases e'
  exact ⟨e,f0,f1,f2,d⟩
theorem Inv.unpinned {pins pl:List (Ke×Obj)}{σ:St}{H:Hp}{s:Kf}(I:Inv X (pins++pl) σ H s):Inv X pins σ H s:=I.pins_of fun p hp=>I.pin p (K4 _ (Ui _ hp))
theorem qgV {iter:Kw}{body:List KY}{wi:TI}{g:TG}{tb:TS}{pos:Pos}(hp:PassesOwn (model X.prog X.w) X.A X.env X.xe)(hc:X.calm=true)(hi:PI X tg iter wi)(hg:PG X tg g)(hb:PSs X body tb)
  (hs:∀ x,foldedSetIterable iter X.env x=pure x:=by intro _;rfl):PS X (.For tg iter body [] pos) (tFor wi g tb):=by
 intro pins s σ H D I h
 refine wpAny_For (thn (hi pins s σ H _ I h) fun v s1 h1=>thn h1 fun itv s2 h2=>?_) hs
 obtain ⟨it,fp,tn,J,H2,e,I2,T,st2,f2,W,⟨m0,w0⟩,turn⟩:=h2
 subst e
 have stat:∀ {H':Hp},(∀ b∈fp,H' b=none)->∀ b∈fp,FpOk X pins H' b:=fun hn b hb=>⟨hn b hb,(f2 b hb).2⟩
 refine codeAny_forLoop_any (fun n s'=>∃ i σ' H',Inv X pins σ' H' s'/\tn i s'.heap/\(∀ b∈fp,H' b=none)/\W i n σ' H') ?_ m0 ⟨0,σ,H2,I2,st2,fun b hb=>(f2 b hb).1,w0⟩
 rintro n s3 ⟨i,σ3,H3,I3,st3,fr3,w3⟩
 rcases turn i n σ3 H3 w3 with ⟨stop,qn⟩|⟨go,N,hN,step⟩
 ·refine XQ hp (thn (T.done X rfl rfl rfl hc i pins s3 σ3 H3 X.xe I3 (stat fr3) st3 stop) fun r s4 ⟨hr,I4⟩=>?_)
  subst hr
  exact XO ⟨σ3,H3,I4,qn⟩
 ·refine XQ hp (thn (T.item X rfl rfl rfl hc i pins s3 σ3 H3 X.xe I3 (stat fr3) st3 go) fun r s4 ⟨u,hr,h4⟩=>?_)
  subst hr
  refine XQ hp (thn h4 fun _ s5 ⟨x,H5,I5,r5,y5,st5,fr5⟩=>?_)
  have I5':=I5.pinned (stat fr5) (T.obj _ _ st5)
  refine XQ hp (thn (hg _ s5 σ3 H5 x u _ I5' r5 (step x H5 y5)) fun _ s6 ⟨σ6,H6,I6,q6⟩=>?_)
  refine XQ hp (thn (hb _ s6 σ6 H6 _ I6 q6) fun f s7 q7=>?_)
  have again:∀ {σ7:St} {H7:Hp},Inv X (pins++Zj fp s5.heap) σ7 H7 s7->N σ7 H7->∃ m,m<n/\∃ i σ' H',Inv X pins σ' H' s7/\tn i s7.heap/\(∀ b∈fp,H' b=none)/\W i m σ' H':=fun {σ7 H7} I7 n7=>by
   obtain ⟨m',hm,w7⟩:=hN σ7 H7 n7
   refine ⟨m',hm,i+1,σ7,H7,I7.unpinned,T.keep _ _ _ st5 fun b hb o e=>(I7.pin (b,o) (K4 _ (K4 _ (Q8 hb e)))).1,fun b hb=>?_,w7⟩
   obtain ⟨o,e,d⟩:=T.obj _ _ st5 b hb
   exact (I7.pin (b,o) (K4 _ (K4 _ (Q8 hb e)))).2.1
  cases f with
  | next=>obtain ⟨σ7,H7,I7,n7⟩:=q7;exact again I7 n7
  | cont=>obtain ⟨σ7,H7,I7,n7⟩:=q7;exact again I7 n7
  | brk=>obtain ⟨σ7,H7,I7,q7⟩:=q7;exact ⟨σ7,H7,I7.unpinned,q7⟩
  | ret v=>obtain ⟨x7,σ7,H7,I7,r7,q7⟩:=q7;exact ⟨x7,σ7,H7,I7.unpinned,r7,q7⟩
end
abbrev R2:=V->V->Hp->VK->Prop
def OpR (X:Cx)(f:Kb->Kb->Sem Kb)(r:R2):Prop :=
 ∀ (pins:List (Ke×Obj)) (s:Kf) (σ:St) (H:Hp) (x y:V) (v u:Kb) (Q:VK),Inv X pins σ H s->RelV x v->RelV y u->r x y H Q->
  wpAny (model X.prog X.w) X.A (f v u) (EP X pins σ Q) X.xe s
def UnR (X:Cx)(f:Kb->Sem Kb)(r:V->Hp->VK->Prop):Prop :=
 ∀ (pins:List (Ke×Obj)) (s:Kf) (σ:St) (H:Hp) (x:V) (v:Kb) (Q:VK),Inv X pins σ H s->RelV x v->r x H Q->
  wpAny (model X.prog X.w) X.A (f v) (EP X pins σ Q) X.xe s
def Zz (X:Cx)(f:Kb)(r:List V->Hp->VK->Prop):Prop :=
 ∀ (pins:List (Ke×Obj)) (s:Kf) (σ:St) (H:Hp) (xs:List V) (us:List Kb) (Q:VK),Inv X pins σ H s->Vals xs us->r xs H Q->
  wpAny (model X.prog X.w) X.A (call f us) (EP X pins σ Q) X.xe s
def tOp (r:R2)(ta tb:TE):TE:=fun σ H Q=>ta σ H fun x H1=>tb σ H1 fun y H2=>r x y H2 Q
def tUn (r:V->Hp->VK->Prop)(ta:TE):TE:=fun σ H Q=>ta σ H fun x H1=>r x H1 Q
def rI (C:Int->Int->Prop)(g:Int->Int->V):R2:=fun x y H Q=>∃ i j,x=.int i/\y=.int j/\C i j/\Q (g i j) H
def rI0 (g:Int->Int->V):R2:=fun x y H Q=>∃ i j,x=.int i/\y=.int j/\Q (g i j) H
def rU (g:Int->V):V->Hp->VK->Prop:=fun x H Q=>∃ i,x=.int i/\Q (g i) H
section
variable {X:Cx}{a b c:Kw}{ta tb tc:TE}{pos:Pos}
theorem binT (ha:PE X a ta)(hb:PE X b tb){pins:List (Ke×Obj)}{s:Kf}{σ:St}{H:Hp}{R:V->V->Hp->Prop}(I:Inv X pins σ H s)
  (h:ta σ H fun x H1=>tb σ H1 fun y H2=>R x y H2) {Q:Kb->Kf->Prop} {f:Kb->Kb->Sem Kb}
  (hf:∀ v u s2 x y H2,Inv X pins σ H2 s2->RelV x v->RelV y u->R x y H2->wpAny (model X.prog X.w) X.A (f v u) Q X.xe s2) :
  wpAny (model X.prog X.w) X.A (eval a X.env) (fun v s₁=>wpAny (model X.prog X.w) X.A (eval b X.env) (fun u s₂=>wpAny (model X.prog X.w) X.A (f v u) Q X.xe s₂) X.xe s₁) X.xe s:=by
 refine thn (ha pins s σ H _ I h) fun v s1 ⟨x,H1,I1,r1,q1⟩=>?_
 refine thn (hb pins s1 σ H1 _ I1 q1) fun u s2 ⟨y,H2,I2,r2,q2⟩=>?_
 exact hf v u s2 x y H2 I2 r1 r2 q2
theorem pe_op {op:Operator}{r:R2}(ho:OpR X (binaryOp op) r)(ha:PE X a ta)(hb:PE X b tb):PE X (.BinOp a op b pos) (tOp r ta tb):=by
 intro pins s σ H Q I h
 exact wpAny_BinOp (binT ha hb I h fun v u s2 x y H2 I2 rx ry q=>ho pins s2 σ H2 x y v u Q I2 rx ry q)
theorem pe_un {op:UnaryOp}{r:V->Hp->VK->Prop}(ho:UnR X (unaryOp op) r)(ha:PE X a ta):PE X (.UnaryOp op a pos) (tUn r ta):=by
 intro pins s σ H Q I h
 exact UnaryOp_ (thn (ha pins s σ H _ I h) fun v s1 ⟨x,H1,I1,r1,q1⟩=>ho pins s1 σ H1 x v Q I1 r1 q1)
theorem opI {f:Kb->Kb->Sem Kb}{C:Int->Int->Prop}{g:Int->Int->Int}
  (rule:∀ (i j:Int) (t u:Tok) (s:Kf) (Q:Kb->Kf->Prop) (E:Kb->Kf->Prop),C i j->Q (.int (g i j) s.toks) { s with toks:=s.toks+1 }->wpAny (model X.prog X.w) X.A (f (.int i t) (.int j u)) Q E s) :
  OpR X f (rI C fun i j=>.int (g i j)):=by
 intro pins s σ H x y v u Q I rx ry h
 obtain ⟨i,j,rfl,rfl,hc,q⟩:=h
 obtain ⟨t,rfl⟩:=rx
 obtain ⟨t',rfl⟩:=ry
 exact rule i j t t' s _ _ hc ⟨.int (g i j),H,I.tok _,⟨_,rfl⟩,q⟩
theorem opI0 {f:Kb->Kb->Sem Kb}{g:Int->Int->Int}
  (rule:∀ (i j:Int) (t u:Tok) (s:Kf) (Q:Kb->Kf->Prop) (E:Kb->Kf->Prop),Q (.int (g i j) s.toks) { s with toks:=s.toks+1 }->wpAny (model X.prog X.w) X.A (f (.int i t) (.int j u)) Q E s) :
  OpR X f (rI0 fun i j=>.int (g i j)):=by
 intro pins s σ H x y v u Q I rx ry h
 obtain ⟨i,j,rfl,rfl,q⟩:=h
 obtain ⟨t,rfl⟩:=rx
 obtain ⟨t',rfl⟩:=ry
 exact rule i j t t' s _ _ ⟨.int (g i j),H,I.tok _,⟨_,rfl⟩,q⟩
theorem opB0 {f:Kb->Kb->Sem Kb}{g:Int->Int->Bool}
  (rule:∀ (i j:Int) (t u:Tok) (s:Kf) (Q:Kb->Kf->Prop) (E:Kb->Kf->Prop),Q (.bool (g i j)) s->wpAny (model X.prog X.w) X.A (f (.int i t) (.int j u)) Q E s) :
  OpR X f (rI0 fun i j=>.bl (g i j)):=by
 intro pins s σ H x y v u Q I rx ry h
 obtain ⟨i,j,rfl,rfl,q⟩:=h
 obtain ⟨t,rfl⟩:=rx
 obtain ⟨t',rfl⟩:=ry
 exact rule i j t t' s _ _ ⟨.bl (g i j),H,I,rfl,q⟩
def CDiv (i j:Int):Prop:=0<j/\j<1073741824
def CPow (i j:Int):Prop:=0<=j/\j<=1000000/\i.natAbs<2 ^ 64
theorem qkh:OpR X (binaryOp .Add) (rI0 fun i j=>.int (i+j)):=opI0 fun _ _ _ _ _ _ _ q=>add_int q
theorem qkn:OpR X (binaryOp .Sub) (rI0 fun i j=>.int (i-j)):=opI0 fun _ _ _ _ _ _ _ q=>sub_int q
theorem qiw:OpR X (binaryOp .FloorDiv) (rI CDiv fun i j=>.int (i / j)):=opI fun i j _ _ _ _ _ hc q=>by
 have h1:(0:Int)<j:=hc.1
 have h2:j<1073741824:=hc.2
 exact floordiv_int (by omega) (by rw [Int.fdiv_eq_ediv_of_nonneg i (by omega)];exact q) (.inl (PyProof.noPylong_small (by omega)))
theorem qkk:OpR X (binaryOp .Mod) (rI (fun _ j=>0<j) fun i j=>.int (i % j)):=opI fun i j _ _ _ _ _ hc q=>by
 have h1:(0:Int)<j:=hc
 exact mod_int' (by omega) (by rw [Int.fmod_eq_emod_of_nonneg i (by omega)];exact q)
theorem qkm:OpR X (binaryOp .Pow) (rI CPow fun i j=>.int (i ^ j.toNat)):=opI fun _ _ _ _ _ _ _ hc q=>pow_int_small hc.1 hc.2.1 hc.2.2 q
theorem unI {f:Kb->Sem Kb}{g:Int->Int}
  (rule:∀ (i:Int) (t:Tok) (s:Kf) (Q:Kb->Kf->Prop) (E:Kb->Kf->Prop),Q (.int (g i) s.toks) { s with toks:=s.toks+1 }->wpAny (model X.prog X.w) X.A (f (.int i t)) Q E s) :
  UnR X f (rU fun i=>.int (g i)):=by
 intro pins s σ H x v Q I rx h
 obtain ⟨i,rfl,q⟩:=h
 obtain ⟨t,rfl⟩:=rx
 exact rule i t s _ _ ⟨.int (g i),H,I.tok _,⟨_,rfl⟩,q⟩
theorem qk7:UnR X (unaryOp .USub) (rU fun i=>.int (-i)):=unI fun _ _ _ _ _ q=>neg_int q
end
section
variable {X:Cx}{a b c:Kw}{ta tb tc:TE}{pos:Pos}
theorem Zh {pins:List (Ke×Obj)}{σ:St}{H:Hp}{s:Kf}{Q:VK}{k k':Bool}(I:Inv X pins σ H s)(q:Q (.bl k) H)(e:k=k'):EP X pins σ Q (.bool k') s:=by
 subst e
 exact ⟨.bl k,H,I,rfl,q⟩
theorem op_gt:OpR X (compareOp .Gt) (rI0 fun i j=>.bl (decide (j<i))):=opB0 fun _ _ _ _ _ _ _ q=>gt_int q
theorem qkj:OpR X (compareOp .Is) (fun x y H Q=>y=.non/\Q (.bl (decide (x=.non))) H):=by
 intro pins s σ H x y v u Q I rx ry h
 obtain ⟨rfl,q⟩:=h
 cases ry
 refine is_none_gen (Zh I q ?_)
 cases x<;>first
  | (cases rx;rfl)
  | (obtain ⟨t,rfl⟩:=rx;rfl)
theorem qiy:OpR X (compareOp .IsNot) (fun x y H Q=>y=.non/\Q (.bl (!decide (x=.non))) H):=by
 intro pins s σ H x y v u Q I rx ry h
 obtain ⟨rfl,q⟩:=h
 cases ry
 refine isnot_none_gen (Zh I q ?_)
 cases x<;>first
  | (cases rx;rfl)
  | (obtain ⟨t,rfl⟩:=rx;rfl)
theorem OpR.or {f:Kb->Kb->Sem Kb}{r r':R2}(h:OpR X f r)(h':OpR X f r'):OpR X f (fun x y H Q=>r x y H Q\/r' x y H Q):=by
 intro pins s σ H x y v u Q I rx ry q
 rcases q with q|q
 ·exact h pins s σ H x y v u Q I rx ry q
 ·exact h' pins s σ H x y v u Q I rx ry q
theorem zj (b:Kw){op:CmpOp}(h:op≠.In:=by decide)(h2:op≠.NotIn:=by decide):behindInMarks op b=false:=by
 have e1:(op==CmpOp.In)=false:=by cases op<;>first|rfl|exact absurd rfl h
 have e2:(op==CmpOp.NotIn)=false:=by cases op<;>first|rfl|exact absurd rfl h2
 cases b<;>simp [behindInMarks,e1,e2]
theorem qiI {op:CmpOp}{r:R2}(ho:OpR X (compareOp op) r)(ha:PE X a ta)(hb:PE X b tb)(hm:behindInMarks op b=false):PE X (.Compare a [op] [b] pos) (tOp r ta tb):=by
 intro pins s σ H Q I h
 exact wpAny_Compare1 (binT ha hb I h fun v u s2 x y H2 I2 rx ry q=>ho pins s2 σ H2 x y v u Q I2 rx ry q) hm
def tTest (t:TE):TT:=fun σ H Q=>t σ H fun x H'=>∃ k,x=.bl k/\Q k H'
theorem qiS {op:CmpOp}{r:R2}(ho:OpR X (compareOp op) r)(ha:PE X a ta)(hb:PE X b tb)(hm:behindInMarks op b=false):PT X (.Compare a [op] [b] pos) (tTest (tOp r ta tb)):=by
 intro pins s σ H Q I h
 refine wpAny_isTrue_Compare1 (thn (ha pins s σ H _ I h) fun v s1 ⟨x,H1,I1,r1,q1⟩=>thn (hb pins s1 σ H1 _ I1 q1) fun u s2 ⟨y,H2,I2,r2,q2⟩ =>
  thn (ho pins s2 σ H2 x y v u _ I2 r1 r2 q2) fun c s3 ⟨z,H3,I3,r3,k,e,q3⟩=>?_) hm
 subst e
 cases r3
 exact UZ ⟨H3,I3,q3⟩
theorem qaY:(sizeLine:Nat)<2 ^ 63:=by rw [UP];decide
theorem vals1 {x:V}{us:List Kb}(r:Vals [x] us):∃ u,us=[u]/\RelV x u:=by
 cases r with
 | cons r1 r2=>cases r2;exact ⟨_,rfl,r1⟩
end
structure ObjM (h:Kx)(x dx C:Ke)(mA:Str->Option Kb):Prop where
 obj:h.get? x=some (EI C dx)
 ns:h.Ns1 dx mA
 ne:dx≠x
theorem qeW {h:Kx}{dx:Ke}{mA:Str->Option Kb}(n:h.Ns1 dx mA):∃ od,h.get? dx=some od/\∀ name,E3 name od=some (mA name):=by
 obtain ⟨o,es,ep,ho,hd,hk,_,hm⟩:=n
 refine ⟨o,ho,fun name=>?_⟩
 have e:=hm name
 unfold nsFind findBy at e
 rw [← Array.find?_toList] at e
 unfold E3
 rw [hd]
 dsimp only
 split
 ·rename_i y q
  rw [q] at e
  exact congrArg some e
 ·rename_i q
  rw [q] at e
  have a:es.toList.any (·.refKey)=false:=by
   rw [List.any_eq_false]
   intro y hy
   obtain ⟨z,t,hkey⟩:=hk y (XD.mp hy)
   simp [DictEntry.refKey,hkey]
  have a':¬ es.toList.any (·.refKey)=true:=by rw [a];exact VG
  rw [if_neg a']
  exact congrArg some e
theorem ObjM.look {h:Kx}{x dx C:Ke}{mA:Str->Option Kb}(I:ObjM h x dx C mA):∃ od,PySem.W.InstAt h x (EI C dx) C (some od)/\∀ name,E3 name od=some (mA name) :=
 let ⟨od,ho,hl⟩:=qeW I.ns
 ⟨od,⟨I.obj,rfl,rfl,ho⟩,hl⟩
theorem RelO.some_of {v:V}{o:Option Kb}(r:RelO (some v) o):∃ u,o=some u/\RelV v u:=by
 cases o with
 | none=>exact (show False from r).elim
 | some u=>exact ⟨u,rfl,r⟩
theorem qeH {v:V}{u:Kb}(r:RelV v u):PySem.W.handedIn u=true:=by
 cases v with
 | non=>cases (show u=K5 from r);rfl
 | bl b=>cases (show u=K1 b from r);rfl
 | int i=>obtain ⟨t,e⟩:=(show ∃ t,u=XX i t from r);cases e;rfl
 | str x=>obtain ⟨t,e⟩:=(show ∃ t,u=XW x t from r);cases e;rfl
 | byt b=>obtain ⟨t,e⟩:=(show ∃ t,u=Value.bytes b t from r);cases e;rfl
 | flt b=>obtain ⟨t,e⟩:=(show ∃ t,u=Fq b t from r);cases e;rfl
 | ref a=>cases (show u=KD a from r);rfl
 | ty n=>cases (show u=Vp n from r);rfl
section
variable {P:Kt}{w:KF}{H H':Hp}{h h':Kx}{a C dx:Ke}{fs fs':List (Str×V)}
theorem qh3 (hok:HOk P w H h)(e:H a=some (.ins C dx fs)):∃ mA,ObjM h a dx C mA/\(∀ f,RelO (fs.lookup f) (mA f))/\PySem.Within mA (fs.map (·.1))/\fs.length<=1000/\H dx=some (.own a):=by
 obtain ⟨d,z,ne,ob,mA,n,r,q⟩:=(show zM P w H h a (.ins C dx fs) from hok a _ e)
 exact ⟨mA,⟨ob,n,ne⟩,r,q,z,d⟩
end
structure Cls (K:Kd)(C:Ke):Prop where
 pg:En K C Ff=true
 hd:Fm K C=true
 po:Fn K C=true
 sa:K6 K (.ref C) "__setattr__" = some (some (.builtin "object.__setattr__"))
theorem Cls.get {K:Kd}{C:Ke}(c:Cls K C)(f:Str):En K C f=true:=c.pg
section
variable {X:Cx}{pins:List (Ke×Obj)}{σ:St}{H:Hp}{s:Kf}{a C dx:Ke}{fs:List (Str×V)}{f:Str}{v:V}{A:KG}{E:Kb->Kf->Prop}
theorem qhm {prog:Kt}{w:KF}{env:Env}{e:Kw}{f:Str}{pos:Pos}{s:Kf}{Q:Kb->Kf->Prop}(hb:attributeBase e f env (eval e env)=eval e env)
  (h:wpAny (model prog w) A (eval e env) (fun o s₁=>wpAny (model prog w) A (getAttr o f true) Q E s₁) E s):wpAny (model prog w) A (eval (.Attribute e f pos) env) Q E s :=
 Attribute_any_ h (by rw [arm_eval_Attribute,hb])
end
section
variable {X:Cx}{pins:List (Ke×Obj)}{σ:St}{H:Hp}{s:Kf}{A:KG}{E:Kb->Kf->Prop}{Q:Kb->Kf->Prop}{c:Kb}{b:Bool}
inductive TyOf (K:Kd)(H:Hp):V->Kb->Prop where
 | non:TyOf K H .non (.type "NoneType")
 | bl (x:Bool):TyOf K H (.bl x) (.type "bool")
 | int (i:Int):TyOf K H (.int i) (.type "int")
 | str (x:Str):TyOf K H (.str x) (.type "str")
 | flt (x:UInt64):TyOf K H (.flt x) (.type "float")
 | lst {a:Ke} {xs:List V} (e:H a=some (.lst xs)):TyOf K H (.ref a) (.type "list")
 | frz {a:Ke} {o:Obj} {xs:List V} (e:H a=some (.frz o (.lst xs))):TyOf K H (.ref a) (.type "list")
 | tup {a:Ke} {xs:List V} (e:H a=some (.tup xs)):TyOf K H (.ref a) (.type "tuple")
 | dK {a:Ke} {kvs:List (Key×V)} (e:H a=some (.dK kvs)):TyOf K H (.ref a) (.type "dict")
 | dT {a:Ke} {kvs:List (List Key×V)} (e:H a=some (.dT kvs)):TyOf K H (.ref a) (.type "dict")
 | ins {a C dx:Ke} {fs:List (Str×V)} (e:H a=some (.ins C dx fs)) (cl:Cls K C) (ha:K6 K (.ref C) "__class__" = some (some (.builtin "object.__class__")))
   (hn:Xw K (.builtin "object.__class__") "__get__" = some (some (.builtin "getset_descriptor.__get__"))) (htk:EJ K (.builtin "object.__class__")=some true)
   (hm:VJ K C (.type "object")=some true):TyOf K H (.ref a) (.ref C)
theorem qeN {x:V}{u t:Kb}(I:Inv X pins σ H s)(rx:RelV x u)(ty:TyOf X.K H x t)(e:Vd X.K t c=some b)(h:∀ tk,Q (.bool b) { s with toks:=tk }) :
  wpAny (model X.prog X.w) A (call (.builtin "isinstance") [u,c]) Q E s:=by
 cases ty with
 | non=>cases (show u=K5 from rx);exact Va Fo I.kIn Uj e (fun z=>nomatch z) h
 | bl y=>cases (show u=K1 y from rx);exact Va Fp I.kIn Uj e (fun z=>nomatch z) h
 | int i=>obtain ⟨t,q⟩:=(show ∃ t,u=XX i t from rx);cases q;exact Va PySem.W.kitx_int I.kIn Uj e (fun z=>nomatch z) h
 | str y=>obtain ⟨t,q⟩:=(show ∃ t,u=XW y t from rx);cases q;exact Va PySem.W.kitx_str I.kIn Uj e (fun z=>nomatch z) h
 | flt y=>obtain ⟨t,q⟩:=(show ∃ t,u=Fq y t from rx);cases q;exact Va PySem.W.kitx_float I.kIn Uj e (fun z=>nomatch z) h
 | @lst a xs ea =>
  cases (show u=KD a from rx)
  obtain ⟨_,_,n,_,h1⟩:=(show zM X.prog X.w H s.heap a (.lst xs) from I.hok a _ ea)
  exact Va Ec I.kIn ⟨_,h1,rfl⟩ e (fun z=>nomatch z) h
 | @frz a ob xs ea =>
  cases (show u=KD a from rx)
  obtain ⟨_,_,_,n,_,h1⟩:=(show zM X.prog X.w H s.heap a (.frz ob (.lst xs)) from I.hok a _ ea)
  exact Va Ec I.kIn ⟨_,h1,rfl⟩ e (fun z=>nomatch z) h
 | @tup a xs ea =>
  cases (show u=KD a from rx)
  obtain ⟨_,_,_,p⟩:=(show zM X.prog X.w H s.heap a (.tup xs) from I.hok a _ ea)
  obtain ⟨o,h1,h2,_⟩:=p
  exact Va Fg I.kIn ⟨o,h1,h2⟩ e (fun z=>nomatch z) h
 | @dK a kvs ea =>
  cases (show u=KD a from rx)
  obtain ⟨_,_,vs,_,p⟩:=(show zM X.prog X.w H s.heap a (.dK kvs) from I.hok a _ ea)
  obtain ⟨o,es,ep,h1,h2,_⟩:=p
  exact Va Ed I.kIn ⟨o,h1,h2.1⟩ e (fun z=>nomatch z) h
 | @dT a kvs ea =>
  cases (show u=KD a from rx)
  obtain ⟨_,_,xs,_,o,es,ep,h1,h2,_⟩:=(show zM X.prog X.w H s.heap a (.dT kvs) from I.hok a _ ea)
  exact Va Ed I.kIn ⟨o,h1,h2.1⟩ e (fun z=>nomatch z) h
 | @ins a C dx fs ea cl ha hn htk hm =>
  cases (show u=KD a from rx)
  obtain ⟨mA,O,_⟩:=qh3 I.hok ea
  obtain ⟨od,J,_⟩:=O.look
  exact Va (PySem.W.kitx_own (cl.get _) cl.hd ha hn htk hm) I.kIn J e (fun z=>nomatch z) h
end
structure Room (k:Nat)(A:KG):Prop where
 hd:A.handled=none
 dp:A.depth+3*k+5<recursionLimit
 un:A.units+16*k+200<cLine
 gd:A.guards=some []
theorem Room.mono {j k:Nat}{A:KG}(r:Room k A)(h:j<=k):Room j A:=⟨r.hd,by have:=r.dp;omega,by have:=r.un;omega,r.gd⟩
theorem Room.deeper {k:Nat}{A:KG}(r:Room (k+1) A)(env:Env):Room k (A.deeper env) :=
 ⟨r.hd,by have:=r.dp;show A.depth+1+3*k+5<_;omega,by have:=r.un;show A.units+3+16*k+200<_;omega,r.gd⟩
theorem qcM {A:KG}{C:Ke}{us:List Kb}{kw:List (Str×Value)}:(A.under (.builtin "type.__call__" ⟨.ref C::us,kw⟩)).depth=A.depth+1:=by
 first|rfl|simp [Eo,Code.weight,Code.isCreation,Code.isGuard,Code.isCaller,Code.frames,Code.isFrame,guardIds]
theorem qcO {A:KG}{C:Ke}{us:List Kb}{kw:List (Str×Value)}:(A.under (.builtin "type.__call__" ⟨.ref C::us,kw⟩)).units=A.units+1:=by
 first|rfl|simp [Eo,Code.cUnits,Code.frames,Code.isFrame]
theorem Room.make {k:Nat}{A:KG}(r:Room (k+1) A)(C:Ke)(us:List Kb)(kw:List (Str×Value)):Room k (A.under (.builtin "type.__call__" ⟨.ref C::us,kw⟩)) :=
 ⟨r.hd,by have:=r.dp;rw [qcM];omega,by have:=r.un;rw [qcO];omega,by first|exact r.gd|simpa [Eo,Code.isGuard,guardIds] using r.gd⟩
theorem Room.depth {k:Nat}{A:KG}(r:Room k A):A.depth<recursionLimit:=by have:=r.dp;omega
theorem Room.units {k:Nat}{A:KG}(r:Room k A):A.units+64<cLine:=by have:=r.un;omega
def tNil:TA:=fun _ H Q=>Q [] H
def qjv (ta:TE)(tr:TA):TA:=fun σ H Q=>ta σ H fun x H1=>tr σ H1 fun xs H2=>Q (x::xs) H2
section
variable {X:Cx}{e:Kw}{es:List Kw}{te:TE}{t:TA}{pos:Pos}
theorem yW:PA X [] tNil:=fun _ _ _ _ H Q I h=>Calls.spliced_nil ⟨[],H,I,.nil,h⟩
theorem Zt (ha:PE X e te)(hr:PA X es t)(hs:starEach (e::es) X.env=(false,eval e X.env)::starEach es X.env:=by rfl):PA X (e::es) (qjv te t):=by
 intro pos pins s σ H Q I h
 rw [hs]
 show wpAny _ _ (spliced ((false,eval e X.env)::backTo pos (starEach es X.env))) _ _ s
 refine Calls.spliced_cons (thn (ha pins s σ H _ I h) fun u s1 ⟨x,H1,I1,r1,q1⟩=>?_)
 exact thn (hr pos pins s1 σ H1 _ I1 q1) fun us s2 ⟨xs,H2,I2,r2,q2⟩=>⟨x::xs,H2,I2,.cons r1 r2,q2⟩
def tTup (t:TA):TE:=fun σ H Q=>t σ H fun xs H1=>xs.length<=sizeLine/\∀ p,H1 p=none->Q (.ref p) (upd H1 p (.tup xs))
def tLst (t:TA):TE:=fun σ H Q=>t σ H fun xs H1=>xs.length<=sizeLine/\∀ p,H1 p=none->Q (.ref p) (upd H1 p (.lst xs))
theorem qgQ {x1}(h:PA X es t):PE X (.Tuple es x1 pos) (tTup t):=by
 intro pins s σ H Q I hq
 refine wpAny_Tuple_spliced (thn (h pos pins s σ H _ I hq) fun us s1 ⟨xs,H1,I1,r,z,q⟩=>⟨by rw [← r.length];exact z,?_⟩)
 have hf:H1 s1.heap.objs.size=none:=I1.hok.fresh (Ko _)
 refine ⟨.ref s1.heap.objs.size,upd H1 s1.heap.objs.size (.tup xs),I1.laid (t':=s1.toks) (fun b u e=>Ki _ e) (Ko _) ?_,rfl,q _ hf⟩
 exact ⟨z,us,r,⟨_,Kv _ rfl,rfl,_,rfl⟩⟩
theorem qgO (h:PA X es t):PE X (.List es pos) (tLst t):=by
 intro pins s σ H Q I hq
 refine wpAny_List_spliced (thn (h pos pins s σ H _ I hq) fun us s1 ⟨xs,H1,I1,r,z,q⟩=>⟨by rw [← r.length];exact z,?_⟩)
 have hf:H1 s1.heap.objs.size=none:=I1.hok.fresh (Ko _)
 refine ⟨.ref s1.heap.objs.size,upd H1 s1.heap.objs.size (.lst xs),I1.laid (t':=s1.toks) (fun b u e=>Ki _ e) (Ko _) ?_,rfl,q _ hf⟩
 exact ⟨z,us,0,r,Kv _ rfl⟩
end
abbrev Sp:=List V->Hp->VK->XK->Prop
abbrev CXT:=List Env->Hp->Kf->XK->Kb->Kf->Prop
structure Env0 (P:Kt)(w:KF)(K:Kd)(mg:Str->Option Kb)(base:Kx)(A:KG)(outer:List Env)(s:Kf)(H:Hp):Prop where
 frames:A.frames=some outer
 mod:Mod K mg base
 bs:∀ b o,base.get? b=some o->s.heap.get? b=some o/\H b=none
 bsz:base.objs.size<=s.heap.objs.size
 funs:s.heap.FunFrames base outer
 frf:∀ b∈frs outer,H b=none
 hok:HOk P w H s.heap
 bare:XJ s.gens
def CE (outer:List Env)(P:Kt)(w:KF)(H:Hp)(s:Kf)(Q:VK)(u:Kb)(s':Kf):Prop :=
 ∃ v H',s'.os=s.os/\XJ s'.gens/\Un (frs outer) [] H H' s.heap s'.heap/\HOk P w H' s'.heap/\RelV v u/\Q v H'
def CR (CX:CXT)(outer:List Env)(P:Kt)(w:KF)(H:Hp)(s:Kf)(Q:VK)(E:XK)(r:Result)(s':Kf):Prop :=
 match r with
 | .ok (.ret u)=>CE outer P w H s Q u s'
 | .ok _=>False
 | .error e=>CX outer H s E e s'
structure FnOk (P:Kt)(w:KF)(K:Kd)(mg:Str->Option Kb)(base:Kx)(CX:CXT)(k:Nat)(f:Ke)(fd:Vo)(ps:List Str)(sp:Sp):Prop where
 len:∀ vs H Q E,sp vs H Q E->vs.length=ps.length
 run:∀ (A:KG) (outer:List Env) (s:Kf) (H:Hp) (args:Args) (us:List Kb) (vs:List V) (Q:VK) (E:XK),Room k A->Env0 P w K mg base A outer s H->BindsTo s fd args (ps.zip us)->Vals vs us->sp vs H Q E->
  codeAny (model P w) A (.call (.ref f) args) (CR CX outer P w H s Q E) s
theorem FnOk.imp {P:Kt}{w:KF}{K:Kd}{mg:Str->Option Kb}{base:Kx}{CX:CXT}{k:Nat}{f:Ke}{fd:Vo}{ps:List Str}{sp sp':Sp}(F:FnOk P w K mg base CX k f fd ps sp)
  (h:∀ vs H Q E,sp' vs H Q E->sp vs H Q E):FnOk P w K mg base CX k f fd ps sp' :=
 ⟨fun vs H Q E q=>F.len vs H Q E (h _ _ _ _ q),fun A outer s H args us vs Q E hr he hb hv hs=>F.run A outer s H args us vs Q E hr he hb hv (h _ _ _ _ hs)⟩
theorem Env0.make {P:Kt}{w:KF}{K:Kd}{mg:Str->Option Kb}{base:Kx}{A:KG}{outer:List Env}{s:Kf}{H:Hp}(e:Env0 P w K mg base A outer s H)(C:Ke)(us:List Kb)(kw:List (Str×Value)) :
  Env0 P w K mg base (A.under (.builtin "type.__call__" ⟨.ref C::us,kw⟩)) outer s H:=⟨by first|exact e.frames|(simpa [Eo,Code.envs,Code.isFrame,pushEnvs] using e.frames),e.mod,e.bs,e.bsz,e.funs,e.frf,e.hok,e.bare⟩
section
variable {X:Cx}{pins:List (Ke×Obj)}{σ:St}{H:Hp}{s s':Kf}
theorem Inv.env0 (I:Inv X pins σ H s):Env0 X.prog X.w X.K X.mg X.base X.A X.stack s H :=
 ⟨I.ok.frames,I.ok.mod,I.bs,Vs I.ok.bsz I.sz,I.stack,I.stkFree,I.hok,I.bare⟩
theorem Inv.after {Q:VK}{u:Kb}(I:Inv X pins σ H s)(h:CE X.stack X.prog X.w H s Q u s'):EP X pins σ Q u s':=by
 obtain ⟨v,H',os,bare,un,hok,r,q⟩:=h
 obtain ⟨hh,g,d,t,os'⟩:=s'
 obtain rfl:os'=s.os:=os
 exact ⟨v,H',I.call (h':=hh) (g':=g) (d':=d) (t':=t) (ch:=[]) un hok bare (fun b z=>absurd z (by simp)),r,q⟩
end
def tCall (sp:Sp)(dvs:List V)(E:XK)(t:TA):TE:=fun σ H Q=>t σ H fun vs H1=>sp (vs++dvs) H1 Q E
def Binds (K:Kd)(fd:Vo)(ps:List Str)(ds:List Kb):Prop :=
 ∀ (s:Kf) (us:List Kb),K.In s.heap->(us++ds).length=ps.length->BindsTo s fd ⟨us,[]⟩ (ps.zip (us++ds))
theorem Binds.all {K:Kd}{fd:Vo}{ps:List Str}(h:∀ us:List Kb,us.length=ps.length->bindArgs fd ⟨us,[]⟩=pure (ps.zip us)):Binds K fd ps []:=fun s us _ hl=>by
 rw [Vl] at hl ⊢
 exact .of_eq (h us hl)
def qaC (CX:CXT)(X:Cx)(E:XK):Prop:=∀ (pins:List (Ke×Obj)) (σ:St) (H:Hp) (s:Kf) (e:Kb) (s':Kf),Inv X pins σ H s->CX X.stack H s E e s'->X.xe e s'
section
variable {X:Cx}{CX:CXT}{k:Nat}{f C:Ke}{fd:Vo}{ps:List Str}{sp:Sp}{dvs:List V}{ds:List Kb}{E:XK}{x m:Str}{p pos apos:Pos}{e o:Kw}{es:List Kw}{ta:TE}{t:TA}
theorem qkK {pins:List (Ke×Obj)}{σ:St}{H:Hp}{s:Kf}{Q:VK}{us:List Kb}{vs:List V}(F:FnOk X.prog X.w X.K X.mg X.base CX k f fd ps sp)(hr:Room k X.A)(hb:Binds X.K fd ps ds)(hd:Vals dvs ds)(hx:qaC CX X E)
  (I:Inv X pins σ H s) (r:Vals vs us) (h:sp (vs++dvs) H Q E):wpAny (model X.prog X.w) X.A (call (.ref f) us) (EP X pins σ Q) X.xe s:=by
 have r2:Vals (vs++dvs) (us++ds):=r.append hd
 have hl:(us++ds).length=ps.length:=by rw [← r2.length];exact F.len _ _ _ _ h
 refine XE (XY (F.run X.A X.stack s H ⟨us,[]⟩ (us++ds) (vs++dvs) Q E hr I.env0 (hb s us I.kIn hl) r2 h) fun r s' hq=>?_)
 cases r with
 | error e=>exact hx pins σ H s e s' I hq
 | ok fl =>
  cases fl with
  | ret u=>exact I.after hq
  | next=>exact Vz hq
  | brk=>exact Vz hq
  | cont=>exact Vz hq
theorem qiH (F:FnOk X.prog X.w X.K X.mg X.base CX k f fd ps sp)(hr:Room k X.A)(hg:Gl X x)(hm:X.mg x=some (.ref f))(hk:VQ X.K (.ref f)=true)(hb:Binds X.K fd ps ds)(hd:Vals dvs ds)(hx:qaC CX X E)
  (ha:PA X (e::es) t) (hdb:(x==("__debug__" : Str))=false:=by decide) (he:starEach (e::es) X.env=(false,eval e X.env)::starEach es X.env:=by rfl) (hpl:(backTo pos (starEach es X.env)).any (·.1)=false:=by rfl) :
  PE X (.Call (.Name x p) (e::es) [] pos) (tCall sp dvs E t):=by
 intro pins s σ H Q I h
 refine Uc (ZW I hg hm ?_ hdb)
 refine Xo (h₀:=X.base) I.ok.mod.kin hk (thn (ha pos pins s σ H _ I h) fun us s1 ⟨vs,H1,I1,r,q⟩=>⟨I1.kIn,?_⟩) he hpl
 exact qkK F hr hb hd hx I1 r q
end
def PK (X:Cx)(kws:List U6)(t:TA):Prop :=
 ∀ (pos:Pos) (pins:List (Ke×Obj)) (s:Kf) (σ:St) (H:Hp) (Q:List V->Hp->Prop),Inv X pins σ H s->t σ H Q->wpAny (model X.prog X.w) X.A (evalAll ((backToKw pos (keywordEach kws X.env)).map (·.2))) (AP X pins σ Q) X.xe s
section
variable {X:Cx}{CX:CXT}{k:Nat}{f C:Ke}{fd:Vo}{ps ks:List Str}{sp:Sp}{E:XK}{x m:Str}{p pos apos kpos:Pos}{e o:Kw}{es:List Kw}{kws:List U6}{te ta:TE}{t tk:TA}{nm:Option Str}
theorem qkA:PK X [] tNil:=fun _ _ _ _ H Q I h=>wpAny_evalAll_nil ⟨[],H,I,.nil,h⟩
theorem qiN (ha:PE X e te)(hr:PK X kws t):PK X (⟨nm,e,kpos⟩::kws) (qjv te t):=by
 intro pos pins s σ H Q I h
 show wpAny _ _ (evalAll ((do let v ← eval e X.env;standAt pos;pure v)::(backToKw pos (keywordEach kws X.env)).map (·.2))) _ _ s
 refine wpAny_evalAll_cons (Kc (thn (ha pins s σ H _ I h) fun u s1 ⟨x,H1,I1,r1,q1⟩=>Kc (Xm (Kl ?_))))
 exact thn (hr pos pins s1 σ H1 _ I1 q1) fun us s2 ⟨xs,H2,I2,r2,q2⟩=>⟨x::xs,H2,I2,.cons r1 r2,q2⟩
variable {g:List Kb->List Kb->List Kb}{gV:List V->List V->List V}
end
structure FnScope (N P:List Str)(sc:VE):Prop where
 kind:sc.kind=.function
 co:sc.isCoroutine=false
 gen:sc.isGenerator=false
 nd:N.Nodup
 pre:N.take P.length=P
 par:∀ x∈P,sc.names.lookup x=some .local\/sc.names.lookup x=some .cell
 nofree:∀ y∈sc.names,y.2≠.free
theorem WQ {kindOf:Str->Option Ep}{x:Str}:∀ {binds:List (Str×Value)} {m:Str->Option Kb},(∀ v,(x,v)∉binds)->bindL kindOf binds m x=m x
 | [],_,_=>rfl
 | (n,v)::r,m,h=>by
  unfold bindL
  rw [WQ fun w hw=>h w (K9 _ hw)]
  split
  ·have:x≠n:=by rintro rfl;exact h v KZ
   simp [this]
  ·rfl
theorem WN {kindOf:Str->Option Ep}{x:Str}:∀ {binds:List (Str×Value)} {m:Str->Option Kb},(∀ v,(x,v)∉binds)->bindC kindOf binds m x=m x
 | [],_,_=>rfl
 | (n,v)::r,m,h=>by
  unfold bindC
  rw [WN fun w hw=>h w (K9 _ hw)]
  split
  ·rfl
  ·have:x≠n:=by rintro rfl;exact h v KZ
   simp [this]
theorem WP {kindOf:Str->Option Ep}{x:Str}{v:Kb}:∀ {P:List Str} {vs:List Kb} {i:Nat} {m:Str->Option Kb},P.Nodup->P[i]?=some x->vs[i]?=some v->kindOf x=some .local->
  bindL kindOf (P.zip vs) m x=some v
 | [],_,_,_,_,h,_,_=>by simp at h
 | _::_,[],_,_,_,_,h,_=>by simp at h
 | p::P,w::vs,0,m,nd,h1,h2,hk=>by
  simp at h1 h2;subst h1;subst h2
  show bindL kindOf ((p,w)::P.zip vs) m p=_
  unfold bindL
  rw [WQ fun v hv=>(VS.mp nd).1 (ND hv).1,if_pos hk]
  simp
 | p::P,w::vs,i+1,m,nd,h1,h2,hk=>by
  show bindL kindOf ((p,w)::P.zip vs) m x=_
  unfold bindL
  exact WP (i:=i) (VS.mp nd).2 (by simpa using h1) (by simpa using h2) hk
theorem WM {kindOf:Str->Option Ep}{x:Str}{v:Kb}:∀ {P:List Str} {vs:List Kb} {i:Nat} {m:Str->Option Kb},P.Nodup->P[i]?=some x->vs[i]?=some v->kindOf x≠some .local->
  bindC kindOf (P.zip vs) m x=some v
 | [],_,_,_,_,h,_,_=>by simp at h
 | _::_,[],_,_,_,_,h,_=>by simp at h
 | p::P,w::vs,0,m,nd,h1,h2,hk=>by
  simp at h1 h2;subst h1;subst h2
  show bindC kindOf ((p,w)::P.zip vs) m p=_
  unfold bindC
  rw [WN fun v hv=>(VS.mp nd).1 (ND hv).1,if_neg hk]
  simp
 | p::P,w::vs,i+1,m,nd,h1,h2,hk=>by
  show bindC kindOf ((p,w)::P.zip vs) m x=_
  unfold bindC
  exact WM (i:=i) (VS.mp nd).2 (by simpa using h1) (by simpa using h2) hk
def start (N:List Str)(vs:List V):St:=vs.map some++Vn (N.length-vs.length) none
def cxOf (CX:CXT)(P:Kt)(w:KF)(K:Kd)(mg:Str->Option Kb)(base:Kx)(N:List Str)(qual:Str)(scope:VE)(f:Ke)(cd:Kb)(A:KG)(outer:List Env)(s:Kf)(H:Hp)(E:XK):Cx where
 prog:=P
 w:=w
 K:=K
 mg:=mg
 base:=base
 A:=A.deeper (envOfC qual scope s.heap.objs.size f cd)
 N:=N
 s₀:=s
 H₀:=H
 env:=envOfC qual scope s.heap.objs.size f cd
 outer:=outer
 stack:=envOfC qual scope s.heap.objs.size f cd::outer
 ex:=[]
 calm:=true
 fn:=fun _=>true
 pn:=[]
 xe:=fun e s'=>wpAny (model P w) (A.deeper (envOfC qual scope s.heap.objs.size f cd)) (leaving (envOfC qual scope s.heap.objs.size f cd) e) (fun _ s''=>CX outer H s E e s'') (fun e' s''=>CX outer H s E e' s'') s'
theorem qbj {sc:VE}{n:Nat}{x:Str}(h:sc.names.lookup x=some .cell):∃ c,(cellsFrom n sc.names []).lookup x=some c:=by
 have q:=Nc sc.names n [] (.inl h)
 exact Er.mp q
theorem W3 {CX:CXT}{P:Kt}{w:KF}{K:Kd}{mg:Str->Option Kb}{base:Kx}{N ps:List Str}{qual:Str}{scope:VE}{f:Ke}{cd:Kb}{A:KG}{outer:List Env}{s s1:Kf}{H:Hp}{E:XK}{us:List Kb}{vs:List V}
  (S:FnScope N ps scope) (hd:A.handled=none) (e0:Env0 P w K mg base A outer s H) (hl:vs.length=ps.length) (r:Vals vs us)
  (x:InCallC s s.heap.objs.size (bindL (envOfC qual scope s.heap.objs.size f cd).kindOf (ps.zip us) fun _=>none) (cellsFrom (s.heap.objs.size+1) scope.names []) (bindC (envOfC qual scope s.heap.objs.size f cd).kindOf (ps.zip us) fun _=>none) s1) :
  Inv (cxOf CX P w K mg base N qual scope f cd A outer s H E) [] (start N vs) H s1:=by
 have hpl:ps.length<=N.length:=by have:=congrArg Xv S.pre;rw [Nn] at this;omega
 obtain ⟨h1,tk,rfl,hk⟩:=x.done
 have noA:∀ b:Ke,b∉(cxOf CX P w K mg base N qual scope f cd A outer s H E).ex:=fun b z=>absurd (show b∈([]:List Ke) from z) (by simp)
 refine ⟨⟨e0.mod,S.kind,rfl,rfl,Ko _,fun y z c h1 h2=>?_,fun y hy=>?_,fun y c _ h=>?_,fun _=>hd,Around.frames_deeper e0.frames,.inr ⟨rfl,rfl⟩,fun b z=>absurd z (noA b),e0.bs,e0.bsz,fun b _ _=>noA b,fun b z=>absurd z (noA b),e0.funs,e0.frf⟩,
  rfl,e0.bare,Un.kept hk,⟨_,x.toInCall.ns,fun i y v h1 h2 h3=>?_⟩,fun y c h=>⟨_,x.cell y c h⟩,e0.hok.fresh (Ko _),fun y c h=>?_,fun p hp=>absurd (show p∈([]:List (Ke×Obj)) from hp) (by simp),e0.hok.kept hk,?_⟩
 ·exact name_of_addr x.apart (V8 h1) (V8 h2)
 ·have hy:scope.names.lookup y=some .cell\/scope.names.lookup y=some .free:=hy
  rcases hy with hy|hy
  ·exact qbj hy
  ·exact absurd rfl (S.nofree _ (V8 hy))
 ·exact VM (x.above y c (V8 h))
 ·have hi:i<vs.length:=by
   unfold start at h2
   by_cases hi:i<vs.length
   ·exact hi
   ·rw [Ut (by simpa using hi)] at h2
    rw [UG] at h2
    split at h2<;>cases h2
  have ha:vs[i]?=some v:=by
   unfold start at h2
   rw [VF (by simpa using hi),Vb] at h2
   cases e:vs[i]? with
   | none=>rw [e] at h2;cases h2
   | some a=>rw [e] at h2;cases h2;rfl
  obtain ⟨u,hu,rv⟩:=r.get ha
  have hp:ps[i]?=some y:=by
   rw [← S.pre,List.getElem?_take_of_lt (by omega)];exact h1
  have ndP:ps.Nodup:=by rw [← S.pre];exact S.nd.sublist (List.take_sublist _ _)
  refine ⟨u,rv,?_⟩
  rcases S.par y (Ve hp) with k|k
  ·exact .inl ⟨k,WP ndP hp hu k⟩
  ·obtain ⟨c,e⟩:=qbj (n:=s.heap.objs.size+1) k
   refine .inr ⟨.inl k,c,e,?_⟩
   have q:=x.cell y c e
   rw [WM ndP hp hu (by show scope.names.lookup y≠_;rw [k];decide)] at q
   exact q
 ·exact e0.hok.fresh (VM (x.above y c (V8 h)))
 ·unfold start
  show _=N.length
  rw [Kp,Kj,VY]
  omega
theorem qf0 {CX:CXT}{P:Kt}{w:KF}{K:Kd}{mg:Str->Option Kb}{base:Kx}{k:Nat}{f:Ke}{name qual:Str}{params:Arguments}{body:List KY}{scope:VE}{dV kV doc pm cdv ct oc:Kb}{an od:Option Ke}
  {osl:Array (Option Kb)} {N ps:List Str} {sp:Sp} (lk:K.lookup f=some ⟨oc,od,.func (Us name qual params body scope dV kV doc pm an cdv ct),osl⟩) (hcd:U7 K cdv qual=true) (S:FnScope N ps scope)
  (len:∀ vs H Q E,sp vs H Q E->vs.length=ps.length)
  (hbody:∀ (A:KG) (outer:List Env) (s:Kf) (H:Hp) (vs:List V) (Q:VK) (E:XK),Room k (A.deeper (envOfC qual scope s.heap.objs.size f cdv))->sp vs H Q E->
   ∃ t,PSs (cxOf CX P w K mg base N qual scope f cdv A outer s H E) body t/\t { nx:=fun _ H'=>Q .non H',rt:=Q } (start N vs) H) :
  FnOk P w K mg base CX (k+1) f (Us name qual params body scope dV kV doc pm an cdv ct) ps sp:=by
 refine ⟨len,fun A outer s H args us vs Q E hr e0 hb r hsp=>?_⟩
 have hl:=len _ _ _ _ hsp
 have KX:K.In s.heap:=e0.mod.kin.keeps fun b o e=>(e0.bs b o e).1
 have lim:s.heap.NoLimit:=e0.mod.nolimit.keeps fun b o e=>(e0.bs b o e).1
 have hkind:∀ y∈ps.zip us,scope.names.lookup y.1=some .local\/(scope.names.lookup y.1=some .cell/\((cellsFrom (s.heap.objs.size+1) scope.names []).lookup y.1).isSome=true):=fun ⟨n,v⟩ hy=>by
  rcases S.par n (ND hy).1 with q|q
  ·exact .inl q
  ·exact .inr ⟨q,Nc _ _ _ (.inl q)⟩
 refine codeAny_call_function hr.depth (KX _ _ lk) rfl S.co S.gen rfl (Fh KX hcd) (hb _ _ _ _ ?_)
 refine N3 S.kind hkind fun env he s1 x=>?_
 subst he
 refine ⟨lim.keeps x.toInCall.keep,codeAny_func ?_⟩
 obtain ⟨t,ht,hq⟩:=hbody A outer s H vs Q E (hr.deeper _) hsp
 have I:Inv (cxOf CX P w K mg base N qual scope f cdv A outer s H E) [] (start N vs) H s1:=W3 S hr.hd e0 hl r x
 refine Vq (ht [] s1 (start N vs) H _ I hq) (fun fl s' hs=>?_) fun e s' hs=>hs
 have fin:∀ {σ':St} {H':Hp} {v:V} {u:Kb},Inv (cxOf CX P w K mg base N qual scope f cdv A outer s H E) [] σ' H' s'->RelV v u->Q v H'->CE outer P w H s Q u s' :=
  fun {σ' H' v u} J rv q=>⟨v,H',J.os,J.bare,J.base,J.hok,rv,q⟩
 cases fl with
 | ret u =>
  obtain ⟨v,σ',H',J,rv,q⟩:=hs
  exact fin J rv q
 | next =>
  obtain ⟨σ',H',J,q⟩:=hs
  exact fin (v:=V.non) (u:=K5) J rfl q
 | brk =>
  obtain ⟨_,_,_,q⟩:=hs
  exact Vz q
 | cont =>
  obtain ⟨_,_,_,q⟩:=hs
  exact Vz q
section
variable {X:Cx}{x:Str}{p pos:Pos}{e:Kw}{es:List Kw}{t:TA}{id T:String}{r:List V->Hp->VK->Prop}
def tCB (r:List V->Hp->VK->Prop)(t:TA):TE:=fun σ H Q=>t σ H fun vs H1=>r vs H1 Q
theorem yt (hc:Zz X (.builtin id) r)(hg:Gl X x)(hm:X.mg x=none)(hv:bootBuiltins x=some (.builtin id))(ha:PA X (e::es) t)(hn:x ≠ "__name__" := by decide)(hdb:(x==("__debug__" : Str))=false:=by decide)
  (he:starEach (e::es) X.env=(false,eval e X.env)::starEach es X.env:=by rfl) (hpl:(backTo pos (starEach es X.env)).any (·.1)=false:=by rfl):PE X (.Call (.Name x p) (e::es) [] pos) (tCB r t):=by
 intro pins s σ H Q I h
 refine Uc (yQ I hg hm hv ?_ hn hdb)
 exact NF (thn (ha pos pins s σ H _ I h) fun us s1 ⟨vs,H1,I1,r1,q1⟩=>hc pins s1 σ H1 vs us Q I1 r1 q1) he hpl
theorem qap (hc:Zz X (.type T) r)(hg:Gl X x)(hm:X.mg x=none)(hv:bootBuiltins x=some (.type T))(ha:PA X (e::es) t)(hn:x ≠ "__name__" := by decide)(hdb:(x==("__debug__" : Str))=false:=by decide)
  (he:starEach (e::es) X.env=(false,eval e X.env)::starEach es X.env:=by rfl) (hpl:(backTo pos (starEach es X.env)).any (·.1)=false:=by rfl):PE X (.Call (.Name x p) (e::es) [] pos) (tCB r t):=by
 intro pins s σ H Q I h
 refine Uc (yQ I hg hm hv ?_ hn hdb)
 exact XC (thn (ha pos pins s σ H _ I h) fun us s1 ⟨vs,H1,I1,r1,q1⟩=>hc pins s1 σ H1 vs us Q I1 r1 q1) he hpl
end
end L2
namespace HT
open PySem PyProof.Rows
def lexLt:List Int->List Int->Bool
 | [],[]=>false
 | [],_::_=>true
 | _::_,[]=>false
 | x::xs,y::ys=>if x=y then lexLt xs ys else decide (x<y)
theorem zU (x y:Int)(xs ys:List Int):lexLt (x::xs) (y::ys)=if x=y then lexLt xs ys else decide (x<y):=rfl
theorem Wx:lexLt [] []=false:=rfl
theorem qch (A:KG)(s:Kf)(a:Int)(t:Tok)(c:Int)(u:Tok)(prog:Kt)(w:KF)(E:Kb->Kf->Prop)(Q:Kb->Kf->Prop)(h:Q (.bool (decide (a<c))) s) :
  wpAny (model prog w) A (richCompare .Lt (.int a t) (.int c u)) Q E s :=
 (PyProof.Rows.lt_int h:wpAny (model prog w) A (compareOp .Lt (.int a t) (.int c u)) Q E s)
section
open PySem.SeqAt
open PySem.AutoSeq1 (wpAny_loadPart')
open PySem.MeetsSeq PySem.MeetsSeq2 PySem.MeetsSeq3
end
section
variable {prog:Kt}{w:KF}{A:KG}{E:Kb->Kf->Prop}{s:Kf}
theorem qht {t b:Ke}{vs ws:List Kb}{Q:Kb->Kf->Prop}(ht:IsTup s.heap t vs.toArray)(hb:IsTup s.heap b ws.toArray)(hv:vs≠[])
  (h1:ws=[]->Q (.ref t) s) (h2:ws≠[]->Q (.ref s.heap.objs.size) { s with heap:=s.heap.push { cls:=.type "tuple", data:=.seq (vs++ws).toArray } })
  (hsz:vs.length+ws.length<=sizeLine):wpAny (model prog w) A (binaryOp .Add (.ref t) (.ref b)) Q E s:=by
 obtain ⟨⟨cls,dd,data,sl⟩,ho,hc,n,hd⟩:=id ht
 obtain ⟨⟨cls2,dd2,data2,sl2⟩,ho2,hc2,n2,hd2⟩:=id hb
 simp only at hc hd hc2 hd2
 subst hc hd hc2 hd2
 have e:vs.toArray++ws.toArray=(vs++ws).toArray:=by simp
 by_cases hw:ws=[]
 ·exact Es ⟨_,ho,rfl⟩ ⟨_,ho2,rfl⟩ Et seq_tuple_add Nd X8 (XZ _ _)
   (tuple_addW1 t b vs.toArray ws.toArray n n2 dd dd2 sl sl2 (by simpa using hv) (by simp [hw])) ⟨ho,ho2,h1 hw⟩
 ·refine Es ⟨_,ho,rfl⟩ ⟨_,ho2,rfl⟩ Et seq_tuple_add Nd X8 (XZ _ _)
   (tuple_addW2 t b vs.toArray ws.toArray n n2 dd dd2 sl sl2 (by simpa using hv) (by simpa using hw) (by rw [KA,KA];exact hsz)) ⟨ho,ho2,?_⟩
  rw [e]
  exact h2 hw
def sIx (n d:Nat):Option Int->Nat
 | none=>d
 | some v=>if v<0 then (v+(n:Int)).toNat else min v.toNat n
theorem qeh (n d k:Nat):sIx n d (some (k:Int))=min k n:=by
 show (if (k:Int)<0 then ((k:Int)+(n:Int)).toNat else min (k:Int).toNat n)=min k n
 rw [if_neg (by omega),VO]
theorem qkM (n d:Nat)(hd:d<=n)(o:Option Int):sIx n d o<=n:=by
 cases o with
 | none=>exact hd
 | some v =>
  show (if v<0 then (v+(n:Int)).toNat else min v.toNat n)<=n
  by_cases hv:v<0
  ·rw [if_pos hv];omega
  ·rw [if_neg hv];exact Nat.min_le_right _ _
theorem qdj (v:Int)(n d:Nat):(if v<0 then max (v+(n:Int)) 0 else min v (n:Int))=((sIx n d (some v):Nat):Int):=by
 show (if v<0 then max (v+(n:Int)) 0 else min v (n:Int))=(((if v<0 then (v+(n:Int)).toNat else min v.toNat n):Nat):Int)
 by_cases hv:v<0
 ·simp only [if_pos hv];omega
 ·simp only [if_neg hv];omega
theorem qct (lo hi:Option Int)(n:Nat):XR lo hi 1 (n:Int)=(((sIx n 0 lo:Nat):Int),((sIx n n hi:Nat):Int)):=by
 have h1:¬ ((1:Int)<0):=by omega
 unfold XR
 simp only [h1,if_false]
 refine Prod.ext ?_ ?_
 ·cases lo with
  | none=>rfl
  | some v=>exact qdj v n 0
 ·cases hi with
  | none=>rfl
  | some v=>exact qdj v n n
theorem qcX (i j:Nat):U3 (i:Int) (j:Int) 1=j-i:=by
 unfold U3
 have h1:(1:Int) > 0:=by omega
 simp only [h1,if_true,Int.ediv_one]
 split<;>omega
theorem Wo {v:Kb}{o:Option Int}{Q:Option Int->Kf->Prop}(p:IsPart v o)(h:Q o s):wpAny (model prog w) A (Builtin.Slice.slicePartIndex v) Q E s:=by
 cases p with
 | none=>exact slicePart_none h
 | int i t=>exact slicePart_int h
theorem Yd {sl:Ke}{vl vu:Kb}{lo hi:Option Int}{n:Nat}{Q:Int×Int×Nat->Kf->Prop}(hs:s.heap.IsSliceOf sl vl vu .none)(pl:IsPart vl lo)(pu:IsPart vu hi)
  (h:Q (((sIx n 0 lo:Nat):Int),1,sIx n n hi-sIx n 0 lo) s):wpAny (model prog w) A (N4 (.ref sl) (pure (n:Int))) Q E s:=by
 obtain ⟨os,hos,hcs,hds⟩:=id hs
 unfold N4 Builtin.Slice.sliceFields
 refine Kc (Kc (Uw hos hds (x:=vl) rfl (Kc (Uw hos hds (x:=vu) rfl (Kc (Uw hos hds (x:=.none) rfl (Kl ?_)))))))
 refine Kc (slicePart_none ?_)
 show wpAny _ _ (if ((1:Int)==0)=true then _ else _) _ _ s
 rw [if_neg (by decide)]
 refine Kc (Wo pl (Kc (Wo pu (Kc (Kl ?_)))))
 show wpAny _ _ (match XR lo hi 1 (n:Int) with | (lo,hi)=>pure (lo,(1:Int),U3 lo hi 1)) _ _ s
 rw [qct lo hi n]
 show wpAny _ _ (pure (((sIx n 0 lo:Nat):Int),(1:Int),U3 ((sIx n 0 lo:Nat):Int) ((sIx n n hi:Nat):Int) 1)) _ _ s
 rw [qcX]
 exact Kl h
theorem qgS (xs:Array Kb)(i k:Nat):((X7 k).filterMap fun (m:Nat)=>xs[((i:Int)+(m:Int)*1).toNat]?).toArray=((xs.toList.drop i).take k).toArray:=by
 have e:(fun (m:Nat)=>xs[((i:Int)+(m:Int)*1).toNat]?)=fun m=>xs[i+m]?:=by
  funext m
  have:((i:Int)+(m:Int)*1).toNat=i+m:=by omega
  rw [this]
 rw [e]
 have:=pick_run xs i k
 rw [List.filterMap_map] at this
 have e2:((fun x=>xs[x]?) ∘ fun x=>i+x)=fun m=>xs[i+m]?:=rfl
 rw [e2] at this
 rw [this]
theorem yg {t sl:Ke}{items:Array Kb}{vl vu:Kb}{lo hi:Option Int}{Q:Kb->Kf->Prop}(ht:IsTup s.heap t items)(hs:s.heap.IsSliceOf sl vl vu .none)(pl:IsPart vl lo)(pu:IsPart vu hi)
  (hw:¬ (sIx items.size 0 lo=0/\sIx items.size items.size hi=items.size))
  (h:Q (.ref s.heap.objs.size) { s with heap:=s.heap.push { cls:=.type "tuple", data:=.seq ((items.toList.drop (sIx items.size 0 lo)).take (sIx items.size items.size hi-sIx items.size 0 lo)).toArray } })
  (hsz:items.size<=sizeLine):wpAny (model prog w) A (getItem (.ref t) (.ref sl)) Q E s:=by
 have htake:sizeOk (.seq ((items.toList.drop (sIx items.size 0 lo)).take (sIx items.size items.size hi-sIx items.size 0 lo)).toArray):=by
  show ((items.toList.drop (sIx items.size 0 lo)).take (sIx items.size items.size hi-sIx items.size 0 lo)).toArray.size<=sizeLine
  rw [KA,Nn,Eu,K0]
  omega
 have hj:sIx items.size items.size hi<=items.size:=qkM _ _ (Ko _) hi
 obtain ⟨os,hos,hcs,hds⟩:=id hs
 have hTs:s.TypeIs (.ref sl) "slice" := ⟨os,hos,hcs⟩
 unfold getItem
 try with_reducible refine VP ?_
 first|refine Kc (Kl ?_)|skip
 refine Kc (wpAny_sequenceKey ht.typeIs (by decide) ?_)
 refine Kc (UH (name:=Kg "__getitem__") ht.typeIs UO
  (Ud UO ht.typeIs entry_tuple_getitem ?_ (args_tuple_getitem _ _)))
 show wpAny _ _ (N5 (.ref t) >>= _) _ _ s
 refine Kc (tupleItemsOf_ ht ?_)
 refine Kc (Ew hTs ?_)
 rw [if_pos (by decide)]
 refine Kc (Yd hs pl pu ?_)
 have hno:¬ ((((sIx items.size 0 lo:Nat):Int)==0&&(1:Int)==1&&(sIx items.size items.size hi-sIx items.size 0 lo)==items.size)=true):=by
  intro q
  rw [Ks,Ks] at q
  have q1:((sIx items.size 0 lo:Nat):Int)=0:=eq_of_beq q.1.1
  have q2:sIx items.size items.size hi-sIx items.size 0 lo=items.size:=eq_of_beq q.2
  exact hw ⟨by omega,by omega⟩
 show wpAny _ _ (if (((sIx items.size 0 lo:Nat):Int)==0&&(1:Int)==1&&(sIx items.size items.size hi-sIx items.size 0 lo)==items.size)=true then _ else _) _ _ s
 rw [if_neg hno,qgS]
 first
  | exact Kc (m:=Xe _) (Vy (Kl ⟨_,rfl,Kl h⟩) htake)
  | exact Kc (m:=Xe _) (Vy (Kc (Kl (Kl ⟨_,rfl,Kl h⟩))) htake)
  | exact Kc (Kc (m:=Xe _) (Vy (Kl (Kl ⟨_,rfl,Kl h⟩)) htake))
  | exact Kc (Kc (m:=Xe _) (Vy (Kl ⟨_,rfl,Kl h⟩) htake))
end
end HT
namespace L2
open PySem PySem.Spec PyProof.Rows
abbrev TO:=St->Hp->(Option Int->Hp->Prop)->Prop
def PO (X:Cx)(e:Option Kw)(t:TO):Prop :=
 ∀ (pins:List (Ke×Obj)) (s:Kf) (σ:St) (H:Hp) (Q:Option Int->Hp->Prop),Inv X pins σ H s->t σ H Q->
  wpAny (model X.prog X.w) X.A (evalPart e X.env) (fun u s'=>∃ o H',Inv X pins σ H' s'/\IsPart u o/\Q o H') X.xe s
def tPart (t:TE):TO:=fun σ H Q=>t σ H fun x H1=>∃ i,x=.int i/\Q (some i) H1
section
variable {X:Cx}{e:Kw}{te:TE}{lo hi:Option Kw}{tl th:TO}{pos p2:Pos}
theorem qiO (h:PE X e te):PO X (some e) (tPart te):=by
 intro pins s σ H Q I hw
 rw [evalPart_some]
 refine thn (h pins s σ H _ I hw) fun u s1 ⟨x,H1,I1,r1,q1⟩=>?_
 obtain ⟨i,rfl,q⟩:=q1
 obtain ⟨t,rfl⟩:=r1
 exact ⟨some i,H1,I1,.int i t,q⟩
def SlR (X:Cx)(r:V->Option Int->Option Int->Hp->VK->Prop):Prop :=
 ∀ (pins:List (Ke×Obj)) (s:Kf) (σ:St) (H:Hp) (x:V) (v vl vu:Kb) (lo hi:Option Int) (sl:Ke) (Q:VK),Inv X pins σ H s->RelV x v->s.heap.IsSliceOf sl vl vu .none->IsPart vl lo->IsPart vu hi->r x lo hi H Q->
  ∃ T id,typeLookup (.type T) "__getitem__" = pure (some (.builtin id))/\s.TypeIs v T/\wpAny (model X.prog X.w) X.A (getItem v (.ref sl)) (EP X pins σ Q) X.xe s
theorem SlR.or {r r':V->Option Int->Option Int->Hp->VK->Prop}(h:SlR X r)(h':SlR X r'):SlR X (fun x lo hi H Q=>r x lo hi H Q\/r' x lo hi H Q):=by
 intro pins s σ H x v vl vu lo hi sl Q I rx hs pl pu q
 rcases q with q|q
 ·exact h pins s σ H x v vl vu lo hi sl Q I rx hs pl pu q
 ·exact h' pins s σ H x v vl vu lo hi sl Q I rx hs pl pu q
def tSl (r:V->Option Int->Option Int->Hp->VK->Prop)(te:TE)(tl th:TO):TE:=fun σ H Q=>te σ H fun x H1=>tl σ H1 fun l H2=>th σ H2 fun u H3=>r x l u H3 Q
theorem qgP {r:V->Option Int->Option Int->Hp->VK->Prop}(hr:SlR X r)(he:PE X e te)(hl:PO X lo tl)(hu:PO X hi th):PE X (.Subscript e (.Slice lo hi none p2) pos) (tSl r te tl th):=by
 intro pins s σ H Q I h
 refine Subscript_ (thn (he pins s σ H _ I h) fun v s1 ⟨x,H1,I1,r1,q1⟩=>?_)
 refine wpAny_Slice (thn (hl pins s1 σ H1 _ I1 q1) fun vl s2 ⟨l,H2,I2,pl,q2⟩=>thn (hu pins s2 σ H2 _ I2 q2) fun vu s3 ⟨u,H3,I3,pu,q3⟩=>?_)
 rw [evalPart_none]
 refine Kl ?_
 have I4:Inv X pins σ H3 { s3 with heap:=s3.heap.push { cls:=.type "slice", data:=.fields #[vl,vu,.none] } }:=I3.kept (t':=s3.toks) fun b ob q=>Ki _ q
 obtain ⟨T,id,hT,ht,hg⟩:=hr pins { s3 with heap:=s3.heap.push { cls:=.type "slice", data:=.fields #[vl,vu,.none] } } σ H3 x v vl vu l u s3.heap.objs.size Q I4 r1 (Heap.IsSliceOf.new ..) pl pu q3
 show wpAny (model X.prog X.w) X.A (subscriptTail e (.Slice lo hi none p2) v (.ref s3.heap.objs.size)) (EP X pins σ Q) X.xe { s3 with heap:=s3.heap.push { cls:=.type "slice", data:=.fields #[vl,vu,.none] } }
 exact tail_any (ops:=[.ref s3.heap.objs.size,v]) ht hT hg (by with_unfolding_all rfl)
def cutV (xs:List V)(lo hi:Option Int):List V:=(xs.drop (HT.sIx xs.length 0 lo)).take (HT.sIx xs.length xs.length hi-HT.sIx xs.length 0 lo)
theorem Yq (xs:List V)(lo hi:Option Int):(cutV xs lo hi).length<=xs.length:=by
 unfold cutV
 rw [Nn,Eu]
 omega
def rSlT (K:Kd):V->Option Int->Option Int->Hp->VK->Prop:=fun x lo hi H Q=>∃ a xs,x=.ref a/\SqT K H a xs/\
 ¬ (HT.sIx xs.length 0 lo=0/\HT.sIx xs.length xs.length hi=xs.length)/\∀ p,H p=none->Q (.ref p) (upd H p (.tup (cutV xs lo hi)))
theorem qkX:SlR X (rSlT X.K):=by
 intro pins s σ H x v vl vu lo hi sl Q I rx hs pl pu h
 obtain ⟨a,xs,rfl,hx,hw,q⟩:=h
 cases rx
 obtain ⟨its,r,ht,hz⟩:=I.tuple hx
 have hlen:its.toArray.size=xs.length:=by rw [KA];exact r.length.symm
 refine ⟨"tuple", _,UO.lookup,ht.typeIs,?_⟩
 refine HT.yg ht hs pl pu (by rw [hlen];exact hw) ?_ (by rw [hlen];exact hz)
 rw [hlen]
 refine ⟨.ref s.heap.objs.size,_,I.laid (t':=s.toks) (o:=.tup (cutV xs lo hi)) (fun b ob q=>Ki _ q) (Ko _) ?_,rfl,q _ (I.hok.fresh (Ko _))⟩
 exact ⟨Vs (Yq xs lo hi) hz,_,(r.drop (HT.sIx xs.length 0 lo)).take (HT.sIx xs.length xs.length hi-HT.sIx xs.length 0 lo),IsTup.new _ _⟩
def qjo (K:Kd):R2:=fun x y H Q=>∃ a b xs ys,x=.ref a/\y=.ref b/\SqT K H a xs/\SqT K H b ys/\xs≠[]/\xs.length+ys.length<=sizeLine/\
 (ys=[]->Q (.ref a) H)/\(ys≠[]->∀ p,H p=none->Q (.ref p) (upd H p (.tup (xs++ys))))
theorem Vals.nil_iff {xs:List V}{us:List Kb}(r:Vals xs us):us=[]↔xs=[]:=by
 cases r with
 | nil=>simp
 | cons _ _=>simp
theorem qiv:OpR X (binaryOp .Add) (qjo X.K):=by
 intro pins s σ H x y v u Q I rx ry h
 obtain ⟨a,b,xs,ys,rfl,rfl,ha,hb,hx,hz,q1,q2⟩:=h
 cases rx
 cases ry
 obtain ⟨its,r1,p1,_⟩:=I.tuple ha
 obtain ⟨its2,r2,p2,_⟩:=I.tuple hb
 refine HT.qht p1 p2 (fun z=>hx (r1.nil_iff.mp z)) (fun z=>⟨.ref a,H,I,rfl,q1 (r2.nil_iff.mp z)⟩) (fun z=>?_) (by rw [← r1.length,← r2.length];exact hz)
 refine ⟨.ref s.heap.objs.size,_,I.laid (t':=s.toks) (o:=.tup (xs++ys)) (fun b ob q=>Ki _ q) (Ko _) ?_,rfl,q2 (fun w=>z (r2.nil_iff.mpr w)) _ (I.hok.fresh (Ko _))⟩
 exact ⟨by rw [Kp];exact hz,_,r1.append r2,IsTup.new _ _⟩
end
def ixN (n:Nat)(i:Int):Option Nat:=if 0<=i then (if i<n then some i.toNat else none) else if -(n:Int)<=i then some (i+n).toNat else none
def atI {α:Type}(xs:List α)(i:Int):Option α:=(ixN xs.length i).bind fun j=>xs[j]?
theorem qdI {n:Nat}{i:Int}{j:Nat}(h:ixN n i=some j):seqIndex? i n=some j/\j<n/\-(n:Int)<=i/\i<n:=by
 unfold ixN at h
 by_cases h0:0<=i
 ·rw [if_pos h0] at h
  by_cases h1:i<n
  ·rw [if_pos h1] at h
   have e:i.toNat=j:=V0 h
   exact ⟨by rw [seqIndex_of h0 h1,e],by omega,by omega,h1⟩
  ·rw [if_neg h1] at h;cases h
 ·rw [if_neg h0] at h
  by_cases h1:-(n:Int)<=i
  ·rw [if_pos h1] at h
   have e:(i+n).toNat=j:=V0 h
   exact ⟨by rw [seqIndex_neg (by omega) h1,e],by omega,h1,by omega⟩
  ·rw [if_neg h1] at h;cases h
theorem qde {α:Type}{xs:List α}{i:Int}{v:α}(h:atI xs i=some v):∃ j,seqIndex? i xs.length=some j/\xs[j]?=some v/\j<xs.length/\-(xs.length:Int)<=i/\i<xs.length:=by
 unfold atI at h
 cases e:ixN xs.length i with
 | none=>rw [e] at h;cases h
 | some j =>
  rw [e] at h
  obtain ⟨h1,h2,h3,h4⟩:=qdI e
  exact ⟨j,h1,h,h2,h3,h4⟩
theorem qdg {α:Type}{xs:List α}{j:Nat}{v:α}(h:xs[j]?=some v):atI xs (j:Int)=some v:=by
 have hj:j<xs.length:=(Vg.mp h).1
 have e:ixN xs.length (j:Int)=some j:=by
  unfold ixN
  rw [if_pos (by omega),if_pos (by omega)];simp
 unfold atI;rw [e];exact h
def YG (b:Kw):Prop:=∀ o i,subscripted b false o i=operate [o,i] (getItem o i)
def IxR (X:Cx)(r:R2):Prop :=
 ∀ (value slice:Kw) (pins:List (Ke×Obj)) (s:Kf) (σ:St) (H:Hp) (x y:V) (v u:Kb) (Q:VK),Inv X pins σ H s->RelV x v->RelV y u->r x y H Q->
  subscripted slice false v u=operate [v,u] (getItem v u)->wpAny (model X.prog X.w) X.A (subscriptTail value slice v u) (EP X pins σ Q) X.xe s
def MtR (X:Cx)(id:String)(r:V->List V->Hp->VK->Prop):Prop :=
 ∀ (pins:List (Ke×Obj)) (s:Kf) (σ:St) (H:Hp) (x:V) (xs:List V) (v:Kb) (us:List Kb) (Q:VK),Inv X pins σ H s->RelV x v->Vals xs us->r x xs H Q->
  wpAny (model X.prog X.w) X.A (call (.builtin id) (v::us)) (EP X pins σ Q) X.xe s
section
variable {X:Cx}{a b:Kw}{ta tb:TE}{pos:Pos}
theorem IxR.or {r r':R2}(h:IxR X r)(h':IxR X r'):IxR X (fun x y H Q=>r x y H Q\/r' x y H Q):=by
 intro value slice pins s σ H x y v u Q I rx ry q hs
 rcases q with q|q
 ·exact h value slice pins s σ H x y v u Q I rx ry q hs
 ·exact h' value slice pins s σ H x y v u Q I rx ry q hs
theorem qgN {r:R2}(hr:IxR X r)(ha:PE X a ta)(hb:PE X b tb)(hs:YG b):PE X (.Subscript a b pos) (tOp r ta tb):=by
 intro pins s σ H Q I h
 exact Subscript_ (binT ha hb I h fun v u s2 x y H2 I2 rx ry q=>hr a b pins s2 σ H2 x y v u Q I2 rx ry q (hs _ _))
def rIxL (K:Kd):R2:=fun x y H Q=>∃ p xs i v,x=.ref p/\y=.int i/\SqL K H p xs/\atI xs i=some v/\Q v H
def rIxT (K:Kd):R2:=fun x y H Q=>∃ p xs i v,x=.ref p/\y=.int i/\SqT K H p xs/\atI xs i=some v/\Q v H
theorem qdK:IxR X (rIxL X.K):=by
 intro value slice pins s σ H x y v u Q I rx ry h hs
 obtain ⟨p,xs,i,z,rfl,rfl,hq,he,q⟩:=h
 cases rx
 obtain ⟨t,rfl⟩:=ry
 obtain ⟨its,r,pl,hz⟩:=I.list hq
 obtain ⟨j,h1,h2,h3,h4,h5⟩:=qde he
 obtain ⟨w,ew,rw'⟩:=r.get h2
 have hl:=r.length
 have hn:=qaY
 have fin:EP X pins σ Q w s:=⟨z,H,I,rw',q⟩
 by_cases h0:0<=i
 ·have hj:i.toNat=j:=by
   rw [seqIndex_of h0 h5] at h1
   exact V0 h1
  exact item_listR pl.isList h0 (by omega) (by rw [hj];simpa using ew) fin hs
 ·have hj:(i+(its.toArray.size:Int)).toNat=j:=by
   rw [seqIndex_neg (by omega) h4] at h1
   rw [KA,← hl]
   exact V0 h1
  exact subscriptTail_builtinR (x:=w) pl.isList.typeIs slot_list_getitem.lookup
   (wpAny_getItem_list_neg (Q:=fun r s'=>r=w/\EP X pins σ Q r s') pl.isList (by omega) (by rw [KA]<;>omega) (by omega) (by rw [hj];simpa using ew) ⟨rfl,fin⟩) hs
theorem qgb:IxR X (rIxT X.K):=by
 intro value slice pins s σ H x y v u Q I rx ry h hs
 obtain ⟨p,xs,i,z,rfl,rfl,hq,he,q⟩:=h
 cases rx
 obtain ⟨t,rfl⟩:=ry
 obtain ⟨its,r,pl,hz⟩:=I.tuple hq
 obtain ⟨j,h1,h2,h3,h4,h5⟩:=qde he
 obtain ⟨w,ew,rw'⟩:=r.get h2
 have hl:=r.length
 have hn:=qaY
 have fin:EP X pins σ Q w s:=⟨z,H,I,rw',q⟩
 exact subscriptTail_builtinR (x:=w) pl.typeIs UO.lookup
  (getItem_tuple (j:=j) (Q:=fun r s'=>r=w/\EP X pins σ Q r s') pl (by omega) (by omega) (by rw [KA,← hl];exact h1) (by simpa using ew) ⟨rfl,fin⟩) hs
theorem qcP (its:List Kb)(n j:Nat)(u:Kb):VW (·.setIfInBounds j u) { cls:=.type "list", data:=.seq its.toArray n }={ cls:=.type "list", data:=.seq (its.set j u).toArray n }:=by
 simp [VW]
theorem Inv.lst {pins:List (Ke×Obj)}{σ:St}{H:Hp}{s:Kf}{p:Ke}{xs:List V}(I:Inv X pins σ H s)(h:H p=some (.lst xs)) :
  ∃ (its:List Kb) (n:Nat),Vals xs its/\s.heap.get? p=some { cls:=.type "list", data:=.seq its.toArray n }/\xs.length<=sizeLine:=by
 obtain ⟨z,its,n,r,e⟩:=I.hok p _ h
 exact ⟨its,n,r,e,z⟩
theorem Inv.lstUpd {pins:List (Ke×Obj)}{σ:St}{H:Hp}{s:Kf}{p:Ke}{xs ys:List V}{its its':List Kb}{n n':Nat}{f:Obj->Obj}(I:Inv X pins σ H s)(h:H p=some (.lst xs))
  (ho:s.heap.get? p=some { cls:=.type "list", data:=.seq its.toArray n }) (hf:f { cls:=.type "list", data:=.seq its.toArray n }={ cls:=.type "list", data:=.seq its'.toArray n' }) (r:Vals ys its') (hz:ys.length<=sizeLine) (t:Nat) :
  Inv X pins σ (upd H p (.lst ys)) { s with heap:=s.heap.update p f,toks:=t }:=by
 have e:(s.heap.update p f).get? p=some { cls:=.type "list", data:=.seq its'.toArray n' }:=by
  rw [VZ f ho (by rw [hf]<;>rfl),hf]
 refine I.write (x:=p) (e:=p) (by rw [h];trivial) (.inl rfl) (fun b u hb q=>(VA _ _ (VU hb)).trans q) ⟨_,e⟩ ?_
 exact ⟨hz,its',n',r,e⟩
def rSetL:V->V->V->Hp->(Hp->Prop)->Prop:=fun o i v H Q=>∃ p xs k j,o=.ref p/\i=.int k/\H p=some (.lst xs)/\ixN xs.length k=some j/\Q (upd H p (.lst (xs.set j v)))
theorem set_list:PSet X rSetL:=by
 intro pins s σ H o i v ov iv u Q I ro ri rv h
 obtain ⟨p,xs,k,j,rfl,rfl,hp,hj,q⟩:=h
 cases ro
 obtain ⟨t,rfl⟩:=ri
 obtain ⟨its,n,r,ho,hz⟩:=I.lst hp
 obtain ⟨h1,h2,h3,h4⟩:=qdI hj
 have hl:=r.length
 have hn:=qaY
 have I':Inv X pins σ (upd H p (.lst (xs.set j v))) { s with heap:=s.heap.update p (VW (·.setIfInBounds j u)) } :=
  I.lstUpd hp ho (qcP its n j u) (r.set rv j) (by rw [Vw];exact hz) s.toks
 by_cases h0:0<=k
 ·have hk:k.toNat=j:=by
   rw [seqIndex_of h0 h4] at h1
   exact V0 h1
  exact PySem.W.ki_setAt ho h0 (by omega) (by rw [KA,← hl];exact h4) (by rw [hk];exact ⟨_,I',q⟩)
 ·have hk:(k+(its.toArray.size:Int)).toNat=j:=by
   rw [seqIndex_neg (by omega) h3] at h1
   rw [KA,← hl]
   exact V0 h1
  exact PySem.W.ki_setBack ho (by omega) (by rw [KA,← hl];exact h3) (by omega) (by rw [hk];exact ⟨_,I',q⟩)
theorem qa6 (lo hi:Option Int)(n:Nat):(sliceBounds lo hi none n).1=((HT.sIx n 0 lo:Nat):Int)/\(sliceBounds lo hi none n).2.1=((HT.sIx n n hi:Nat):Int)/\(sliceBounds lo hi none n).2.2=1:=by
 refine ⟨?_,?_,rfl⟩
 ·cases lo with
  | none=>simp [sliceBounds,HT.sIx]
  | some i =>
   simp only [sliceBounds,HT.sIx,Option.getD_none,show (1:Int) > 0 by decide,if_true]
   by_cases h:i<0
   ·simp only [h,if_true]<;>omega
   ·simp only [h,if_false]<;>omega
 ·cases hi with
  | none=>simp [sliceBounds,HT.sIx]
  | some i =>
   simp only [sliceBounds,HT.sIx,Option.getD_none,show (1:Int) > 0 by decide,if_true]
   by_cases h:i<0
   ·simp only [h,if_true]<;>omega
   ·simp only [h,if_false]<;>omega
theorem Wy (its:List Kb)(lo hi:Option Int):slicePick its.toArray lo hi none=((its.drop (HT.sIx its.length 0 lo)).take (HT.sIx its.length its.length hi-HT.sIx its.length 0 lo)).toArray:=by
 obtain ⟨h1,h2,h3⟩:=qa6 lo hi its.toArray.size
 unfold slicePick
 rw [h1,h2,h3]
 simp only [sliceRange_one,pick_run,KA]<;>rfl
def rSlL (K:Kd):V->Option Int->Option Int->Hp->VK->Prop:=fun x lo hi H Q=>∃ a xs,x=.ref a/\SqL K H a xs/\∀ p,H p=none->Q (.ref p) (upd H p (.lst (cutV xs lo hi)))
theorem qi3:SlR X (rSlL X.K):=by
 intro pins s σ H x v vl vu lo hi sl Q I rx hs pl pu h
 obtain ⟨a,xs,rfl,hx,q⟩:=h
 cases rx
 obtain ⟨its,r,ht,hz⟩:=I.list hx
 have hlen:=r.length
 refine ⟨"list", _,slot_list_getitem.lookup,ht.isList.typeIs,?_⟩
 refine wpAny_getItem_list_slice ht.isList hs pl pu .none (by simp) ?_ (by rw [KA]<;>omega)
 rw [Wy,← hlen]
 refine ⟨.ref s.heap.objs.size,_,I.laid (t':=s.toks) (o:=.lst (cutV xs lo hi)) (fun b ob q=>Ki _ q) (Ko _) ?_,rfl,q _ (I.hok.fresh (Ko _))⟩
 exact ⟨Vs (Yq xs lo hi) hz,_,0,(r.drop (HT.sIx xs.length 0 lo)).take (HT.sIx xs.length xs.length hi-HT.sIx xs.length 0 lo),Kv _ rfl⟩
theorem qaF:Zz X (.builtin "len") (fun xs H Q=>∃ p ys,xs=[.ref p]/\(SqL X.K H p ys\/SqT X.K H p ys)/\Q (.int ys.length) H):=by
 intro pins s σ H xs us Q I r h
 obtain ⟨p,ys,rfl,hq,q⟩:=h
 obtain ⟨u,rfl,rx⟩:=vals1 r
 cases rx
 have hn:=qaY
 rcases hq with hq|hq
 ·obtain ⟨its,r',pl,hz⟩:=I.list hq
  have hlen:=r'.length
  exact Calls.call_len_list pl.isList (by simp only [KA]<;>omega) ⟨.int ys.length,H,I.tok _,⟨s.toks+1,by rw [KA,hlen]⟩,q⟩
 ·obtain ⟨its,r',pl,hz⟩:=I.tuple hq
  have hlen:=r'.length
  exact len_tuple pl (by simp only [KA]<;>omega) ⟨.int ys.length,H,I.tok _,⟨s.toks+1,by rw [KA,hlen]⟩,q⟩
theorem Zz.or {f:Kb}{r r':List V->Hp->VK->Prop}(h:Zz X f r)(h':Zz X f r'):Zz X f (fun xs H Q=>r xs H Q\/r' xs H Q):=by
 intro pins s σ H xs us Q I rs q
 rcases q with q|q
 ·exact h pins s σ H xs us Q I rs q
 ·exact h' pins s σ H xs us Q I rs q
theorem J2:Zz X (.type "list") (fun xs H Q=>∃ p ys,xs=[.ref p]/\(SqL X.K H p ys\/SqT X.K H p ys)/\∀ l,H l=none->Q (.ref l) (upd H l (.lst ys))):=by
 intro pins s σ H xs us Q I r h
 obtain ⟨p,ys,rfl,hq,q⟩:=h
 obtain ⟨u,rfl,rx⟩:=vals1 r
 cases rx
 have fin:∀ (its:List Kb),Vals ys its->ys.length<=sizeLine->∀ (h':Kx) (c':Nat),(∀ b o',s.heap.get? b=some o'->h'.get? b=some o')->
   h'.get? s.heap.objs.size=some { cls:=.type "list", dict:=none,data:=.seq its.toArray c',slots:=#[] }->EP X pins σ Q (.ref s.heap.objs.size) { s with heap:=h' }:=fun its r' hz h' c' kp e =>
  ⟨.ref s.heap.objs.size,_,I.laid (t':=s.toks) kp (Ko _) (show zM X.prog X.w _ h' _ (.lst ys) from ⟨hz,its,c',r',e⟩),rfl,q _ (I.hok.fresh (Ko _))⟩
 rcases hq with hq|hq
 ·obtain ⟨its,r',pl,hz⟩:=I.list hq
  have hlen:=r'.length
  obtain ⟨o,ho,hc,n,hd⟩:=pl.isList
  exact call_list_seq p (.inl rfl) ho hc hd (fun h' c' kp e=>fin its r' hz h' c' kp e) (by simp only [KA]<;>omega)
 ·obtain ⟨its,r',pl,hz⟩:=I.tuple hq
  have hlen:=r'.length
  obtain ⟨o,ho,hc,n,hd⟩:=pl
  exact call_list_seq p (.inr rfl) ho hc hd (fun h' c' kp e=>fin its r' hz h' c' kp e) (by simp only [KA]<;>omega)
theorem Ws:Zz X (.type "tuple") (fun xs H Q=>∃ p ys,xs=[.ref p]/\((SqL X.K H p ys/\∀ l,H l=none->Q (.ref l) (upd H l (.tup ys)))\/(SqT X.K H p ys/\Q (.ref p) H))):=by
 intro pins s σ H xs us Q I r h
 obtain ⟨p,ys,rfl,h⟩:=h
 obtain ⟨u,rfl,rx⟩:=vals1 r
 cases rx
 rcases h with ⟨hq,q⟩|⟨hq,q⟩
 ·obtain ⟨its,r',pl,hz⟩:=I.list hq
  have hlen:=r'.length
  refine call_tuple_list pl.isList (fun h' kp=>?_) (by simp only [KA]<;>omega)
  have I1:Inv X pins σ H { s with heap:=h' }:=I.kept (t':=s.toks) kp
  have I2:Inv X pins σ (upd H h'.objs.size (.tup ys)) { s with heap:=h'.push { cls:=.type "tuple", data:=.seq its.toArray } } :=
   I1.laid (t':=s.toks) (fun b o e=>Ki _ e) (Ko _) (show zM X.prog X.w _ _ _ (.tup ys) from ⟨hz,its,r',IsTup.new _ _⟩)
  exact ⟨.ref h'.objs.size,_,I2,rfl,q _ (I1.hok.fresh (Ko _))⟩
 ·obtain ⟨its,r',pl,hz⟩:=I.tuple hq
  exact call_tuple_same pl ⟨.ref p,H,I,rfl,q⟩
def tyV (K:Kd)(T:String)(x:V)(H:Hp):Prop:=match x with
 | .str _=>T = "str"
 | .int _=>T = "int"
 | .ref p=>(T = "list"/\∃ xs,SqL K H p xs)\/(T = "tuple"/\∃ o,K.lookup p=some o/\o.cls=.type "tuple"/\o.dict=none)\/
   (T = "dict"/\((∃ kvs,H p=some (.dK kvs))\/∃ kvs,H p=some (.dT kvs)))\/(T = "set"/\∃ S n,H p=some (.set S n))
 | _=>False
theorem qk6 {pins:List (Ke×Obj)}{σ:St}{H:Hp}{s:Kf}{T:String}{x:V}{v:Kb}(I:Inv X pins σ H s)(r:RelV x v)(ty:tyV X.K T x H) :
  s.TypeIs v T/\∀ a,v=.ref a->∃ ob,s.heap.get? a=some ob/\ob.dict=none:=by
 cases x with
 | str z =>
  obtain ⟨t,rfl⟩:=r
  cases (show T = "str" from ty)
  exact ⟨typeIs_str s z t,fun _ e=>nomatch e⟩
 | int i =>
  obtain ⟨t,rfl⟩:=r
  cases (show T = "int" from ty)
  exact ⟨typeIs_int s i t,fun _ e=>nomatch e⟩
 | ref p =>
  cases r
  rcases ty with ⟨rfl,xs,hq⟩|⟨rfl,o,hk,hc,hd⟩|⟨rfl,hk⟩|⟨rfl,S,n,hk⟩
  ·obtain ⟨its,_,pl,_⟩:=I.list hq
   refine ⟨pl.isList.typeIs,fun a e=>?_⟩
   cases e
   obtain ⟨o,n,e,c,hd,_⟩:=pl
   exact ⟨o,e,hd⟩
  ·refine ⟨⟨o,I.kIn p o hk,hc⟩,fun a e=>?_⟩
   cases e
   exact ⟨o,I.kIn _ o hk,hd⟩
  ·have z:∃ o,s.heap.get? p=some o/\o.ExactDict:=by
    rcases hk with ⟨kvs,hk⟩|⟨kvs,hk⟩
    ·obtain ⟨_,_,_,_,o,_,_,e,ex,_⟩:=I.hok p _ hk
     exact ⟨o,e,ex⟩
    ·obtain ⟨_,_,_,_,o,_,_,e,ex,_⟩:=I.hok p _ hk
     exact ⟨o,e,ex⟩
   obtain ⟨o,e,ex⟩:=z
   refine ⟨⟨o,e,ex.1⟩,fun a e2=>?_⟩
   cases e2
   exact ⟨o,e,ex.2.1⟩
  ·obtain ⟨o,_,_,_,e,ex,_⟩:=I.hok p _ hk
   refine ⟨⟨o,e,ex.1⟩,fun a e2=>?_⟩
   cases e2
   exact ⟨o,e,ex.2.1⟩
 | _=>exact Vz ty
def tBM (K:Kd)(T:String)(r:V->List V->Hp->VK->Prop)(to:TE)(t:TA):TE:=fun σ H Q=>to σ H fun x H1=>tyV K T x H1/\t σ H1 fun xs H2=>r x xs H2 Q
variable {o e:Kw}{es:List Kw}{to:TE}{t:TA}{name:Str}{apos cpos:Pos}{T id:String}{r:V->List V->Hp->VK->Prop}
theorem qd8 (pa:PlainAttrs T)(slot:Slot T name id)(hty:typeOf (.builtin id)=pure (.type "method_descriptor"))(hm:MtR X id r)(ho:PE X o to)(ha:PA X (e::es) t)
  (hbase:attributeBase o name X.env (eval o X.env)=eval o X.env:=by rfl)
  (hfew:((backTo cpos (starEach (e::es) X.env)).all (fun x=>!x.1)&&(backToKw cpos (keywordEach [] X.env)).all (fun x=>x.1.isSome)
   && decide ((e::es).length+([]:List U6).length+(if ([]:List U6).isEmpty then 0 else 1)<30))=true:=by rfl)
  (hline:(apos.endLine==cpos.line)=true:=by rfl) (hs:starEach (e::es) X.env=(false,eval e X.env)::starEach es X.env:=by rfl) (hplain:(backTo cpos (starEach es X.env)).any (·.1)=false:=by rfl) :
  PE X (.Call (.Attribute o name apos) (e::es) [] cpos) (tBM X.K T r to t):=by
 intro pins s σ H Q I h
 refine wpAny_Call_method_late hbase hfew hline rfl (thn (ho pins s σ H _ I h) fun v s1 ⟨x,H1,I1,r1,ty,q1⟩=>?_)
 obtain ⟨h1,h2⟩:=qk6 I1 r1 ty
 refine ⟨T,id,pa,slot,hty,h1,h2,?_⟩
 have hA:=ha cpos pins s1 σ H1 _ I1 q1
 rw [hs] at hA ⊢
 refine Calls.callWith_builtin (by show (false||(backTo cpos (starEach es X.env)).any (·.1))=false;rw [hplain]<;>rfl) (Calls.evalArgs_plain ?_)
 exact thn hA fun us s2 ⟨vs,H2,I2,r2,q2⟩=>hm pins s2 σ H2 x vs v us Q I2 r1 r2 q2
end
def MtM (X:Cx)(id:String)(r:V->List V->Hp->VK->Prop):Prop :=
 ∀ (pins:List (Ke×Obj)) (s:Kf) (σ:St) (H:Hp) (x:V) (xs:List V) (v:Kb) (us:List Kb) (Q:VK),Inv X pins σ H s->RelV x v->Vals xs us->r x xs H Q->
  wpAny (model X.prog X.w) X.A (call (.builtin id) (v::us)) (EP X pins σ Q) X.xe s
theorem Vals.one:∀ {x:V} {us:List Kb},Vals [x] us->∃ u,us=[u]/\RelV x u
 | _,_,.cons r .nil=>⟨_,rfl,r⟩
theorem Vals.two:∀ {x y:V} {us:List Kb},Vals [x,y] us->∃ u v,us=[u,v]/\RelV x u/\RelV y v
 | _,_,_,.cons r (.cons q .nil)=>⟨_,_,rfl,r,q⟩
section
variable {X:Cx}{pins:List (Ke×Obj)}{σ:St}{H:Hp}{s:Kf}{l b:Ke}{xs ys zs:List V}
theorem Inv.lset {its its':List Kb}{n:Nat}{f:Array Kb->Array Kb}{t':Nat}(I:Inv X pins σ H s)(hH:H l=some (.lst xs))
  (e:s.heap.get? l=some { cls:=.type "list", data:=.seq its.toArray n }) (hf:f its.toArray=its'.toArray) (hv:Vals ys its') (hz:ys.length<=sizeLine) :
  Inv X pins σ (upd H l (.lst ys)) { s with heap:=s.heap.update l (VW f),toks:=t' }:=by
 have q:=PySem.IsL.update e f
 rw [hf] at q
 refine I.write (x:=l) (e:=l) (by rw [hH];exact trivial) (.inl rfl) (fun b' u hb hu=>(VA s.heap (VW f) (VU hb)).trans hu) ⟨_,q⟩ ?_
 exact ⟨hz,its',_,hv,q⟩
theorem Inv.lnew {its:List Kb}{t':Nat}(I:Inv X pins σ H s)(hv:Vals ys its)(hz:ys.length<=sizeLine) :
  Inv X pins σ (upd H s.heap.objs.size (.lst ys)) { s with heap:=s.heap.push { cls:=.type "list", data:=.seq its.toArray },toks:=t' } :=
 I.laid (fun _ _ q=>Ki _ q) (Ko _) ⟨hz,its,0,hv,Kv _ rfl⟩
theorem Inv.fresh (I:Inv X pins σ H s):H s.heap.objs.size=none:=I.hok.fresh (Ko _)
theorem Inv.lstM (I:Inv X pins σ H s)(hH:H l=some (.lst xs)):xs.length<=sizeLine/\∃ (its:List Kb) (n:Nat),Vals xs its/\xs.length=its.length/\s.heap.get? l=some { cls:=.type "list", data:=.seq its.toArray n }:=by
 obtain ⟨z,its,n,r,e⟩:=I.hok l _ hH
 exact ⟨z,its,n,r,r.length,e⟩
end
section
variable {X:Cx}
def qiW:V->List V->Hp->VK->Prop:=fun x vs H Q=>∃ l xs y,x=.ref l/\vs=[y]/\H l=some (.lst xs)/\xs.length<sizeLine/\Q .non (upd H l (.lst (xs++[y])))
theorem yU:MtM X "list.append" qiW:=by
 intro pins s σ H x vs v us Q I rx rv h
 obtain ⟨l,xs,y,rfl,rfl,hH,hz,q⟩:=h
 cases rx
 obtain ⟨u,rfl,ru⟩:=rv.one
 obtain ⟨z,its,n,r,hl,e⟩:=I.lstM hH
 refine call_meets Xp ⟨_,e,rfl⟩ F.entry_list_append (F.args_list_append_2 _ _) (PySem.list_append l its.toArray n u (by rw [KA];omega)) ⟨e,?_⟩
 refine ⟨.non,_,I.lset (its':=its++[u]) hH e (by simp) (r.append (.cons ru .nil)) ?_,rfl,q⟩
 rw [Kp,Ky]
 omega
end
section
variable {prog:Kt}{w:KF}{A:KG}{E:Kb->Kf->Prop}{s:Kf}
set_option maxRecDepth 100000 in
end
end L2
namespace Att
open PySem PySem.W PySem.Calls PyProof.Rows
theorem YF {P:Params}{h:Kx}:∀ (ns:List Int) (vs:List Kb),WellAll P h vs (ns.map WData.int)->IntsAre vs ns:=by
 intro ns
 induction ns with
 | nil =>
  intro vs w
  rw [Vt] at w
  cases w
  exact .nil
 | cons n ns ih =>
  intro vs w
  rw [Km] at w
  cases w with
  | cons a b =>
   cases a
   exact .cons _ _ (ih _ b)
theorem qfg {l:Ee}{n:Nat}(hn:l.most=some n){P:Params}{h:Kx}{args:List WData}{vals:List Kb}
  (hpre:l.row.toRowW.claim.pre args=true) (hwl:WellAll P h vals args) :
  ∃ a vs ns,vals=[KD a]/\args=[WData.list (ns.map WData.int)]/\h.get? a=some { cls:=.type "list", data:=.seq vs.toArray }/\IntsAre vs ns/\ns.length<=n:=by
 have hsh:WShape.hasAll [] args [.list .int]=true:=(pre_splitW hpre).1
 have hc:l.pre.holds [] { args:=args }=true:=(pre_splitW hpre).2
 obtain ⟨d,r,rfl,h1,h2⟩:=hasAllW_cons hsh
 obtain rfl:=hasAllW_nil h2
 obtain ⟨xs,rfl,h3⟩:=hasW_list h1
 obtain ⟨ns,rfl⟩:=items_int h3
 have hlen:ns.length<=n:=by
  unfold OpenLaw.pre at hc
  have h4:(WTm.not (.lt (.lit (.int (n:Int))) (.len (.arg 0)))).holds [] { args:=[.list (ns.map .int)] }=true:=by
   have h4:=(holds_andW hc).1
   rw [hn] at h4
   exact h4
  have h5:=condW_of h4 (w_not (w_lt w_lit (w_len_list (w_arg rfl))))
  rw [Kj] at h5
  refine Nat.le_of_not_lt fun q=>?_
  have q':(n:Int)<((ns.length:Nat):Int):=by omega
  first
   | (rw [decide_eq_true q'] at h5;exact absurd h5 (by decide))
   | (simp at h5;omega)
 cases hwl with
 | cons w1 w2 =>
  cases w2
  cases w1 with
  | list ho hall=>exact ⟨_,_,ns,rfl,rfl,ho,YF ns _ hall,hlen⟩
theorem qfc (l:Ee)(args:List WData):l.row.toRowW.claim.post args (.bool true) args=true :=
 postW_of (r:=l.row.toRowW) (X:=(true==true))
  (show WShape.has [] (.bool true) .bool=true by first|rfl|decide|simp [WShape.has,WShape.arms,WShape.armsAll])
  (show (WTm.eq .res (.lit (.bool true))).value [] { args:=args,res:=some (.bool true),after:=args }=some (.bool (true==true)) from w_eq_bool (w_res rfl) w_lit) rfl
end Att
namespace L2
open PySem PySem.Spec PyProof.Rows
theorem qaA:∀ {vs:List Kb} {ns:List Int},IntsAre vs ns->Vals (ns.map V.int) vs
 | _,_,.nil=>.nil
 | _,_,.cons n t h=>.cons ⟨t,rfl⟩ (qaA h)
def Only (H:Hp):Prop:=∀ b,H b=none\/∃ o xs,H b=some (.frz o (.lst xs))
theorem qgh {P:Kt}{w:KF}{K:Kd}{mg mb:Str->Option Kb}{CX:CXT}{k:Nat}{fa a:Ke}{fd:Vo}{x:Str}{sp:Sp}{s₁:Kf}{vs:List Kb}{ns:List Int}
  (KX:K.In s₁.heap) (hns:s₁.heap.Ns mainGlobals mg) (hb:s₁.heap.Ns builtinsNs mb) (hbb:∀ x:Str,x ≠ "__name__"->mb x=bootBuiltins x) (hlim:s₁.heap.NoLimit) (hg:s₁.gens=#[])
  (ha:s₁.heap.get? a=some { cls:=.type "list", data:=.seq vs.toArray }) (hi:IntsAre vs ns) (hl:ns.length<=sizeLine) (hr:Room k callerA)
  (F:∀ base:Kx,K.In base->base.Ns mainGlobals mg->FnOk P w K mg base CX k fa fd [x] sp) (hbind:∀ (s:Kf) (u:Kb),BindsTo s fd ⟨[u],[]⟩ [(x,u)])
  (hsp:∀ H:Hp,Only H->SqL K H a (ns.map V.int)->sp [.ref a] H (fun v _=>v=.bl true) fun _ _ _=>False)
  (hCX:∀ H e s',CX [] H s₁ (fun _ _ _=>False) e s'->False) :
  codeAny (model P w) callerA (.call (.ref fa) ⟨[.ref a],[]⟩) (fun r s'=>r=.ok (.ret (.bool true))/\OldK s₁.heap s'.heap/\s'.os=s₁.os/\XJ s'.gens) s₁:=by
 have rv:=qaA hi
 have lenV:=hi.length
 have core:∀ H:Hp,Only H->SqL K H a (ns.map V.int)->HOk P w H s₁.heap->(∀ b,H b≠none->b=a)->(H a≠none->K.lookup a=none)->
   codeAny (model P w) callerA (.call (.ref fa) ⟨[.ref a],[]⟩) (fun r s'=>r=.ok (.ret (.bool true))/\OldK s₁.heap s'.heap/\s'.os=s₁.os/\XJ s'.gens) s₁:=by
  intro H hO hS hok hA hK
  have base_of:∀ {b:Ke} {o:Obj},s₁.heap.get? b=some o->H b=none->(hidT s₁.heap H).get? b=some o:=fun e n=>qf4 e n
  have noA:∀ {b:Ke} {o:Obj} {es:Array UB} {ep:Nat},s₁.heap.get? b=some o->o.data=.dict es ep->H b=none:=fun {b o es ep} e d=>by
   cases q:H b with
   | none=>rfl
   | some u =>
    have e':b=a:=hA b (by rw [q];simp)
    subst e'
    rw [ha] at e;cases e
    have d':Data.seq vs.toArray _=V5 es ep:=d
    cases d'
  have nsK:∀ {b:Ke} {m:Str->Option Kb},s₁.heap.Ns b m->(hidT s₁.heap H).Ns b m:=fun {b m} ⟨o,es,ep,e,d,r⟩=>⟨o,es,ep,base_of e (noA e d),d,r⟩
  have hKb:K.In (hidT s₁.heap H):=fun b o e=>base_of (KX b o e) (by
   cases q:H b with
   | none=>rfl
   | some u =>
    have e':b=a:=hA b (by rw [q];simp)
    subst e'
    rw [hK (by rw [q];simp)] at e;cases e)
  have hM:Mod K mg (hidT s₁.heap H):=⟨hKb,nsK hns,⟨mb,nsK hb,hbb⟩,let ⟨mc,h1,h2⟩:=hlim;⟨mc,nsK h1,h2⟩⟩
  have e0:Env0 P w K mg (hidT s₁.heap H) callerA [] s₁ H:=⟨rfl,hM,fun b o e=>qir e,Nat.le_of_eq (qeJ _ _),trivial,fun b hb=>absurd (show b∈([]:List Ke) from hb) (by simp),hok,.of_eq hg⟩
  refine XY ((F _ hKb (nsK hns)).run callerA [] s₁ H ⟨[.ref a],[]⟩ [.ref a] [.ref a] _ _ hr e0 (hbind s₁ (.ref a)) (.cons rfl .nil) (hsp H hO hS)) fun r s' h=>?_
  cases r with
  | error e=>exact (hCX H e s' h).elim
  | ok fl =>
   cases fl with
   | next=>exact Vz h
   | brk=>exact Vz h
   | cont=>exact Vz h
   | ret u =>
    obtain ⟨v,H',os,bare,un,hok',r',q⟩:=h
    have q':v=.bl true:=q
    subst q'
    obtain rfl:u=K1 true:=r'
    refine ⟨rfl,OldK.of_keep fun b o e=>?_,os,bare⟩
    cases q:H b with
    | none=>exact un.keep b o e q (by intro z;exact absurd (show b∈([]:List Ke) from z) (by simp)) (by simp)
    | some u =>
     rcases hO b with z|⟨ob,xs,z⟩
     ·rw [q] at z;cases z
     ·have z2:=un.frzs b ob _ z
      obtain ⟨e1,_⟩:=hok b _ z
      obtain ⟨e2,_⟩:=hok' b _ z2
      rw [e] at e1;cases e1
      exact e2
 cases hk:K.lookup a with
 | some o =>
  have e:=KX a o hk
  rw [ha] at e
  cases e
  refine core (fun _=>none) (fun _=>.inl rfl) (.inr ⟨_,vs.toArray,_,hk,rfl,rfl,rfl,by rw [KA,lenV];exact hl,by simpa using rv⟩) (fun b u z=>by have z':(none:Option HO)=some u:=z;cases z') (fun b z=>absurd rfl z) fun z=>absurd rfl z
 | none =>
  refine core (fun b=>if b=a then some (.frz { cls:=.type "list", data:=.seq vs.toArray } (.lst (ns.map V.int))) else none) (fun b=>?_) (.inl (.inr ⟨{ cls:=.type "list", data:=.seq vs.toArray },if_pos rfl⟩)) (fun b u z=>?_) (fun b z=>?_) fun _=>hk
  ·by_cases hb:b=a
   ·exact .inr ⟨_,_,if_pos hb⟩
   ·exact .inl (if_neg hb)
  ·by_cases hb:b=a
   ·have z':=(if_pos hb).symm.trans z
    cases z'
    subst hb
    exact ⟨ha,by rw [Kj];exact hl,vs,_,rv,ha⟩
   ·have z':=(if_neg hb).symm.trans z
    cases z'
  ·by_cases hb:b=a
   ·exact hb
   ·exact absurd (if_neg hb) z
def Zq (s:KY):Arguments:=match s with
 | .FunctionDef _ a _ _ _ _ _ _ _ _=>a
 | _=>{ posonlyargs:=[],args:=[],vararg:=none,kwonlyargs:=[],kw_defaults:=[],kwarg:=none,defaults:=[] }
def zK (s:KY):List KY:=match s with
 | .FunctionDef _ _ b _ _ _ _ _ _ _=>b
 | _=>[]
def qj (s:KY):VE:=match s with
 | .FunctionDef _ _ _ _ _ _ sc _ _ _=>sc
 | _=>{ kind:=.function,names:=[],isGenerator:=false,isCoroutine:=false }
abbrev CX0:CXT:=fun _ _ _ _ _ _=>False
abbrev E0:XK:=fun _ _ _=>False
theorem pass0 {X:Cx}:qaC CX0 X E0:=fun _ _ _ _ _ _ _ h=>h.elim
structure Fun (K:Kd)(x qual:Str)(st:KY)(f:Ke)(fd:Vo):Prop where
 ex:∃ (oc:Kb) (od:Option Ke) (kV doc pm:Kb) (an:Option Ke) (cdv ct:Kb) (osl:Array (Option Kb)),
  fd=Us x qual (Zq st) (zK st) (qj st) .none kV doc pm an cdv ct/\K.lookup f=some ⟨oc,od,.func fd,osl⟩/\U7 K cdv qual=true
 kp:VQ K (.ref f)=true
section
variable {P:Kt}{w:KF}{K:Kd}{mg:Str->Option Kb}{base:Kx}
theorem Fun.ok {x qual:Str}{st:KY}{f:Ke}{fd:Vo}{N ps:List Str}{k:Nat}{sp:Sp}(F:Fun K x qual st f fd)(S:FnScope N ps (qj st))(len:∀ vs H Q E,sp vs H Q E->vs.length=ps.length)
  (hbody:∀ (cdv:Kb) (A:KG) (outer:List Env) (s:Kf) (H:Hp) (vs:List V) (Q:VK) (E:XK),Room k (A.deeper (envOfC qual (qj st) s.heap.objs.size f cdv))->sp vs H Q E->
   ∃ t,PSs (cxOf CX0 P w K mg base N qual (qj st) f cdv A outer s H E).nox (zK st) t/\t { nx:=fun _ H'=>Q .non H',rt:=Q } (start N vs) H):FnOk P w K mg base CX0 (k+1) f fd ps sp:=by
 obtain ⟨oc,od,kV,doc,pm,an,cdv,ct,osl,rfl,lk,hcd⟩:=F.ex
 refine qf0 lk hcd S len fun A outer s H vs Q E hr hsp=>?_
 obtain ⟨t,h,q⟩:=hbody cdv A outer s H vs Q E hr hsp
 exact ⟨t,h.nox,q⟩
theorem Fun.binds {x qual:Str}{st:KY}{f:Ke}{fd:Vo}{ps:List Str}(F:Fun K x qual st f fd)
  (h:∀ (kV doc pm:Kb) (an:Option Ke) (cdv ct:Kb) (us:List Kb),us.length=ps.length->bindArgs (Us x qual (Zq st) (zK st) (qj st) .none kV doc pm an cdv ct) ⟨us,[]⟩=pure (ps.zip us)):Binds K fd ps []:=by
 obtain ⟨oc,od,kV,doc,pm,an,cdv,ct,osl,rfl,lk,hcd⟩:=F.ex
 exact .all (h kV doc pm an cdv ct)
theorem qcC {x qual:Str}{st:KY}{f:Ke}{oc:Kb}{od an:Option Ke}{osl:Array (Option Kb)}{kV doc pm cdv ct:Kb}(l:K.lookup f=some ⟨oc,od,.func (Us x qual (Zq st) (zK st) (qj st) .none kV doc pm an cdv ct),osl⟩)
  (c:U7 K cdv qual=true) (k:VQ K (.ref f)=true):Fun K x qual st f (Us x qual (Zq st) (zK st) (qj st) .none kV doc pm an cdv ct):=⟨⟨oc,od,kV,doc,pm,an,cdv,ct,osl,rfl,l,c⟩,k⟩
end
theorem zA {n:Nat}(h:n<=1000):n<sizeLine:=Nat.lt_of_le_of_lt h (by decide)
theorem iteF {A B:Prop}(h:B):if false=true then A else B:=by
 rw [if_neg VG]
 exact h
theorem iteT {A B:Prop}(h:A):if true=true then A else B:=by
 rw [if_pos rfl]
 exact h
def Same (H H':Hp):Prop:=∀ b o,H b=some o->H' b=some o
theorem Same.refl (H:Hp):Same H H:=fun _ _ h=>h
theorem Same.trans {H H1 H2:Hp}(a:Same H H1)(b:Same H1 H2):Same H H2:=fun c o h=>b c o (a c o h)
theorem Same.free {H H':Hp}(e:Same H H'){l:Ke}(h:H' l=Kh):H l=Kh:=by
 cases q:H l with
 | none=>rfl
 | some o =>
  rw [e l o q] at h
  cases h
theorem Same.seq {K:Kd}{H H':Hp}{a:Ke}{xs:List V}(e:Same H H')(h:SqL K H a xs):SqL K H' a xs:=by
 rcases h with (h|⟨o,h⟩)|h
 ·exact .inl (.inl (e _ _ h))
 ·exact .inl (.inr ⟨o,e _ _ h⟩)
 ·exact .inr h
end L2
set_option maxHeartbeats 4000000
namespace L2
open PySem PySem.Spec PyProof.Rows
theorem jV {env:Env}(body:(Str×NameKind)->List (Str×Addr)->Sem (ForInStep (List (Str×Addr))))
  (hf:∀ n k acc c,k=Vh->env.cells.lookup n=some c->body (n,k) acc=pure (.yield ((n,c)::acc)))
  (hn:∀ n k acc,k≠Vh->body (n,k) acc=pure (.yield acc)) :
  ∀ (names:List (Str×NameKind)) (acc:List (Str×Addr)),(∀ y∈names,y.2=.free->∃ c,env.cells.lookup y.1=some c)->
   (∀ y c,acc.lookup y=some c->env.cells.lookup y=some c)->
   ∃ cl,forIn names acc body=pure cl/\(∀ y c,cl.lookup y=some c->env.cells.lookup y=some c)/\(∀ y,(∃ c,acc.lookup y=some c)->∃ c,cl.lookup y=some c)/\∀ y,(y,Vh)∈names->∃ c,cl.lookup y=some c
 | [],acc,_,ha=>⟨acc,rfl,ha,fun _ h=>h,fun _ h=>by cases h⟩
 | (n,k)::r,acc,h,ha=>by
  by_cases hk:k=Vh
  ·obtain ⟨c,hc⟩:=h (n,k) KZ hk
   obtain ⟨cl,e,h1,h2,h3⟩:=jV body hf hn r ((n,c)::acc) (fun y hy=>h y (K9 _ hy)) (fun y c' e=>by
    rw [Vi] at e
    split at e
    ·rename_i q
     have q':y=n:=by simpa using q
     subst q';cases e;exact hc
    ·exact ha y c' e)
   refine ⟨cl,?_,h1,fun y hy=>h2 y ?_,fun y hy=>?_⟩
   ·rw [List.forIn_cons,hf n k acc c hk hc]
    exact e
   ·obtain ⟨c',e'⟩:=hy
    rw [Vi]
    split
    ·exact ⟨_,rfl⟩
    ·exact ⟨_,e'⟩
   ·rcases Kk.mp hy with q|q
    ·cases q
     exact h2 _ ⟨c,by rw [Vi];simp⟩
    ·exact h3 y q
  ·obtain ⟨cl,e,h1,h2,h3⟩:=jV body hf hn r acc (fun y hy=>h y (K9 _ hy)) ha
   refine ⟨cl,?_,h1,h2,fun y hy=>?_⟩
   ·rw [List.forIn_cons,hn n k acc hk]
    exact e
   ·rcases Kk.mp hy with q|q
    ·cases q;exact absurd rfl hk
    ·exact h3 y q
theorem wz {sc:VE}{env:Env}(h:∀ y∈sc.names,y.2=.free->∃ c,env.cells.lookup y.1=some c) :
  ∃ cl,closureFor sc env=pure cl/\(∀ y c,cl.lookup y=some c->env.cells.lookup y=some c)/\∀ y,(y,Vh)∈sc.names->∃ c,cl.lookup y=some c:=by
 simp only [closureFor]
 obtain ⟨cl,e,h1,_,h3⟩:=jV (env:=env) (fun x cs=>if (x.2==Vh)=true then (do let a ← cellOf env x.1;pure (Xq ((x.1,a)::cs))) else pure (Xq cs)) (fun n k acc c hk hc=>by
   subst hk
   simp only [cellOf,hc,beq_self_eq_true,if_true];rfl) (fun n k acc hk=>by
   have:(k==Vh)=false:=by simpa using hk
   simp only [this,VH,if_false]) sc.names [] h (fun y c e=>by cases e)
 refine ⟨cl,?_,h1,h3⟩
 exact (congrArg (· >>= fun r=>pure r) e).trans rfl
def qO (X:Cx)(N':List Str)(sc:VE)(cl:List (Str×Addr))(C:Ke)(fp:List Ke)(pins:List (Ke×Obj))(s:Kf)(H:Hp):Cx where
 prog:=X.prog
 w:=X.w
 K:=X.K
 mg:=X.mg
 base:=X.base
 A:=X.A
 N:=N'
 s₀:=s
 H₀:=H
 env:=compEnvC sc cl C X.env
 outer:=X.stack
 stack:=X.stack
 ex:=fp
 fn:=fun x=>decide (sc.names.lookup x=some .cell)
 calm:=X.calm
 pn:=X.pn++pins
 xe:=fun _ _=>False
def PTs (X:Cx)(ifs:List Kw)(t:TT):Prop :=
 ∀ (pins:List (Ke×Obj)) (s:Kf) (σ:St) (H:Hp) (Q:Bool->Hp->Prop),Inv X pins σ H s->t σ H Q->
  wpAny (model X.prog X.w) X.A (forIn ifs true fun c r=>if r=true then do let ok ← isTrue c X.env (eval c X.env);pure (Xq ok) else pure (Xq r)) (TP X pins σ Q) X.xe s
def tTru:TT:=fun _ H Q=>Q true H
theorem qiT {X:Cx}:PTs X [] tTru:=fun _ _ _ H _ I h=>wpAny_tests_nil ⟨H,I,h⟩
theorem qiU {X:Cx}{c:Kw}{t:TT}(h:PT X c t):PTs X [c] t:=fun pins s σ H Q I q=>wpAny_tests_one (h pins s σ H Q I q)
theorem thF {α:Type}{t:Sem α}{Q Q':α->Kf->Prop}{M:Model}{A:KG}{E:Kb->Kf->Prop}{s:Kf}(h:wpAny M A t Q (fun _ _=>False) s)(hQ:∀ a s,Q a s->Q' a s):wpAny M A t Q' E s:=Vq h hQ fun _ _ x=>x.elim
theorem qcL {prog:Kt}{w:KF}{A:KG}{R:Result->Kf->Prop}{s:Kf}{elt target iter:Kw}{ifs:List Kw}{scope:VE}{pos:Pos}{it acc:Kb}{env:Env}(I:Nat->Kf->Prop)
  (turn:∀ n s,I n s->wpAny (model prog w) A (pyNext it) (fun r s₁=>match r with
   | none=>R (.ok .next) s₁
   | some v=>wpAny (model prog w) A (letOwnedTupleGo target it v) (fun _ s₁=>wpAny (model prog w) A (assign target env v) (fun _ s₂ =>
     wpAny (model prog w) A (forIn ifs true fun c r=>if r=true then do let ok ← isTrue c env (eval c env);pure (Xq ok) else pure (Xq r)) (fun ok s₃ =>
      if ok=true then wpAny (model prog w) A (eval elt env) (fun x s₄ =>
       wpAny (model prog w) A (call (.builtin "list.append") [acc,x]) (fun _ s₅=>∃ m,m<n/\I m s₅) (notedBy (model prog w) A env fun e s'=>R (.error e) s') s₄) (notedBy (model prog w) A env fun e s'=>R (.error e) s') s₃
      else ∃ m,m<n/\I m s₃) (notedBy (model prog w) A env fun e s'=>R (.error e) s') s₂) (notedBy (model prog w) A env fun e s'=>R (.error e) s') s₁) (notedBy (model prog w) A env fun e s'=>R (.error e) s') s₁) (notedBy (model prog w) A env fun e s'=>R (.error e) s') s)
  (n:Nat) (h:I n s) :
  codeAny (model prog w) A (.compLoop (.ListComp elt [⟨target,iter,ifs,0⟩] scope pos) 0 it acc env) R s:=by
 refine codeAny_loop rfl I (fun n s hI=>?_) n h
 show wpAny _ A ((compTurn (.ListComp elt [⟨target,iter,ifs,0⟩] scope pos) 0 it acc env).onRaise (fun x=>do noteFrame x env;theTreesLotGoes x)) _ _ s
 refine wpAny_noted ?_
 rw [compTurn_list]
 refine Kc (Xm (Kc (Vq (turn n s hI) (fun r s₁ h₁=>?_) fun _ _ h'=>h')))
 cases r with
 | none=>exact Kl h₁
 | some v =>
  refine Kc (Vq h₁ (fun _ s₁' h₁'=>?_) fun _ _ h'=>h')
  refine Kc (Vq h₁' (fun _ s₂ h₂=>Kc (Vq h₂ (fun ok s₃ h₃=>?_) fun _ _ h'=>h')) fun _ _ h'=>h')
  cases ok with
  | false=>exact Kl ⟨rfl,h₃⟩
  | true =>
   exact Kc (Kc (Vq h₃ (fun x s₄ h₄=>Kc (Vq h₄ (fun _ s₅ h₅=>Kl (Kl ⟨rfl,h₅⟩)) fun _ _ h'=>h')) fun _ _ h'=>h'))
structure CompOk (X:Cx)(N':List Str)(k:Nat)(sc:VE):Prop where
 calm:X.calm=true
 kind:sc.kind=.function
 nd:X.N.Nodup
 nd':N'.Nodup
 len:N'.length=X.N.length+k
 cells:∀ y∈sc.names,y.2=.cell->sc.names.lookup y.1=some .cell
 names:∀ y∈sc.names,y.2=.local->sc.names.lookup y.1=some .local
 old:∀ i y,i<X.N.length->N'[i]?=some y->(X.N[i]?=some y/\sc.names.lookup y≠some .local/\sc.names.lookup y≠some .cell)\/sc.names.lookup y=none
 free:∀ y∈sc.names,y.2=.free->X.env.kindOf y.1=some .cell\/X.env.kindOf y.1=some .free
theorem qfK (lo:Nat):∀ (names:List (Str×NameKind)) (h:Kx) (acc:List (Str×Addr)),lo<=h.objs.size->(∀ y c,acc.lookup y=some c->lo<=c->c<h.objs.size)->(∀ y z c,lo<=c->acc.lookup y=some c->acc.lookup z=some c->y=z)->
  (∀ y c,(cellsFrom h.objs.size names acc).lookup y=some c->acc.lookup y=some c\/(h.objs.size<=c/\(pushCells h names).IsCell c none))/\(∀ y,(∃ c,acc.lookup y=some c)->∃ c,(cellsFrom h.objs.size names acc).lookup y=some c)/\
  (∀ y,(y,VL)∈names->∃ c,(cellsFrom h.objs.size names acc).lookup y=some c/\h.objs.size<=c)/\(∀ y,(y,VL)∉names->(cellsFrom h.objs.size names acc).lookup y=acc.lookup y)/\
  ∀ y z c,lo<=c->(cellsFrom h.objs.size names acc).lookup y=some c->(cellsFrom h.objs.size names acc).lookup z=some c->y=z
 | [],h,acc,_,_,inj=>⟨fun _ _ e=>.inl e,fun _ e=>e,(fun _ e=>by cases e),fun _ _=>rfl,inj⟩
 | (name,kind)::r,h,acc,hl,hb,inj=>by
  by_cases hk:kind=.cell
  ·subst hk
   have sz:(h.push { cls:=.type "cell", data:=.cell none }).objs.size=h.objs.size+1:=Uk ..
   have lk:∀ y,Ux y ((name,h.objs.size)::acc)=if y=name then some h.objs.size else acc.lookup y:=fun y=>by
    rw [Vi]
    by_cases q:y=name
    ·rw [if_pos q,beq_iff_eq.mpr q]
    ·rw [if_neg q,beq_eq_false_iff_ne.mpr q]
   obtain ⟨a1,a2,a3,a4,a5⟩:=qfK lo r (h.push { cls:=.type "cell", data:=.cell none }) ((name,h.objs.size)::acc) (by omega) (fun y c e q=>by
     rw [lk] at e
     rw [sz]
     split at e
     ·cases e;exact Nat.lt_succ_self _
     ·exact U0 (hb y c e q)) (fun y z c q e1 e2=>by
     rw [lk] at e1 e2
     split at e1<;>split at e2
     ·rename_i u v;rw [u,v]
     ·cases e1;exact absurd (hb z _ e2 q) (VI _)
     ·cases e2;exact absurd (hb y _ e1 q) (VI _)
     ·exact inj y z c q e1 e2)
   rw [sz] at a1 a2 a3 a4 a5
   have e0:cellsFrom h.objs.size ((name,VL)::r) acc=cellsFrom (h.objs.size+1) r ((name,h.objs.size)::acc):=rfl
   have e1:pushCells h ((name,VL)::r)=pushCells (h.push { cls:=.type "cell", data:=.cell none }) r:=rfl
   rw [e0,e1]
   have b1:∀ y c,(cellsFrom (h.objs.size+1) r ((name,h.objs.size)::acc)).lookup y=some c->acc.lookup y=some c\/(h.objs.size<=c/\(pushCells (h.push { cls:=.type "cell", data:=.cell none }) r).IsCell c none):=fun y c e=>by
    rcases a1 y c e with q|⟨q1,q2⟩
    ·rw [lk] at q
     split at q
     ·cases q
      exact .inr ⟨Ko _,_,EK r _ _ _ (Kv _ rfl),rfl⟩
     ·exact .inl q
    ·exact .inr ⟨by omega,q2⟩
   refine ⟨b1,fun y e=>a2 y ?_,fun y e=>?_,fun y e=>?_,a5⟩
   ·obtain ⟨c,e⟩:=e
    rw [lk]
    split
    ·exact ⟨_,rfl⟩
    ·exact ⟨_,e⟩
   ·rcases Kk.mp e with q|q
    ·cases q
     obtain ⟨c,q⟩:=a2 name ⟨h.objs.size,by rw [lk,if_pos rfl]⟩
     refine ⟨c,q,?_⟩
     rcases a1 name c q with z|z
     ·rw [lk,if_pos rfl] at z;cases z;exact Ko _
     ·omega
    ·obtain ⟨c,q1,q2⟩:=a3 y q
     exact ⟨c,q1,by omega⟩
   ·rw [a4 y fun z=>e (K9 _ z),lk,if_neg fun z=>e (by rw [z];exact KZ)]
  ·have hb':(kind==VL)=false:=beq_eq_false_iff_ne.mpr hk
   have e0:cellsFrom h.objs.size ((name,kind)::r) acc=cellsFrom h.objs.size r acc:=by rw [cellsFrom,hb'];rfl
   have e1:pushCells h ((name,kind)::r)=pushCells h r:=by rw [pushCells,hb'];rfl
   rw [e0,e1]
   obtain ⟨a1,a2,a3,a4,a5⟩:=qfK lo r h acc hl hb inj
   refine ⟨a1,a2,fun y e=>?_,fun y e=>a4 y fun z=>e (K9 _ z),a5⟩
   rcases Kk.mp e with q|q
   ·cases q;exact absurd rfl hk
   ·exact a3 y q
theorem qio {M:Model}{A:KG}{E:Kb->Kf->Prop}{s:Kf}{sc:VE}{gl:Ke}{cl:List (Str×Addr)}{qual:Str}{func:Option Ke}{code:Kb}{env:Env}{bl:Ke}{Q:Env->Kf->Prop}
  (hQ:Q (newEnv sc s.heap.objs.size gl (cellsFrom (s.heap.objs.size+1) sc.names cl) qual func code (some env) bl) { s with heap:=pushCells (s.heap.push { cls:=.type "dict", data:=.dict #[] }) sc.names }) :
  wpAny M A (newFunctionEnv sc gl cl [] qual func code (some env) bl) Q E s:=by
 simp only [newFunctionEnv,Option.isSome_some,if_true]
 refine Kc (wpAny_alloc (Kc (wpAny_layCells _ (fun name kind cells=>by cases hkc:kind==VL<;>simp [hkc]) _ _ _ _ ?_)))
 rw [show ({ s with heap:=s.heap.push { cls:=.type "dict", data:=.dict #[] } }:Kf).heap.objs.size=s.heap.objs.size+1 from Uk ..]
 rw [List.forIn_nil]
 exact Kc (Kl (Kl hQ))
structure ClOk (X:Cx)(sc:VE)(cl:List (Str×Addr))(n:Nat)(h:Kx):Prop where
 old:∀ y c,cl.lookup y=some c->X.env.cells.lookup y=some c\/(n<c/\∃ v,h.IsCell c v)
 free:∀ y,sc.names.lookup y=some .free->∃ c,cl.lookup y=some c/\X.env.cells.lookup y=some c
 cell:∀ y,sc.names.lookup y=some .cell->∃ c,cl.lookup y=some c/\n<c
 inj:∀ y z c,cl.lookup y=some c->cl.lookup z=some c->y=z
def qhd (J:It)(wg:TG)(tt:TT)(te:TE)(W:Nat->Nat->List V->St->Hp->Prop)(i m:Nat)(ys:List V)(σ:St)(H:Hp):Prop :=
 ∀ x H2,J.yld i H x H2->wg x σ H2 fun σ3 H3=>tt σ3 H3 fun b H4=>if b=true then te σ3 H4 fun v H5=>ys.length<sizeLine/\∃ m',m'<m/\W (i+1) m' (ys++[v]) σ3 H5
  else ∃ m',m'<m/\W (i+1) m' ys σ3 H4
def qhe (k:Nat)(J:It)(wg:TG)(tt:TT)(te:TE)(σ:St)(H:Hp)(Q:VK):Prop :=
 ∃ W:Nat->Nat->List V->St->Hp->Prop,(∃ m,W 0 m [] (σ++Vn k none) H)/\∀ i m ys σ' H',W i m ys σ' H'->
  (J.stop i H'/\∀ D,H' D=none->Q (.ref D) (upd H' D (.lst ys)))\/(J.go i H'/\qhd J wg tt te W i m ys σ' H')
def qco (k:Nat)(wi:TI)(wg:TG)(tt:TT)(te:TE):TE:=fun σ H Q=>wi σ H fun J H1=>qhe k J wg tt te σ H1 Q
theorem Qv {env:Env}:∀ {names:List (Str×NameKind)} {x:Str} {k:Ep},
  (names.map fun (n,k)=>if (k==Vh&&env.scope.kind==.function&&env.kindOf n==some .cell) then (n,VL) else (n,k)).lookup x=some k->
   (names.lookup x=some k)\/(k=.cell/\names.lookup x=some .free)
 | [],_,_,h=>by simp at h
 | (n,k')::r,x,k,h=>by
  have h':Ux x ((if (k'==Vh&&env.scope.kind==.function&&env.kindOf n==some .cell)=true then (n,VL) else (n,k'))::(r.map fun (n,k)=>if (k==Vh&&env.scope.kind==.function&&env.kindOf n==some .cell) then (n,VL) else (n,k)))=some k:=h
  have ih:=@Qv env r x k
  cases hx:x==n with
  | true =>
   by_cases hc:(k'==Vh&&env.scope.kind==.function&&env.kindOf n==some .cell)=true
   ·rw [if_pos hc] at h'
    simp only [Vi,hx] at h' ⊢
    cases h'
    have:k'=.free:=by
     rw [Ks,Ks] at hc
     simpa using hc.1.1
    subst this
    exact .inr ⟨rfl,rfl⟩
   ·rw [if_neg hc] at h'
    simp only [Vi,hx] at h' ⊢
    exact .inl h'
  | false =>
   by_cases hc:(k'==Vh&&env.scope.kind==.function&&env.kindOf n==some .cell)=true
   ·rw [if_pos hc] at h'
    simp only [Vi,hx] at h' ⊢
    exact ih h'
   ·rw [if_neg hc] at h'
    simp only [Vi,hx] at h' ⊢
    exact ih h'
section
variable {X:Cx}{elt iter:Kw}{ifs:List Kw}{tg:Kw}{N':List Str}{sc:VE}{pos:Pos}{wi:TI}{wg:TG}{tt:TT}{te:TE}{k:Nat}
theorem qfN {pins:List (Ke×Obj)}{σ:St}{H:Hp}{s s':Kf}{cl:List (Str×Addr)}{fp:List Ke}{m:Str->Option Kb}(O:CompOk X N' k sc)(I:Inv X pins σ H s)(cK:ClOk X sc cl s.heap.objs.size s'.heap)
  (hf:∀ b∈fp,FpOk X pins H b) (hlt:∀ b∈fp,b<s.heap.objs.size) (hos:s'.os=s.os) (hg:s'.gens=s.gens) (hk:∀ b o,s.heap.get? b=some o->s'.heap.get? b=some o) (hns:s'.heap.Ns s.heap.objs.size m) :
  Inv (qO X N' sc cl s.heap.objs.size fp pins s H) [] (σ++Vn k none) H s':=by
 have stk:∀ b,b≠X.env.locals->b∉X.fs->b∉frs X.stack:=fun b h1 h2 hb=>by
  rcases Kk.mp (I.stkSub b hb) with z|z
  ·exact h1 z
  ·exact h2 z
 have hr:∀ {y:Str},(relabel sc X.env).names.lookup y=some .cell\/(relabel sc X.env).names.lookup y=some .free->sc.names.lookup y=some .free\/sc.names.lookup y=some .cell:=fun {y} h=>by
  rcases h with h|h
  ·rcases Qv h with q|q
   ·exact .inr q
   ·exact .inl q.2
  ·rcases Qv h with q|q
   ·exact .inl q
   ·exact .inl q.2
 refine ⟨⟨I.ok.mod,O.kind,I.ok.glob,I.ok.blt,Ko _,cK.inj,fun y hy=>?_,fun y c z e=>?_,I.ok.hd,I.ok.frames,.inl rfl,fun b hb=>?_,I.bs,Vs I.ok.bsz I.sz,fun b o e hb=>?_,fun b hb=>?_,I.stack,I.stkFree⟩,
  hos,?_,Un.kept hk,⟨m,hns,fun i y v h1 h2 h3=>?_⟩,fun y c h=>?_,I.hok.fresh (Ko _),fun y c h=>(cK.old y c h).elim (I.freeC y c) fun z=>I.hok.fresh (VM z.1),fun p hp=>?_,I.hok.kept hk,?_⟩
 ·rcases hr hy with q|q
  ·obtain ⟨c,e,_⟩:=cK.free y q;exact ⟨c,e⟩
  ·obtain ⟨c,e,_⟩:=cK.cell y q;exact ⟨c,e⟩
 ·obtain ⟨c',e',q⟩:=cK.cell y (of_decide_eq_true z)
  have e:cl.lookup y=some c:=e
  rw [e'] at e;cases e
  exact VM q
 ·have q:=hf b hb
  exact ⟨KR (hlt b hb),fun z c e=>(cK.old z c e).elim (q.2.2.2.2.1 z c) fun w=>Uy (X0 (hlt b hb) w.1)⟩
 ·have hb':b∈fp:=hb
  rcases (hf b hb').2.2.2.1 with z|z
  ·exact I.ok.noex b o e z
  ·exact absurd (KB (Ku (I.ok.bs b o e).1) z) (VI _)
 ·exact stk b (hf b hb).2.1 (hf b hb).2.2.1
 ·rw [hg];exact I.bare
 ·have hl:=I.len
  have hi:i<X.N.length:=by
   by_cases hi:i<X.N.length
   ·exact hi
   ·rw [Ut (by omega)] at h2
    have:=UG (a:=(none:Option V)) (n:=k) (i:=i-σ.length)
    rw [this] at h2
    split at h2<;>cases h2
  have h1':X.N[i]?=some y/\sc.names.lookup y≠some .local/\sc.names.lookup y≠some .cell:=by
   rcases O.old i y hi h1 with q|q
   ·exact q
   ·have no:∀ kk,(relabel sc X.env).names.lookup y≠some kk:=fun kk z=>by
     rcases Qv z with w|w
     ·rw [q] at w;cases w
     ·rw [q] at w;cases w.2
    rcases h3 with h3|h3|h3
    ·exact absurd h3 (no _)
    ·exact absurd h3 (no _)
    ·exact absurd h3 (no _)
  obtain ⟨h1',h1n,h1c⟩:=h1'
  have h2':σ[i]?=some (some v):=by
   rw [VF (by omega)] at h2
   exact h2
  have key:sc.names.lookup y=some .free/\((relabel sc X.env).names.lookup y=some .cell\/(relabel sc X.env).names.lookup y=some .free):=by
   rcases h3 with h3|h3|h3
   ·rcases Qv h3 with q|q
    ·exact absurd q h1n
    ·cases q.1
   ·exact ⟨(hr (.inl h3)).resolve_right h1c,.inl h3⟩
   ·exact ⟨(hr (.inr h3)).resolve_right h1c,.inr h3⟩
  obtain ⟨q,kd⟩:=key
  have mem:=V8 q
  have kx:=O.free _ mem rfl
  obtain ⟨m0,hn,hl'⟩:=I.loc
  obtain ⟨u,r,l⟩:=hl' i y v h1' h2' (by rcases kx with z|z;exact .inr (.inl z);exact .inr (.inr z))
  rcases l with ⟨l,_⟩|⟨_,c,e,z⟩
  ·rcases kx with z|z
   ·rw [l] at z;cases z
   ·rw [l] at z;cases z
  ·obtain ⟨c',e',e2⟩:=cK.free y q
   rw [e] at e2;cases e2
   obtain ⟨o,ho,hd⟩:=z
   exact ⟨u,r,.inr ⟨kd,c,e',o,hk _ _ ho,hd⟩⟩
 ·rcases cK.old y c h with z|z
  ·obtain ⟨v,o,ho,hd⟩:=I.cell y c z
   exact ⟨v,o,hk _ _ ho,hd⟩
  ·exact z.2
 ·have hp':p∈X.pn++pins:=by
   rcases Vv.mp hp with z|z
   ·exact z
   ·cases z
  obtain ⟨e,n,ne,nf,d⟩:=I.pin p hp'
  exact ⟨hk _ _ e,n,KR (Ku e),stk p.1 ne nf,d⟩
 ·show (σ++Vn k none).length=N'.length
  rw [Kp,VY,I.len,O.len]
theorem comp_back {pins:List (Ke×Obj)}{σ σ':St}{H H':Hp}{s s1:Kf}{cl:List (Str×Addr)}{fp:List Ke}{C:Ke}(I:Inv X pins σ H s)(hf:∀ b∈fp,FpOk X pins H b)
  (J:Inv (qO X N' sc cl C fp pins s H) [] σ' H' s1):Inv X pins σ H' s1 :=
 I.call' (ch:=fp) J.os J.base J.hok J.bare fun b hb=>⟨(hf b hb).2.2.2.1,(hf b hb).2.1,(hf b hb).2.2.2.2.1,(hf b hb).2.2.2.2.2⟩
theorem Inv.track {pins:List (Ke×Obj)}{σ:St}{H:Hp}{s:Kf}{D:Ke}{o:HO}(I:Inv X pins σ H s)(hn:H D=none)(hL:D≠X.env.locals)(h1:D∈X.ex\/X.s₀.heap.objs.size<=D)(h2:∀ x c,X.env.cells.lookup x=some c->c≠D)(h3:∀ p∈X.pn++pins,p.1≠D)
  (ok:zM X.prog X.w (upd H D o) s.heap D o):Inv X pins σ (upd H D o) s:=by
 have ne:∀ b u,H b=some u->b≠D:=fun b u e=>qW e hn
 exact I.step (g':=s.gens) (d':=s.drawn) (t':=s.toks) (ch:=[D]) (h':=s.heap) (fun b hb=>by
   have e:b=D:=by simpa using hb
   subst e
   exact ⟨h1,hL,h2,h3⟩) (fun b o _ _ _ e _=>e) (fun b o _ _ _ e _=>⟨o.slots,e⟩) (fun b o hc e n=>by rw [qD (fun z=>hc (by simp [z]))];exact n) (fun b o _ e=>⟨o,e⟩)
  (fun b xs e=>by rw [qD (ne b _ e)];exact e) (fun b o u e=>by rw [qD (ne b _ e)];exact e) (fun b ps e=>⟨#[],by rw [qD (ne b _ e),e];simp⟩) (fun m hm=>hm) (fun b u e=>by
   by_cases hb:b=D
   ·subst hb;rw [qF] at e;cases e;exact ok
   ·rw [qD hb] at e
    exact (I.hok b u e).stay (fun c v _ q=>q) (fun c q=>by rw [qD (ne c _ q)];exact q) fun c xs q=>by rw [qD (ne c _ q)];exact q) I.bare
theorem qev {pins:List (Ke×Obj)}{σ:St}{H:Hp}{s s':Kf}{cl:List (Str×Addr)}{fp:List Ke}{m:Str->Option Kb}{it D:Ke}{tn:Nat->Kx->Prop}{J:It}{R:Result->Kf->Prop}{Qd:List V->Hp->Prop}(O:CompOk X N' k sc)
  (I:Inv X pins σ H s) (cK:ClOk X sc cl s.heap.objs.size s'.heap) (hf:∀ b∈D::fp,FpOk X pins H b) (hlt:∀ b∈D::fp,b<s.heap.objs.size)
  (hos:s'.os=s.os) (hg:s'.gens=s.gens) (hk:∀ b o,s.heap.get? b=some o->s'.heap.get? b=some o) (hns:s'.heap.Ns s.heap.objs.size m)
  (T:Turn X.prog X.w X.K tg J fp it tn) (hDf:D∉fp) (st:tn 0 s'.heap) (hD:s'.heap.PlainList D #[])
  (pg:PG (qO X N' sc cl s.heap.objs.size (D::fp) pins s H) tg wg) (hq:PTs (qO X N' sc cl s.heap.objs.size (D::fp) pins s H) ifs tt) (he:PE (qO X N' sc cl s.heap.objs.size (D::fp) pins s H) elt te)
  (W:Nat->Nat->List V->St->Hp->Prop) (m0:Nat) (w0:W 0 m0 [] (σ++Vn k none) H) (turn:∀ i m ys σ' H',W i m ys σ' H'->(J.stop i H'/\Qd ys H')\/(J.go i H'/\qhd J wg tt te W i m ys σ' H'))
  (fin:∀ s1 H1 σ1 (ys:List V) (its:List Kb),Inv (qO X N' sc cl s.heap.objs.size (D::fp) pins s H) [] σ1 H1 s1->H1 D=none->s1.heap.PlainList D its.toArray->Vals ys its->ys.length<=sizeLine->Qd ys H1->R (.ok .next) s1) :
  codeAny (model X.prog X.w) X.A (.compLoop (.ListComp elt [⟨tg,iter,ifs,0⟩] sc pos) 0 (.ref it) (.ref D) (compEnvC sc cl s.heap.objs.size X.env)) R s':=by
 have I0:Inv (qO X N' sc cl s.heap.objs.size (D::fp) pins s H) [] (σ++Vn k none) H s':=qfN O I cK hf hlt hos hg hk hns
 have stk:∀ b,b≠X.env.locals->b∉X.fs->b∉frs X.stack:=fun b h1 h2 hb=>by
  rcases Kk.mp (I.stkSub b hb) with z|z
  ·exact h1 z
  ·exact h2 z
 have stat:∀ {H':Hp},(∀ b∈D::fp,H' b=none)->∀ b∈D::fp,FpOk (qO X N' sc cl s.heap.objs.size (D::fp) pins s H) [] H' b:=fun hn b hb =>
  ⟨hn b hb,KR (hlt b hb),stk b (hf b hb).2.1 (hf b hb).2.2.1,.inl hb,fun z c e=>(cK.old z c e).elim ((hf b hb).2.2.2.2.1 z c) fun w=>Uy (X0 (hlt b hb) w.1),fun p hp=>by
   have hp':p∈X.pn++pins:=by
    rcases Vv.mp hp with z|z
    ·exact z
    ·cases z
   exact (hf b hb).2.2.2.2.2 p hp'⟩
 have statF:∀ {H':Hp},(∀ b∈D::fp,H' b=none)->∀ b∈fp,FpOk (qO X N' sc cl s.heap.objs.size (D::fp) pins s H) [] H' b:=fun hn b hb=>stat hn b (K9 _ hb)
 refine qcL (fun kk s1=>∃ i ys its σ' H',Inv (qO X N' sc cl s.heap.objs.size (D::fp) pins s H) [] σ' H' s1/\tn i s1.heap/\(∀ b∈D::fp,H' b=none)/\s1.heap.PlainList D its.toArray/\Vals ys its/\ys.length<=sizeLine/\W i kk ys σ' H') ?_ m0 ⟨0,[],[],σ++Vn k none,H,I0,st,fun b hb=>(hf b hb).1,hD,.nil,Vc _,w0⟩
 rintro kk s3 ⟨i,ys,its,σ3,H3,I3,st3,fr3,pl3,rv3,hz3,w3⟩
 rcases turn i kk ys σ3 H3 w3 with ⟨stop,qn⟩|⟨go,step⟩
 ·have J3:=I3.pinned (fp:=[D]) (fun b hb=>by
   have e:b=D:=by simpa using hb
   subst e
   exact stat fr3 b KZ) (fun b hb=>by
   have e:b=D:=by simpa using hb
   subst e
   obtain ⟨n,e⟩:=pl3
   exact ⟨_,e,fun v z=>by cases z⟩)
  have fpo:∀ b∈fp,FpOk (qO X N' sc cl s.heap.objs.size (D::fp) pins s H) ([]++Zj [D] s3.heap) H3 b:=fun b hb=>by
   obtain ⟨a1,a2,a3,a4,a5,a6⟩:=statF fr3 b hb
   refine ⟨a1,a2,a3,a4,a5,fun p hp=>?_⟩
   rcases Vv.mp hp with z|z
   ·exact a6 p (Ui _ z)
   ·have z':p∈Zj [D] s3.heap:=by simpa using z
    have:=(yV z').1
    have e:p.1=D:=by simpa using this
    rw [e]
    intro z2
    subst z2
    exact hDf hb
  refine thn (T.done (qO X N' sc cl s.heap.objs.size (D::fp) pins s H) rfl rfl rfl O.calm i _ s3 σ3 H3 _ J3 fpo st3 stop) fun r s4 ⟨hr,I4⟩=>?_
  subst hr
  obtain ⟨n,e⟩:=pl3
  have e4:=(I4.pin (D,_) (K4 _ (K4 _ (Q8 (by simp) e)))).1
  exact fin s4 H3 σ3 ys its I4.unpinned (fr3 D KZ) ⟨n,e4⟩ rv3 hz3 qn
 ·have J3:=I3.pinned (fp:=[D]) (fun b hb=>by
   have e:b=D:=by simpa using hb
   subst e
   exact stat fr3 b KZ) (fun b hb=>by
   have e:b=D:=by simpa using hb
   subst e
   obtain ⟨n,e⟩:=pl3
   exact ⟨_,e,fun v z=>by cases z⟩)
  have fpo:∀ {H':Hp},(∀ b∈fp,H' b=none)->∀ b∈fp,FpOk (qO X N' sc cl s.heap.objs.size (D::fp) pins s H) ([]++Zj [D] s3.heap) H' b:=fun {H'} hn b hb=>by
   obtain ⟨_,a2,a3,a4,a5,a6⟩:=statF fr3 b hb
   refine ⟨hn b hb,a2,a3,a4,a5,fun p hp=>?_⟩
   rcases Vv.mp hp with z|z
   ·exact a6 p (Ui _ z)
   ·have z':p∈Zj [D] s3.heap:=by simpa using z
    have:=(yV z').1
    have e:p.1=D:=by simpa using this
    rw [e]
    intro z2
    subst z2
    exact hDf hb
  refine thn (T.item (qO X N' sc cl s.heap.objs.size (D::fp) pins s H) rfl rfl rfl O.calm i _ s3 σ3 H3 _ J3 (fpo fun b hb=>fr3 b (K9 _ hb)) st3 go) fun r s4 ⟨u,hr,h4⟩=>?_
  subst hr
  refine thn h4 fun _ s5 ⟨y,H5,I5,r5,y5,st5,fr5⟩=>?_
  have I5':=I5.pinned (fpo fr5) (T.obj _ _ st5)
  have step':=step y H5 y5
  obtain ⟨n3,e3⟩:=pl3
  have dpin:∀ {σ7:St} {H7:Hp} {s7:Kf},Inv (qO X N' sc cl s.heap.objs.size (D::fp) pins s H) ([]++Zj [D] s3.heap++Zj fp s5.heap) σ7 H7 s7->s7.heap.get? D=some { cls:=.type "list", data:=.seq its.toArray n3 }/\H7 D=none:=fun {σ7 H7 s7} I7=>by
   have q:=I7.pin (D,_) (K4 _ (Ui _ (K4 _ (Q8 (by simp) e3))))
   exact ⟨q.1,q.2.1⟩
  have tkeep:∀ {σ7:St} {H7:Hp} {s7:Kf},Inv (qO X N' sc cl s.heap.objs.size (D::fp) pins s H) ([]++Zj [D] s3.heap++Zj fp s5.heap) σ7 H7 s7->tn (i+1) s7.heap/\∀ b∈D::fp,H7 b=none:=fun {σ7 H7 s7} I7=>by
   refine ⟨T.keep _ _ _ st5 fun b hb o e=>(I7.pin (b,o) (K4 _ (K4 _ (Q8 hb e)))).1,fun b hb=>?_⟩
   rcases Kk.mp hb with rfl|hb
   ·exact (dpin I7).2
   ·obtain ⟨o,e,d⟩:=T.obj _ _ st5 b hb
    exact (I7.pin (b,o) (K4 _ (K4 _ (Q8 hb e)))).2.1
  refine thF (pg _ s5 σ3 H5 y u _ I5' r5 step') fun _ s6 ⟨σ6,H6,I6,step6⟩=>?_
  refine thF (hq _ s6 _ H6 _ I6 step6) fun b s7 ⟨H7,I7,q7⟩=>?_
  cases b with
  | false =>
   simp only [VH,if_false] at q7 ⊢
   obtain ⟨m',hm,w8⟩:=q7
   obtain ⟨t8,f8⟩:=tkeep I7
   exact ⟨m',hm,i+1,ys,its,_,H7,I7.unpinned.unpinned,t8,f8,⟨n3,(dpin I7).1⟩,rv3,hz3,w8⟩
  | true =>
   simp only [if_true] at q7 ⊢
   refine thF (he _ s7 _ H7 _ I7 q7) fun v s8 ⟨vv,H8,I8,r8,hz,m',hm,w8⟩=>?_
   have hlen:=rv3.length
   refine wpAny_list_append_plain ⟨n3,(dpin I8).1⟩ (fun h9 pl9 sb9=>?_) (by rw [KA];omega)
   obtain ⟨t8,f8⟩:=tkeep I8
   have st8:=stat f8 D KZ
   have I9:Inv (qO X N' sc cl s.heap.objs.size (D::fp) pins s H) [] σ6 H8 { s8 with heap:=h9 } :=
    I8.unpinned.unpinned.turned (t':=s8.toks) (fun b o hb e=>(sb9.2 b hb).trans e) st8.1 st8.2.1 st8.2.2.2.1 st8.2.2.2.2.1 st8.2.2.2.2.2
   refine ⟨m',hm,i+1,ys++[vv],its++[v],_,H8,I9,T.keep _ _ _ t8 fun b hb o e=>(sb9.2 b (fun z=>hDf (z ▸ hb))).trans e,f8,by simpa using pl9,rv3.append (.cons r8 .nil),?_,w8⟩
   rw [Kp,Ky]
   omega
theorem wF {E:Kb->Kf->Prop}{pins:List (Ke×Obj)}{σ:St}{H:Hp}{s:Kf}{cl:List (Str×Addr)}{fp:List Ke}{it:Ke}{tn:Nat->Kx->Prop}{J:It}{RR:Kb->Ke->Result->Kf->Prop}{Qd:V->Hp->Prop}(O:CompOk X N' k sc)
  (I:Inv X pins σ H s) (hcl1:∀ y c,cl.lookup y=some c->X.env.cells.lookup y=some c) (hcl2:∀ y,(y,Vh)∈sc.names->∃ c,cl.lookup y=some c) (hf:∀ b∈fp,FpOk X pins H b)
  (T:Turn X.prog X.w X.K tg J fp it tn) (st:tn 0 s.heap)
  (hg:∀ cl C fp pins s H,PG (qO X N' sc cl C fp pins s H) tg wg) (hq:∀ cl C fp pins s H,PTs (qO X N' sc cl C fp pins s H) ifs tt) (he:∀ cl C fp pins s H,PE (qO X N' sc cl C fp pins s H) elt te)
  (turn:qhe k J wg tt te σ H Qd)
  (fin:∀ D C s1 H1 m,Inv X pins σ H1 s1->s1.heap.Ns C m->H1 C=none->C≠X.env.locals->(X.s₀.heap.objs.size<=C)->(∀ z c,X.env.cells.lookup z=some c->c≠C)->(∀ p∈X.pn++pins,p.1≠C)->Qd (.ref D) H1->RR (.ref D) C (.ok .next) s1) :
  wpAny (model X.prog X.w) X.A (newList []) (fun acc s₃=>wpAny (model X.prog X.w) X.A (newFunctionEnv sc X.env.globals cl [] X.env.qual none .none (some X.env)) (fun cenv s₄ =>
   codeAny (model X.prog X.w) X.A (.compStart (.ListComp elt [⟨tg,iter,ifs,0⟩] sc pos) 0 (.ref it) acc { cenv with scope:=relabel sc X.env }) (RR acc cenv.locals) s₄) E s₃) E s:=by
 refine Vy (qio ?_)
 dsimp only
 have hD:=I.hok.fresh (Ko s.heap.objs.size)
 have I3:Inv X pins σ H { s with heap:=s.heap.push { cls:=.type "list", dict:=none,data:=.seq ([]:List Kb).toArray } } :=
  I.kept (t':=s.toks) (fun b u e=>Ki _ e)
 have fpl:∀ b∈fp,b<s.heap.objs.size:=fun b hb=>by
  obtain ⟨o,e,_⟩:=T.obj _ _ st b hb
  exact Ku e
 have fD:FpOk X pins H s.heap.objs.size:=I.fpOk (Ko _) hD
 have hf3:∀ b∈s.heap.objs.size::fp,FpOk X pins H b:=fun b hb=>by
  rcases Kk.mp hb with rfl|hb
  ·exact fD
  ·exact hf b hb
 have eD:(s.heap.push { cls:=.type "list", dict:=none,data:=.seq ([]:List Kb).toArray }).get? s.heap.objs.size=some { cls:=.type "list", dict:=none,data:=.seq ([]:List Kb).toArray }:=Kv _ rfl
 generalize hH2:s.heap.push { cls:=.type "list", dict:=none,data:=.seq ([]:List Kb).toArray }=H2 at I3 eD ⊢
 have hC:H2.objs.size=s.heap.objs.size+1:=by rw [← hH2,Uk]
 have sz2:(H2.push { cls:=.type "dict", data:=.dict #[] }).objs.size=H2.objs.size+1:=Uk ..
 obtain ⟨a1,a2,a3,a4,a5⟩:=qfK H2.objs.size sc.names (H2.push { cls:=.type "dict", data:=.dict #[] }) cl (by omega) (fun y c e q=>by
  obtain ⟨v,z⟩:=I3.cell y c (hcl1 y c e)
  exact KB z.lt (by rw [sz2];exact UQ _)) (fun y z c q e1 e2=>I3.ok.inj y z c (hcl1 _ _ e1) (hcl1 _ _ e2))
 rw [sz2] at a1 a2 a3 a4 a5
 generalize hcl':cellsFrom (H2.objs.size+1) sc.names cl=cl' at a1 a2 a3 a4 a5 ⊢
 have old3:∀ b o,H2.get? b=some o->(pushCells (H2.push { cls:=.type "dict", data:=.dict #[] }) sc.names).get? b=some o:=fun b o e=>EK _ _ _ _ (Ki _ e)
 have hns₁:(pushCells (H2.push { cls:=.type "dict", data:=.dict #[] }) sc.names).Ns H2.objs.size (fun _=>none):=(Heap.Ns.new H2 (.type "dict")).keeps (EK _ _)
 have cK:ClOk X sc cl' H2.objs.size (pushCells (H2.push { cls:=.type "dict", data:=.dict #[] }) sc.names):=by
  have fr:∀ y,sc.names.lookup y=some .free->∃ c,cl'.lookup y=some c/\X.env.cells.lookup y=some c:=fun y e=>by
   obtain ⟨c,q⟩:=hcl2 y (V8 e)
   refine ⟨c,?_,hcl1 y c q⟩
   rw [a4 y fun z=>by have:=O.cells _ z rfl;rw [e] at this;cases this]
   exact q
  have ol:∀ y c,cl'.lookup y=some c->X.env.cells.lookup y=some c\/(H2.objs.size<c/\∃ v,(pushCells (H2.push { cls:=.type "dict", data:=.dict #[] }) sc.names).IsCell c v):=fun y c e=>by
   rcases a1 y c e with z|⟨z1,z2⟩
   ·exact .inl (hcl1 y c z)
   ·exact .inr ⟨by omega,none,z2⟩
  refine ⟨ol,fr,fun y e=>?_,fun y z c e1 e2=>?_⟩
  ·obtain ⟨c,q1,q2⟩:=a3 y (V8 e)
   exact ⟨c,q1,by omega⟩
  ·by_cases hc:H2.objs.size<=c
   ·exact a5 y z c hc e1 e2
   ·rcases ol y c e1 with q|q
    ·rcases ol z c e2 with r|r
     ·exact I3.ok.inj y z c q r
     ·omega
    ·omega
 generalize pushCells (H2.push { cls:=.type "dict", data:=.dict #[] }) sc.names=h₁ at *
 have old2:∀ b o,s.heap.get? b=some o->H2.get? b=some o:=fun b o e=>hH2 ▸ Ki _ e
 obtain ⟨W,⟨m0,w0⟩,tr⟩:=turn
 have st1:tn 0 h₁:=T.keep _ _ _ st fun b _ o e=>old3 b o (old2 b o e)
 have loop:codeAny (model X.prog X.w) X.A (.compLoop (.ListComp elt [⟨tg,iter,ifs,0⟩] sc pos) 0 (.ref it) (.ref s.heap.objs.size) (compEnvC sc cl' H2.objs.size X.env)) (RR (.ref s.heap.objs.size) H2.objs.size)
   { s with heap:=h₁ }:=by
  refine qev (s:={ s with heap:=H2 }) (s':={ s with heap:=h₁ }) (Qd:=fun ys H'=>∀ D,H' D=none->Qd (.ref D) (upd H' D (.lst ys))) O I3 cK hf3 (fun b hb=>?_) rfl rfl old3 hns₁ T (fun z=>VI _ (fpl _ z)) st1 ⟨0,old3 _ _ eD⟩ (hg _ _ _ _ _ _) (hq _ _ _ _ _ _) (he _ _ _ _ _ _) W m0 w0 tr ?_
  ·show b<H2.objs.size
   rw [hC]
   rcases Kk.mp hb with hb|hb
   ·rw [hb];exact Nat.lt_succ_self _
   ·exact U0 (fpl b hb)
  intro s1 H1 σ1 ys its J1 hD1 pl1 rv1 hz1 q1
  obtain ⟨m,hn1,_⟩:=J1.loc
  obtain ⟨n1,e1⟩:=pl1
  have I4:=(comp_back I3 hf3 J1).track (D:=s.heap.objs.size) (o:=.lst ys) hD1 fD.2.1 fD.2.2.2.1 fD.2.2.2.2.1 fD.2.2.2.2.2 ⟨hz1,its,n1,rv1,e1⟩
  refine fin _ _ s1 _ m I4 hn1 (by rw [qD (by show H2.objs.size≠s.heap.objs.size;omega)];exact J1.free) (Uy I3.lt) I3.sz (fun z c e h=>?_) (fun p hp h=>?_) (q1 _ hD1)
  ·obtain ⟨v,q⟩:=I3.cell z c e
   have:=q.lt
   rw [h] at this
   exact VI _ this
  ·have:=Ku (I3.pin p hp).1
   rw [h] at this
   exact VI _ this
 exact codeAny_compStart_list loop (T.self _ 0 _ _ _ st1 loop)
theorem qiJ (O:CompOk X N' k sc)(hi:PI X tg iter wi)(hg:∀ cl C fp pins s H,PG (qO X N' sc cl C fp pins s H) tg wg)(hq:∀ cl C fp pins s H,PTs (qO X N' sc cl C fp pins s H) ifs tt)(he:∀ cl C fp pins s H,PE (qO X N' sc cl C fp pins s H) elt te)
  (hs:∀ v,foldedSetIterable iter X.env v=pure v:=by intro _;rfl):PE X (.ListComp elt [⟨tg,iter,ifs,0⟩] sc pos) (qco k wi wg tt te):=by
 intro pins s σ H Q I h
 rw [eval_ListComp]
 obtain ⟨cl,hcl,hcl1,hcl2⟩:=wz (sc:=sc) (env:=X.env) (fun y hy hf=>I.ok.has y.1 (O.free y hy hf))
 refine wpAny_comprehension_free (use:=none) rfl hs hcl O.kind O.names ?_
 refine thn (hi pins s σ H _ I h) fun v s1 h1=>thn h1 fun itv s2 h2=>?_
 obtain ⟨it,fp,tn,J,H2,e,I2,T,st2,f2,q⟩:=h2
 subst e
 refine wF (RR:=fun acc C=>compPost (model X.prog X.w) X.A X.xe none (EP X pins σ Q) acc C) (Qd:=Q) O I2 hcl1 hcl2 f2 T st2 hg hq he q ?_
 intro D C s3 H3 m I3 hn3 hC3 hL hsz hcl3 hp3 q3
 exact ⟨m,hn3,fun h' sb=>⟨.ref D,H3,I3.turned (t':=s3.toks) (fun b o hb e=>(sb.2 b hb).trans e) hC3 hL (.inr hsz) hcl3 hp3,rfl,q3⟩⟩
theorem qiP {j:Nat}{y:Str}{py spos:Pos}(O:CompOk X N' k sc)(hj:X.N[j]?=some y)(hy:X.env.scope.names.lookup y=some .local)(hi:PI X tg iter wi)(hg:∀ cl C fp pins s H,PG (qO X N' sc cl C fp pins s H) tg wg)(hq:∀ cl C fp pins s H,PTs (qO X N' sc cl C fp pins s H) ifs tt)(he:∀ cl C fp pins s H,PE (qO X N' sc cl C fp pins s H) elt te)
  (hsw:swapsWith (.ListComp elt [⟨tg,iter,ifs,0⟩] sc pos) (some (.Name y py)) spos.line X.env=pure true:=by rfl)
  (hs:∀ v,foldedSetIterable iter X.env v=pure v:=by intro _;rfl):PS X (.Assign [.Name y py] (.ListComp elt [⟨tg,iter,ifs,0⟩] sc pos) spos) (tAsg (qco k wi wg tt te) (qdE j)):=by
 intro pins s σ H D I h
 rw [exec_Assign_Name_used _ _ _ _ hsw]
 refine Kc (Xm (Kc ?_))
 show wpAny _ X.A (do let _ ← comprehension (.ListComp elt [⟨tg,iter,ifs,0⟩] sc pos) sc X.env _ (newList []) false (eval iter X.env) (some (assign (.Name y py) X.env))) _ _ s
 obtain ⟨cl,hcl,hcl1,hcl2⟩:=wz (sc:=sc) (env:=X.env) (fun y hy hf=>I.ok.has y.1 (O.free y hy hf))
 refine Kc (Vq (wpAny_comprehension_free (use:=some (assign (.Name y py) X.env)) (Q:=fun _ s'=>SP X pins D .next s') rfl hs hcl O.kind O.names ?_) (fun _ s' hq=>Kl (Kl hq)) fun _ _ e=>e)
 refine thn (hi pins s σ H _ I h) fun v s1 h1=>thn h1 fun itv s2 h2=>?_
 obtain ⟨it,fp,tn,J,H2,e,I2,T,st2,f2,q⟩:=h2
 subst e
 refine wF (RR:=fun acc C=>compPost (model X.prog X.w) X.A X.xe (some (assign (.Name y py) X.env)) (fun _ s'=>SP X pins D .next s') acc C) (Qd:=fun x H1=>qdE j x σ H1 D.nx) O I2 hcl1 hcl2 f2 T st2 hg hq he q ?_
 intro B C s3 H3 m I3 hn3 hC3 hL hsz hcl3 hp3 q3
 refine wpAny_assign_Name (qaw I3 O.nd hj (.inl hy) (v:=.ref B) rfl (fun s4 I4 ⟨a,sb,ha⟩=>?_) (.inr hy))
 have hCa:C≠a:=by
  rcases ha with ha|ha
  ·rw [ha];exact hL
  ·exact VU (hcl3 _ _ ha)
 refine ⟨m,hn3.sameBut sb hCa,fun h' sb'=>⟨_,H3,I4.turned (t':=s4.toks) (fun b o hb e=>(sb'.2 b hb).trans e) hC3 hL (.inr hsz) hcl3 hp3,q3⟩⟩
end
abbrev K2:=List (Int ⊕ List Int)
def k2D (k:Int ⊕ List Int):Ka:=match k with
 | .inl i=>.int i
 | .inr js=>.tuple (js.map .int)
def k2T (ks:K2):Ka:=.tuple (ks.map k2D)
def k2H (k:Int ⊕ List Int):Int:=match k with
 | .inl i=>hashInt i
 | .inr js=>reduceHash (Vx (js.map hashInt))
def k2N (k:Int ⊕ List Int):Nat:=match k with
 | .inl _=>1
 | .inr js=>js.length+1
theorem Yz:∀ {a b:List Int},a.map KU=b.map KU->a=b
 | [],[],_=>rfl
 | [],_::_,e=>by simp at e
 | _::_,[],e=>by simp at e
 | x::xs,y::ys,e=>by
  rw [Km,Km] at e
  injection e with e1 e2
  injection e1 with e1
  rw [e1,Yz e2]
theorem qh8 {a b:Int ⊕ List Int}(e:k2D a=k2D b):a=b:=by
 cases a with
 | inl i=>cases b with
  | inl j=>injection (show KU i=KU j from e) with e;rw [e]
  | inr js=>cases (show KU i=VN _ from e)
 | inr is=>cases b with
  | inl j=>cases (show VN _=KU j from e)
  | inr js=>injection (show VN (is.map .int)=VN (js.map .int) from e) with e;rw [Yz e]
theorem qbI:∀ {a b:K2},a.map k2D=b.map k2D->a=b
 | [],[],_=>rfl
 | [],_::_,e=>by simp at e
 | _::_,[],e=>by simp at e
 | x::xs,y::ys,e=>by
  rw [Km,Km] at e
  injection e with e1 e2
  rw [qh8 e1,qbI e2]
theorem qh9 {a b:K2}(e:k2T a=k2T b):a=b:=by
 injection (show VN (a.map k2D)=VN (b.map k2D) from e) with e
 exact qbI e
theorem qfH (ns:List Int):Kr (ns.map .int)=true/\KI (ns.map .int)=0:=by
 induction ns with
 | nil=>exact ⟨rfl,rfl⟩
 | cons n ns ih=>exact ⟨ih.1,by show max 0 (KI (ns.map .int))=0;rw [ih.2];rfl⟩
theorem qfI (ks:K2):Kr (ks.map k2D)=true/\KI (ks.map k2D)<=1:=by
 induction ks with
 | nil=>exact ⟨rfl,Vc _⟩
 | cons k ks ih =>
  have hk:(k2D k).canLay0=true/\(k2D k).depth<=1:=by
   cases k with
   | inl i=>exact ⟨rfl,Vc _⟩
   | inr js=>exact ⟨(qfH js).1,by show KI (js.map .int)+1<=1;rw [(qfH js).2];exact Ko _⟩
  refine ⟨?_,?_⟩
  ·show ((k2D k).canLay0&&Kr (ks.map k2D))=true
   rw [hk.1,ih.1];rfl
  ·show max (k2D k).depth (KI (ks.map k2D))<=1
   exact Nat.max_le.mpr ⟨hk.2,ih.2⟩
theorem YJ (ks:K2):(k2T ks).canLay0=true/\(k2T ks).depth<=2:=⟨(qfI ks).1,Nat.succ_le_succ (qfI ks).2⟩
def Is2 (h:Kx)(ks:K2)(a:Ke):Prop:=∃ as,Xr h (.ref a) (k2T ks) as
section
variable {prog:Kt}{w:KF}{A:KG}{E:Kb->Kf->Prop}{s:Kf}
def yJ (prog:Kt)(w:KF)(A:KG)(h:Kx)(v:Kb)(p:Int×Nat):Prop :=
 ∀ (E:Kb->Kf->Prop) (s:Kf) (Q:Int->Kf->Prop),s.heap=h->Q p.1 { s with toks:=s.toks+p.2 }->wpAny (model prog w) A (pyHash v) Q E s
theorem qbG {a:Ke}{o:Obj}{items:Array Kb}{n:Nat}{hs:List (Int×Nat)}{Q:Int->Kf->Prop}(hu:A.units<cLine)(ho:s.heap.get? a=some o)(hc:o.cls=.type "tuple")(hd:o.data=.seq items n)
  (hi:Vk (yJ prog w A.in1 s.heap) items.toList hs) (h:Q (reduceHash (Vx (hs.map (·.1)))) { s with toks:=s.toks+((hs.map (·.2)).sum+1) }):wpAny (model prog w) A (pyHash (.ref a)) Q E s:=by
 have hT:s.TypeIs (.ref a) "tuple" := ⟨o,ho,hc⟩
 unfold pyHash
 first|unfold pyHashByItsType|skip
 first|exact Kc (wpAny_cRoomFor_or (.inr hu) ?_)|skip
 first|refine Kc (wpAny_cRoomFor_or (.inr hu) (Kc (NG hT Xx.lookup ?_)))|refine Kc (NG hT Xx.lookup (id ?_))
 refine (id ?_:wpAny _ _ (if (some (KS "tuple.__hash__")==some K5)=true then _ else _) Q E s)
 rw [if_neg (fun z=>by rw [beq_builtin_none] at z;cases z)]
 refine Kc (NG hT Xx.lookup (id ?_:wpAny _ _ (callSpecialIfBoundUnlessNone? (.ref a) "__hash__" _ >>= _) Q E s))
 refine Kc (wpAny_callSpecialIfBoundUnlessNone?_slot hT Xx (Ud Xx hT F.entry_tuple_hash (?_:wpAny _ _ (N5 (.ref a) >>= _) _ _ s) (F.args_tuple_hash_1 _)))
 refine Kc (wpAny_tupleItemsOf ho hd (Kc ?_))
 rw [← Array.forIn_toList]
 refine Ex _ (fun rest (b:Array Int) s'=>∃ done left,hs=done++left/\Vk (yJ prog w A.in1 s.heap) rest left/\b.toList=done.map (·.1)/\s'={ s with toks:=s.toks+(done.map (·.2)).sum }) _ ?_ ?_ _ _ ⟨[],hs,rfl,hi,rfl,rfl⟩
 ·rintro x rest b s' ⟨done,left,rfl,hl,hb,rfl⟩
  cases hl with
  | @cons _ p _ ps h1 hl' =>
   refine Kc (h1 _ _ _ rfl ?_)
   first
    | exact Kl ⟨done++[p],ps,by simp,hl',by simp [hb],by simp [Nm]⟩
    | exact Kc (Kl (Kl ⟨done++[p],ps,by simp,hl',by simp [hb],by simp [Nm]⟩))
 ·rintro b s' ⟨done,left,rfl,hl,hb,rfl⟩
  cases hl
  rw [Vl] at h
  refine (id ?_:wpAny _ _ (retInt (Vx b.toList)) _ _ _)
  rw [hb]
  refine wpAny_ret_mkInt (id ?_:wpAny _ _ (if (decide (-(2:Int) ^ 63<=Vx (done.map (·.1)))&&decide (Vx (done.map (·.1))<2 ^ 63))=true then _ else _) Q E _)
  unfold reduceHash at h
  by_cases hr:(decide (-(2:Int) ^ 63<=Vx (done.map (·.1)))&&decide (Vx (done.map (·.1))<2 ^ 63))=true
  ·rw [if_pos hr] at h ⊢
   exact Kl (by simpa [Nm] using h)
  ·rw [if_neg hr] at h ⊢
   exact Kc (wpAny_rule (Kl (by simpa [Nm] using h)))
theorem qbF {h:Kx}(i:Int)(t:Tok):yJ prog w A h (.int i t) (hashInt i,1):=fun _ _ _ _ q=>wpAny_pyHash_int q
theorem W2 {h:Kx}:∀ {vs:List Kb} {ns:List Int} {as:List Ke},Up h vs (ns.map .int) as->Vk (yJ prog w A h) vs (ns.map fun i=>(hashInt i,1))
 | _,[],_,r=>by cases r;exact .nil
 | _,n::ns,_,r=>by
  cases r with
  | cons a t=>cases a;exact .cons (qbF _ _) (W2 t)
theorem qhc (ns:List Int):((ns.map fun i=>(hashInt i,1)).map (·.2)).sum=ns.length:=by
 induction ns with
 | nil=>rfl
 | cons n ns ih=>rw [Km,Km,List.sum_cons,ih,KC];omega
theorem qeI {h:Kx}{v:Kb}{k:Int ⊕ List Int}{as:List Ke}(hu:A.units<cLine)(r:Xr h v (k2D k) as):yJ prog w A h v (k2H k,k2N k):=by
 cases k with
 | inl i =>
  cases (show Xr h v (.int i) as from r)
  exact qbF _ _
 | inr js =>
  cases (show Xr h v (.tuple (js.map .int)) as from r) with
  | tuple h1 h2 h3 h4 =>
   intro E s Q e q
   subst e
   refine qbG hu h1 h2 h3 (W2 h4) ?_
   have e:(js.map fun i=>(hashInt i,1)).map (·.1)=js.map hashInt:=by rw [Vf];rfl
   rw [e,qhc]
   exact q
theorem Ys {h:Kx}(hu:A.units<cLine):∀ {vs:List Kb} {ks:K2} {as:List Ke},Up h vs (ks.map k2D) as->Vk (yJ prog w A h) vs (ks.map fun k=>(k2H k,k2N k))
 | _,[],_,r=>by cases r;exact .nil
 | _,k::ks,_,r=>by
  cases r with
  | cons a t=>exact .cons (qeI hu a) (Ys hu t)
theorem qee {n:Nat}{h:Kx}{v:Kb}{as:List Ke}{i:Int}(r:Xr h v (.int i) as):eqIsQuiet n v=pure true:=by
 cases r
 cases n<;>rfl
theorem qas {m:Nat}{a:Ke}{o:Obj}{items:Array Kb}{n:Nat}{Q:Bool->Kf->Prop}(ho:s.heap.get? a=some o)(hc:o.cls=.type "tuple")(hd:o.data=.seq items n)
  (hi:∀ v∈items.toList,∀ Q':Bool->Kf->Prop,Q' true s->wpAny (model prog w) A (eqIsQuiet m v) Q' E s) (h:Q true s):wpAny (model prog w) A (eqIsQuiet (m+1) (.ref a)) Q E s:=by
 have hT:s.TypeIs (.ref a) "tuple" := ⟨o,ho,hc⟩
 unfold eqIsQuiet
 refine Kc (NG hT F.slot_tuple_eq.lookup (?_:wpAny _ _ (isInstance (.ref a) (.type "tuple") >>= _) _ _ s))
 refine Kc (wpAny_isInstance hT isSubtype_tuple_tuple (id ?_))
 simp only [E9,if_false,VH]
 refine Kc (UM ho hd (Kc (?_:wpAny _ _ (forIn items _ _) _ _ s)))
 rw [← Array.forIn_toList]
 refine Ex _ (fun rest r s'=>r.1=none/\s'=s/\∀ v∈rest,∀ Q':Bool->Kf->Prop,Q' true s->wpAny (model prog w) A (eqIsQuiet m v) Q' E s) _ ?_ ?_ _ _ ⟨rfl,rfl,hi⟩
 ·rintro v rest r s' ⟨hr,rfl,hall⟩
  refine Kc (hall v KZ _ ?_)
  simp only [E9,if_false,VH]
  exact Kl ⟨rfl,rfl,fun u hu'=>hall u (K9 _ hu')⟩
 ·rintro ⟨r1,r2⟩ s' ⟨hr,rfl,_⟩
  simp only at hr
  subst hr
  exact Kl h
theorem Z3 {h:Kx}:∀ {vs:List Kb} {ds:List Ka} {as:List Ke},Up h vs ds as->∀ v∈vs,∃ d∈ds,∃ bs,Xr h v d bs
 | _,_,_,.nil,v,hv=>by cases hv
 | _,_,_,.cons r t,v,hv=>by
  rcases Kk.mp hv with rfl|hv
  ·exact ⟨_,.head _,_,r⟩
  ·obtain ⟨d,hd,bs,q⟩:=Z3 t v hv
   exact ⟨d,.tail _ hd,bs,q⟩
theorem Is2.quiet {ks:K2}{a:Ke}{Q:Bool->Kf->Prop}(x:Is2 s.heap ks a)(h:Q true s):wpAny (model prog w) A (eqIsQuiet 8 (.ref a)) Q E s:=by
 obtain ⟨as,r⟩:=x
 cases r with
 | tuple h1 h2 h3 h4 =>
  refine qas h1 h2 h3 (fun v hv Q' q=>?_) h
  obtain ⟨d,hd,bs,rv⟩:=Z3 h4 v hv
  obtain ⟨k,_,rfl⟩:=KN.mp hd
  cases k with
  | inl i=>rw [qee (show Xr s.heap v (.int i) bs from rv)];exact Kl q
  | inr js =>
   cases (show Xr s.heap v (.tuple (js.map .int)) bs from rv) with
   | tuple g1 g2 g3 g4 =>
    refine qas g1 g2 g3 (fun u hu Q2 q2=>?_) q
    obtain ⟨d,hd,cs,ru⟩:=Z3 g4 u hu
    obtain ⟨i,_,rfl⟩:=KN.mp hd
    rw [qee ru]
    exact Kl q2
theorem Is2.inj {h:Kx}{a:Ke}{x y:K2}(hx:Is2 h x a)(hy:Is2 h y a):x=y:=by
 obtain ⟨as,r⟩:=hx
 obtain ⟨bs,q⟩:=hy
 exact qh9 (SeqAt.Reads.unique _ _ _ _ _ (YJ x).1 r q)
theorem yz {h h':Kx}{d:Ke}(k:∀ b o,b≠d->h.get? b=some o->h'.get? b=some o):∀ {vs:List Kb} {ns:List Int} {as:List Ke},Up h vs (ns.map .int) as->Up h' vs (ns.map .int) as
 | _,[],_,r=>by cases r;exact .nil
 | _,n::ns,_,r=>by
  cases r with
  | cons a t=>cases a;exact .cons (.int _ _) (yz k t)
theorem Is2.keeps {h h':Kx}{ks:K2}{a d:Ke}{o:Obj}{es:Array UB}{ep:Nat}(x:Is2 h ks a)(ho:h.get? d=some o)(hd:o.data=.dict es ep)(hs:US d h h'):Is2 h' ks a:=by
 have k:∀ b o,b≠d->h.get? b=some o->h'.get? b=some o:=fun b o hb e=>(hs.2 b hb).trans e
 have ne:∀ {b:Ke} {ob:Obj} {items:Array Kb} {n:Nat},h.get? b=some ob->ob.data=.seq items n->b≠d:=fun e q z=>by
  subst z
  rw [ho] at e
  cases e
  rw [hd] at q
  cases q
 have item:∀ {vs:List Kb} {ks:K2} {as:List Ke},Up h vs (ks.map k2D) as->Up h' vs (ks.map k2D) as:=by
  intro vs ks
  induction ks generalizing vs with
  | nil=>intro as r;cases r;exact .nil
  | cons k1 ks ih =>
   intro as r
   cases r with
   | cons a t =>
    refine .cons ?_ (ih t)
    cases k1 with
    | inl i=>cases (show Xr h _ (.int i) _ from a);exact .int _ _
    | inr js =>
     cases (show Xr h _ (.tuple (js.map .int)) _ from a) with
     | tuple g1 g2 g3 g4=>exact .tuple (k _ _ (ne g1 g3) g1) g2 g3 (yz k g4)
 obtain ⟨as,r⟩:=x
 cases r with
 | tuple h1 h2 h3 h4=>exact ⟨_,.tuple (k _ _ (ne h1 h3) h1) h2 h3 (item h4)⟩
theorem qbt:∀ a b:List Int,KP (.tuple (a.map .int)) (.tuple (b.map .int))=decide (a=b)
 | [],[]=>rfl
 | [],_::_=>rfl
 | _::_,[]=>rfl
 | x::xs,y::ys=>by
  have:KP (.tuple ((x::xs).map .int)) (.tuple ((y::ys).map .int))=((x==y)&&KP (.tuple (xs.map .int)) (.tuple (ys.map .int))):=rfl
  rw [this,qbt xs ys,Ua]
  simp
theorem qhO (a b:Int ⊕ List Int):KP (k2D a) (k2D b)=decide (a=b):=by
 cases a with
 | inl i=>cases b with
  | inl j =>
   have:KP (k2D (.inl i)) (k2D (.inl j))=(i==j):=rfl
   rw [this,Ua]
   simp
  | inr js=>exact (decide_eq_false (fun z=>by cases z)).symm
 | inr is=>cases b with
  | inl j=>exact (decide_eq_false (fun z=>by cases z)).symm
  | inr js =>
   have:KP (k2D (.inr is)) (k2D (.inr js))=KP (.tuple (is.map .int)) (.tuple (js.map .int)):=rfl
   rw [this,qbt,Ua]
   simp
theorem qaK:∀ a b:K2,KP (k2T a) (k2T b)=decide (a=b)
 | [],[]=>rfl
 | [],_::_=>rfl
 | _::_,[]=>rfl
 | x::xs,y::ys=>by
  have:KP (k2T (x::xs)) (k2T (y::ys))=(KP (k2D x) (k2D y)&&KP (k2T xs) (k2T ys)):=rfl
  rw [this,qhO,qaK xs ys,Ua]
  simp
end
def Yv (prog:Kt)(w:KF):HeapKind prog w K2 where
 is:=Is2
 hash:=fun ks=>reduceHash (Vx (ks.map k2H))
 draws:=fun ks=>((ks.map fun k=>(k2H k,k2N k)).map (·.2)).sum+1
 room:=fun A=>A.units+3<cLine
 inj:=fun hx hy=>hx.inj hy
 keeps:=fun x ho hd hs=>x.keeps ho hd hs
 pyHash:=fun {A E s k a Q} hu hk h=>by
  obtain ⟨as,r⟩:=hk
  cases r with
  | tuple h1 h2 h3 h4 =>
   have hu1:A.in1.units<cLine:=by show A.units+1<cLine;omega
   refine qbG (by omega) h1 h2 h3 (Ys hu1 h4) ?_
   have e:(k.map fun x=>(k2H x,k2N x)).map (·.1)=k.map k2H:=by rw [Vf];rfl
   rw [e]
   exact h
 eqBool:=fun {A E s x y a b Q} hu hx hy h=>by
  obtain ⟨as,r⟩:=hx
  obtain ⟨bs,q⟩:=hy
  refine Ey _ _ A s _ _ _ _ r q (YJ x).1 (YJ y).1 ?_ prog w E Q (by rw [qaK];exact h)
  have:=(YJ x).2
  have:=EL (k2T x).depth (k2T y).depth
  omega
 quiet:=fun hk h=>hk.quiet h
def qj0 (ks:K2):Int:=reduceHash (Vx (ks.map k2H))
abbrev KX:=Int ⊕ K2
def kxD (k:KX):Ka:=match k with
 | .inl i=>.int i
 | .inr ks=>k2T ks
def kxV (k:KX)(b:Ke):V:=match k with
 | .inl i=>.int i
 | .inr _=>.ref b
def kxI (k:KX):Bool:=match k with
 | .inl _=>true
 | .inr _=>false
def qf9:Ka->Bool
 | .int _=>true
 | _=>false
theorem qcD (k:KX):qf9 (kxD k)=kxI k:=by cases k<;>rfl
theorem J8 (a b:KX):KP (kxD a) (kxD b)=decide (a=b):=by
 cases a with
 | inl i=>cases b with
  | inl j =>
   have:KP (kxD (.inl i)) (kxD (.inl j))=(i==j):=rfl
   rw [this,Ua]
   simp
  | inr js=>exact (decide_eq_false (fun z=>by cases z)).symm
 | inr is=>cases b with
  | inl j=>exact (decide_eq_false (fun z=>by cases z)).symm
  | inr js =>
   have:KP (kxD (.inr is)) (kxD (.inr js))=KP (k2T is) (k2T js):=rfl
   rw [this,qaK,Ua]
   simp
abbrev PkT (p:KX×Addr×V)(q:K2×Addr×Value):Prop:=p.1=.inr q.1/\p.2.1=q.2.1/\RelV p.2.2 q.2.2
abbrev PkI (p:KX×Addr×V)(q:Int×Value):Prop:=p.1=.inl q.1/\RelV p.2.2 q.2
abbrev EnI (e:UB)(q:Int×Value):Prop:=e.hash=hashInt q.1/\(∃ t,e.key=.int q.1 t)/\e.val=q.2
def DctT (a:Ke)(kvs:List (KX×Addr×V))(ep:Nat)(h:Kx):Prop :=
 ∃ xs:List (K2×Addr×Value),Vk PkT kvs xs/\∃ o es,h.get? a=some o/\o.ExactDict/\o.data=.dict es ep/\es.toList=xs.map (fun x=>(⟨qj0 x.1,.ref x.2.1,x.2.2⟩:UB))/\(xs.map (·.1)).Nodup
def DctI (a:Ke)(kvs:List (KX×Addr×V))(ep:Nat)(h:Kx):Prop :=
 ∃ vs:List (Int×Value),Vk PkI kvs vs/\∃ o es,h.get? a=some o/\o.ExactDict/\o.data=.dict es ep/\Vk EnI es.toList vs/\(vs.map (·.1)).Nodup
def zJ (a:Ke)(kvs:List (KX×Addr×V))(ep:Nat)(h:Kx):Prop :=
 kvs.length<=sizeLine/\(a==sysModules)=false/\(DctT a kvs ep h\/DctI a kvs ep h)
def DctO (a:Ke)(kvs:List (KX×Addr×V))(ep:Nat):HO:=.ext (zJ a kvs ep)
theorem zJ.ok {P:Kt}{w:KF}{H:Hp}{h:Kx}{a:Ke}{kvs:List (KX×Addr×V)}{ep:Nat}(d:zJ a kvs ep h):zM P w H h a (DctO a kvs ep):=by
 refine ⟨d,?_,fun h1 h2 ⟨z,y,e⟩ k=>⟨z,y,e.imp (fun ⟨xs,r,o,es,g1,g2⟩=>⟨xs,r,o,es,k o g1,g2⟩) fun ⟨xs,r,o,es,g1,g2⟩=>⟨xs,r,o,es,k o g1,g2⟩⟩⟩
 obtain ⟨_,_,⟨_,_,o,_,g1,_⟩|⟨_,_,o,_,g1,_⟩⟩:=d
 ·exact ⟨o,g1⟩
 ·exact ⟨o,g1⟩
theorem zJ.of {P:Kt}{w:KF}{H:Hp}{h:Kx}{a:Ke}{kvs:List (KX×Addr×V)}{ep:Nat}(x:zM P w H h a (DctO a kvs ep)):zJ a kvs ep h:=x.1
def dkv (kvs:List (KX×Addr×V))(ds:List Ka):List (Ka×PyData):=(kvs.map fun p=>kxD p.1).zip ds
theorem qbn {kvs:List (KX×Addr×V)}{ds:List Ka}(h:kvs.length=ds.length):(dkv kvs ds).map (·.1)=kvs.map fun p=>kxD p.1:=by
 unfold dkv
 rw [List.map_fst_zip (by rw [Kj,h];exact Ko _)]
theorem qgT {kvs:List (KX×Addr×V)}{xs:List (K2×Addr×Value)}(r:Vk PkT kvs xs):Vals (kvs.map fun p=>kxV p.1 p.2.1) (xs.map fun x=>KD x.2.1)/\Vals (kvs.map (·.2.2)) (xs.map (·.2.2)):=by
 induction r with
 | nil=>exact ⟨.nil,.nil⟩
 | cons h t ih=>exact ⟨.cons (by dsimp only;rw [h.1,h.2.1];rfl) ih.1,.cons h.2.2 ih.2⟩
theorem qca:∀ {kvs:List (KX×Addr×V)} {vs:List (Int×Value)} {es:List UB},Vk PkI kvs vs->Vk EnI es vs->Vals (kvs.map fun p=>kxV p.1 p.2.1) (es.map (·.key))/\Vals (kvs.map (·.2.2)) (es.map (·.val))
 | _,_,_,.nil,.nil=>⟨.nil,.nil⟩
 | _,_,_,.cons h t,.cons g u=>by
  obtain ⟨i1,i2⟩:=qca t u
  obtain ⟨_,⟨tk,g1⟩,g2⟩:=g
  exact ⟨.cons (by dsimp only;rw [h.1,g1];exact ⟨tk,rfl⟩) i1,.cons (by dsimp only;rw [g2];exact h.2) i2⟩
theorem zJ.vals {h:Kx}{a:Ke}{kvs:List (KX×Addr×V)}{ep:Nat}(d:zJ a kvs ep h):∃ o es,h.get? a=some o/\o.ExactDict/\o.data=.dict es ep/\Vals (kvs.map fun p=>kxV p.1 p.2.1) (es.toList.map (·.key))/\Vals (kvs.map (·.2.2)) (es.toList.map (·.val)):=by
 obtain ⟨_,_,⟨xs,r,o,es,g1,g2,g3,g4,_⟩|⟨vs,r,o,es,g1,g2,g3,g4,_⟩⟩:=d
 ·refine ⟨o,es,g1,g2,g3,?_⟩
  rw [g4,Vf,Vf]
  exact qgT r
 ·exact ⟨o,es,g1,g2,g3,qca r g4⟩
theorem zJ.tup {h:Kx}{a:Ke}{kvs:List (KX×Addr×V)}{ep:Nat}(d:zJ a kvs ep h)(hk:∀ p∈kvs,kxI p.1=false):DctT a kvs ep h:=by
 obtain ⟨_,_,d|⟨vs,r,o,es,g1,g2,g3,g4,g5⟩⟩:=d
 ·exact d
 ·cases r with
  | nil =>
   have he:es.toList=[]:=by cases h:es.toList with
    | nil=>rfl
    | cons=>rw [h] at g4;cases g4
   exact ⟨[],.nil,o,es,g1,g2,g3,he,U8⟩
  | @cons p q _ _ h t =>
   have:=hk p (.head _)
   rw [h.1] at this
   cases this
theorem zJ.int {h:Kx}{a:Ke}{kvs:List (KX×Addr×V)}{ep:Nat}(d:zJ a kvs ep h)(hk:∀ p∈kvs,kxI p.1=true):DctI a kvs ep h:=by
 obtain ⟨_,_,⟨xs,r,o,es,g1,g2,g3,g4,g5⟩|d⟩:=d
 ·cases r with
  | nil=>exact ⟨[],.nil,o,es,g1,g2,g3,by rw [g4];exact .nil,U8⟩
  | @cons p q _ _ h t =>
   have:=hk p (.head _)
   rw [h.1] at this
   cases this
 ·exact d
def J9:List String:=["int", "bool", "tuple", "list", "str"]
def xcB (K:Kd)(C:Ke):Bool :=
 (V2 K C).isSome&&(K6 K (.ref C) "__getattribute__" == some (some (.builtin "BaseException.__getattribute__")))&&(K6 K (.ref C) "__getattr__" == some none)
 && (K6 K (.ref C) "__class__" == some (some (.builtin "object.__class__")))&&(VJ K C (.type "object")==some true)&&(VJ K C (.type "BaseException")==some true)
 && J9.all fun T=>Vd K (.ref C) (.type T)==some false
structure XcK (K:Kd)(C:Ke):Prop where
 cls:(V2 K C).isSome=true
 ga:K6 K (.ref C) "__getattribute__" = some (some (.builtin "BaseException.__getattribute__"))
 gt:K6 K (.ref C) "__getattr__" = some none
 cl:K6 K (.ref C) "__class__" = some (some (.builtin "object.__class__"))
 mo:VJ K C (.type "object")=some true
 mb:VJ K C (.type "BaseException")=some true
 ts:∀ T∈J9,Vd K (.ref C) (.type T)=some false
theorem JR {K:Kd}{C:Ke}(h:xcB K C=true):XcK K C:=by
 unfold xcB at h
 simp only [Ks,beq_iff_eq,Kz] at h
 obtain ⟨⟨⟨⟨⟨⟨h1,h2⟩,h3⟩,h4⟩,h5⟩,h6⟩,h7⟩:=h
 exact ⟨h1,h2,h3,h4,h5,h6,h7⟩
section
variable {prog:Kt}{w:KF}{A:KG}{E:Kb->Kf->Prop}{s:Kf}{K:Kd}{x C:Ke}
def OfC (h:Kx)(x C:Ke):Prop:=∃ o,h.get? x=some o/\o.cls=.ref C
theorem OfC.ty {h:Kx}{M:Model}(I:OfC h x C):UV M h (typeOf (.ref x)) (.ref C):=by
 obtain ⟨o,h1,h2⟩:=I
 exact h2 ▸ (X1 h1).andThen .now
open PySem.W in
theorem yc {M:Model}{nameV:Kb}{Q:Unit->Kf->Prop}(Z:XcK K C)(X:K.In s.heap)(I:OfC s.heap x C)(hq:Q () s) :
  wpAny M A (checkBuiltinCall "BaseException.__getattribute__" ⟨[.ref x,nameV],[]⟩) Q E s:=by
 obtain ⟨hh,g,d,t,os⟩:=s
 have hk:builtinKind "BaseException.__getattribute__" = some .slot:=by decide +kernel
 have hs:splitId "BaseException.__getattribute__" = some ("BaseException", "__getattribute__"):=by decide +kernel
 have L0:=I.ty (M:=M)
 have L1:=U9 (M:=M) X Z.mb
 have ha:=F.args_bexc_ga (.ref x) nameV
 simp only [checkBuiltinCall,hk,hs]
 refine Kc ?_
 unfold isInstance
 repeat (first|with_reducible refine Looks.at (by assumption) ?_|wp_step)
 exact hq
open PySem.W in
theorem Wt {R:Result->Kf->Prop}(Z:XcK K C)(X:K.In s.heap)(I:OfC s.heap x C)(hq:R (.ok (.ret (.ref C))) s) :
  codeAny (model prog w) A (.call (.builtin "getset_descriptor.__get__") ⟨[.builtin "object.__class__", .ref x,.ref C],[]⟩) R s:=by
 obtain ⟨hh,g,d,t,os⟩:=s
 have hT5:(⟨hh,g,d,t,os⟩:Kf).TypeIs (.builtin "object.__class__") "getset_descriptor" := Nw
 have L0:=I.ty (M:=model prog w)
 have L1:UV (model prog w) hh (isSubtype (.ref C) (.type (".".intercalate ("object.__class__".cutAt '.').dropLast))) true:=by
  rw [F.owner_object_class]
  exact U9 (M:=model prog w) X Z.mo
 refine Ul Fb.plain F.entry_gs_get (Fb.check _ _ _ _ _ _ _ _ hT5 (F.args_gs_get _ _ _) ?_)
 repeat (any_goals (first|assumption|with_reducible refine Looks.at (by assumption) ?_|wp_step))
 refine ⟨Code.quiet_builtin _ (by decide +kernel),Uq F.entry_object_class ?_⟩
 repeat (any_goals (first|assumption|with_reducible refine Looks.at (by assumption) ?_|wp_step))
open PySem.W in
theorem YD {tk:Tok}{Q:Fin->Kf->Prop}(Z:XcK K C)(X:K.In s.heap)(I:OfC s.heap x C)(hq:Q (.done (.ret (.ref C))) s) :
  wpAny (model prog w) A (UA.«object.__getattribute__» ⟨[.ref x,.str "__class__" tk],[]⟩) Q E s:=by
 obtain ⟨hh,g,d,t,os⟩:=s
 have hT5:(⟨hh,g,d,t,os⟩:Kf).TypeIs (.builtin "object.__class__") "getset_descriptor" := Nw
 have L0:=I.ty (M:=model prog w)
 have L1:=UN (M:=model prog w) X Z.cl
 have f5:=Nw;have f6:=Fb.lookup;have f7:=F.slot_gs_set.lookup
 repeat (any_goals (first|assumption|with_reducible refine Looks.at (by assumption) ?_|wp_step))
 refine Wt Z X I ?_
 repeat (any_goals (first|assumption|wp_step))
open PySem.W in
theorem qaL {tk:Tok}{Q:Kb->Kf->Prop}(Z:XcK K C)(X:K.In s.heap)(I:OfC s.heap x C)(hq:Q (.ref C) s) :
  wpAny (model prog w) A (getAttrBy (.ref x) (.str "__class__" tk) false) Q E s:=by
 obtain ⟨hh,g,d,t,os⟩:=s
 have L0:=I.ty (M:=model prog w)
 have L1:=UN (M:=model prog w) X Z.ga
 have L2:=UN (M:=model prog w) X Z.gt
 have f3:=XF.ga.bind (.ref x)
 have hx2:(KS "BaseException.__getattribute__" == KS "object.__getattribute__")=false:=by decide +kernel
 have hx1:(onTheHeap (KD C)&&KS "BaseException.__getattribute__" == KS "object.__getattribute__")=false:=by rw [hx2];exact E4 _
 repeat (any_goals (first|assumption|with_reducible refine Looks.at (by assumption) ?_|wp_step))
 refine Ul XF.ga.plain F.entry_bexc_ga (yc Z X I (YD Z X I ?_))
 repeat (any_goals (first|assumption|wp_step))
open PySem.W in
theorem qeE {Q:Option Kb->Kf->Prop}(Z:XcK K C)(X:K.In s.heap)(I:OfC s.heap x C)(hq:Q (some (.ref C)) { s with toks:=s.toks+1 }) :
  wpAny (model prog w) A (getAttr? (.ref x) "__class__") Q E s:=by
 obtain ⟨hh,g,d,t,os⟩:=s
 unfold getAttr? getAttrBy?
 refine Kc (wpAny_mkText (Kc (wpAny_attempt (qaL (s:=⟨hh,g,d,t+1,os⟩) Z X I ?_))))
 exact Kl hq
end
open PySem.W in
theorem wX {K:Kd}{a C:Ke}(Z:XcK K C):KitX K (.ref a) (.ref C) (fun h=>OfC h a C) where
 ty:=fun _ _ _ I=>I.ty
 it:=fun _ _ X _=>by
  have z:=Z.cls
  unfold clsIn at z
  split at z
  ·rename_i c' d' cd' sl' ho
   intro A' Q' E' s' k q;unfold isType loadHead
   exact Kc (wpAny_loadPart (k _ _ (X _ _ ho)) (Kl q))
  ·cases z
 ne:=fun h tp dd its n sl X htp=>by
  have z:=Z.cls
  refine X9.mpr fun q=>?_
  have e:C=tp:=Value.ref.inj (beq_iff_eq.mp q)
  subst e;unfold clsIn at z
  split at z
  ·rename_i c' d' cd' sl' ho
   have y:=(X _ _ ho).symm.trans htp
   cases y
  ·cases z
 ca:=fun X I k=>qeE Z X I k
def icB (K:Kd)(C:Ke):Bool :=
 En K C Ff&&Fm K C&&Fn K C&&(K6 K (.ref C) "__setattr__" == some (some (.builtin "object.__setattr__")))
 && (K6 K (.ref C) "__class__" == some (some (.builtin "object.__class__")))&&(Xw K (.builtin "object.__class__") "__get__" == some (some (.builtin "getset_descriptor.__get__")))
 && (EJ K (.builtin "object.__class__")==some true)&&(VJ K C (.type "object")==some true)&&J9.all fun T=>Vd K (.ref C) (.type T)==some false
structure IcK (K:Kd)(C:Ke):Prop where
 cl:Cls K C
 ha:K6 K (.ref C) "__class__" = some (some (.builtin "object.__class__"))
 hn:Xw K (.builtin "object.__class__") "__get__" = some (some (.builtin "getset_descriptor.__get__"))
 tk:EJ K (.builtin "object.__class__")=some true
 mo:VJ K C (.type "object")=some true
 ts:∀ T∈J9,Vd K (.ref C) (.type T)=some false
theorem qf5 {K:Kd}{C:Ke}(h:icB K C=true):IcK K C:=by
 unfold icB at h
 simp only [Ks,beq_iff_eq,Kz] at h
 obtain ⟨⟨⟨⟨⟨⟨⟨⟨h1,h2⟩,h3⟩,h4⟩,h5⟩,h6⟩,h7⟩,h8⟩,h9⟩:=h
 exact ⟨⟨h1,h2,h3,h4⟩,h5,h6,h7,h8,h9⟩
theorem IcK.ty {K:Kd}{H:Hp}{a C dx:Ke}{fs:List (Str×V)}(Z:IcK K C)(e:H a=some (.ins C dx fs)):TyOf K H (.ref a) (.ref C):=.ins e Z.cl Z.ha Z.hn Z.tk Z.mo
abbrev Av:=Ke->Prop
def Z9:HO->Bool
 | .lst _=>true
 | .dK _=>true
 | .dT _=>true
 | .ext _=>true
 | _=>false
def Dm (S:Av)(H:Hp):Prop:=∀ a,S a->∃ o,H a=some o/\Z9 o=true
def Off (S:Av)(H H':Hp):Prop:=∀ b o,¬ S b->H b=some o->H' b=some o
def KqL (K:Kd)(a:Ke)(xs:List V):Prop:=∃ (o:Obj) (its:Array Kb) (n:Nat),K.lookup a=some o/\o.cls=.type "list"/\o.dict=none/\o.data=.seq its n/\its.size<=sizeLine/\Vals xs its.toList
def SqLS (K:Kd)(H:Hp)(S:Av)(a:Ke)(xs:List V):Prop:=(Rd H a (.lst xs)/\¬ S a)\/KqL K a xs
def ExcO (K:Kd)(o:Obj)(c:Str):Prop:=∃ C vs,o.cls=.ref C/\o.data=.fields vs/\KM K mainGlobals c=some (some (.ref C))/\xcB K C=true
def excD (c:Str)(d:Ka):Ka:=.dict [(.str c,d),(.int 0,.none)]
def excK:List (Ka×PyData)->Bool
 | (.str _,_)::_=>true
 | _=>false
theorem wJ {kvs:List (KX×Addr×V)}{ds:List Ka}:excK (dkv kvs ds)=false:=by
 cases kvs with
 | nil=>rfl
 | cons p ps =>
  cases ds with
  | nil=>rfl
  | cons d ds=>obtain ⟨k|k,_⟩:=p<;>rfl
def objD (c:Str):Ka:=.dict [(.str c,.none),(.int 1,.none)]
mutual
inductive Den (K:Kd)(H:Hp)(S:Av):V->Ka->Prop
 | none:Den K H S .non .none
 | bool (b:Bool):Den K H S (.bl b) (.bool b)
 | int (i:Int):Den K H S (.int i) (.int i)
 | str (x:Str):Den K H S (.str x) (.str x)
 | list {a:Ke} {xs:List V} {ds:List Ka}:SqLS K H S a xs->DenL K H S xs ds->Den K H S (.ref a) (.list ds)
 | tuple {a:Ke} {xs:List V} {ds:List Ka}:SqT K H a xs->DenL K H S xs ds->Den K H S (.ref a) (.tuple ds)
 | dict {a:Ke} {kvs:List (KX×Addr×V)} {ep:Nat} {ds:List Ka}:(H a=some (DctO a kvs ep)/\¬ S a)->DenL K H S (kvs.map fun p=>kxV p.1 p.2.1) (kvs.map fun p=>kxD p.1)->DenL K H S (kvs.map (·.2.2)) ds->Den K H S (.ref a) (.dict (dkv kvs ds))
 | exc0 {a:Ke} {o:Obj} {c:Str}:H a=some (.frz o (.own a))->ExcO K o c->Den K H S (.ref a) (excD c .none)
 | exc1 {a dx:Ke} {o:Obj} {c n:Str} {v:V} {d:Ka}:H a=some (.frz o (.own a))->ExcO K o c->o.dict=some dx->H dx=some (.xd [(n,v)])->Den K H S v d->Den K H S (.ref a) (excD c (.tuple [.str n,d]))
 | ins {a dx C:Ke} {c:Str}:H a=some (.ins C dx [])->(KM K mainGlobals c=some (some (.ref C))/\icB K C=true)->Den K H S (.ref a) (objD c)
inductive DenL (K:Kd)(H:Hp)(S:Av):List V->List Ka->Prop
 | nil:DenL K H S [] []
 | cons {x:V} {d:Ka} {xs:List V} {ds:List Ka}:Den K H S x d->DenL K H S xs ds->DenL K H S (x::xs) (d::ds)
end
mutual
def flat:Ka->Bool
 | .none=>true
 | .bool _=>true
 | .int _=>true
 | .str _=>true
 | .list _=>false
 | .tuple ds=>yf ds
 | .dict _=>false
def yf:List Ka->Bool
 | []=>true
 | d::ds=>flat d&&yf ds
end
section
variable {K:Kd}{H H':Hp}{S S':Av}
theorem SqLS.sq {a:Ke}{xs:List V}(h:SqLS K H S a xs):SqL K H a xs:=h.imp (·.1) id
theorem SqLS.new {a:Ke}{xs:List V}(h:H a=some (.lst xs))(n:¬ S a):SqLS K H S a xs:=.inl ⟨.inl h,n⟩
theorem Dm.free {p:Ke}(m:Dm S H)(h:H p=none):¬ S p:=fun q=>by
 obtain ⟨o,e,_⟩:=m p q
 rw [h] at e;cases e
theorem Dm.same (e:Same H H')(m:Dm S H):Dm S H':=fun a q=>by
 obtain ⟨o,h,w⟩:=m a q
 exact ⟨o,e a o h,w⟩
theorem Dm.sub (m:Dm S H)(h:∀ a,S' a->S a):Dm S' H:=fun a q=>m a (h a q)
theorem Dm.tup {a:Ke}{xs:List V}(m:Dm S H)(h:Rd H a (.tup xs)):¬ S a:=fun q=>by
 obtain ⟨o,e,w⟩:=m a q
 rcases h with h|⟨u,h⟩
 ·rw [h] at e;cases e;cases w
 ·rw [h] at e;cases e;cases w
theorem Dm.not {a:Ke}{u:HO}(m:Dm S H)(h:H a=some u)(n:Z9 u=false):¬ S a:=fun q=>by
 obtain ⟨o,e,w⟩:=m a q
 rw [h] at e;cases e;rw [n] at w;cases w
theorem Rd.off {a:Ke}{o:HO}(e:Off S H H')(n:¬ S a)(h:Rd H a o):Rd H' a o:=by
 rcases h with h|⟨u,h⟩
 ·exact .inl (e _ _ n h)
 ·exact .inr ⟨u,e _ _ n h⟩
theorem Rd.dom {a:Ke}{o:HO}(h:Rd H a o):H a≠none:=by
 rcases h with h|⟨u,h⟩<;>(rw [h];exact fun z=>nomatch z)
theorem Same.off (e:Same H H'):Off S H H':=fun b o _ h=>e b o h
theorem SqT.upd {a p:Ke}{o:HO}{xs:List V}(h:SqT K H a xs)(hn:H p=none):SqT K (upd H p o) a xs:=by
 rcases h with (h|⟨o',h⟩)|h
 ·exact .inl (.inl (by rw [qD (qW h hn)];exact h))
 ·exact .inl (.inr ⟨o',by rw [qD (qW h hn)];exact h⟩)
 ·exact .inr h
theorem Same.sqT {a:Ke}{xs:List V}(e:Same H H')(h:SqT K H a xs):SqT K H' a xs:=by
 rcases h with (h|⟨o,h⟩)|h
 ·exact .inl (.inl (e _ _ h))
 ·exact .inl (.inr ⟨o,e _ _ h⟩)
 ·exact .inr h
theorem Same.lay {p:Ke}{o:HO}(hn:H p=none):Same H (L2.upd H p o):=fun b u q=>by rw [qD (qW q hn)];exact q
theorem Same.lay' {H0:Hp}{p:Ke}{o:HO}(e:Same H0 H)(hn:H p=none):Same H0 (L2.upd H p o):=e.trans (Same.lay hn)
mutual
theorem Den.off (m:Dm S H)(e:Off S H H'):∀ {v:V} {d:Ka},Den K H S v d->Den K H' S v d
 | _,_,.none=>.none
 | _,_,.bool b=>.bool b
 | _,_,.int i=>.int i
 | _,_,.str x=>.str x
 | _,_,.list h t=>.list (h.imp (fun q=>⟨q.1.off e q.2,q.2⟩) id) (DenL.off m e t)
 | _,_,.tuple h t=>.tuple (h.imp (fun q=>q.off e (m.tup q)) id) (DenL.off m e t)
 | _,_,.dict h k t=>.dict ⟨e _ _ h.2 h.1,h.2⟩ (DenL.off m e k) (DenL.off m e t)
 | _,_,.exc0 h o=>.exc0 (e _ _ (m.not h rfl) h) o
 | _,_,.exc1 h o x y t=>.exc1 (e _ _ (m.not h rfl) h) o x (e _ _ (m.not y rfl) y) (Den.off m e t)
 | _,_,.ins h o=>.ins (e _ _ (m.not h rfl) h) o
theorem DenL.off (m:Dm S H)(e:Off S H H'):∀ {vs:List V} {ds:List Ka},DenL K H S vs ds->DenL K H' S vs ds
 | _,_,.nil=>.nil
 | _,_,.cons h t=>.cons (Den.off m e h) (DenL.off m e t)
end
mutual
theorem Den.same (e:Same H H'):∀ {v:V} {d:Ka},Den K H S v d->Den K H' S v d
 | _,_,.none=>.none
 | _,_,.bool b=>.bool b
 | _,_,.int i=>.int i
 | _,_,.str x=>.str x
 | _,_,.list h t=>.list (h.imp (fun q=>⟨q.1.off (S:=S) e.off q.2,q.2⟩) id) (DenL.same e t)
 | _,_,.tuple h t=>.tuple (e.sqT h) (DenL.same e t)
 | _,_,.dict h k t=>.dict ⟨e _ _ h.1,h.2⟩ (DenL.same e k) (DenL.same e t)
 | _,_,.exc0 h o=>.exc0 (e _ _ h) o
 | _,_,.exc1 h o x y t=>.exc1 (e _ _ h) o x (e _ _ y) (Den.same e t)
 | _,_,.ins h o=>.ins (e _ _ h) o
theorem DenL.same (e:Same H H'):∀ {vs:List V} {ds:List Ka},DenL K H S vs ds->DenL K H' S vs ds
 | _,_,.nil=>.nil
 | _,_,.cons h t=>.cons (Den.same e h) (DenL.same e t)
end
mutual
theorem Den.sub (e:∀ a,H a≠none->S' a->S a):∀ {v:V} {d:Ka},Den K H S v d->Den K H S' v d
 | _,_,.none=>.none
 | _,_,.bool b=>.bool b
 | _,_,.int i=>.int i
 | _,_,.str x=>.str x
 | _,_,.list h t=>.list (h.imp (fun q=>⟨q.1,fun z=>q.2 (e _ q.1.dom z)⟩) id) (DenL.sub e t)
 | _,_,.tuple h t=>.tuple h (DenL.sub e t)
 | _,_,.dict h k t=>.dict ⟨h.1,fun z=>h.2 (e _ (by rw [h.1];exact fun y=>nomatch y) z)⟩ (DenL.sub e k) (DenL.sub e t)
 | _,_,.exc0 h o=>.exc0 h o
 | _,_,.exc1 h o x y t=>.exc1 h o x y (Den.sub e t)
 | _,_,.ins h o=>.ins h o
theorem DenL.sub (e:∀ a,H a≠none->S' a->S a):∀ {vs:List V} {ds:List Ka},DenL K H S vs ds->DenL K H S' vs ds
 | _,_,.nil=>.nil
 | _,_,.cons h t=>.cons (Den.sub e h) (DenL.sub e t)
end
mutual
theorem Den.flat:∀ {v:V} {d:Ka},L2.flat d=true->Den K H S v d->Den K H S' v d
 | _,_,_,.none=>.none
 | _,_,_,.bool b=>.bool b
 | _,_,_,.int i=>.int i
 | _,_,_,.str x=>.str x
 | _,_,f,.list h t=>by cases f
 | _,_,f,.tuple h t=>.tuple h (DenL.flat (by rw [L2.flat] at f;exact f) t)
 | _,_,f,.dict h k t=>by cases f
 | _,_,f,.exc0 h o=>by cases f
 | _,_,f,.exc1 h o x y t=>by cases f
 | _,_,f,.ins h o=>by cases f
theorem DenL.flat:∀ {vs:List V} {ds:List Ka},yf ds=true->DenL K H S vs ds->DenL K H S' vs ds
 | _,_,_,.nil=>.nil
 | _,_,f,.cons h t=>by
  rw [yf,Ks] at f
  exact .cons (Den.flat f.1 h) (DenL.flat f.2 t)
end
theorem DenL.length:∀ {vs:List V} {ds:List Ka},DenL K H S vs ds->vs.length=ds.length
 | _,_,.nil=>rfl
 | _,_,.cons _ t=>by rw [KC,KC,t.length]
theorem DenL.snoc:∀ {vs:List V} {ds:List Ka} {v:V} {d:Ka},DenL K H S vs ds->Den K H S v d->DenL K H S (vs++[v]) (ds++[d])
 | _,_,_,_,.nil,h=>.cons h .nil
 | _,_,_,_,.cons h t,q=>.cons h (t.snoc q)
theorem DenL.append:∀ {vs ws:List V} {ds es:List Ka},DenL K H S vs ds->DenL K H S ws es->DenL K H S (vs++ws) (ds++es)
 | _,_,_,_,.nil,h=>h
 | _,_,_,_,.cons h t,q=>.cons h (t.append q)
theorem DenL.get:∀ {vs:List V} {ds:List Ka} {i:Nat} {d:Ka},DenL K H S vs ds->ds[i]?=some d->∃ v,vs[i]?=some v/\Den K H S v d
 | _,_,_,_,.nil,e=>by simp at e
 | _,_,0,_,.cons h _,e=>by simp at e;subst e;exact ⟨_,rfl,h⟩
 | _,_,i+1,d,.cons _ t,e=>by
  obtain ⟨v,h1,h2⟩:=DenL.get (i:=i) (d:=d) t (by simpa using e)
  exact ⟨v,by simpa using h1,h2⟩
theorem DenL.drop:∀ {vs:List V} {ds:List Ka} (n:Nat),DenL K H S vs ds->DenL K H S (vs.drop n) (ds.drop n)
 | _,_,0,h=>h
 | _,_,_+1,.nil=>.nil
 | _,_,n+1,.cons _ t=>t.drop n
theorem DenL.take:∀ {vs:List V} {ds:List Ka} (n:Nat),DenL K H S vs ds->DenL K H S (vs.take n) (ds.take n)
 | _,_,0,_=>.nil
 | _,_,_+1,.nil=>.nil
 | _,_,n+1,.cons h t=>.cons h (t.take n)
theorem DenL.ints:∀ ns:List Int,DenL K H S (ns.map V.int) (ns.map KU)
 | []=>.nil
 | n::ns=>.cons (.int n) (DenL.ints ns)
theorem Den.int_inv {v:V}{i:Int}(h:Den K H S v (.int i)):v=.int i:=by cases h;rfl
theorem Den.bool_inv {v:V}{b:Bool}(h:Den K H S v (.bool b)):v=.bl b:=by cases h;rfl
theorem Den.list_inv {v:V}{ds:List Ka}(h:Den K H S v (.list ds)):∃ a xs,v=.ref a/\SqLS K H S a xs/\DenL K H S xs ds:=by
 cases h with
 | list h t=>exact ⟨_,_,rfl,h,t⟩
theorem Den.tuple_inv {v:V}{ds:List Ka}(h:Den K H S v (.tuple ds)):∃ a xs,v=.ref a/\SqT K H a xs/\DenL K H S xs ds:=by
 cases h with
 | tuple h t=>exact ⟨_,_,rfl,h,t⟩
theorem DenL.inv1 {vs:List V}{d:Ka}(h:DenL K H S vs [d]):∃ v,vs=[v]/\Den K H S v d:=by
 cases h with
 | cons a t=>cases t;exact ⟨_,rfl,a⟩
theorem DenL.inv2 {vs:List V}{d e:Ka}(h:DenL K H S vs [d,e]):∃ v w,vs=[v,w]/\Den K H S v d/\Den K H S w e:=by
 cases h with
 | cons a t=>obtain ⟨w,rfl,b⟩:=t.inv1;exact ⟨_,w,rfl,a,b⟩
end
section
variable {X:Cx}{pins:List (Ke×Obj)}{σ:St}{H:Hp}{s:Kf}{S:Av}
mutual
theorem Den.reads (I:Inv X pins σ H s):∀ {v:V} {d:Ka} {u:Kb},Den X.K H S v d->d.canLay0=true->RelV v u->∃ as,Xr s.heap u d as
 | _,_,u,.none,_,r=>by cases (show u=K5 from r);exact ⟨_,.none⟩
 | _,_,u,.bool b,_,r=>by cases (show u=K1 b from r);exact ⟨_,.bool b⟩
 | _,_,u,.int i,_,r=>by obtain ⟨t,e⟩:=(show ∃ t,u=XX i t from r);cases e;exact ⟨_,.int i t⟩
 | _,_,u,.str x,_,r=>by obtain ⟨t,e⟩:=(show ∃ t,u=XW x t from r);cases e;exact ⟨_,.str x t⟩
 | _,_,u,@Den.list _ _ _ a xs ds h t,c0,r=>by
  cases (show u=KD a from r)
  obtain ⟨its,rv,⟨o,n,e,c,_,d⟩,_⟩:=I.list h.sq
  obtain ⟨as,q⟩:=DenL.reads I t (by rw [KQ] at c0;exact c0) rv
  exact ⟨_,.list e c d (by simpa using q)⟩
 | _,_,u,@Den.tuple _ _ _ a xs ds h t,c0,r=>by
  cases (show u=KD a from r)
  obtain ⟨its,rv,⟨o,e,c,n,d⟩,_⟩:=I.tuple h
  obtain ⟨as,q⟩:=DenL.reads I t (by rw [KQ] at c0;exact c0) rv
  exact ⟨_,.tuple e c d (by simpa using q)⟩
 | _,_,u,.dict h k t,c0,r=>by rw [KQ] at c0;cases c0
 | _,_,u,.exc0 h o,c0,r=>by unfold excD at c0;rw [KQ] at c0;cases c0
 | _,_,u,.exc1 h o x y t,c0,r=>by unfold excD at c0;rw [KQ] at c0;cases c0
 | _,_,u,.ins h o,c0,r=>by unfold objD at c0;rw [KQ] at c0;cases c0
theorem DenL.reads (I:Inv X pins σ H s):∀ {vs:List V} {ds:List Ka} {us:List Kb},DenL X.K H S vs ds->Kr ds=true->Vals vs us->∃ as,Up s.heap us ds as
 | _,_,_,.nil,_,.nil=>⟨_,.nil⟩
 | _,_,_,.cons h t,c0,.cons r rr=>by
  rw [Kr,Ks] at c0
  obtain ⟨as,q⟩:=Den.reads I h c0.1 r
  obtain ⟨bs,q'⟩:=DenL.reads I t c0.2 rr
  exact ⟨_,.cons q q'⟩
end
end
section
variable {X:Cx}{pins:List (Ke×Obj)}{σ:St}{H:Hp}{s:Kf}
def rEqD (K:Kd):R2:=fun x y H Q=>∃ S d e,Den K H S x d/\Den K H S y e/\VT d=true/\VT e=true/\Q (.bl (KP d e)) H
def rNeD (K:Kd):R2:=fun x y H Q=>∃ S d e,Den K H S x d/\Den K H S y e/\VT d=true/\VT e=true/\Q (.bl (!PyData.eqv d e)) H
theorem qki {k:Nat}(hr:Room k X.A):OpR X (compareOp .Eq) (rEqD X.K):=by
 intro pins s σ H x y v u Q I rx ry h
 obtain ⟨S,d,e,h1,h2,s1,s2,q⟩:=h
 obtain ⟨as,q1⟩:=h1.reads I (K7 s1) rx
 obtain ⟨bs,q2⟩:=h2.reads I (K7 s2) ry
 exact eq_dataH q1 q2 s1 s2 hr.units (Zh I q rfl)
theorem qkl {k:Nat}(hr:Room k X.A):OpR X (compareOp .NotEq) (rNeD X.K):=by
 intro pins s σ H x y v u Q I rx ry h
 obtain ⟨S,d,e,h1,h2,s1,s2,q⟩:=h
 obtain ⟨as,q1⟩:=h1.reads I (K7 s1) rx
 obtain ⟨bs,q2⟩:=h2.reads I (K7 s2) ry
 exact ne_dataH q1 q2 s1 s2 hr.units (Zh I q rfl)
theorem qix:OpR X (binaryOp .Mult) (rI NP fun i j=>.int (i*j)):=opI fun _ _ _ _ _ _ _ hc q=>mul_int q hc
inductive TyD (K:Kd)(H:Hp):V->String->Prop
 | non:TyD K H .non "NoneType"
 | bl (b:Bool):TyD K H (.bl b) "bool"
 | int (i:Int):TyD K H (.int i) "int"
 | str (x:Str):TyD K H (.str x) "str"
 | lst {a:Ke} {xs:List V} (h:SqL K H a xs):TyD K H (.ref a) "list"
 | tup {a:Ke} {xs:List V} (h:SqT K H a xs):TyD K H (.ref a) "tuple"
 | dct {a:Ke} {kvs:List (KX×Addr×V)} {ep:Nat} (h:H a=some (DctO a kvs ep)):TyD K H (.ref a) "dict"
def rIsi (K:Kd):List V->Hp->VK->Prop:=fun vs H Q=>∃ x T t b,vs=[x,.ty T]/\TyD K H x t/\Vd K (.type t) (.type T)=some b/\Q (.bl b) H
theorem qfF:Zz X (.builtin "isinstance") (rIsi X.K):=by
 intro pins s σ H xs us Q I r h
 obtain ⟨x,T,t,b,rfl,ty,e,q⟩:=h
 obtain ⟨u,c,rfl,ru,rc⟩:=r.two
 cases (show c=Vp T from rc)
 have fin:∀ tk,EP X pins σ Q (.bool b) { s with toks:=tk }:=fun tk=>⟨.bl b,H,I.tok tk,rfl,q⟩
 cases ty with
 | non=>cases (show u=K5 from ru);exact Va Fo I.kIn Uj e (fun z=>nomatch z) fin
 | bl y=>cases (show u=K1 y from ru);exact Va Fp I.kIn Uj e (fun z=>nomatch z) fin
 | int i=>obtain ⟨t,q⟩:=(show ∃ t,u=XX i t from ru);cases q;exact Va PySem.W.kitx_int I.kIn Uj e (fun z=>nomatch z) fin
 | str y=>obtain ⟨t,q⟩:=(show ∃ t,u=XW y t from ru);cases q;exact Va PySem.W.kitx_str I.kIn Uj e (fun z=>nomatch z) fin
 | @lst a xs ea =>
  cases (show u=KD a from ru)
  obtain ⟨_,_,⟨o,n,h1,h2,_⟩,_⟩:=I.list ea
  exact Va Ec I.kIn ⟨o,h1,h2⟩ e (fun z=>nomatch z) fin
 | @tup a xs ea =>
  cases (show u=KD a from ru)
  obtain ⟨_,_,⟨o,h1,h2,_⟩,_⟩:=I.tuple ea
  exact Va Fg I.kIn ⟨o,h1,h2⟩ e (fun z=>nomatch z) fin
 | @dct a kvs ep ea =>
  cases (show u=KD a from ru)
  obtain ⟨o,_,h1,h2,_⟩:=(zJ.of (I.hok a _ ea)).vals
  exact Va Ed I.kIn ⟨o,h1,h2.1⟩ e (fun z=>nomatch z) fin
def ExcH (K:Kd)(H:Hp)(a:Ke)(c:Str):Prop:=∃ o,H a=some (.frz o (.own a))/\ExcO K o c
theorem Den.exc {K:Kd}{S:Av}{v:V}{c:Str}{d:Ka}(h:Den K H S v (excD c d)):∃ a,v=.ref a/\ExcH K H a c:=by
 generalize hd:excD c d=x at h
 cases h with
 | @dict a kvs ep ds h k t =>
  have:excK (dkv kvs ds)=true:=by
   have:=PyData.dict.inj hd
   rw [← this];rfl
  rw [wJ] at this
  cases this
 | exc0 h o=>cases hd;exact ⟨_,rfl,_,h,o⟩
 | exc1 h o x y t=>cases hd;exact ⟨_,rfl,_,h,o⟩
 | _=>cases hd
theorem Inv.excAt {a:Ke}{c:Str}(I:Inv X pins σ H s)(h:ExcH X.K H a c):∃ C,KM X.K mainGlobals c=some (some (.ref C))/\xcB X.K C=true/\OfC s.heap a C:=by
 obtain ⟨o,ha,C,vs,h1,h2,h3,h4⟩:=h
 exact ⟨C,h3,h4,o,(I.hok a _ ha).1,h1⟩
def qjq (K:Kd):List V->Hp->VK->Prop:=fun vs H Q=>∃ a c T b,vs=[.ref a,.ty T]/\ExcH K H a c/\(∀ C,xcB K C=true->Vd K (.ref C) (.type T)=some b)/\Q (.bl b) H
theorem qeu:Zz X (.builtin "isinstance") (qjq X.K):=by
 intro pins s σ H xs us Q I r h
 obtain ⟨a,c,T,b,rfl,hx,e,q⟩:=h
 obtain ⟨u,c',rfl,ru,rc⟩:=r.two
 cases (show c'=Vp T from rc)
 cases (show u=KD a from ru)
 obtain ⟨C,_,h4,IA⟩:=I.excAt hx
 exact Va (wX (JR h4)) I.kIn IA (e C h4) (fun z=>nomatch z) fun tk=>⟨.bl b,H,I.tok tk,rfl,q⟩
def qjp (K:Kd):List V->Hp->VK->Prop:=fun vs H Q=>∃ a C dx T b,vs=[.ref a,.ty T]/\H a=some (.ins C dx [])/\icB K C=true/\Vd K (.ref C) (.type T)=some b/\Q (.bl b) H
theorem qes:Zz X (.builtin "isinstance") (qjp X.K):=by
 intro pins s σ H xs us Q I r h
 obtain ⟨a,C,dx,T,b,rfl,hx,hc,e,q⟩:=h
 obtain ⟨u,c',rfl,ru,rc⟩:=r.two
 cases (show c'=Vp T from rc)
 exact qeN I ru ((qf5 hc).ty hx) e fun tk=>⟨.bl b,H,I.tok tk,rfl,q⟩
end
abbrev Rho:=List (Option Ka)
def DenS (K:Kd)(H:Hp)(S:Av)(M:List Nat)(σ:St)(ρ:Rho):Prop:=Dm S H/\σ.length=ρ.length/\∀ (i:Nat) (d:Ka),i∉M->ρ[i]?=some (some d)->∃ v,σ[i]?=some (some v)/\Den K H S v d
section
variable {K:Kd}{H H':Hp}{S:Av}{M:List Nat}{σ:St}{ρ:Rho}{v:V}{d:Ka}
theorem DenS.same (e:Same H H')(h:DenS K H S M σ ρ):DenS K H' S M σ ρ:=⟨h.1.same e,h.2.1,fun i d n q=>let ⟨v,a,b⟩:=h.2.2 i d n q;⟨v,a,b.same e⟩⟩
theorem DenS.set (h:DenS K H S M σ ρ)(q:Den K H S v d)(i:Nat):DenS K H S M (σ.set i (some v)) (ρ.set i (some d)):=by
 refine ⟨h.1,by rw [Vw,Vw];exact h.2.1,fun j e n he=>?_⟩
 by_cases hj:i=j
 ·subst hj
  by_cases hi:i<ρ.length
  ·rw [Vr hi] at he
   cases he
   exact ⟨v,Vr (by rw [h.2.1];exact hi),q⟩
  ·rw [List.set_eq_of_length_le (by omega)] at he
   exact absurd (Vg.mp he).1 hi
 ·rw [VR hj] at he
  obtain ⟨w,a,b⟩:=h.2.2 j e n he
  exact ⟨w,by rw [VR hj];exact a,b⟩
theorem DenS.start {vs:List V}{ds:List Ka}(m:Dm S H)(h:DenL K H S vs ds)(N:List Str):DenS K H S [] (start N vs) (ds.map some++Vn (N.length-ds.length) none):=by
 have hl:=h.length
 refine ⟨m,?_,fun j e _ he=>?_⟩
 ·unfold L2.start
  rw [Kp,Kp,Kj,Kj,VY,VY,hl]
 ·by_cases hj:j<ds.length
  ·rw [VF (by simpa using hj),Vb] at he
   cases e1:ds[j]? with
   | none=>rw [e1] at he;cases he
   | some d =>
    rw [e1] at he
    cases he
    obtain ⟨v,a,b⟩:=h.get e1
    refine ⟨v,?_,b⟩
    unfold L2.start
    rw [VF (by rw [Kj];omega),Vb,a]
    rfl
  ·rw [Ut (by simpa using hj),UG] at he
   split at he<;>cases he
end
def tD (K:Kd)(M:List Nat)(f:Rho->Option Ka):TE:=fun σ H Q=>∃ S ρ d,DenS K H S M σ ρ/\f ρ=some d/\∀ v H',Same H H'->Den K H' S v d->Q v H'
def tDA (K:Kd)(M:List Nat)(f:Rho->Option (List Ka)):TA:=fun σ H Q=>∃ S ρ ds,DenS K H S M σ ρ/\f ρ=some ds/\∀ vs H',Same H H'->DenL K H' S vs ds->Q vs H'
def tDT (K:Kd)(M:List Nat)(f:Rho->Option Bool):TT:=fun σ H Q=>∃ S ρ b,DenS K H S M σ ρ/\f ρ=some b/\∀ H',Same H H'->Q b H'
inductive Out where
 | nx (ρ:Rho)|rt (d:Ka)|bk (ρ:Rho)|ct (ρ:Rho)
def PD (X:Cx)(M:List Nat)(e:Kw)(f:Rho->Option Ka):Prop:=PE X e (tD X.K M f)
def PDA (X:Cx)(M:List Nat)(es:List Kw)(f:Rho->Option (List Ka)):Prop:=PA X es (tDA X.K M f)
def PDT (X:Cx)(M:List Nat)(e:Kw)(f:Rho->Option Bool):Prop:=PT X e (tDT X.K M f)
theorem PE.weak {X:Cx}{e:Kw}{t t':TE}(h:PE X e t)(w:∀ σ H Q,t' σ H Q->t σ H Q):PE X e t':=fun pins s σ H Q I q=>h pins s σ H Q I (w σ H Q q)
theorem PT.weak {X:Cx}{e:Kw}{t t':TT}(h:PT X e t)(w:∀ σ H Q,t' σ H Q->t σ H Q):PT X e t':=fun pins s σ H Q I q=>h pins s σ H Q I (w σ H Q q)
theorem PW.weak {X:Cx}{e:Kw}{t t':TT}(h:PW X e t)(w:∀ σ H Q,t' σ H Q->t σ H Q):PW X e t':=fun wh pins s σ H Q I q=>h wh pins s σ H Q I (w σ H Q q)
theorem PA.weak {X:Cx}{e:List Kw}{t t':TA}(h:PA X e t)(w:∀ σ H Q,t' σ H Q->t σ H Q):PA X e t':=fun pos pins s σ H Q I q=>h pos pins s σ H Q I (w σ H Q q)
theorem PS.weak {X:Cx}{e:KY}{t t':TS}(h:PS X e t)(w:∀ D σ H,t' D σ H->t D σ H):PS X e t':=fun pins s σ H D I q=>h pins s σ H D I (w D σ H q)
theorem PSs.weak {X:Cx}{e:List KY}{t t':TS}(h:PSs X e t)(w:∀ D σ H,t' D σ H->t D σ H):PSs X e t':=fun pins s σ H D I q=>h pins s σ H D I (w D σ H q)
def ob {α β:Type}(a:Option α)(f:α->Option β):Option β:=match a with | some x=>f x|none=>none
theorem qe {α β:Type}{a:Option α}{f:α->Option β}{y:β}(h:ob a f=some y):∃ x,a=some x/\f x=some y:=by
 cases a with
 | none=>cases h
 | some x=>exact ⟨x,rfl,h⟩
def visB (sc:VE)(x:Str):Bool:=decide (sc.names.lookup x=some .local)||decide (sc.names.lookup x=some .cell)||decide (sc.names.lookup x=some .free)
def locB (sc:VE)(x:Str):Bool:=decide (sc.names.lookup x=some .local)||decide (sc.names.lookup x=some .cell)
def glB (sc:VE)(x:Str):Bool:=decide (sc.names.lookup x=some .globalImplicit)
theorem Yk {sc:VE}{x:Str}(h:visB sc x=true):Vis sc x:=by
 unfold visB at h
 simp only [NH,decide_eq_true_eq] at h
 rcases h with (h|h)|h
 ·exact .inl h
 ·exact .inr (.inl h)
 ·exact .inr (.inr h)
theorem qgm {sc:VE}{x:Str}(h:locB sc x=true):Loc sc x:=by
 unfold locB at h
 simp only [NH,decide_eq_true_eq] at h
 exact h
theorem qjh {X:Cx}{x:Str}(sc:VE)(hs:X.env.scope=sc)(h:glB sc x=true):Gl X x:=by
 subst hs
 have h':X.env.scope.names.lookup x=some .globalImplicit:=of_decide_eq_true h
 exact h'
theorem ZP {env:Env}:∀ {names:List (Str×NameKind)} {x:Str} {k:Ep},names.lookup x=some k->
  (names.map fun (n,k)=>if (k==Vh&&env.scope.kind==.function&&env.kindOf n==some .cell) then (n,VL) else (n,k)).lookup x=some k\/
  (k=.free/\(names.map fun (n,k)=>if (k==Vh&&env.scope.kind==.function&&env.kindOf n==some .cell) then (n,VL) else (n,k)).lookup x=some .cell)
 | [],_,_,h=>by simp at h
 | (n,k')::r,x,k,h=>by
  have ih:=@ZP env r x k
  show Ux x ((if (k'==Vh&&env.scope.kind==.function&&env.kindOf n==some .cell)=true then (n,VL) else (n,k'))::_)=_\/(_/\Ux x ((if (k'==Vh&&env.scope.kind==.function&&env.kindOf n==some .cell)=true then (n,VL) else (n,k'))::_)=_)
  cases hx:x==n with
  | true =>
   simp only [Vi,hx] at h
   cases h
   by_cases hc:(k'==Vh&&env.scope.kind==.function&&env.kindOf n==some .cell)=true
   ·rw [if_pos hc]
    rw [Ks,Ks] at hc
    exact .inr ⟨by simpa using hc.1.1,by simp [Vi,hx]⟩
   ·rw [if_neg hc]
    exact .inl (by simp [Vi,hx])
  | false =>
   simp only [Vi,hx] at h
   by_cases hc:(k'==Vh&&env.scope.kind==.function&&env.kindOf n==some .cell)=true
   ·rw [if_pos hc]
    simp only [Vi,hx]
    exact ih h
   ·rw [if_neg hc]
    simp only [Vi,hx]
    exact ih h
section
variable {X:Cx}{x:Str}{N':List Str}{sc:VE}{cl:List (Str×Addr)}{C:Ke}{fp:List Ke}{pins:List (Ke×Obj)}{s:Kf}{H:Hp}
theorem qK (h:visB sc x=true):Vis (qO X N' sc cl C fp pins s H).env.scope x:=by
 rcases Yk h with h|h|h
 ·rcases ZP (env:=X.env) h with q|q
  ·exact .inl q
  ·cases q.1
 ·rcases ZP (env:=X.env) h with q|q
  ·exact .inr (.inl q)
  ·cases q.1
 ·rcases ZP (env:=X.env) h with q|q
  ·exact .inr (.inr q)
  ·exact .inr (.inl q.2)
theorem YS (h:glB sc x=true):Gl (qO X N' sc cl C fp pins s H) x:=by
 rcases ZP (env:=X.env) (of_decide_eq_true h) with q|q
 ·exact q
 ·cases q.1
end
def vr (i:Nat):Rho->Option Ka:=fun ρ=>(ρ[i]?).join
def kd (d:Ka):Rho->Option Ka:=fun _=>some d
def ev1 (fa:Rho->Option Ka)(g:Ka->Option Ka):Rho->Option Ka:=fun ρ=>ob (fa ρ) g
def aN:Rho->Option (List Ka):=fun _=>some []
def aC (fa:Rho->Option Ka)(fs:Rho->Option (List Ka)):Rho->Option (List Ka):=fun ρ=>ob (fa ρ) fun x=>ob (fs ρ) fun xs=>some (x::xs)
def evA (fs:Rho->Option (List Ka))(h:List Ka->Option Ka):Rho->Option Ka:=fun ρ=>ob (fs ρ) h
def evC (n:Nat)(fs:Rho->Option (List Ka))(h:List Ka->Option Ka):Rho->Option Ka:=fun ρ=>ob (fs ρ) fun ds=>if ds.length=n then h ds else none
def evC0 (h:List Ka->Option Ka):Rho->Option Ka:=fun _=>h []
section
variable {X:Cx}{M:List Nat}{a b c:Kw}{es:List Kw}{f g fa fb:Rho->Option Ka}{pos:Pos}
theorem qd (i:Nat){x:Str}(hv:Vis X.env.scope x)(hM:i∉M)(hN:X.N[i]?=some x:=by rfl)(hd:(x==("__debug__" : Str))=false:=by decide +kernel)
  (hcd:(x==("__classdict__" : Str))=false:=by decide +kernel):PD X M (.Name x pos) (vr i) :=
 (Yb hN hv hd hcd).weak fun σ H Q ⟨S,ρ,d,hs,e,q⟩=>by
  have e:(ρ[i]?).join=some d:=e
  have e':ρ[i]?=some (some d):=by
   cases h:ρ[i]? with
   | none=>rw [h] at e;cases e
   | some o=>rw [h] at e;exact congrArg some e
  obtain ⟨v,h1,h2⟩:=hs.2.2 i d hM e'
  exact ⟨v,h1,q v H (Same.refl H) h2⟩
theorem ql {i j p}:PD X M (.Constant (.int i) j p) (kd (.int i)):=qku.weak fun σ H Q ⟨S,_,d,_,e,q⟩=>by cases e;exact q _ H (Same.refl H) (.int i)
theorem ZK {i j p}:PD X M (.Constant (.bool i) j p) (kd (.bool i)):=pe_bl.weak fun σ H Q ⟨S,_,d,_,e,q⟩=>by cases e;exact q _ H (Same.refl H) (.bool i)
theorem j5 {j p}:PD X M (.Constant .none j p) (kd .none):=qkv.weak fun σ H Q ⟨S,_,d,_,e,q⟩=>by cases e;exact q _ H (Same.refl H) .none
theorem qiC {x:Str}{v:V}{u:Kb}{d:Ka}(hg:Gl X x)(hm:X.mg x=some u)(r:RelV v u)(hd:∀ H S,Den X.K H S v d)(hdb:(x==("__debug__" : Str))=false:=by decide +kernel):PD X M (.Name x pos) (kd d) :=
 (qa2 hg hm r hdb).weak fun σ H Q ⟨S,_,d',_,e,q⟩=>by cases e;exact q _ H (Same.refl H) (hd H S)
def rD2 (K:Kd)(g:Ka->Ka->Option Ka):R2:=fun x y H Q=>∃ S dx dy d,Dm S H/\Den K H S x dx/\Den K H S y dy/\g dx dy=some d/\∀ v H',Same H H'->Den K H' S v d->Q v H'
def OpD (X:Cx)(f:Kb->Kb->Sem Kb)(g:Ka->Ka->Option Ka):Prop:=OpR X f (rD2 X.K g)
def UnD (X:Cx)(f:Kb->Sem Kb)(g:Ka->Option Ka):Prop:=UnR X f (fun x H Q=>∃ S dx d,Dm S H/\Den X.K H S x dx/\g dx=some d/\∀ v H',Same H H'->Den X.K H' S v d->Q v H')
def CallD (X:Cx)(f:Kb)(g:List Ka->Option Ka):Prop:=Zz X f (fun vs H Q=>∃ S ds d,Dm S H/\DenL X.K H S vs ds/\g ds=some d/\∀ v H',Same H H'->Den X.K H' S v d->Q v H')
def ev2 (fa fb:Rho->Option Ka)(g:Ka->Ka->Option Ka)(ρ:Rho):Option Ka:=ob (fa ρ) fun x=>ob (fb ρ) fun y=>g x y
theorem tD2 {K:Kd}{g:Ka->Ka->Option Ka}:∀ σ H Q,tD K M (ev2 fa fb g) σ H Q->tOp (rD2 K g) (tD K M fa) (tD K M fb) σ H Q:=by
 intro σ H Q ⟨S,ρ,d,hs,e,q⟩
 obtain ⟨x,e1,e⟩:=qe e
 obtain ⟨y,e2,e⟩:=qe e
 exact ⟨S,ρ,x,hs,e1,fun v H1 g1 d1=>⟨S,ρ,y,hs.same g1,e2,fun w H2 g2 d2=>⟨S,x,y,d,hs.1.same (g1.trans g2),d1.same g2,d2,e,fun z H3 g3 d3=>q z H3 (g1.trans (g2.trans g3)) d3⟩⟩⟩
theorem qI {op:Operator}{g:Ka->Ka->Option Ka}(ho:OpD X (binaryOp op) g)(ha:PD X M a fa)(hb:PD X M b fb):PD X M (.BinOp a op b pos) (ev2 fa fb g):=(pe_op ho ha hb).weak tD2
theorem w6 {op:CmpOp}{g:Ka->Ka->Option Ka}(ho:OpD X (compareOp op) g)(ha:PD X M a fa)(hb:PD X M b fb)(hm:behindInMarks op b=false):PD X M (.Compare a [op] [b] pos) (ev2 fa fb g):=(qiI ho ha hb hm).weak tD2
theorem qaj {op:UnaryOp}{g:Ka->Option Ka}(ho:UnD X (unaryOp op) g)(ha:PD X M a fa):PD X M (.UnaryOp op a pos) (ev1 fa g) :=
 (pe_un ho ha).weak fun σ H Q ⟨S,ρ,d,hs,e,q⟩=>by
  obtain ⟨x,e1,e⟩:=qe e
  exact ⟨S,ρ,x,hs,e1,fun v H1 g1 d1=>⟨S,x,d,hs.1.same g1,d1,e,fun z H3 g3 d3=>q z H3 (g1.trans g3) d3⟩⟩
def ixD:Ka->Ka->Option Ka
 | .tuple ds,.int i=>atI ds i
 | .list ds,.int i=>atI ds i
 | _,_=>none
theorem DenL.atI {K:Kd}{H:Hp}{S:Av}{vs:List V}{ds:List Ka}{i:Int}{d:Ka}(h:DenL K H S vs ds)(e:atI ds i=some d):∃ v,L2.atI vs i=some v/\Den K H S v d:=by
 unfold L2.atI at e ⊢
 rw [h.length]
 cases q:ixN ds.length i with
 | none=>rw [q] at e;cases e
 | some j=>rw [q] at e;exact h.get e
theorem q9 (ha:PD X M a fa)(hb:PD X M b fb)(hs:YG b:=by intro _ _;rfl):PD X M (.Subscript a b pos) (ev2 fa fb ixD) :=
 (qgN (r:=fun x y H Q=>rIxL X.K x y H Q\/rIxT X.K x y H Q) (qdK.or qgb) ha hb hs).weak fun σ H Q ⟨S,ρ,d,hs,e,q⟩=>by
  obtain ⟨x,e1,e⟩:=qe e
  obtain ⟨y,e2,e⟩:=qe e
  refine ⟨S,ρ,x,hs,e1,fun v H1 g1 d1=>⟨S,ρ,y,hs.same g1,e2,fun w H2 g2 d2=>?_⟩⟩
  have d1':=d1.same g2
  cases d1' with
  | list h t =>
   cases d2 with
   | int i=>obtain ⟨z,z1,z2⟩:=t.atI e;exact .inl ⟨_,_,_,_,rfl,rfl,h.sq,z1,q z H2 (g1.trans g2) z2⟩
   | _=>cases e
  | tuple h t =>
   cases d2 with
   | int i=>obtain ⟨z,z1,z2⟩:=t.atI e;exact .inr ⟨_,_,_,_,rfl,rfl,h,z1,q z H2 (g1.trans g2) z2⟩
   | _=>cases e
  | _=>cases e
theorem qi:PDA X M [] aN:=yW.weak fun σ H Q ⟨S,_,d,_,e,q⟩=>by cases e;exact q [] H (Same.refl H) .nil
theorem qb {fs:Rho->Option (List Ka)}(ha:PD X M a fa)(hr:PDA X M es fs)(hs:starEach (a::es) X.env=(false,eval a X.env)::starEach es X.env:=by rfl):PDA X M (a::es) (aC fa fs) :=
 (Zt ha hr hs).weak fun σ H Q ⟨S,ρ,d,hs,e,q⟩=>by
  obtain ⟨x,e1,e⟩:=qe e
  obtain ⟨xs,e2,e⟩:=qe e
  cases e
  exact ⟨S,ρ,x,hs,e1,fun v H1 g1 d1=>⟨S,ρ,xs,hs.same g1,e2,fun vs H2 g2 d2=>q _ H2 (g1.trans g2) (.cons (d1.same g2) d2)⟩⟩
def tupD (ds:List Ka):Option Ka:=if ds.length<=1000 then some (.tuple ds) else none
def lstD (ds:List Ka):Option Ka:=if ds.length<=1000 then some (.list ds) else none
theorem qfj {ds:List Ka}{d:Ka}(h:tupD ds=some d):ds.length<=1000/\d=.tuple ds:=by
 unfold tupD at h
 split at h
 ·rename_i q;cases h;exact ⟨q,rfl⟩
 ·cases h
theorem qaa {ds:List Ka}{d:Ka}(h:lstD ds=some d):ds.length<=1000/\d=.list ds:=by
 unfold lstD at h
 split at h
 ·rename_i q;cases h;exact ⟨q,rfl⟩
 ·cases h
theorem zL {fs:Rho->Option (List Ka)}{x1}(h:PDA X M es fs):PD X M (.Tuple es x1 pos) (evA fs tupD) :=
 (qgQ h).weak fun σ H Q ⟨S,ρ,d,hs,e,q⟩=>by
  obtain ⟨xs,e1,e⟩:=qe e
  obtain ⟨hz,rfl⟩:=qfj e
  refine ⟨S,ρ,xs,hs,e1,fun vs H1 g1 d1=>⟨VM (zA (by rw [d1.length];exact hz)),fun p hp=>?_⟩⟩
  exact q _ _ (g1.lay' hp) (.tuple (SqT.of qF) (d1.same (Same.lay hp)))
theorem qgE {fs:Rho->Option (List Ka)}(h:PDA X M es fs):PD X M (.List es pos) (evA fs lstD) :=
 (qgO h).weak fun σ H Q ⟨S,ρ,d,hs,e,q⟩=>by
  obtain ⟨xs,e1,e⟩:=qe e
  obtain ⟨hz,rfl⟩:=qaa e
  refine ⟨S,ρ,xs,hs,e1,fun vs H1 g1 d1=>⟨VM (zA (by rw [d1.length];exact hz)),fun p hp=>?_⟩⟩
  exact q _ _ (g1.lay' hp) (.list (SqLS.new qF ((hs.1.same g1).free hp)) (d1.same (Same.lay hp)))
def spF (K:Kd)(n:Nat)(f:List Ka->Option Ka):Sp:=fun vs H Q _=>∃ S ds d,Dm S H/\DenL K H S vs ds/\ds.length=n/\f ds=some d/\∀ v H',Same H H'->Den K H' S v d->Q v H'
theorem qiB {CX:CXT}{k n:Nat}{fn:Ke}{fd:Vo}{ps:List Str}{h:List Ka->Option Ka}{E:XK}{x:Str}{p:Pos}{fs:Rho->Option (List Ka)}(F:FnOk X.prog X.w X.K X.mg X.base CX k fn fd ps (spF X.K n h))(hr:Room k X.A)(hg:Gl X x)(hm:X.mg x=some (.ref fn))(hk:VQ X.K (.ref fn)=true)
  (hb:Binds X.K fd ps []) (hx:qaC CX X E) (ha:PDA X M (a::es) fs) (hl:(a::es).length=n) (hdb:(x==("__debug__" : Str))=false:=by decide +kernel) (he:starEach (a::es) X.env=(false,eval a X.env)::starEach es X.env:=by rfl) (hpl:(backTo pos (starEach es X.env)).any (·.1)=false:=by rfl) :
  PD X M (.Call (.Name x p) (a::es) [] pos) (evC n fs h) :=
 (qiH F hr hg hm hk hb .nil hx ha hdb he hpl).weak fun σ H Q ⟨S,ρ,d,hs,e,q⟩=>by
  obtain ⟨ds,e1,e⟩:=qe e
  have e:(if ds.length=n then h ds else none)=some d:=e
  split at e
  ·rename_i hn
   exact ⟨S,ρ,ds,hs,e1,fun vs H1 g1 d1=>⟨S,ds,d,hs.1.same g1,by rw [Vl];exact d1,hn,e,fun v H' g2 d2=>q v H' (g1.trans g2) d2⟩⟩
  ·cases e
theorem ZL {id:String}{x:Str}{p:Pos}{h:List Ka->Option Ka}{fs:Rho->Option (List Ka)}(hc:CallD X (.builtin id) h)(hg:Gl X x)(hm:X.mg x=none)(hv:bootBuiltins x=some (.builtin id))(ha:PDA X M (a::es) fs)(hn:x ≠ "__name__" := by decide +kernel)(hdb:(x==("__debug__" : Str))=false:=by decide +kernel)
  (he:starEach (a::es) X.env=(false,eval a X.env)::starEach es X.env:=by rfl) (hpl:(backTo pos (starEach es X.env)).any (·.1)=false:=by rfl):PD X M (.Call (.Name x p) (a::es) [] pos) (evA fs h) :=
 (yt hc hg hm hv ha hn hdb he hpl).weak fun σ H Q ⟨S,ρ,d,hs,e,q⟩=>by
  obtain ⟨ds,e1,e⟩:=qe e
  exact ⟨S,ρ,ds,hs,e1,fun vs H1 g1 d1=>⟨S,ds,d,hs.1.same g1,d1,e,fun v H' g2 d2=>q v H' (g1.trans g2) d2⟩⟩
theorem QQ {T:String}{x:Str}{p:Pos}{h:List Ka->Option Ka}{fs:Rho->Option (List Ka)}(hc:CallD X (.type T) h)(hg:Gl X x)(hm:X.mg x=none)(hv:bootBuiltins x=some (.type T))(ha:PDA X M (a::es) fs)(hn:x ≠ "__name__" := by decide +kernel)(hdb:(x==("__debug__" : Str))=false:=by decide +kernel)
  (he:starEach (a::es) X.env=(false,eval a X.env)::starEach es X.env:=by rfl) (hpl:(backTo pos (starEach es X.env)).any (·.1)=false:=by rfl):PD X M (.Call (.Name x p) (a::es) [] pos) (evA fs h) :=
 (qap hc hg hm hv ha hn hdb he hpl).weak fun σ H Q ⟨S,ρ,d,hs,e,q⟩=>by
  obtain ⟨ds,e1,e⟩:=qe e
  exact ⟨S,ρ,ds,hs,e1,fun vs H1 g1 d1=>⟨S,ds,d,hs.1.same g1,d1,e,fun v H' g2 d2=>q v H' (g1.trans g2) d2⟩⟩
def tyS:Ka->String
 | .none => "NoneType" | .bool _ => "bool" | .int _ => "int" | .str _ => "str" | .list _ => "list" | .tuple _ => "tuple" | .dict _ => "dict"
def isiT (T:String):Ka->Bool
 | .none=>T == "NoneType" || T == "object"
 | .bool _=>T == "bool" || T == "int" || T == "object"
 | .int _=>T == "int" || T == "object"
 | .str _=>T == "str" || T == "object"
 | .list _=>T == "list" || T == "object"
 | .tuple _=>T == "tuple" || T == "object"
 | .dict _=>T == "dict" || T == "object"
def isiD (T:String)(d:Ka):Option Ka:=some (.bool (isiT T d))
def qbf (K:Kd)(T:String):Prop:=∀ d:Ka,Vd K (.type (tyS d)) (.type T)=some (isiT T d)
theorem qie (K:Kd):qbf K "int" := fun d=>by cases d<;>rfl
theorem qgf (K:Kd):qbf K "bool" := fun d=>by cases d<;>rfl
theorem kit_tuple (K:Kd):qbf K "tuple" := fun d=>by cases d<;>rfl
theorem qbO (K:Kd):qbf K "list" := fun d=>by cases d<;>rfl
theorem qdx {K:Kd}{T:String}{C:Ke}{c:Str}{d:Ka}(hT:T∈J9)(h:xcB K C=true):Vd K (.ref C) (.type T)=some (isiT T (excD c d)):=by
 rw [(JR h).ts T hT]
 have:(T == "dict" || T == "object")=false:=by
  simp only [J9,Kk,K3,or_false] at hT
  rcases hT with rfl|rfl|rfl|rfl|rfl<;>decide +kernel
 exact congrArg some this.symm
theorem qh4 {K:Kd}{T:String}{C:Ke}{c:Str}(hT:T∈J9)(h:icB K C=true):Vd K (.ref C) (.type T)=some (isiT T (objD c)):=by
 rw [(qf5 h).ts T hT]
 have:(T == "dict" || T == "object")=false:=by
  simp only [J9,Kk,K3,or_false] at hT
  rcases hT with rfl|rfl|rfl|rfl|rfl<;>decide +kernel
 exact congrArg some this.symm
theorem Wc {T:String}{p p2:Pos}(kit:qbf X.K T)(hg:Gl X "isinstance")(hm:X.mg "isinstance" = none)(hgT:Gl X (Kg T))(hmT:X.mg (Kg T)=none)(hvT:bootBuiltins (Kg T)=some (.type T))(hv:bootBuiltins "isinstance" = some (.builtin "isinstance"))(ha:PD X M a fa)(hnT:Kg T ≠ "__name__" := by decide +kernel)(hdT:(Kg T==("__debug__" : Str))=false:=by decide +kernel)(hT:T∈J9:=by decide +kernel)
  (he:starEach [a,.Name (Kg T) p2] X.env=(false,eval a X.env)::starEach [.Name (Kg T) p2] X.env:=by rfl) (hpl:(backTo pos (starEach [.Name (Kg T) p2] X.env)).any (·.1)=false:=by rfl)
  (hs2:starEach [.Name (Kg T) p2] X.env=(false,eval (.Name (Kg T) p2) X.env)::starEach [] X.env:=by rfl) :
  PD X M (.Call (.Name "isinstance" p) [a,.Name (Kg T) p2] [] pos) (ev1 fa (isiD T)) :=
 (yt (qfF.or (qeu.or qes)) hg hm hv (Zt ha (Zt (qd7 (v:=.ty T) hgT hmT hvT rfl hnT hdT) yW hs2) he) (by decide +kernel) (by decide +kernel) he hpl).weak fun σ H Q ⟨S,ρ,d,hs,e,q⟩=>by
  obtain ⟨x,e1,e⟩:=qe e
  cases e
  refine ⟨S,ρ,x,hs,e1,fun v H1 g1 d1=>?_⟩
  have fin:=q (.bl (isiT T x)) H1 g1 (.bool _)
  have k:=kit x
  show rIsi X.K [v,.ty T] H1 Q\/qjq X.K [v,.ty T] H1 Q\/qjp X.K [v,.ty T] H1 Q
  cases d1 with
  | none=>exact .inl ⟨_,_,_,_,rfl,.non,k,fin⟩
  | bool y=>exact .inl ⟨_,_,_,_,rfl,.bl y,k,fin⟩
  | int y=>exact .inl ⟨_,_,_,_,rfl,.int y,k,fin⟩
  | str y=>exact .inl ⟨_,_,_,_,rfl,.str y,k,fin⟩
  | list h t=>exact .inl ⟨_,_,_,_,rfl,.lst h.sq,k,fin⟩
  | tuple h t=>exact .inl ⟨_,_,_,_,rfl,.tup h,k,fin⟩
  | dict h k2 t=>exact .inl ⟨_,_,_,_,rfl,.dct h.1,k,fin⟩
  | exc0 h o=>exact .inr (.inl ⟨_,_,_,_,rfl,⟨_,h,o⟩,fun C z=>qdx hT z,fin⟩)
  | exc1 h o x y t=>exact .inr (.inl ⟨_,_,_,_,rfl,⟨_,h,o⟩,fun C z=>qdx hT z,fin⟩)
  | ins h o=>exact .inr (.inr ⟨_,_,_,_,_,rfl,h,o.2,qh4 hT o.2,fin⟩)
theorem JG {f:Kb->Kb->Sem Kb}{g:Ka->Ka->Option Ka}{r:R2}(h:OpR X f r)(w:∀ x y dx dy d H S (Q:VK),Dm S H->Den X.K H S x dx->Den X.K H S y dy->g dx dy=some d->(∀ v H',Same H H'->Den X.K H' S v d->Q v H')->r x y H Q):OpD X f g :=
 fun pins s σ H x y v u Q I rx ry ⟨S,dx,dy,d,m,h1,h2,e,q⟩=>h pins s σ H x y v u Q I rx ry (w x y dx dy d H S Q m h1 h2 e q)
def iiD (h:Int->Int->Option Ka):Ka->Ka->Option Ka
 | .int i,.int j=>h i j
 | _,_=>none
theorem wN {h:Int->Int->Option Ka}{x y d:Ka}(e:iiD h x y=some d):∃ i j,x=.int i/\y=.int j/\h i j=some d:=by
 cases x<;>cases y<;>first|exact ⟨_,_,rfl,rfl,e⟩|cases e
theorem qis {f:Kb->Kb->Sem Kb}{gi:Int->Int->Int}(h:OpR X f (rI0 fun i j=>.int (gi i j))):OpD X f (iiD fun i j=>some (.int (gi i j))) :=
 JG h fun x y dx dy d H S Q m h1 h2 e q=>by
  obtain ⟨i,j,rfl,rfl,e⟩:=wN e
  cases h1;cases h2;cases e
  exact ⟨i,j,rfl,rfl,q _ H (Same.refl H) (.int _)⟩
theorem yo {f:Kb->Kb->Sem Kb}{C:Int->Int->Prop}[∀ i j,Decidable (C i j)]{gi:Int->Int->Int}(h:OpR X f (rI C fun i j=>.int (gi i j))):OpD X f (iiD fun i j=>if C i j then some (.int (gi i j)) else none) :=
 JG h fun x y dx dy d H S Q m h1 h2 e q=>by
  obtain ⟨i,j,rfl,rfl,e'⟩:=wN e
  split at e'
  ·rename_i c
   cases h1;cases h2;cases e'
   exact ⟨i,j,rfl,rfl,c,q _ H (Same.refl H) (.int _)⟩
  ·cases e'
theorem qgA {f:Kb->Kb->Sem Kb}{gi:Int->Int->Bool}(h:OpR X f (rI0 fun i j=>.bl (gi i j))):OpD X f (iiD fun i j=>some (.bool (gi i j))) :=
 JG h fun x y dx dy d H S Q m h1 h2 e q=>by
  obtain ⟨i,j,rfl,rfl,e⟩:=wN e
  cases h1;cases h2;cases e
  exact ⟨i,j,rfl,rfl,q _ H (Same.refl H) (.bool _)⟩
instance (i j:Int):Decidable (NP i j):=by unfold NP;exact inferInstance
instance (i j:Int):Decidable (CDiv i j):=by unfold CDiv;exact inferInstance
instance (i j:Int):Decidable (CPow i j):=by unfold CPow;exact inferInstance
def subD:Ka->Ka->Option Ka:=iiD fun i j=>some (.int (i-j))
def mulD:Ka->Ka->Option Ka:=iiD fun i j=>if NP i j then some (.int (i*j)) else none
def QB:Ka->Ka->Option Ka:=iiD fun i j=>if CDiv i j then some (.int (i / j)) else none
def modD:Ka->Ka->Option Ka:=iiD fun i j=>if 0<j then some (.int (i % j)) else none
def powD:Ka->Ka->Option Ka:=iiD fun i j=>if CPow i j then some (.int (i ^ j.toNat)) else none
theorem qbm:OpD X (binaryOp .Sub) subD:=qis qkn
theorem jN:OpD X (binaryOp .Mult) mulD:=yo qix
theorem Z1:OpD X (binaryOp .FloorDiv) QB:=yo qiw
theorem Zk:OpD X (binaryOp .Mod) modD:=yo (C:=fun _ j=>0<j) qkk
theorem qjf:OpD X (binaryOp .Pow) powD:=yo qkm
def gtD:Ka->Ka->Option Ka:=iiD fun i j=>some (.bool (decide (j<i)))
theorem d_gt:OpD X (compareOp .Gt) gtD:=qgA op_gt
def eqD (x y:Ka):Option Ka:=if VT x=true/\VT y=true then some (.bool (KP x y)) else none
def neD (x y:Ka):Option Ka:=if VT x=true/\VT y=true then some (.bool (!PyData.eqv x y)) else none
theorem d_eq {k:Nat}(hr:Room k X.A):OpD X (compareOp .Eq) eqD:=JG (qki hr) fun x y dx dy d H S Q m h1 h2 e q=>by
 unfold eqD at e
 split at e
 ·rename_i c;cases e;exact ⟨S,dx,dy,h1,h2,c.1,c.2,q _ H (Same.refl H) (.bool _)⟩
 ·cases e
theorem d_ne {k:Nat}(hr:Room k X.A):OpD X (compareOp .NotEq) neD:=JG (qkl hr) fun x y dx dy d H S Q m h1 h2 e q=>by
 unfold neD at e
 split at e
 ·rename_i c;cases e;exact ⟨S,dx,dy,h1,h2,c.1,c.2,q _ H (Same.refl H) (.bool _)⟩
 ·cases e
def negD:Ka->Option Ka
 | .int i=>some (.int (-i))
 | _=>none
theorem WR:UnD X (unaryOp .USub) negD:=fun pins s σ H x v Q I rx ⟨S,dx,d,m,h1,e,q⟩=>qk7 pins s σ H x v Q I rx (by
 cases h1<;>first|(cases e;exact ⟨_,rfl,q _ H (Same.refl H) (.int _)⟩)|cases e)
def lenD:List Ka->Option Ka
 | [.list ds]=>some (.int ds.length)
 | [.tuple ds]=>some (.int ds.length)
 | _=>none
theorem wk:CallD X (.builtin "len") lenD:=fun pins s σ H xs us Q I r ⟨S,ds,d,m,h1,e,q⟩=>qaF pins s σ H xs us Q I r (by
 cases h1 with
 | nil=>cases e
 | cons a t =>
  cases t with
  | cons a' t'=>cases a<;>cases e
  | nil =>
   cases a with
   | list h t=>cases e;exact ⟨_,_,rfl,.inl h.sq,by rw [t.length];exact q _ H (Same.refl H) (.int _)⟩
   | tuple h t=>cases e;exact ⟨_,_,rfl,.inr h,by rw [t.length];exact q _ H (Same.refl H) (.int _)⟩
   | _=>cases e)
def qY:List Ka->Option Ka
 | [.list ds]=>some (.tuple ds)
 | [.tuple ds]=>some (.tuple ds)
 | _=>none
theorem jm:CallD X (.type "tuple") qY:=fun pins s σ H xs us Q I r ⟨S,ds,d,m,h1,e,q⟩=>Ws pins s σ H xs us Q I r (by
 cases h1 with
 | nil=>cases e
 | cons a t =>
  cases t with
  | cons a' t'=>cases a<;>cases e
  | nil =>
   cases a with
   | list h t=>cases e;exact ⟨_,_,rfl,.inl ⟨h.sq,fun l hl=>q _ _ (Same.lay hl) (.tuple (SqT.of qF) (t.same (Same.lay hl)))⟩⟩
   | tuple h t=>cases e;exact ⟨_,_,rfl,.inr ⟨h,q _ H (Same.refl H) (.tuple h t)⟩⟩
   | _=>cases e)
def QM:List Ka->Option Ka
 | [.list ds]=>some (.list ds)
 | [.tuple ds]=>some (.list ds)
 | _=>none
theorem qjC:CallD X (.type "list") QM:=fun pins s σ H xs us Q I r ⟨S,ds,d,m,h1,e,q⟩=>J2 pins s σ H xs us Q I r (by
 cases h1 with
 | nil=>cases e
 | cons a t =>
  cases t with
  | cons a' t'=>cases a<;>cases e
  | nil =>
   cases a with
   | list h t=>cases e;exact ⟨_,_,rfl,.inl h.sq,fun l hl=>q _ _ (Same.lay hl) (.list (SqLS.new qF (m.free hl)) (t.same (Same.lay hl)))⟩
   | tuple h t=>cases e;exact ⟨_,_,rfl,.inr h,fun l hl=>q _ _ (Same.lay hl) (.list (SqLS.new qF (m.free hl)) (t.same (Same.lay hl)))⟩
   | _=>cases e)
end
def Jw:Ka->Option Bool
 | .bool b=>some b
 | _=>none
def tV (f:Rho->Option Ka):Rho->Option Bool:=fun ρ=>ob (f ρ) Jw
def tN (p:Rho->Option Bool):Rho->Option Bool:=fun ρ=>ob (p ρ) fun b=>some (!b)
def tA (p q:Rho->Option Bool):Rho->Option Bool:=fun ρ=>ob (p ρ) fun c=>if c=true then q ρ else some false
def tO (p q:Rho->Option Bool):Rho->Option Bool:=fun ρ=>ob (p ρ) fun c=>if c=true then some true else q ρ
def tT:Rho->Option Bool:=fun _=>some true
def vA (fa fb:Rho->Option Ka):Rho->Option Ka:=fun ρ=>ob (fa ρ) fun x=>ob (Jw x) fun c=>if c=true then fb ρ else some (.bool false)
def vO (fa fb:Rho->Option Ka):Rho->Option Ka:=fun ρ=>ob (fa ρ) fun x=>ob (Jw x) fun c=>if c=true then some (.bool true) else fb ρ
def vN (fa:Rho->Option Ka):Rho->Option Ka:=fun ρ=>ob (fa ρ) fun x=>ob (Jw x) fun c=>some (.bool (!c))
def vIf (p:Rho->Option Bool)(fa fb:Rho->Option Ka):Rho->Option Ka:=fun ρ=>ob (p ρ) fun x=>if x=true then fa ρ else fb ρ
def evI (f:Rho->Option Ka)(h:Ka->Option (List Ka)):Rho->Option (List Ka):=fun ρ=>ob (f ρ) h
def evR (fs:Rho->Option (List Ka))(h:List Ka->Option (List Ka)):Rho->Option (List Ka):=fun ρ=>ob (fs ρ) h
def sN:Rho->Option Out:=fun ρ=>some (.nx ρ)
def sRet (f:Rho->Option Ka):Rho->Option Out:=fun ρ=>ob (f ρ) fun d=>some (.rt d)
def sIf (p:Rho->Option Bool)(u w:Rho->Option Out):Rho->Option Out:=fun ρ=>ob (p ρ) fun b=>if b=true then u ρ else w ρ
def sSet (i:Nat)(f:Rho->Option Ka):Rho->Option Out:=fun ρ=>ob (f ρ) fun d=>some (.nx (ρ.set i (some d)))
def gNm (i:Nat):Ka->Rho->Option Rho:=fun d ρ=>some (ρ.set i (some d))
def gsN:List Ka->Rho->Option Rho:=fun ds ρ=>match ds with | []=>some ρ|_=>none
def gsC (g1:Ka->Rho->Option Rho)(g2:List Ka->Rho->Option Rho):List Ka->Rho->Option Rho:=fun ds ρ=>match ds with | d::r=>ob (g1 d ρ) fun ρ'=>g2 r ρ'|[]=>none
def sBk:Rho->Option Out:=fun ρ=>some (.bk ρ)
def sCt:Rho->Option Out:=fun ρ=>some (.ct ρ)
section
variable {X:Cx}{M:List Nat}{a b c:Kw}{es rest:List Kw}{f g fa fb:Rho->Option Ka}{p q:Rho->Option Bool}{pos:Pos}
theorem ZD {d:Ka}{b:Bool}(h:Jw d=some b):d=.bool b:=by cases d<;>first|(cases h;rfl)|cases h
theorem YX (h:PD X M a f)(he:∀ whole,isTrue a X.env whole=(do let v ← whole;standAt a.pos;holding [v] (truthy v)):=by intro _;rfl):PDT X M a (tV f) :=
 (qkE h he).weak fun σ H Q ⟨S,ρ,d,hs,e,q⟩=>by
  obtain ⟨x,e1,e⟩:=qe e
  cases ZD e
  exact ⟨S,ρ,_,hs,e1,fun v H1 g1 d1=>⟨d,d1.bool_inv,q H1 g1⟩⟩
theorem qX {op:CmpOp}{g:Ka->Ka->Option Ka}(ho:OpD X (compareOp op) g)(ha:PD X M a fa)(hb:PD X M b fb)(hm:behindInMarks op b=false):PDT X M (.Compare a [op] [b] pos) (tV (ev2 fa fb g)) :=
 (qiS ho ha hb hm).weak fun σ H Q ⟨S,ρ,d,hs,e,q⟩=>by
  obtain ⟨x,e1,e⟩:=qe e
  cases ZD e
  exact tD2 σ H _ ⟨S,ρ,_,hs,e1,fun v H1 g1 d1=>⟨d,d1.bool_inv,q H1 g1⟩⟩
theorem YW (h:PDT X M a p):PDT X M (.UnaryOp .Not a pos) (tN p) :=
 (qkD h).weak fun σ H Q ⟨S,ρ,d,hs,e,q⟩=>by
  obtain ⟨x,e1,e⟩:=qe e
  cases e
  exact ⟨S,ρ,x,hs,e1,fun H1 g1=>q H1 g1⟩
def PDW (X:Cx)(M:List Nat)(e:Kw)(f:Rho->Option Bool):Prop:=PW X e (tDT X.K M f)
theorem PDW.pdt (h:PDW X M a p):PDT X M a p:=PW.pt h
theorem qgJ (h:PDT X M a p):PDW X M (.BoolOp .And [a] pos) p:=qiV h
theorem qd4 (h:PDT X M a p):PDW X M (.BoolOp .Or [a] pos) p:=qkH h
theorem qiG (ha:PDT X M a p)(hb:PDW X M (.BoolOp .And (b::rest) pos) q):PDW X M (.BoolOp .And (a::b::rest) pos) (tA p q) :=
 (qkG ha hb).weak fun σ H Q ⟨S,ρ,d,hs,e,w⟩=>by
  obtain ⟨x,e1,e⟩:=qe e
  refine ⟨S,ρ,x,hs,e1,fun H1 g1=>?_⟩
  cases x with
  | true=>exact iteT ⟨S,ρ,d,hs.same g1,e,fun H2 g2=>w H2 (g1.trans g2)⟩
  | false=>cases e;exact iteF (w H1 g1)
theorem qgK (ha:PDT X M a p)(hb:PDW X M (.BoolOp .Or (b::rest) pos) q):PDW X M (.BoolOp .Or (a::b::rest) pos) (tO p q) :=
 (pw_or ha hb).weak fun σ H Q ⟨S,ρ,d,hs,e,w⟩=>by
  obtain ⟨x,e1,e⟩:=qe e
  refine ⟨S,ρ,x,hs,e1,fun H1 g1=>?_⟩
  cases x with
  | true=>cases e;exact iteT (w H1 g1)
  | false=>exact iteF ⟨S,ρ,d,hs.same g1,e,fun H2 g2=>w H2 (g1.trans g2)⟩
theorem yX {op}(h:PD X M a f):PD X M (.BoolOp op [a] pos) f:=qkx h
theorem j4 (ha:PD X M a fa)(hb:PD X M (.BoolOp .And (b::rest) pos) fb):PD X M (.BoolOp .And (a::b::rest) pos) (vA fa fb) :=
 (qkt ha hb).weak fun σ H Q ⟨S,ρ,d,hs,e,w⟩=>by
  obtain ⟨x,e1,e⟩:=qe e
  obtain ⟨c,e2,e⟩:=qe e
  cases ZD e2
  refine ⟨S,ρ,_,hs,e1,fun v H1 g1 d1=>⟨c,d1.bool_inv,?_⟩⟩
  cases c with
  | true=>exact iteT ⟨S,ρ,d,hs.same g1,e,fun v H2 g2 d2=>w v H2 (g1.trans g2) d2⟩
  | false=>cases e;exact iteF (w _ H1 g1 (.bool false))
theorem pd_or (ha:PD X M a fa)(hb:PD X M (.BoolOp .Or (b::rest) pos) fb):PD X M (.BoolOp .Or (a::b::rest) pos) (vO fa fb) :=
 (pe_or ha hb).weak fun σ H Q ⟨S,ρ,d,hs,e,w⟩=>by
  obtain ⟨x,e1,e⟩:=qe e
  obtain ⟨c,e2,e⟩:=qe e
  cases ZD e2
  refine ⟨S,ρ,_,hs,e1,fun v H1 g1 d1=>⟨c,d1.bool_inv,?_⟩⟩
  cases c with
  | true=>cases e;exact iteT (w _ H1 g1 (.bool true))
  | false=>exact iteF ⟨S,ρ,d,hs.same g1,e,fun v H2 g2 d2=>w v H2 (g1.trans g2) d2⟩
theorem qkq (ha:PD X M a fa):PD X M (.UnaryOp .Not a pos) (vN fa) :=
 (qkw ha).weak fun σ H Q ⟨S,ρ,d,hs,e,w⟩=>by
  obtain ⟨x,e1,e⟩:=qe e
  obtain ⟨c,e2,e⟩:=qe e
  cases ZD e2
  cases e
  exact ⟨S,ρ,_,hs,e1,fun v H1 g1 d1=>⟨c,d1.bool_inv,w _ H1 g1 (.bool _)⟩⟩
theorem Wb (hc:PDT X M c p)(ha:PD X M a fa)(hb:PD X M b fb):PD X M (.IfExp c a b pos) (vIf p fa fb) :=
 (qgM hc ha hb).weak fun σ H Q ⟨S,ρ,d,hs,e,w⟩=>by
  obtain ⟨x,e1,e⟩:=qe e
  refine ⟨S,ρ,x,hs,e1,fun H1 g1=>?_⟩
  cases x with
  | true=>exact iteT ⟨S,ρ,d,hs.same g1,e,fun v H2 g2 d2=>w v H2 (g1.trans g2) d2⟩
  | false=>exact iteF ⟨S,ρ,d,hs.same g1,e,fun v H2 g2 d2=>w v H2 (g1.trans g2) d2⟩
structure IsIt (K:Kd)(S:Av)(J:It)(H:Hp)(ds:List Ka):Prop where
 go:∀ (i:Nat) (H':Hp),Same H H'->i<ds.length->J.go i H'
 yld:∀ (i:Nat) (H':Hp) (x:V) (H2:Hp),Same H H'->J.yld i H' x H2->Same H' H2/\∀ d,ds[i]?=some d->∀ S':Av,(∀ y e,Den K H S y e->Den K H2 S' y e)->Den K H2 S' x d
 stop:∀ H':Hp,Same H H'->J.stop ds.length H'
theorem IsIt.lst {K:Kd}{H:Hp}{S:Av}{l:Ke}{xs:List V}{ds:List Ka}(h:SqL K H l xs)(t:DenL K H S xs ds):IsIt K S (Itl K l) H ds where
 go:=fun i H' e hi=>by
  have hi':i<xs.length:=by rw [t.length];exact hi
  exact ⟨xs,xs[i],e.seq h,Kq hi'⟩
 yld:=fun i H' x H2 e ⟨e2,q⟩=>⟨by rw [e2];exact Same.refl _,fun d hd S' w=>by
  obtain ⟨v,h1,h2⟩:=t.get hd
  have:=q xs (e.seq h)
  rw [h1] at this
  cases this
  exact w _ _ h2⟩
 stop:=fun H' e=>⟨xs,e.seq h,by rw [t.length];exact Ko _⟩
theorem IsIt.tup {K:Kd}{H:Hp}{S:Av}{l:Ke}{xs:List V}{ds:List Ka}(h:SqT K H l xs)(t:DenL K H S xs ds):IsIt K S (Itt K l) H ds where
 go:=fun i H' e hi=>by
  have hi':i<xs.length:=by rw [t.length];exact hi
  exact ⟨xs,xs[i],e.sqT h,Kq hi'⟩
 yld:=fun i H' x H2 e ⟨e2,q⟩=>⟨by rw [e2];exact Same.refl _,fun d hd S' w=>by
  obtain ⟨v,h1,h2⟩:=t.get hd
  have:=q xs (e.sqT h)
  rw [h1] at this
  cases this
  exact w _ _ h2⟩
 stop:=fun H' e=>⟨xs,e.sqT h,by rw [t.length];exact Ko _⟩
theorem SqLS.off {K:Kd}{H H':Hp}{S:Av}{a:Ke}{xs:List V}(e:Off S H H')(h:SqLS K H S a xs):SqLS K H' S a xs:=h.imp (fun q=>⟨q.1.off e q.2,q.2⟩) id
theorem SqT.off {K:Kd}{H H':Hp}{S:Av}{a:Ke}{xs:List V}(m:Dm S H)(e:Off S H H')(h:SqT K H a xs):SqT K H' a xs:=h.imp (fun q=>q.off e (m.tup q)) id
def rngL:Int->Nat->List Ka
 | _,0=>[]
 | lo,n+1=>.int lo::rngL (lo+1) n
theorem Ja:∀ (lo:Int) (n:Nat),(rngL lo n).length=n
 | _,0=>rfl
 | lo,n+1=>by rw [rngL,KC,Ja]
theorem qci:∀ (lo:Int) (n i:Nat) (d:Ka),(rngL lo n)[i]?=some d->d=.int (lo+i)
 | _,0,_,_,h=>by simp [rngL] at h
 | lo,n+1,0,d,h=>by simp [rngL] at h;subst h;simp
 | lo,n+1,i+1,d,h=>by
  have:=qci (lo+1) n i d (by simpa [rngL] using h)
  rw [this]
  congr 1
  omega
theorem IsIt.rng {K:Kd}{H:Hp}{S:Av}(lo:Int)(n:Nat):IsIt K S (Itr lo n) H (rngL lo n) where
 go:=fun i H' e hi=>by rw [Ja] at hi;exact hi
 yld:=fun i H' x H2 e ⟨e2,q⟩=>⟨by rw [e2];exact Same.refl _,fun d hd _ _=>by
  have q':x=.int (lo+i):=q
  rw [qci lo n i d hd,q']
  exact .int _⟩
 stop:=fun H' e=>by rw [Ja];exact Ko n
def tDI (K:Kd)(M:List Nat)(f:Rho->Option (List Ka)):TI:=fun σ H R=>∃ S ρ ds,DenS K H S M σ ρ/\f ρ=some ds/\∀ J H',Same H H'->(∀ H2,Off S H' H2->IsIt K S J H2 ds)->R J H'
def PDI (X:Cx)(M:List Nat)(tg iter:Kw)(f:Rho->Option (List Ka)):Prop:=PI X tg iter (tDI X.K M f)
theorem PI.weak {X:Cx}{tg e:Kw}{t t':TI}(h:PI X tg e t)(w:∀ σ H R,t' σ H R->t σ H R):PI X tg e t':=fun pins s σ H Q I q=>h pins s σ H Q I (w σ H Q q)
def iSeq (K:Kd)(tl:TE):TI:=fun σ H R=>tl σ H fun x H1=>∃ a,x=.ref a/\(((∃ xs,SqL K H1 a xs)/\R (Itl K a) H1)\/((∃ xs,SqT K H1 a xs)/\R (Itt K a) H1))
theorem qkz {tg l:Kw}{tl:TE}(hl:PE X l tl):PI X tg l (iSeq X.K tl):=by
 intro pins s σ H R I h
 refine thn (hl pins s σ H _ I h) fun v s1 ⟨x,H1,I1,r1,q1⟩=>?_
 obtain ⟨a,e,q1⟩:=q1
 subst e
 cases r1
 have fp:∀ b∈[s1.heap.objs.size],FpOk X pins H1 b:=fun b hb=>by
  have e:b=s1.heap.objs.size:=by simpa using hb
  subst e
  exact I1.fpOk (Ko _) (I1.hok.fresh (Ko _))
 rcases q1 with ⟨⟨xs,hq⟩,q⟩|⟨⟨xs,hq⟩,q⟩
 ·obtain ⟨its,rv,p,hz⟩:=I1.list hq
  refine Na p.isList ?_
  exact ⟨s1.heap.objs.size,[s1.heap.objs.size],_,_,H1,rfl,I1.kept (t':=s1.toks) fun b o e=>Ki _ e,qfm a _,⟨_,Kv _ rfl,rfl,rfl⟩,fp,q⟩
 ·obtain ⟨its,rv,p,hz⟩:=I1.tuple hq
  refine NX (show s1.heap.IsTuple a its.toArray from p) ?_
  exact ⟨s1.heap.objs.size,[s1.heap.objs.size],_,_,H1,rfl,I1.kept (t':=s1.toks) fun b o e=>Ki _ e,qc6 a _,⟨_,Kv _ rfl,rfl,rfl⟩,fp,q⟩
def seqD:Ka->Option (List Ka)
 | .list ds=>some ds
 | .tuple ds=>some ds
 | _=>none
theorem zy {tg:Kw}(h:PD X M a f):PDI X M tg a (evI f seqD) :=
 (qkz h).weak fun σ H R ⟨S,ρ,ds,hs,e,w⟩=>by
  obtain ⟨x,e1,e⟩:=qe e
  refine ⟨S,ρ,x,hs,e1,fun v H1 g1 d1=>?_⟩
  cases d1 with
  | list h t=>cases e;exact ⟨_,rfl,.inl ⟨⟨_,h.sq⟩,w _ _ g1 fun H2 o=>IsIt.lst (h.off o).sq (t.off (hs.1.same g1) o)⟩⟩
  | tuple h t=>cases e;exact ⟨_,rfl,.inr ⟨⟨_,h⟩,w _ _ g1 fun H2 o=>IsIt.tup (h.off (hs.1.same g1) o) (t.off (hs.1.same g1) o)⟩⟩
  | _=>cases e
def ZZ:List Ka->Option (List Ka)
 | [.int j]=>if -1000<=j/\j<=1000 then some (rngL 0 j.toNat) else none
 | _=>none
theorem qcU {tg:Kw}{fs:Rho->Option (List Ka)}{p:Pos}(hg:Gl X "range")(hm:X.mg "range" = none)(ha:PDA X M [a] fs)(hs:starEach [a] X.env=[(false,eval a X.env)]:=by rfl):PDI X M tg (.Call (.Name "range" p) [a] [] pos) (evR fs ZZ) :=
 (qaq hg hm ha hs).weak fun σ H R ⟨S,ρ,ds,hs,e,w⟩=>by
  obtain ⟨xs,e1,e⟩:=qe e
  refine ⟨S,ρ,xs,hs,e1,fun vs H1 g1 d1=>?_⟩
  unfold ZZ at e
  split at e
  ·rename_i j
   split at e
   ·rename_i hj
    cases e
    obtain ⟨v,rfl,q⟩:=d1.inv1
    cases q
    exact ⟨j,rfl,by omega,by omega,w _ _ g1 fun _ _=>IsIt.rng 0 _⟩
   ·cases e
  ·cases e
def Qp (tt:Rho->Option Bool)(te:Rho->Option Ka)(ρ:Rho):List Ka->Option (List Ka)
 | []=>some []
 | d::ds=>ob (tt (ρ++[some d])) fun b=>if b=true then ob (te (ρ++[some d])) fun y=>ob (Qp tt te ρ ds) fun ys=>some (y::ys) else Qp tt te ρ ds
def Qg (n:Nat)(fi:Rho->Option (List Ka))(tt:Rho->Option Bool)(te:Rho->Option Ka)(ρ:Rho):Option Ka :=
 ob (fi ρ) fun ds=>if ρ.length=n/\ds.length<=1000 then ob (Qp tt te ρ ds) fun ys=>some (.list ys) else none
def PDTs (X:Cx)(M:List Nat)(ifs:List Kw)(p:Rho->Option Bool):Prop:=PTs X ifs (tDT X.K M p)
theorem je:PDTs X M [] tT:=fun pins s σ H Q I ⟨S,ρ,b,hs,e,q⟩=>by
 cases e
 exact qiT pins s σ H Q I (q H (Same.refl H))
theorem jg (h:PDT X M c p):PDTs X M [c] p:=qiU h
def lc1 (sc:VE)(x:Str):Bool:=decide (sc.names.lookup x=some .local)||decide (sc.names.lookup x=some .cell)
theorem yD {env:Env}:∀ {names:List (Str×NameKind)} {x:Str},names.lookup x=some .cell->
  (names.map fun (n,k)=>if (k==Vh&&env.scope.kind==.function&&env.kindOf n==some .cell) then (n,VL) else (n,k)).lookup x=some .cell
 | [],_,h=>by simp at h
 | (n,k)::r,x,h=>by
  have ih:=@yD env r x
  show Ux x ((if (k==Vh&&env.scope.kind==.function&&env.kindOf n==some .cell)=true then (n,VL) else (n,k))::_)=_
  rw [Vi] at h
  by_cases hx:(x==n)=true
  ·rw [hx] at h;cases h
   split<;>rw [Vi,hx]
  ·rw [X9.mpr hx] at h
   split<;>rw [Vi,X9.mpr hx]<;>exact ih h
def tDGc (K:Kd)(M:List Nat)(g:Ka->Rho->Option Rho):TG:=fun v σ H Q=>∃ S ρ d ρ',DenS K H S M σ ρ/\Den K H S v d/\g d ρ=some ρ'/\∀ σ' H',Same H H'->DenS K H' S M σ' ρ'->Q σ' H'
def tDGcs (K:Kd)(M:List Nat)(g:List Ka->Rho->Option Rho):TGs:=fun vs σ H Q=>∃ S ρ ds ρ',DenS K H S M σ ρ/\DenL K H S vs ds/\g ds ρ=some ρ'/\∀ σ' H',Same H H'->DenS K H' S M σ' ρ'->Q σ' H'
def PDGc (X:Cx)(M:List Nat)(t:Kw)(g:Ka->Rho->Option Rho):Prop:=PG X t (tDGc X.K M g)
def qc9 (X:Cx)(M:List Nat)(t:List Kw)(g:List Ka->Rho->Option Rho):Prop:=PGs X t (tDGcs X.K M g)
theorem PG.weak {X:Cx}{e:Kw}{t t':TG}(h:PG X e t)(w:∀ v σ H Q,t' v σ H Q->t v σ H Q):PG X e t':=fun pins s σ H v u Q I r q=>h pins s σ H v u Q I r (w v σ H Q q)
theorem PGs.weak {X:Cx}{e:List Kw}{t t':TGs}(h:PGs X e t)(w:∀ v σ H Q,t' v σ H Q->t v σ H Q):PGs X e t':=fun pins s σ H v u Q I r q=>h pins s σ H v u Q I r (w v σ H Q q)
def unpD (n:Nat)(g:List Ka->Rho->Option Rho):Ka->Rho->Option Rho
 | .tuple ds,ρ=>if ds.length=n then g ds ρ else none
 | _,_=>none
theorem qak (i:Nat){x:Str}(hN:X.N.Nodup)(hx:Loc X.env.scope x)(hi:X.N[i]?=some x)(hf:X.fn x=true\/X.env.scope.names.lookup x=some .local):PDGc X M (.Name x pos) (gNm i) :=
 (qd9 hN hi hx hf).weak fun v σ H Q ⟨S,ρ,d,ρ',hs,hd,e,q⟩=>by
  cases e
  exact q _ H (Same.refl H) (hs.set hd i)
theorem qal:qc9 X M [] gsN :=
 qiK.weak fun v σ H Q ⟨S,ρ,d,ρ',hs,hd,e,q⟩=>by
  cases hd with
  | nil=>cases e;exact ⟨rfl,q _ H (Same.refl H) hs⟩
  | cons a t=>cases e
theorem jB {t:Kw}{ts:List Kw}{g1:Ka->Rho->Option Rho}{g2:List Ka->Rho->Option Rho}(h1:PDGc X M t g1)(h2:qc9 X M ts g2)(hs:(assignEach (t::ts) X.env).map (·.2)=assign t X.env::(assignEach ts X.env).map (·.2):=by rfl) :
  qc9 X M (t::ts) (gsC g1 g2) :=
 (qgR h1 h2 hs).weak fun v σ H Q ⟨S,ρ,d,ρ',hs,hd,e,q⟩=>by
  cases hd with
  | nil=>cases e
  | cons a t =>
   obtain ⟨ρ1,e1,e⟩:=qe e
   exact ⟨_,_,rfl,S,ρ,_,ρ1,hs,a,e1,fun σ' H' g1 hs'=>⟨S,ρ1,_,ρ',hs',t.same g1,e,fun σ2 H2 g2 hs2=>q σ2 H2 (g1.trans g2) hs2⟩⟩
theorem qb4 {ts:List Kw}{k:Nat}{n:Nat}{g:List Ka->Rho->Option Rho}(hc:X.calm=true)(h:qc9 X M ts g)(hn:(assignEach ts X.env).length=n:=by rfl)(hst:(assignEach ts X.env).findIdx? (·.1)=none:=by rfl):PDGc X M (.Tuple ts k pos) (unpD n g) :=
 (qky hc h hn hst).weak fun v σ H Q ⟨S,ρ,d,ρ',hs,hd,e,q⟩=>by
  cases hd with
  | @tuple a xs ds h t =>
   have e:(if ds.length=n then g ds ρ else none)=some ρ':=e
   split at e
   ·rename_i hl
    exact ⟨_,_,rfl,h,by rw [t.length];exact hl,S,ρ,_,ρ',hs,t,e,q⟩
   ·cases e
  | _=>cases e
def GIn (n k:Nat)(g:Ka->Rho->Option Rho):Prop:=∀ d (ρ r ρ1:Rho),ρ.length=n->r.length=k->g d (ρ++r)=some ρ1->∃ r',r'.length=k/\ρ1=ρ++r'
def GIns (n k:Nat)(g:List Ka->Rho->Option Rho):Prop:=∀ d (ρ r ρ1:Rho),ρ.length=n->r.length=k->g d (ρ++r)=some ρ1->∃ r',r'.length=k/\ρ1=ρ++r'
theorem Z8 {n k i:Nat}(h:n<=i):GIn n k (gNm i):=fun d ρ r ρ1 h1 h2 e=>by
 cases e
 refine ⟨r.set (i-n) (some d),by rw [Vw];exact h2,?_⟩
 rw [E5 _ _ (by omega),h1]
theorem qbD {n k:Nat}:GIns n k gsN:=fun d ρ r ρ1 h1 h2 e=>by
 cases d with
 | nil=>cases e;exact ⟨r,h2,rfl⟩
 | cons _ _=>cases e
theorem Jq {n k:Nat}{g1:Ka->Rho->Option Rho}{g2:List Ka->Rho->Option Rho}(a:GIn n k g1)(b:GIns n k g2):GIns n k (gsC g1 g2):=fun d ρ r ρ1 h1 h2 e=>by
 cases d with
 | nil=>cases e
 | cons d ds =>
  obtain ⟨ρ2,e1,e2⟩:=qe e
  obtain ⟨r1,l1,rfl⟩:=a d ρ r ρ2 h1 h2 e1
  exact b ds ρ r1 ρ1 h1 l1 e2
theorem qdF {n k m:Nat}{g:List Ka->Rho->Option Rho}(a:GIns n k g):GIn n k (unpD m g):=fun d ρ r ρ1 h1 h2 e=>by
 cases d with
 | tuple ds =>
  have e:(if ds.length=m then g ds (ρ++r) else none)=some ρ1:=e
  split at e
  ·exact a ds ρ r ρ1 h1 h2 e
  ·cases e
 | _=>cases e
def QH (k:Nat)(g:Ka->Rho->Option Rho)(tt:Rho->Option Bool)(te:Rho->Option Ka)(ρ:Rho):List Ka->Option (List Ka)
 | []=>some []
 | d::ds=>ob (g d (ρ++Vn k none)) fun ρ1=>ob (tt ρ1) fun b=>if b=true then ob (te ρ1) fun y=>ob (QH k g tt te ρ ds) fun ys=>some (y::ys) else QH k g tt te ρ ds
def jW (n k:Nat)(fi:Rho->Option (List Ka))(g:Ka->Rho->Option Rho)(tt:Rho->Option Bool)(te:Rho->Option Ka)(ρ:Rho):Option Ka :=
 ob (fi ρ) fun ds=>if ρ.length=n/\ds.length<=1000 then ob (QH k g tt te ρ ds) fun ys=>some (.list ys) else none
theorem wD {tt:Rho->Option Bool}{te:Rho->Option Ka}{ρ:Rho}{n:Nat}(hn:ρ.length=n):∀ ds,QH 1 (gNm n) tt te ρ ds=Qp tt te ρ ds
 | []=>rfl
 | d::ds=>by
  have e:gNm n d (ρ++Vn 1 none)=some (ρ++[some d]):=by
   show some ((ρ++[none]).set n (some d))=_
   rw [← hn,E5 _ _ (Ko _)]
   simp
  rw [QH,Qp,e]
  show (ob (tt (ρ++[some d])) fun b=>_)=_
  rw [wD hn ds]
theorem wA (n:Nat)(fi:Rho->Option (List Ka))(tt:Rho->Option Bool)(te:Rho->Option Ka):Qg n fi tt te=jW n 1 fi (gNm n) tt te:=by
 funext ρ
 unfold Qg jW
 cases fi ρ with
 | none=>rfl
 | some ds =>
  show (if ρ.length=n/\ds.length<=1000 then _ else none)=(if ρ.length=n/\ds.length<=1000 then _ else none)
  split
  ·rename_i h
   rw [wD h.1]
  ·rfl
theorem DenS.forget {K:Kd}{H:Hp}{S:Av}{σ:St}{ρ r':Rho}{k:Nat}(h:DenS K H S M σ (ρ++r'))(hk:r'.length=k):DenS K H S M σ (ρ++Vn k none):=by
 refine ⟨h.1,by rw [h.2.1,Kp,Kp,VY,hk],fun i d hi e=>?_⟩
 by_cases hlt:i<ρ.length
 ·rw [VF hlt] at e
  exact h.2.2 i d hi (by rw [VF hlt];exact e)
 ·rw [Ut (by omega)] at e
  have:=UG (a:=(none:Option Ka)) (n:=k) (i:=i-ρ.length)
  rw [this] at e
  split at e<;>cases e
theorem DenS.more {K:Kd}{H:Hp}{S:Av}{σ:St}{ρ:Rho}(k:Nat)(h:DenS K H S M σ ρ):DenS K H S M (σ++Vn k none) (ρ++Vn k none):=by
 refine ⟨h.1,by rw [Kp,Kp,h.2.1,VY,VY],fun i d hi e=>?_⟩
 by_cases hlt:i<ρ.length
 ·rw [VF hlt] at e
  obtain ⟨v,a,b⟩:=h.2.2 i d hi e
  exact ⟨v,by rw [VF (by rw [h.2.1];exact hlt)];exact a,b⟩
 ·rw [Ut (by omega)] at e
  have:=UG (a:=(none:Option Ka)) (n:=k) (i:=i-ρ.length)
  rw [this] at e
  split at e<;>cases e
theorem qem {K:Kd}{n k:Nat}{fi:Rho->Option (List Ka)}{g:Ka->Rho->Option Rho}(hg:GIn n k g):∀ σ H Q S ρ ds ys,DenS K H S M σ ρ->fi ρ=some ds->ρ.length=n->ds.length<=1000->QH k g p f ρ ds=some ys->(∀ H' zs,Same H H'->DenL K H' S zs ys->∀ D,H' D=none->Q (.ref D) (upd H' D (.lst zs)))->qco k (tDI K M fi) (tDGc K M g) (tDT K M p) (tD K M f) σ H Q:=by
 intro σ H Q S ρ ds ys hs e1 hn hz e2 q
 refine ⟨S,ρ,ds,hs,e1,fun J H1 g1 hJ0=>?_⟩
 have hJ:=hJ0 H1 fun _ _ _ z=>z
 have z1000:1000<sizeLine:=zA (Ko _)
 refine ⟨fun i m zs σ' H'=>m=ds.length-i/\i<=ds.length/\zs.length<=i/\Same H1 H'/\DenS K H' S M σ' (ρ++Vn k none)/\∃ pre rest,DenL K H' S zs pre/\QH k g p f ρ (ds.drop i)=some rest/\pre++rest=ys,⟨ds.length,by simp,Vc _,Ko _,Same.refl _,(hs.same g1).more k,[],ys,.nil,e2,rfl⟩,?_⟩
 rintro i m zs σ' H' ⟨rfl,hi,hzi,g2,hS,pre,rest,dl,er,rfl⟩
 by_cases hlt:i<ds.length
 ·refine .inr ⟨hJ.go i H' g2 hlt,fun x H2 y=>?_⟩
  obtain ⟨g2',yd⟩:=hJ.yld i H' x H2 g2 y
  have hd:=yd _ (Kq hlt) S fun y e q=>q.same (g2.trans g2')
  rw [VV hlt] at er
  obtain ⟨ρ1,r1,er⟩:=qe er
  obtain ⟨bb,b1,er⟩:=qe er
  obtain ⟨r',hr',rfl⟩:=hg _ ρ _ ρ1 hn (VY) r1
  have g2:=g2.trans g2'
  have dl:=dl.same g2'
  refine ⟨S,_,_,_,hS.same g2',hd,r1,fun σ3 H3 g3 hS3=>⟨S,_,bb,hS3,b1,fun H4 g4=>?_⟩⟩
  cases bb with
  | true =>
   rw [if_pos rfl] at er
   obtain ⟨y1,e3,er⟩:=qe er
   obtain ⟨ys1,e4,er⟩:=qe er
   cases er
   refine iteT ⟨S,_,y1,hS3.same g4,e3,fun v H5 g5 d5=>⟨by omega,ds.length-(i+1),by omega,rfl,hlt,by rw [Kp,Ky];omega,g2.trans (g3.trans (g4.trans g5)),(hS3.same (g4.trans g5)).forget hr',pre++[y1],ys1,(dl.same (g3.trans (g4.trans g5))).snoc d5,e4,by simp⟩⟩
  | false =>
   rw [if_neg VG] at er
   exact iteF ⟨ds.length-(i+1),by omega,rfl,hlt,by omega,g2.trans (g3.trans g4),(hS3.same g4).forget hr',pre,rest,dl.same (g3.trans g4),er,rfl⟩
 ·have hi':i=ds.length:=by omega
  subst hi'
  rw [Np] at er
  cases er
  refine .inl ⟨hJ.stop H' g2,fun D hD=>q H' zs (g1.trans g2) (by rw [Vl];exact dl) D hD⟩
theorem wB {n k:Nat}{fi:Rho->Option (List Ka)}{g:Ka->Rho->Option Rho}{tt:Rho->Option Bool}{te:Rho->Option Ka}{ρ:Rho}{d:Ka}(e:jW n k fi g tt te ρ=some d):∃ ds ys,fi ρ=some ds/\ρ.length=n/\ds.length<=1000/\QH k g tt te ρ ds=some ys/\d=.list ys:=by
 obtain ⟨ds,e1,e⟩:=qe e
 split at e
 ·rename_i hc
  obtain ⟨ys,e2,e⟩:=qe e
  cases e
  exact ⟨ds,ys,e1,hc.1,hc.2,e2,rfl⟩
 ·cases e
theorem qk1 {K:Kd}{n k:Nat}{fi:Rho->Option (List Ka)}{g:Ka->Rho->Option Rho}(hg:GIn n k g):∀ σ H Q,tD K M (jW n k fi g p f) σ H Q->qco k (tDI K M fi) (tDGc K M g) (tDT K M p) (tD K M f) σ H Q:=by
 intro σ H Q ⟨S,ρ,d,hs,e,q⟩
 obtain ⟨ds,ys,e1,hn,hz,e2,rfl⟩:=wB e
 exact qem hg σ H Q S ρ ds ys hs e1 hn hz e2 fun H' zs g2 dl D hD=>q _ _ (g2.lay' hD) (.list (SqLS.new qF ((hs.1.same g2).free hD)) (dl.same (Same.lay hD)))
section
variable {elt iter tg:Kw}{ifs:List Kw}{x:Str}{N':List Str}{px:Pos}{sc:VE}{n k:Nat}{fi:Rho->Option (List Ka)}{g:Ka->Rho->Option Rho}
theorem Jt {i:Nat}(O:CompOk X N' k sc)(hx:N'[i]?=some x)(hl:lc1 sc x=true)(cl:List (Str×Addr))(C:Ke)(fp:List Ke)(pins:List (Ke×Obj))(s:Kf)(H:Hp):PDGc (qO X N' sc cl C fp pins s H) M (.Name x px) (gNm i) :=
 (Bool.or_eq_true_iff.mp hl).elim (fun hl =>
  have hloc:(relabel sc X.env).names.lookup x=some .local:=lookup_relabel_local (of_decide_eq_true hl)
  qak (X:=qO X N' sc cl C fp pins s H) i O.nd' (.inl hloc) hx (.inr hloc)) fun hl =>
  have hloc:(relabel sc X.env).names.lookup x=some .cell:=yD (of_decide_eq_true hl)
  qak (X:=qO X N' sc cl C fp pins s H) i O.nd' (.inr hloc) hx (.inl hl)
theorem qb1 (O:CompOk X N' k sc)(gi:GIn n k g)(hi:PDI X M tg iter fi)(hg:∀ cl C fp pins s H,PDGc (qO X N' sc cl C fp pins s H) M tg g)(hq:∀ cl C fp pins s H,PDTs (qO X N' sc cl C fp pins s H) M ifs p)(he:∀ cl C fp pins s H,PD (qO X N' sc cl C fp pins s H) M elt f)
  (hs:∀ v,foldedSetIterable iter X.env v=pure v:=by intro _;rfl):PD X M (.ListComp elt [⟨tg,iter,ifs,0⟩] sc pos) (jW n k fi g p f) :=
 (qiJ (wg:=tDGc X.K M g) (tt:=tDT X.K M p) (te:=tD X.K M f) O hi hg hq he hs).weak (qk1 gi)
theorem ZX (O:CompOk X N' 1 sc)(hx:N'[n]?=some x)(hl:lc1 sc x=true)(hi:PDI X M (.Name x px) iter fi)(hq:∀ cl C fp pins s H,PDTs (qO X N' sc cl C fp pins s H) M ifs p)(he:∀ cl C fp pins s H,PD (qO X N' sc cl C fp pins s H) M elt f)
  (hs:∀ v,foldedSetIterable iter X.env v=pure v:=by intro _;rfl):PD X M (.ListComp elt [⟨.Name x px,iter,ifs,0⟩] sc pos) (Qg n fi p f):=by
 rw [wA]
 exact qb1 O (Z8 (Ko _)) hi (Jt O hx hl) hq he hs
end
end
structure Gm where
 H0:Hp
 S0:Av
 lk:Nat->Ke×PyData
def insA (S:Av)(p:Ke):Av:=fun a=>S a\/a=p
inductive OwnO (K:Kd)(H:Hp)(S:Av)(p:Ke):Ka->Prop
 | lst {xs:List V} {ds:List Ka}:H p=some (.lst xs)->DenL K H S xs ds->OwnO K H S p (.list ds)
 | dct {kvs:List (KX×Addr×V)} {ep:Nat} {ds:List Ka}:H p=some (DctO p kvs ep)->DenL K H S (kvs.map fun p=>kxV p.1 p.2.1) (kvs.map fun p=>kxD p.1)->DenL K H S (kvs.map (·.2.2)) ds->OwnO K H S p (.dict (dkv kvs ds))
section
variable {K:Kd}{H H':Hp}{S S':Av}{p:Ke}{d:Ka}
theorem OwnO.same (e:Same H H')(h:OwnO K H S p d):OwnO K H' S p d:=by
 cases h with
 | lst h t=>exact .lst (e _ _ h) (t.same e)
 | dct h k t=>exact .dct (e _ _ h) (k.same e) (t.same e)
theorem OwnO.sub (e:∀ a,H a≠none->S' a->S a)(h:OwnO K H S p d):OwnO K H S' p d:=by
 cases h with
 | lst h t=>exact .lst h (t.sub e)
 | dct h k t=>exact .dct h (k.sub e) (t.sub e)
theorem OwnO.mut (h:OwnO K H S p d):∃ o,H p=some o/\Z9 o=true:=by
 cases h with
 | lst h t=>exact ⟨_,h,rfl⟩
 | dct h k t=>exact ⟨_,h,rfl⟩
theorem OwnO.dom (h:OwnO K H S p d):H p≠none:=by
 obtain ⟨o,e,_⟩:=h.mut
 rw [e];exact fun z=>nomatch z
theorem OwnO.den (h:OwnO K H S p d)(n:¬ S' p)(e:∀ a,H a≠none->S' a->S a):Den K H S' (.ref p) d:=by
 cases h with
 | lst h t=>exact .list (SqLS.new h n) (t.sub e)
 | dct h k t=>exact .dict ⟨h,n⟩ (k.sub e) (t.sub e)
theorem OwnO.upd {q:Ke}{o:HO}(m:Dm S H)(h:OwnO K H S p d)(hq:S q)(hm:Z9 o=true)(ne:p≠q):OwnO K (upd H q o) S p d:=by
 have off:Off S H (L2.upd H q o):=fun b u n e=>by
  rw [qD (fun z=>n (by rw [z];exact hq))];exact e
 cases h with
 | lst h t=>exact .lst (by rw [qD ne];exact h) (t.off m off)
 | dct h k t=>exact .dct (by rw [qD ne];exact h) (k.off m off) (t.off m off)
theorem Dm.upd {q:Ke}{o:HO}(m:Dm S H)(hm:Z9 o=true):Dm S (upd H q o):=fun a ha=>by
 by_cases e:a=q
 ·subst e;exact ⟨o,qF,hm⟩
 ·rw [qD e];exact m a ha
theorem Dm.ins (m:Dm S H)(h:∃ o,H p=some o/\Z9 o=true):Dm (insA S p) H:=fun a ha=>by
 rcases ha with ha|rfl
 ·exact m a ha
 ·exact h
end
inductive Kids (K:Kd)(H:Hp)(S:Av):List Ke->List Ka->Prop
 | nil:Kids K H S [] []
 | cons {q:Ke} {xs:List V} {es:List Ka} {qs:List Ke} {ds:List Ka}:H q=some (.lst xs)->DenL K H S xs es->q∉qs->Kids K H S qs ds->Kids K H S (q::qs) (.list es::ds)
inductive DeepO (K:Kd)(H:Hp)(S:Av):List Ke->Ke->Ka->Prop
 | tpl {p:Ke} {qs:List Ke} {ds:List Ka}:H p=some (.tup (qs.map V.ref))->Kids K H S qs ds->DeepO K H S qs p (.tuple ds)
 | lst {p:Ke} {qs:List Ke} {ds:List Ka}:H p=some (.lst (qs.map V.ref))->p∉qs->Kids K H S qs ds->DeepO K H S (p::qs) p (.list ds)
 | dct {p:Ke} {kvs:List (KX×Addr×V)} {ep:Nat} {qs:List Ke} {ds:List Ka}:H p=some (DctO p kvs ep)->DenL K H S (kvs.map fun p=>kxV p.1 p.2.1) (kvs.map fun p=>kxD p.1)->kvs.map (·.2.2)=qs.map V.ref->p∉qs->Kids K H S qs ds->DeepO K H S (p::qs) p (.dict (dkv kvs ds))
section
variable {K:Kd}{H H':Hp}{S S':Av}{p:Ke}{d:Ka}{fp qs:List Ke}{ds:List Ka}
theorem Kids.same (e:Same H H'):∀ {qs:List Ke} {ds:List Ka},Kids K H S qs ds->Kids K H' S qs ds
 | _,_,.nil=>.nil
 | _,_,.cons h t n r=>.cons (e _ _ h) (t.same e) n (r.same e)
theorem Kids.sub (e:∀ a,H a≠none->S' a->S a):∀ {qs:List Ke} {ds:List Ka},Kids K H S qs ds->Kids K H S' qs ds
 | _,_,.nil=>.nil
 | _,_,.cons h t n r=>.cons h (t.sub e) n (r.sub e)
theorem Kids.mut:∀ {qs:List Ke} {ds:List Ka},Kids K H S qs ds->∀ q∈qs,∃ o,H q=some o/\Z9 o=true
 | _,_,.nil,q,hq=>absurd hq (by simp)
 | _,_,.cons h t n r,q,hq=>by
  rcases Kk.mp hq with e|hq
  ·rw [e];exact ⟨_,h,rfl⟩
  ·exact r.mut q hq
theorem Kids.den (e:∀ a,H a≠none->S' a->S a):∀ {qs:List Ke} {ds:List Ka},(∀ q∈qs,¬ S' q)->Kids K H S qs ds->DenL K H S' (qs.map V.ref) ds
 | _,_,_,.nil=>.nil
 | _,_,n,.cons h t _ r=>.cons (.list (SqLS.new h (n _ (.head _))) (t.sub e)) (r.den e fun q hq=>n q (.tail _ hq))
theorem Kids.upd {q:Ke}{o:HO}(m:Dm S H)(hq:S q):∀ {qs:List Ke} {ds:List Ka},q∉qs->Kids K H S qs ds->Kids K (upd H q o) S qs ds
 | _,_,_,.nil=>.nil
 | _,_,n,.cons h t n' r=>.cons (by rw [qD (fun z=>n (by rw [z];exact .head _))];exact h) (t.off m fun b u z e=>by rw [qD (fun y=>z (by rw [y];exact hq))];exact e) n' (r.upd m hq fun z=>n (.tail _ z))
theorem DeepO.same (e:Same H H')(h:DeepO K H S fp p d):DeepO K H' S fp p d:=by
 cases h with
 | tpl h t=>exact .tpl (e _ _ h) (t.same e)
 | lst h n t=>exact .lst (e _ _ h) n (t.same e)
 | dct h k v n t=>exact .dct (e _ _ h) (k.same e) v n (t.same e)
theorem DeepO.sub (e:∀ a,H a≠none->S' a->S a)(h:DeepO K H S fp p d):DeepO K H S' fp p d:=by
 cases h with
 | tpl h t=>exact .tpl h (t.sub e)
 | lst h n t=>exact .lst h n (t.sub e)
 | dct h k v n t=>exact .dct h (k.sub e) v n (t.sub e)
theorem DeepO.mut (h:DeepO K H S fp p d):∀ q∈fp,∃ o,H q=some o/\Z9 o=true:=by
 cases h with
 | tpl h t=>exact t.mut
 | lst h n t=>exact fun q hq=>(Kk.mp hq).elim (fun e=>by rw [e];exact ⟨_,h,rfl⟩) (t.mut q)
 | dct h k v n t=>exact fun q hq=>(Kk.mp hq).elim (fun e=>by rw [e];exact ⟨_,h,rfl⟩) (t.mut q)
theorem DeepO.den (h:DeepO K H S fp p d)(n:∀ q∈fp,¬ S' q)(e:∀ a,H a≠none->S' a->S a):Den K H S' (.ref p) d:=by
 cases h with
 | tpl h t=>exact .tuple (.inl (.inl h)) (t.den e n)
 | lst h _ t=>exact .list (SqLS.new h (n _ (.head _))) (t.den e fun q hq=>n q (.tail _ hq))
 | dct h k v _ t=>exact .dict ⟨h,n _ (.head _)⟩ (k.sub e) (by rw [v];exact t.den e fun q hq=>n q (.tail _ hq))
theorem DeepO.upd {q:Ke}{o:HO}(m:Dm S H)(h:DeepO K H S fp p d)(hq:S q)(ne:q∉fp):DeepO K (upd H q o) S fp p d:=by
 have off:Off S H (L2.upd H q o):=fun b u n e=>by
  rw [qD (fun z=>n (by rw [z];exact hq))];exact e
 cases h with
 | tpl h t=>exact .tpl (by rw [qD (fun z=>m.tup (.inl h) (by rw [z];exact hq))];exact h) (t.upd m hq ne)
 | lst h n t=>exact .lst (by rw [qD (fun z=>ne (by rw [z];exact .head _))];exact h) n (t.upd m hq fun z=>ne (.tail _ z))
 | dct h k v n t=>exact .dct (by rw [qD (fun z=>ne (by rw [z];exact .head _))];exact h) (k.off m off) v n (t.upd m hq fun z=>ne (.tail _ z))
end
abbrev Flt (M:List Nat)(i:Nat):Prop:=i∈M/\i+1000∉M
abbrev Dp (M:List Nat)(i:Nat):Prop:=i∈M/\i+1000∈M
abbrev Out0 (M:List Nat)(i:Nat):Prop:=i∉M/\i+1000∉M/\i<1000
structure SubM (A B:List Nat):Prop where
 sub:∀ i∈A,i∈B
 dp:∀ i∈A,i+1000∈B->i+1000∈A
theorem SubM.flt {A B:List Nat}{i:Nat}(h:SubM A B)(q:Flt A i):Flt B i:=⟨h.sub i q.1,fun z=>q.2 (h.dp i q.1 z)⟩
theorem SubM.deep {A B:List Nat}{i:Nat}(h:SubM A B)(q:Dp A i):Dp B i:=⟨h.sub i q.1,h.sub _ q.2⟩
def Has (ρ:Rho)(i:Nat):Prop:=∃ d:Ka,ρ[i]?=some (some d)
structure DeepF (K:Kd)(G:Gm)(M:List Nat)(H:Hp)(S:Av)(σ:St)(ρ:Rho)(F:Nat->List Ke):Prop where
 own:∀ i,Dp M i->∀ d,ρ[i]?=some (some d)->∃ p,σ[i]?=some (some (.ref p))/\DeepO K H S (F i) p d/\∀ q∈F i,S q/\¬ G.S0 q/\G.H0 q=none
 disj:∀ i,Dp M i->∀ j,Dp M j->Has ρ i->Has ρ j->∀ q,q∈F i->q∈F j->i=j
 flat:∀ i,Flt M i->∀ j,Dp M j->Has ρ i->Has ρ j->∀ p,σ[i]?=some (some (.ref p))->p∉F j
structure OwnS (K:Kd)(G:Gm)(M L:List Nat)(H:Hp)(S:Av)(σ:St)(ρ:Rho):Prop where
 ds:DenS K H S M σ ρ
 s0:∀ a,G.S0 a->S a
 h0:Same G.H0 H
 own:∀ i,Flt M i->∀ d,ρ[i]?=some (some d)->∃ p,σ[i]?=some (some (.ref p))/\OwnO K H S p d/\S p/\¬ G.S0 p/\(i∉L->G.H0 p=none)/\(i∈L->(p,d)=G.lk i)
 apart:∀ i,Flt M i->∀ j,Flt M j->∀ d e p,ρ[i]?=some (some d)->ρ[j]?=some (some e)->σ[i]?=some (some (.ref p))->σ[j]?=some (some (.ref p))->i=j
 bnd:∀ a,S a->G.S0 a\/G.H0 a=none\/∃ i∈L,a=(G.lk i).1
 lkd:∀ i∈L,Flt M i/\ρ[i]?=some (some (G.lk i).2)
 deep:∃ F,DeepF K G M H S σ ρ F
section
variable {K:Kd}{G:Gm}{M M' L:List Nat}{H H':Hp}{S:Av}{σ:St}{ρ:Rho}{v:V}{d:Ka}
theorem OwnS.same (e:Same H H')(h:OwnS K G M L H S σ ρ):OwnS K G M L H' S σ ρ :=
 ⟨h.ds.same e,h.s0,h.h0.trans e,fun i hi d q=>let ⟨p,a,b,c⟩:=h.own i hi d q;⟨p,a,b.same e,c⟩,h.apart,h.bnd,h.lkd,let ⟨F,f⟩:=h.deep;⟨F,fun i hi d q=>let ⟨p,a,b,c⟩:=f.own i hi d q;⟨p,a,b.same e,c⟩,f.disj,f.flat⟩⟩
theorem OwnS.lks (h:OwnS K G M L H S σ ρ):∀ i∈L,S (G.lk i).1:=fun i hi=>by
 obtain ⟨hm,e⟩:=h.lkd i hi
 obtain ⟨p,_,_,c,_,_,w⟩:=h.own i hm _ e
 rw [← w hi];exact c
theorem OwnS.den (h:OwnS K G M L H S σ ρ):DenS K H G.S0 [] σ ρ:=by
 refine ⟨h.ds.1.sub h.s0,h.ds.2.1,fun i d _ q=>?_⟩
 by_cases hi:i∈M
 ·by_cases hk:i+1000∈M
  ·obtain ⟨F,f⟩:=h.deep
   obtain ⟨p,a,b,c⟩:=f.own i ⟨hi,hk⟩ d q
   exact ⟨_,a,b.den (fun q hq=>(c q hq).2.1) fun a _ z=>h.s0 a z⟩
  ·obtain ⟨p,a,b,c,n,_⟩:=h.own i ⟨hi,hk⟩ d q
   exact ⟨_,a,b.den n fun a _ z=>h.s0 a z⟩
 ·obtain ⟨v,a,b⟩:=h.ds.2.2 i d hi q
  exact ⟨v,a,b.sub fun a _ z=>h.s0 a z⟩
theorem qt {α:Type}{xs:List α}{i j:Nat}{x:α}(h:i≠j):(xs.set i x)[j]?=xs[j]?:=VR h
theorem OwnS.set (h:OwnS K G M L H S σ ρ)(q:Den K H S v d){i:Nat}(hi:i∉M):OwnS K G M L H S (σ.set i (some v)) (ρ.set i (some d)):=by
 have ne:∀ j∈M,i≠j:=fun j hj e=>hi (by rw [e];exact hj)
 obtain ⟨F,f⟩:=h.deep
 refine ⟨h.ds.set q i,h.s0,h.h0,fun j hj e he=>?_,fun j hj k hk e e' p h1 h2 h3 h4=>?_,h.bnd,fun j hj=>⟨(h.lkd j hj).1,by rw [qt (ne j (h.lkd j hj).1.1)];exact (h.lkd j hj).2⟩,F,fun j hj e he=>?_,fun j hj k hk h1 h2=>?_,fun j hj k hk h1 h2 p h3=>?_⟩
 ·rw [qt (ne j hj.1)] at he ⊢
  exact h.own j hj e he
 ·rw [qt (ne j hj.1)] at h1 h3
  rw [qt (ne k hk.1)] at h2 h4
  exact h.apart j hj k hk e e' p h1 h2 h3 h4
 ·rw [qt (ne j hj.1)] at he ⊢
  exact f.own j hj e he
 ·unfold Has at h1 h2
  rw [qt (ne j hj.1)] at h1
  rw [qt (ne k hk.1)] at h2
  exact f.disj j hj k hk h1 h2
 ·unfold Has at h1 h2
  rw [qt (ne j hj.1)] at h1 h3
  rw [qt (ne k hk.1)] at h2
  exact f.flat j hj k hk h1 h2 p h3
theorem OwnS.frz (h:OwnS K G M L H S σ ρ)(hs:SubM M' M)(hl:∀ i∈L,i∈M->i∈M'):∃ S',OwnS K G M' L H S' σ ρ:=by
 obtain ⟨F,f⟩:=h.deep
 have sb:∀ a,(S a/\(¬ ∃ i,Flt M i/\i∉M'/\Has ρ i/\σ[i]?=some (some (.ref a)))/\¬ ∃ i,Dp M i/\i∉M'/\Has ρ i/\a∈F i)->S a:=fun a z=>z.1
 refine ⟨fun a=>S a/\(¬ ∃ i,Flt M i/\i∉M'/\Has ρ i/\σ[i]?=some (some (.ref a)))/\¬ ∃ i,Dp M i/\i∉M'/\Has ρ i/\a∈F i,⟨?_,?_,?_⟩,?_,h.h0,?_,?_,?_,fun i hi=>⟨⟨hl i hi (h.lkd i hi).1.1,fun z=>(h.lkd i hi).1.2 (hs.sub _ z)⟩,(h.lkd i hi).2⟩,F,?_,?_,?_⟩
 ·exact h.ds.1.sub fun a z=>z.1
 ·exact h.ds.2.1
 ·intro i d hi q
  by_cases hm:i∈M
  ·by_cases hk:i+1000∈M
   ·obtain ⟨p,a,b,c⟩:=f.own i ⟨hm,hk⟩ d q
    exact ⟨_,a,b.den (fun r hr z=>z.2.2 ⟨i,⟨hm,hk⟩,hi,⟨d,q⟩,hr⟩) fun a _ z=>z.1⟩
   ·obtain ⟨p,a,b,c,_⟩:=h.own i ⟨hm,hk⟩ d q
    exact ⟨_,a,b.den (fun z=>z.2.1 ⟨i,⟨hm,hk⟩,hi,⟨d,q⟩,a⟩) fun a _ z=>z.1⟩
  ·obtain ⟨v,a,b⟩:=h.ds.2.2 i d hm q
   exact ⟨v,a,b.sub fun a _ z=>z.1⟩
 ·intro a ha
  refine ⟨h.s0 a ha,fun ⟨i,hm,hi,⟨d,q⟩,e⟩=>?_,fun ⟨i,hm,hi,⟨d,q⟩,e⟩=>?_⟩
  ·obtain ⟨p,e',b,c,n,_⟩:=h.own i hm d q
   rw [e] at e';cases e'
   exact n ha
  ·obtain ⟨p,e',b,c⟩:=f.own i hm d q
   exact (c a e).2.1 ha
 ·intro i hi d q
  obtain ⟨p,a,b,c,n,w,w'⟩:=h.own i (hs.flt hi) d q
  refine ⟨p,a,b.sub fun a _ z=>z.1,⟨c,fun ⟨j,hj,hj',⟨e,q'⟩,a'⟩=>?_,fun ⟨j,hj,hj',q',a'⟩=>?_⟩,n,w,w'⟩
  ·have:=h.apart i (hs.flt hi) j hj d e p q q' a a'
   subst this
   exact hj' hi.1
  ·exact f.flat i (hs.flt hi) j hj ⟨d,q⟩ q' p a a'
 ·exact fun i hi j hj=>h.apart i (hs.flt hi) j (hs.flt hj)
 ·exact fun a z=>h.bnd a z.1
 ·intro i hi d q
  obtain ⟨p,a,b,c⟩:=f.own i (hs.deep hi) d q
  refine ⟨p,a,b.sub fun a _ z=>z.1,fun r hr=>⟨⟨(c r hr).1,fun ⟨j,hj,hj',q',a'⟩=>?_,fun ⟨j,hj,hj',q',a'⟩=>?_⟩,(c r hr).2⟩⟩
  ·exact f.flat j hj i (hs.deep hi) q' ⟨d,q⟩ r a' hr
  ·have:=f.disj i (hs.deep hi) j hj ⟨d,q⟩ q' r hr a'
   subst this
   exact hj' hi.1
 ·exact fun i hi j hj=>f.disj i (hs.deep hi) j (hs.deep hj)
 ·exact fun i hi j hj=>f.flat i (hs.flt hi) j (hs.deep hj)
theorem qjM {i j:Nat}(hi:Out0 M i)(hj:Flt M j):Flt (i::M) j:=⟨.tail _ hj.1,fun z=>by rcases Kk.mp z with e|z;(have:=hi.2.2;omega);exact hj.2 z⟩
theorem yP {i j:Nat}(hj:Flt (i::M) j)(ne:i≠j):Flt M j:=⟨(Kk.mp hj.1).resolve_left fun z=>ne z.symm,fun z=>hj.2 (.tail _ z)⟩
theorem qdu {i j:Nat}(hi:Out0 M i)(hj:Dp (i::M) j):Dp M j:=by
 have q:j+1000∈M:=(Kk.mp hj.2).resolve_left fun z=>by have:=hi.2.2;omega
 refine ⟨(Kk.mp hj.1).resolve_left fun z=>hi.2.1 (by rw [← z];exact q),q⟩
theorem OwnS.take (h:OwnS K G M L H S σ ρ){p:Ke}{i:Nat}(hn:H p=none)(e:Same H H')(o:OwnO K H' (insA S p) p d)(hi:Out0 M i)(hl:i∉L)(hz:i<ρ.length):OwnS K G (i::M) L H' (insA S p) (σ.set i (some (.ref p))) (ρ.set i (some d)):=by
 have np:¬ S p:=h.ds.1.free hn
 have sub:∀ a,H a≠none->insA S p a->S a:=fun a ha z=>by
  rcases z with z|rfl
  ·exact z
  ·exact absurd hn ha
 have ne:∀ j∈M,i≠j:=fun j hj e=>hi.1 (by rw [e];exact hj)
 have hz':i<σ.length:=by rw [h.ds.2.1];exact hz
 have gi:(ρ.set i (some d))[i]?=some (some d):=Vr hz
 have gi':(σ.set i (some (.ref p)))[i]?=some (some (.ref p)):=Vr hz'
 obtain ⟨F,f⟩:=h.deep
 refine ⟨⟨(h.ds.1.same e).ins o.mut,by rw [Vw,Vw];exact h.ds.2.1,fun j d' hj q=>?_⟩,fun a z=>.inl (h.s0 a z),h.h0.trans e,fun j hj d' q=>?_,fun j hj k hk d1 d2 q h1 h2 h3 h4=>?_,fun a z=>?_,fun j hj=>⟨qjM hi (h.lkd j hj).1,by rw [qt (fun z=>hl (by rw [z];exact hj))];exact (h.lkd j hj).2⟩,
  F,fun j hj d' q=>?_,fun j hj k hk h1 h2=>?_,fun j hj k hk h1 h2 r h3=>?_⟩
 ·have hij:i≠j:=fun z=>hj (by rw [z];exact .head _)
  rw [qt hij] at q ⊢
  obtain ⟨v,a,b⟩:=h.ds.2.2 j d' (fun z=>hj (.tail _ z)) q
  exact ⟨v,a,(b.sub sub).same e⟩
 ·by_cases hij:i=j
  ·subst hij
   rw [gi] at q;cases q
   exact ⟨p,gi',o,.inr rfl,fun z=>np (h.s0 p z),fun _=>h.h0.free hn,fun z=>absurd z hl⟩
  ·rw [qt hij] at q ⊢
   obtain ⟨q',a,b,c,n,w⟩:=h.own j (yP hj hij) d' q
   exact ⟨q',a,(b.sub sub).same e,.inl c,n,w⟩
 ·have key:∀ m,Flt M m->∀ (d':Ka) (q:Ke),(ρ.set i (some d))[m]?=some (some d')->(σ.set i (some (.ref p)))[m]?=some (some (.ref q))->q≠p:=fun m hm d' q e1 e2 z=>by
   rw [qt (ne m hm.1)] at e1 e2
   obtain ⟨q',a,b,_⟩:=h.own m hm d' e1
   rw [e2] at a;cases a
   subst z
   exact b.dom hn
  by_cases ej:i=j
  ·by_cases ek:i=k
   ·rw [← ej,← ek]
   ·rw [← ej,gi'] at h3
    cases h3
    exact absurd rfl (key k (yP hk ek) d2 p h2 h4)
  ·by_cases ek:i=k
   ·rw [← ek,gi'] at h4
    cases h4
    exact absurd rfl (key j (yP hj ej) d1 p h1 h3)
   ·rw [qt ej] at h1 h3
    rw [qt ek] at h2 h4
    exact h.apart j (yP hj ej) k (yP hk ek) d1 d2 q h1 h2 h3 h4
 ·rcases z with z|rfl
  ·exact h.bnd a z
  ·exact .inr (.inl (h.h0.free hn))
 ·have hj':=qdu hi hj
  rw [qt (ne j hj'.1)] at q ⊢
  obtain ⟨q',a,b,c⟩:=f.own j hj' d' q
  exact ⟨q',a,(b.sub sub).same e,fun r hr=>⟨.inl (c r hr).1,(c r hr).2⟩⟩
 ·have hj':=qdu hi hj
  have hk':=qdu hi hk
  unfold Has at h1 h2
  rw [qt (ne j hj'.1)] at h1
  rw [qt (ne k hk'.1)] at h2
  exact f.disj j hj' k hk' h1 h2
 ·have hk':=qdu hi hk
  unfold Has at h1 h2
  rw [qt (ne k hk'.1)] at h2
  by_cases ej:i=j
  ·rw [← ej,gi'] at h3
   cases h3
   obtain ⟨d2,e2⟩:=h2
   obtain ⟨q',a,b,c⟩:=f.own k hk' d2 e2
   intro z
   obtain ⟨o2,z2,_⟩:=b.mut p z
   rw [hn] at z2;cases z2
  ·rw [qt ej] at h1 h3
   exact f.flat j (yP hj ej) k hk' h1 h2 r h3
def insL (S:Av)(fp:List Ke):Av:=fun a=>S a\/a∈fp
theorem Dm.insL {fp:List Ke}(m:Dm S H)(h:∀ q∈fp,∃ o,H q=some o/\Z9 o=true):Dm (insL S fp) H:=fun a ha=>by
 rcases ha with ha|ha
 ·exact m a ha
 ·exact h a ha
theorem qhi {i j:Nat}(hj:j∈i::(i+1000)::M)(ne:i≠j)(n2:j≠i+1000):j∈M:=(Kk.mp ((Kk.mp hj).resolve_left fun z=>ne z.symm)).resolve_left n2
theorem Y5 {i j:Nat}(hj:Flt (i::(i+1000)::M) j)(n2:j≠i+1000):i≠j/\Flt M j:=by
 have ne:i≠j:=fun z=>hj.2 (by rw [← z];exact .tail _ (.head _))
 exact ⟨ne,qhi hj.1 ne n2,fun z=>hj.2 (.tail _ (.tail _ z))⟩
theorem qc7 {i j:Nat}(hi:i<1000)(hj:Dp (i::(i+1000)::M) j)(ne:i≠j)(n2:j≠i+1000):Dp M j:=by
 refine ⟨qhi hj.1 ne n2,?_⟩
 rcases Kk.mp hj.2 with z|z
 ·omega
 ·rcases Kk.mp z with z|z
  ·omega
  ·exact z
theorem qk5 {i j:Nat}(hi:i<1000)(hj:Flt M j)(ne:i≠j):Flt (i::(i+1000)::M) j:=⟨.tail _ (.tail _ hj.1),fun z=>by
 rcases Kk.mp z with z|z
 ·omega
 ·rcases Kk.mp z with z|z
  ·omega
  ·exact hj.2 z⟩
theorem qjO {i:Nat}(h:Has ρ i):i<ρ.length:=by
 obtain ⟨d,e⟩:=h
 exact (Vg.mp e).1
theorem OwnS.takeD (h:OwnS K G M L H S σ ρ){p:Ke}{fp:List Ke}{i:Nat}(hn:∀ q∈fp,H q=none)(e:Same H H')(o:DeepO K H' (insL S fp) fp p d)(hi:Out0 M i)(hl:i∉L)(hz:i<ρ.length)(hz2:ρ.length<=1000) :
  OwnS K G (i::(i+1000)::M) L H' (insL S fp) (σ.set i (some (.ref p))) (ρ.set i (some d)):=by
 have sub:∀ a,H a≠none->insL S fp a->S a:=fun a ha z=>by
  rcases z with z|z
  ·exact z
  ·exact absurd (hn a z) ha
 have hz':i<σ.length:=by rw [h.ds.2.1];exact hz
 have gi:(ρ.set i (some d))[i]?=some (some d):=Vr hz
 have gi':(σ.set i (some (.ref p)))[i]?=some (some (.ref p)):=Vr hz'
 have n2:∀ j,Has (ρ.set i (some d)) j->j≠i+1000:=fun j hj=>by
  have:=qjO hj
  rw [Vw] at this
  omega
 obtain ⟨F,f⟩:=h.deep
 have fne:∀ j,j≠i->(if j=i then fp else F j)=F j:=fun j hj=>if_neg hj
 refine ⟨⟨(h.ds.1.same e).insL o.mut,by rw [Vw,Vw];exact h.ds.2.1,fun j d' hj q=>?_⟩,fun a z=>.inl (h.s0 a z),h.h0.trans e,fun j hj d' q=>?_,fun j hj k hk d1 d2 q h1 h2 h3 h4=>?_,fun a z=>?_,fun j hj=>?_,
  fun j=>if j=i then fp else F j,fun j hj d' q=>?_,fun j hj k hk h1 h2=>?_,fun j hj k hk h1 h2 r h3=>?_⟩
 ·have hij:i≠j:=fun z=>hj (by rw [z];exact .head _)
  rw [qt hij] at q ⊢
  obtain ⟨v,a,b⟩:=h.ds.2.2 j d' (fun z=>hj (.tail _ (.tail _ z))) q
  exact ⟨v,a,(b.sub sub).same e⟩
 ·obtain ⟨hij,hj'⟩:=Y5 hj (n2 j ⟨d',q⟩)
  rw [qt hij] at q ⊢
  obtain ⟨q',a,b,c,n,w⟩:=h.own j hj' d' q
  exact ⟨q',a,(b.sub sub).same e,.inl c,n,w⟩
 ·obtain ⟨ej,hj'⟩:=Y5 hj (n2 j ⟨d1,h1⟩)
  obtain ⟨ek,hk'⟩:=Y5 hk (n2 k ⟨d2,h2⟩)
  rw [qt ej] at h1 h3
  rw [qt ek] at h2 h4
  exact h.apart j hj' k hk' d1 d2 q h1 h2 h3 h4
 ·rcases z with z|z
  ·exact h.bnd a z
  ·exact .inr (.inl (h.h0.free (hn a z)))
 ·have ne:i≠j:=fun z=>hl (by rw [z];exact hj)
  exact ⟨qk5 hi.2.2 (h.lkd j hj).1 ne,by rw [qt ne];exact (h.lkd j hj).2⟩
 ·by_cases hij:i=j
  ·subst hij
   rw [gi] at q;cases q
   rw [if_pos rfl]
   exact ⟨p,gi',o,fun r hr=>⟨.inr hr,fun z=>h.ds.1.free (hn r hr) (h.s0 r z),h.h0.free (hn r hr)⟩⟩
  ·rw [fne j (VU hij)]
   have hj':=qc7 hi.2.2 hj hij (n2 j ⟨d',q⟩)
   rw [qt hij] at q ⊢
   obtain ⟨q',a,b,c⟩:=f.own j hj' d' q
   exact ⟨q',a,(b.sub sub).same e,fun r hr=>⟨.inl (c r hr).1,(c r hr).2⟩⟩
 ·have old:∀ j,i≠j->Dp (i::(i+1000)::M) j->Has (ρ.set i (some d)) j->Has ρ j/\Dp M j/\∀ r∈F j,r∉fp:=fun j ne hj h1=>by
   have hj':=qc7 hi.2.2 hj ne (n2 j h1)
   unfold Has at h1
   rw [qt ne] at h1
   refine ⟨h1,hj',fun r hr z=>?_⟩
   obtain ⟨d2,e2⟩:=h1
   obtain ⟨q',a,b,c⟩:=f.own j hj' d2 e2
   obtain ⟨o2,z2,_⟩:=b.mut r hr
   rw [hn r z] at z2;cases z2
  intro r hr hr'
  by_cases ej:i=j
  ·by_cases ek:i=k
   ·rw [← ej,← ek]
   ·rw [if_pos ej.symm] at hr
    rw [fne k (VU ek)] at hr'
    exact absurd hr ((old k ek hk h2).2.2 r hr')
  ·rw [fne j (VU ej)] at hr
   by_cases ek:i=k
   ·rw [if_pos ek.symm] at hr'
    exact absurd hr' ((old j ej hj h1).2.2 r hr)
   ·rw [fne k (VU ek)] at hr'
    exact f.disj j (old j ej hj h1).2.1 k (old k ek hk h2).2.1 (old j ej hj h1).1 (old k ek hk h2).1 r hr hr'
 ·obtain ⟨ej,hj'⟩:=Y5 hj (n2 j h1)
  obtain ⟨d1,e1⟩:=h1
  rw [qt ej] at e1 h3
  by_cases ek:i=k
  ·rw [if_pos ek.symm]
   intro z
   obtain ⟨q',a,b,c⟩:=h.own j hj' d1 e1
   rw [h3] at a;cases a
   exact b.dom (hn _ z)
  ·rw [fne k (VU ek)]
   have hk':=qc7 hi.2.2 hk ek (n2 k h2)
   unfold Has at h2
   rw [qt ek] at h2
   exact f.flat j hj' k hk' ⟨d1,e1⟩ h2 r h3
theorem OwnS.write (h:OwnS K G M L H S σ ρ){p:Ke}{i:Nat}{o:HO}{d₀:Ka}(hi:Flt M i)(hl:i∉L)(e0:ρ[i]?=some (some d₀))(e1:σ[i]?=some (some (.ref p)))(hm:Z9 o=true)(ow:OwnO K (upd H p o) S p d):OwnS K G M L (upd H p o) S σ (ρ.set i (some d)):=by
 obtain ⟨p',a,b,c,n,w,_⟩:=h.own i hi d₀ e0
 rw [e1] at a;cases a
 have off:Off S H (upd H p o):=fun b u z e=>by
  rw [qD (fun y=>z (by rw [y];exact c))];exact e
 have hz:i<ρ.length:=(Vg.mp e0).1
 have get:∀ m d',(ρ.set i (some d))[m]?=some (some d')->∃ d'',ρ[m]?=some (some d''):=fun m d' q=>by
  by_cases him:i=m
  ·subst him;exact ⟨_,e0⟩
  ·rw [qt him] at q;exact ⟨_,q⟩
 have get2:∀ m,Has (ρ.set i (some d)) m->Has ρ m:=fun m ⟨d',q⟩=>get m d' q
 have dne:∀ j,Dp M j->i≠j:=fun j hj z=>hi.2 (by rw [z];exact hj.2)
 obtain ⟨F,f⟩:=h.deep
 refine ⟨⟨h.ds.1.upd hm,by rw [Vw];exact h.ds.2.1,fun j d' hj q=>?_⟩,h.s0,fun a u q=>?_,fun j hj d' q=>?_,fun j hj k hk d1 d2 q h1 h2 h3 h4=>?_,h.bnd,fun j hj=>⟨(h.lkd j hj).1,by rw [qt (fun z=>hl (by rw [z];exact hj))];exact (h.lkd j hj).2⟩,
  F,fun j hj d' q=>?_,fun j hj k hk h1 h2=>f.disj j hj k hk (get2 j h1) (get2 k h2),fun j hj k hk h1 h2=>f.flat j hj k hk (get2 j h1) (get2 k h2)⟩
 ·have hij:i≠j:=fun z=>hj (by rw [← z];exact hi.1)
  rw [qt hij] at q
  obtain ⟨v,a,b⟩:=h.ds.2.2 j d' hj q
  exact ⟨v,a,b.off h.ds.1 off⟩
 ·have:a≠p:=fun z=>by subst z;rw [w hl] at q;cases q
  rw [qD this]
  exact h.h0 a u q
 ·by_cases hij:i=j
  ·subst hij
   rw [Vr hz] at q;cases q
   exact ⟨p,e1,ow,c,n,w,fun z=>absurd z hl⟩
  ·rw [qt hij] at q
   obtain ⟨q',a,b',c',n',w'⟩:=h.own j hj d' q
   have:q'≠p:=fun z=>by subst z;exact hij (h.apart i hi j hj d₀ d' q' e0 q e1 a)
   exact ⟨q',a,b'.upd h.ds.1 c hm this,c',n',w'⟩
 ·obtain ⟨x1,y1⟩:=get j d1 h1
  obtain ⟨x2,y2⟩:=get k d2 h2
  exact h.apart j hj k hk x1 x2 q y1 y2 h3 h4
 ·rw [qt (dne j hj)] at q
  obtain ⟨q',a,b',c'⟩:=f.own j hj d' q
  exact ⟨q',a,b'.upd h.ds.1 c (f.flat i hi j hj ⟨_,e0⟩ ⟨_,q⟩ p e1),c'⟩
theorem OwnS.writeD (h:OwnS K G M L H S σ ρ){F:Nat->List Ke}(f:DeepF K G M H S σ ρ F){p q2:Ke}{i:Nat}{o:HO}{d₀:Ka}(hi:Dp M i)(e0:ρ[i]?=some (some d₀))(e1:σ[i]?=some (some (.ref p)))(hq:q2∈F i)(hm:Z9 o=true)(ow:DeepO K (upd H q2 o) S (F i) p d) :
  OwnS K G M L (upd H q2 o) S σ (ρ.set i (some d)):=by
 obtain ⟨p',a,b,cc⟩:=f.own i hi d₀ e0
 rw [e1] at a;cases a
 obtain ⟨c,n,w⟩:=cc q2 hq
 have off:Off S H (upd H q2 o):=fun b u z e=>by
  rw [qD (fun y=>z (by rw [y];exact c))];exact e
 have hz:i<ρ.length:=(Vg.mp e0).1
 have get:∀ m d',(ρ.set i (some d))[m]?=some (some d')->∃ d'',ρ[m]?=some (some d''):=fun m d' q=>by
  by_cases him:i=m
  ·subst him;exact ⟨_,e0⟩
  ·rw [qt him] at q;exact ⟨_,q⟩
 have get2:∀ m,Has (ρ.set i (some d)) m->Has ρ m:=fun m ⟨d',q⟩=>get m d' q
 have dne:∀ j,Flt M j->i≠j:=fun j hj z=>hj.2 (by rw [← z];exact hi.2)
 refine ⟨⟨h.ds.1.upd hm,by rw [Vw];exact h.ds.2.1,fun j d' hj q=>?_⟩,h.s0,fun a u q=>?_,fun j hj d' q=>?_,fun j hj k hk d1 d2 q h1 h2 h3 h4=>?_,h.bnd,fun j hj=>⟨(h.lkd j hj).1,by rw [qt (dne j (h.lkd j hj).1)];exact (h.lkd j hj).2⟩,
  F,fun j hj d' q=>?_,fun j hj k hk h1 h2=>f.disj j hj k hk (get2 j h1) (get2 k h2),fun j hj k hk h1 h2=>f.flat j hj k hk (get2 j h1) (get2 k h2)⟩
 ·have hij:i≠j:=fun z=>hj (by rw [← z];exact hi.1)
  rw [qt hij] at q
  obtain ⟨v,a,b⟩:=h.ds.2.2 j d' hj q
  exact ⟨v,a,b.off h.ds.1 off⟩
 ·have e2:=h.h0 a u q
  by_cases ne:a=q2
  ·rw [ne,w] at q;cases q
  ·rw [qD ne];exact e2
 ·rw [qt (dne j hj)] at q
  obtain ⟨q',a,b',c',n',w'⟩:=h.own j hj d' q
  exact ⟨q',a,b'.upd h.ds.1 c hm (fun z=>by subst z;exact f.flat j hj i hi ⟨_,q⟩ ⟨_,e0⟩ _ a hq),c',n',w'⟩
 ·rw [qt (dne j hj)] at h1
  rw [qt (dne k hk)] at h2
  exact h.apart j hj k hk d1 d2 q h1 h2 h3 h4
 ·by_cases hij:i=j
  ·subst hij
   rw [Vr hz] at q;cases q
   exact ⟨p,e1,ow,cc⟩
  ·rw [qt hij] at q
   obtain ⟨q',a,b',c'⟩:=f.own j hj d' q
   exact ⟨q',a,b'.upd h.ds.1 c (fun z=>hij (f.disj i hi j hj ⟨_,e0⟩ ⟨_,q⟩ _ hq z)),c'⟩
noncomputable def cut (P:Prop)(o:Option HO):Option HO:=@ite _ P (Classical.propDecidable P) none o
theorem YL {P:Prop}{o:Option HO}(h:P):cut P o=none:=if_pos h
theorem qaH {P:Prop}{o:Option HO}(h:¬ P):cut P o=o:=if_neg h
noncomputable def Gm.base (G:Gm)(S:Av)(H:Hp):Gm:={ G with H0:=fun a=>cut (S a/\G.H0 a=none) (H a) }
theorem qeo (h:Same G.H0 H):Same G.H0 (G.base S H).H0:=fun a o q=>(qaH (fun z=>by rw [q] at z;cases z.2)).trans (h a o q)
theorem qfx:Off S H (G.base S H).H0:=fun a o n q=>(qaH (fun z=>n z.1)).trans q
theorem qhp:Same (G.base S H).H0 H:=fun a o q=>by
 have q:cut (S a/\G.H0 a=none) (H a)=some o:=q
 by_cases h:S a/\G.H0 a=none
 ·rw [YL h] at q;cases q
 ·rw [qaH h] at q;exact q
theorem OwnS.base (h:OwnS K G M L H S σ ρ):OwnS K (G.base S H) M L H S σ ρ:=by
 obtain ⟨F,f⟩:=h.deep
 refine ⟨h.ds,h.s0,qhp,fun i hi d q=>?_,h.apart,fun a z=>?_,h.lkd,F,fun i hi d q=>let ⟨p,a,b,c⟩:=f.own i hi d q;⟨p,a,b,fun r hr=>⟨(c r hr).1,(c r hr).2.1,YL ⟨(c r hr).1,(c r hr).2.2⟩⟩⟩,f.disj,f.flat⟩
 ·obtain ⟨p,a,b,c,n,w,w'⟩:=h.own i hi d q
  exact ⟨p,a,b,c,n,fun hl=>YL ⟨c,w hl⟩,w'⟩
 ·rcases h.bnd a z with y|y|y
  ·exact .inl y
  ·exact .inr (.inl (YL ⟨z,y⟩))
  ·exact .inr (.inr y)
theorem OwnS.unbase {G':Gm}(s:Same G.H0 G'.H0)(e:G'.S0=G.S0)(e':G'.lk=G.lk)(h:OwnS K G' M L H S σ ρ):OwnS K G M L H S σ ρ:=by
 obtain ⟨F,f⟩:=h.deep
 refine ⟨h.ds,by rw [← e];exact h.s0,s.trans h.h0,fun i hi d q=>?_,h.apart,fun a z=>?_,by rw [← e'];exact h.lkd,F,fun i hi d q=>let ⟨p,a,b,c⟩:=f.own i hi d q;⟨p,a,b,fun r hr=>⟨(c r hr).1,by rw [← e];exact (c r hr).2.1,s.free (c r hr).2.2⟩⟩,f.disj,f.flat⟩
 ·obtain ⟨p,a,b,c,n,w,w'⟩:=h.own i hi d q
  exact ⟨p,a,b,c,by rw [← e];exact n,fun hl=>s.free (w hl),by rw [← e'];exact w'⟩
 ·rcases h.bnd a z with y|y|y
  ·exact .inl (by rw [← e];exact y)
  ·exact .inr (.inl (s.free y))
  ·exact .inr (.inr (by rw [← e'];exact y))
theorem OwnS.turn {G':Gm}{S':Av}{x:V}(s0:∀ a,G'.S0 a->S a)(sl:∀ i∈L,S (G'.lk i).1)(h:OwnS K G' M L H S' σ ρ)(q:Den K G'.H0 S x d):Den K H S' x d:=by
 refine (q.sub fun a ha z=>?_).same h.h0
 rcases h.bnd a z with y|y|⟨i,hi,rfl⟩
 ·exact s0 a y
 ·exact absurd y ha
 ·exact sl i hi
end
inductive Fr where
 | pl|nw|dp
def OutQ (K:Kd)(G:Gm)(M' Mb L:List Nat)(fr:Fr)(D:Ends):Out->Prop
 | .nx ρ=>∀ σ' H' S',OwnS K G M' L H' S' σ' ρ->D.nx σ' H'
 | .rt d=>match fr with
  | .nw=>∀ p H',Same G.H0 H'->G.H0 p=none->¬ G.S0 p->OwnO K H' (insA G.S0 p) p d->D.rt (.ref p) H'
  | .dp=>∀ p fp H',Same G.H0 H'->(∀ q∈fp,G.H0 q=none/\¬ G.S0 q)->DeepO K H' (insL G.S0 fp) fp p d->D.rt (.ref p) H'
  | .pl=>∀ v H',Same G.H0 H'->Den K H' G.S0 v d->D.rt v H'
 | .bk ρ=>∀ σ' H' S',OwnS K G Mb L H' S' σ' ρ->D.bk σ' H'
 | .ct ρ=>∀ σ' H' S',OwnS K G Mb L H' S' σ' ρ->D.ct σ' H'
def tDS (K:Kd)(G:Gm)(M L M' Mb:List Nat)(fr:Fr)(f:Rho->Option Out):TS:=fun D σ H=>∃ S ρ o,OwnS K G M L H S σ ρ/\f ρ=some o/\OutQ K G M' Mb L fr D o
def PDS (X:Cx)(G:Gm)(M L M' Mb:List Nat)(fr:Fr)(s:KY)(f:Rho->Option Out):Prop:=PS X s (tDS X.K G M L M' Mb fr f)
def PDSs (X:Cx)(G:Gm)(M L M' Mb:List Nat)(fr:Fr)(s:List KY)(f:Rho->Option Out):Prop:=PSs X s (tDS X.K G M L M' Mb fr f)
def tF (K:Kd)(M:List Nat)(f:Rho->Option Ka):TE:=fun σ H Q=>∃ S ρ d,DenS K H S M σ ρ/\f ρ=some d/\∀ p H',Same H H'->H p=none->OwnO K H' (insA S p) p d->Q (.ref p) H'
def PF (X:Cx)(M:List Nat)(e:Kw)(f:Rho->Option Ka):Prop:=PE X e (tF X.K M f)
def qQ (f:Rho->Option Ka):Rho->Option Ka:=fun ρ=>ob (f ρ) fun d=>if flat d=true then some d else none
def WY:Ka->Bool
 | .list ds=>yf ds
 | _=>false
def Yr (f:Rho->Option Ka):Rho->Option Ka:=fun ρ=>ob (f ρ) fun d=>if WY d=true then some d else none
def seqO (u w:Rho->Option Out)(ρ:Rho):Option Out:=ob (u ρ) fun o=>match o with | .nx ρ'=>w ρ'|o=>some o
section
variable {X:Cx}{G:Gm}{M M1 M2 M' Mb L:List Nat}{fr:Fr}{a b c:Kw}{es:List Kw}{f g:Rho->Option Ka}{p:Rho->Option Bool}{pos:Pos}{s1:KY}{ss st1 st2:List KY}{u w:Rho->Option Out}
theorem Ze (h:PF X M a f):PD X M a f:=h.weak fun σ H Q ⟨S,ρ,d,hs,e,q⟩=>⟨S,ρ,d,hs,e,fun p H' g n o=>q _ H' g (o.den (hs.1.free n) fun a _ z=>.inl z)⟩
theorem OwnO.flat {K:Kd}{H:Hp}{S S':Av}{p:Ke}{d:Ka}(fl:WY d=true)(h:OwnO K H S p d):OwnO K H S' p d:=by
 cases h with
 | lst h t=>exact .lst h (t.flat fl)
 | dct h k t=>cases fl
theorem zT:PDSs X G M L M Mb fr [] sN:=qiQ.weak fun D σ H ⟨S,ρ,o,hs,e,q⟩=>by cases e;exact q σ H S hs
theorem qp (h1:PDS X G M L M1 Mb fr s1 u)(h2:PDSs X G M1 L M2 Mb fr ss w):PDSs X G M L M2 Mb fr (s1::ss) (seqO u w) :=
 (qgW h1 h2).weak fun D σ H ⟨S,ρ,o,hs,e,q⟩=>by
  obtain ⟨o1,e1,e⟩:=qe e
  refine ⟨S,ρ,o1,hs,e1,?_⟩
  cases o1 with
  | nx ρ'=>exact fun σ' H' S' hs'=>⟨S',ρ',o,hs',e,q⟩
  | rt d=>cases e;exact q
  | bk d=>cases e;exact q
  | ct d=>cases e;exact q
theorem qu (h1:PDS X G M L M' Mb fr s1 u):PDSs X G M L M' Mb fr [s1] u:=qiR h1
def subB (A B:List Nat):Bool:=A.all fun i=>B.contains i&&(!(B.contains (i+1000))||A.contains (i+1000))
theorem qc4 {A B:List Nat}(h:subB A B=true):∀ i∈A,i∈B:=fun i hi=>by
 have:=Kz.mp h i hi
 rw [Ks] at this
 simpa using this.1
theorem qel {A B:List Nat}(h:subB A B=true):SubM A B:=⟨qc4 h,fun i hi hk=>by
 have:=Kz.mp h i hi
 rw [Ks,NH] at this
 rcases this.2 with z|z
 ·rw [Ef,← Bool.not_eq_true] at z
  exact absurd (by simpa using hk) z
 ·simpa using z⟩
theorem qe7 (h:PDS X G M1 L M' Mb fr s1 u)(h1:subB M1 M=true:=by decide)(h2:subB L M1=true:=by decide):PDS X G M L M' Mb fr s1 u :=
 h.weak fun D σ H ⟨S,ρ,o,hs,e,q⟩=>let ⟨S',hs'⟩:=hs.frz (qel h1) fun i hi _=>qc4 h2 i hi;⟨S',ρ,o,hs',e,q⟩
theorem OutQ.drop {K:Kd}{D:Ends}{o:Out}(h1:subB M1 M'=true)(h2:subB L M1=true)(q:OutQ K G M1 Mb L fr D o):OutQ K G M' Mb L fr D o:=by
 cases o with
 | nx ρ=>exact fun σ' H' S' hs=>let ⟨S2,hs2⟩:=hs.frz (qel h1) fun i hi _=>qc4 h2 i hi;q σ' H' S2 hs2
 | rt d=>exact q
 | bk ρ=>exact q
 | ct ρ=>exact q
theorem qiE (h:PDSs X G M L M' Mb fr ss u)(h1:subB M1 M'=true:=by decide)(h2:subB L M1=true:=by decide):PDSs X G M L M1 Mb fr ss u :=
 h.weak fun D σ H ⟨S,ρ,o,hs,e,q⟩=>⟨S,ρ,o,hs,e,q.drop h1 h2⟩
theorem qJ (h:PD X [] a f):PDS X G M L M' Mb .pl (.Return (some a) pos) (sRet f) :=
 (qkC h).weak fun D σ H ⟨S,ρ,o,hs,e,q⟩=>by
  obtain ⟨d,e1,e⟩:=qe e
  cases e
  exact ⟨G.S0,ρ,d,hs.den,e1,fun v H' g1 d1=>q v H' (hs.h0.trans g1) d1⟩
theorem yZ (i:Nat){x:Str}(hv:Vis X.env.scope x)(hN:X.N[i]?=some x:=by rfl)(hd:(x==("__debug__" : Str))=false:=by decide +kernel)
  (hcd:(x==("__classdict__" : Str))=false:=by decide +kernel):PE X (.Name x pos) (fun σ H Q=>∃ v,σ[i]?=some (some v)/\Q v H):=Yb hN hv hd hcd
theorem QC {i:Nat}{ρ:Rho}{d:Ka}(e:vr i ρ=some d):ρ[i]?=some (some d):=by
 have e:(ρ[i]?).join=some d:=e
 cases h:ρ[i]? with
 | none=>rw [h] at e;cases e
 | some o=>rw [h] at e;exact congrArg some e
theorem Ql (hc:PDT X [] c p)(h1:PDSs X G M L M' Mb fr st1 u)(h2:PDSs X G M L M' Mb fr st2 w):PDS X G M L M' Mb fr (.If c st1 st2 pos) (sIf p u w) :=
 (ps_if hc h1 h2).weak fun D σ H ⟨S,ρ,o,hs,e,q⟩=>by
  obtain ⟨d,e1,e⟩:=qe e
  refine ⟨G.S0,ρ,d,hs.den,e1,fun H1 g1=>?_⟩
  cases d with
  | true=>exact iteT ⟨S,ρ,o,hs.same g1,e,q⟩
  | false=>exact iteF ⟨S,ρ,o,hs.same g1,e,q⟩
def tDG (K:Kd)(G:Gm)(M L:List Nat)(g:Ka->Rho->Option Rho):TG:=fun v σ H Q=>∃ S ρ d ρ',OwnS K G M L H S σ ρ/\Den K H S v d/\g d ρ=some ρ'/\∀ σ' H',Same H H'->OwnS K G M L H' S σ' ρ'->Q σ' H'
def PDG (X:Cx)(G:Gm)(M L:List Nat)(t:Kw)(g:Ka->Rho->Option Rho):Prop:=PG X t (tDG X.K G M L g)
theorem zf (i:Nat){x:Str}(hN:X.N.Nodup)(hx:Loc X.env.scope x)(hM:i∉M)(hi:X.N[i]?=some x:=by rfl)(hf:X.fn x=true\/X.env.scope.names.lookup x=some .local:=by first|exact .inl rfl|exact .inr rfl|assumption):PDG X G M L (.Name x pos) (gNm i) :=
 (qd9 hN hi hx hf).weak fun v σ H Q ⟨S,ρ,d,ρ',hs,hd,e,q⟩=>by
  cases e
  exact q _ H (Same.refl H) (hs.set hd hM)
theorem qU (i:Nat){x:Str}{p':Pos}(hN:X.N.Nodup)(hx:Loc X.env.scope x)(hi:X.N[i]?=some x)(hs:swapsWith a (some (.Name x p')) pos.line X.env=pure false)(hf:X.fn x=true\/X.env.scope.names.lookup x=some .local)(hM:i∉M)(he:PD X M a f) :
  PDS X G M L M Mb fr (.Assign [.Name x p'] a pos) (sSet i f) :=
 (qa3 hN hi hx he hs hf).weak fun D σ H ⟨S,ρ,o,hs,e,q⟩=>by
  obtain ⟨d,e1,e⟩:=qe e
  cases e
  exact ⟨S,ρ,d,hs.ds,e1,fun v H1 g1 d1=>q _ H1 S ((hs.same g1).set d1 hM)⟩
def q8 (i:Nat)(f:Rho->Option Ka):Rho->Option Out:=fun ρ=>if i<ρ.length then ob (f ρ) fun d=>some (.nx (ρ.set i (some d))) else none
theorem Qw (i:Nat){x:Str}{p':Pos}(hN:X.N.Nodup)(hx:Loc X.env.scope x)(hi:X.N[i]?=some x)(hs:swapsWith a (some (.Name x p')) pos.line X.env=pure false)(hf:X.fn x=true\/X.env.scope.names.lookup x=some .local)(hM:Out0 M i)(hL:i∉L)(he:PF X M a f) :
  PDS X G M L (i::M) Mb fr (.Assign [.Name x p'] a pos) (q8 i f) :=
 (qa3 hN hi hx he hs hf).weak fun D σ H ⟨S,ρ,o,hs,e,q⟩=>by
  unfold q8 at e
  split at e
  ·rename_i hz
   obtain ⟨d,e1,e⟩:=qe e
   cases e
   exact ⟨S,ρ,d,hs.ds,e1,fun p H1 g1 n o=>q _ H1 _ (hs.take n g1 o hM hL hz)⟩
  ·cases e
theorem qfa (i:Nat){x:Str}{p':Pos}(hN:X.N.Nodup)(hx:Loc X.env.scope x)(hi:X.N[i]?=some x)(hs:swapsWith a (some (.Name x p')) pos.line X.env=pure false)(hf:X.fn x=true\/X.env.scope.names.lookup x=some .local)(hM:Out0 M i)(hL:i∉L)(he:PF X [] a f) :
  PDS X G M L (i::M) Mb fr (.Assign [.Name x p'] a pos) (q8 i (Yr f)) :=
 (qa3 hN hi hx he hs hf).weak fun D σ H ⟨S,ρ,o,hs,e,q⟩=>by
  unfold q8 at e
  split at e
  ·rename_i hz
   obtain ⟨d,e1,e⟩:=qe e
   cases e
   obtain ⟨d',e3,e4⟩:=qe e1
   split at e4
   ·rename_i hf
    cases e4
    exact ⟨G.S0,ρ,d,hs.den,e3,fun p H1 g1 n o=>q _ H1 _ (hs.take n g1 (o.flat hf) hM hL hz)⟩
   ·cases e4
  ·cases e
def forD (g:Ka->Rho->Option Rho)(body:Rho->Option Out):List Ka->Rho->Option Out
 | [],ρ=>some (.nx ρ)
 | d::ds,ρ=>ob (g d ρ) fun ρ1=>ob (body ρ1) fun o=>match o with
  | .nx ρ'=>forD g body ds ρ'
  | .ct ρ'=>forD g body ds ρ'
  | .bk ρ'=>some (.nx ρ')
  | .rt r=>some (.rt r)
def sFor (fi:Rho->Option (List Ka))(g:Ka->Rho->Option Rho)(u:Rho->Option Out):Rho->Option Out:=fun ρ=>ob (fi ρ) fun ds=>forD g u ds ρ
theorem OutQ.based {K:Kd}{G':Gm}{D:Ends}{o:Out}(s:Same G.H0 G'.H0)(e:G'.S0=G.S0)(e':G'.lk=G.lk)(q:OutQ K G M' Mb L fr D o):OutQ K G' M' Mb L fr D o:=by
 cases o with
 | nx ρ=>exact fun σ' H' S' hs=>q σ' H' S' (hs.unbase s e e')
 | rt d =>
  cases fr with
  | nw=>exact fun p H' h0 n n' o=>q p H' (s.trans h0) (s.free n) (by rw [← e];exact n') (by rw [← e];exact o)
  | dp=>exact fun p fp H' h0 n o=>q p fp H' (s.trans h0) (fun r hr=>⟨s.free (n r hr).1,by rw [← e];exact (n r hr).2⟩) (by rw [← e];exact o)
  | pl=>exact fun v H' h0 d=>q v H' (s.trans h0) (by rw [← e];exact d)
 | bk ρ=>exact fun σ' H' S' hs=>q σ' H' S' (hs.unbase s e e')
 | ct ρ=>exact fun σ' H' S' hs=>q σ' H' S' (hs.unbase s e e')
theorem Qf {tg iter:Kw}{body:List KY}{fi:Rho->Option (List Ka)}{g:Ka->Rho->Option Rho}(hp:PassesOwn (model X.prog X.w) X.A X.env X.xe)(hc:X.calm=true)(hi:PDI X M tg iter fi)(hg:∀ G,PDG X G M L tg g)(hb:∀ G,PDSs X G M L M M fr body u)
  (hs:∀ x,foldedSetIterable iter X.env x=pure x:=by intro _;rfl):PDS X G M L M Mb fr (.For tg iter body [] pos) (sFor fi g u):=by
 have hg':PG X tg (fun v σ H Q=>∃ G,tDG X.K G M L g v σ H Q):=fun pins s σ H v u Q I r ⟨G,q⟩=>hg G pins s σ H v u Q I r q
 have hb':PSs X body (fun D σ H=>∃ G,tDS X.K G M L M M fr u D σ H):=fun pins s σ H D I ⟨G,q⟩=>hb G pins s σ H D I q
 refine (qgV hp hc hi hg' hb' hs).weak fun D σ H ⟨S,ρ,o,os,e,q⟩=>?_
 obtain ⟨ds,e1,e⟩:=qe e
 refine ⟨S,ρ,ds,os.ds,e1,fun J H1 g1 hJ0=>?_⟩
 have os1:=os.same g1
 have hJ:IsIt X.K S J ((G.base S H1).H0) ds:=hJ0 _ qfx
 have bs:Same G.H0 (G.base S H1).H0:=qeo os1.h0
 have bo:=os1.base
 have sl:=os1.lks
 generalize hG:G.base S H1=G1 at hJ bs bo
 have eS:G1.S0=G.S0:=by rw [← hG];rfl
 have eL:G1.lk=G.lk:=by rw [← hG];rfl
 have sl1:∀ i∈L,S (G1.lk i).1:=by rw [eL];exact sl
 have s01:∀ a,G1.S0 a->S a:=by rw [eS];exact os.s0
 refine ⟨fun i m σ' H'=>m=ds.length-i/\i<=ds.length/\∃ S' ρ o,OwnS X.K G1 M L H' S' σ' ρ/\forD g u (ds.drop i) ρ=some o/\OutQ X.K G M Mb L fr D o,⟨ds.length,by simp,Vc _,S,ρ,o,bo,e,q⟩,?_⟩
 rintro i m σ' H' ⟨rfl,hi,S',ρ',o',hs',e',q'⟩
 by_cases hlt:i<ds.length
 ·rw [VV hlt] at e'
  obtain ⟨ρ1,e2,e'⟩:=qe e'
  obtain ⟨o1,e3,e'⟩:=qe e'
  have key:∀ N:St->Hp->Prop,OutQ X.K G1 M M L fr { D with nx:=N,ct:=N,bk:=D.nx } o1->∀ x H2,J.yld i H' x H2->∃ G,tDG X.K G M L g x σ' H2 fun σ2 H2=>∃ G,tDS X.K G M L M M fr u { D with nx:=N,ct:=N,bk:=D.nx } σ2 H2:=fun N hN x H2 y=>by
   obtain ⟨e4,yd⟩:=hJ.yld i H' x H2 hs'.h0 y
   exact ⟨G1,S',ρ',_,ρ1,hs'.same e4,yd _ (Kq hlt) S' fun y e q=>(hs'.turn s01 sl1 q).same e4,e2,fun σ2 H3 g3 hs3=>⟨G1,S',ρ1,o1,hs3,e3,hN⟩⟩
  refine .inr ⟨hJ.go i H' hs'.h0 hlt,?_⟩
  have next:∀ ρ2,forD g u (ds.drop (i+1)) ρ2=some o'->∃ N:St->Hp->Prop,(∀ σ' H'',N σ' H''->∃ m',m'<ds.length-i/\(m'=ds.length-(i+1)/\i+1<=ds.length/\∃ S' ρ o,OwnS X.K G1 M L H'' S' σ' ρ/\forD g u (ds.drop (i+1)) ρ=some o/\OutQ X.K G M Mb L fr D o))/\∀ σ2 H2 S2,OwnS X.K G1 M L H2 S2 σ2 ρ2->N σ2 H2:=fun ρ2 e4 =>
   ⟨fun σ2 H2=>∃ S2,OwnS X.K G1 M L H2 S2 σ2 ρ2,fun σ2 H2 ⟨S2,hs3⟩=>⟨ds.length-(i+1),by omega,rfl,hlt,S2,ρ2,o',hs3,e4,q'⟩,fun σ2 H2 S2 hs3=>⟨S2,hs3⟩⟩
  cases o1 with
  | nx ρ2 =>
   obtain ⟨N,n1,n2⟩:=next ρ2 e'
   exact ⟨N,n1,key N fun σ3 H3 S3 hs3=>n2 σ3 H3 S3 hs3⟩
  | ct ρ2 =>
   obtain ⟨N,n1,n2⟩:=next ρ2 e'
   exact ⟨N,n1,key N fun σ3 H3 S3 hs3=>n2 σ3 H3 S3 hs3⟩
  | bk ρ2 =>
   cases e'
   exact ⟨fun _ _=>False,fun _ _ z=>z.elim,key _ fun σ3 H3 S3 hs3=>q' σ3 H3 S3 (hs3.unbase bs eS eL)⟩
  | rt r =>
   cases e'
   refine ⟨fun _ _=>False,fun _ _ z=>z.elim,key _ ?_⟩
   have q2:OutQ X.K G1 M Mb L fr D (.rt r):=q'.based bs eS eL
   exact q2
 ·have hi':i=ds.length:=by omega
  subst hi'
  rw [Np] at e'
  cases e'
  exact .inl ⟨hJ.stop H' hs'.h0,q' σ' H' S' (hs'.unbase bs eS eL)⟩
end
def outD:Out->Option Ka
 | .rt d=>some d
 | .nx _=>some .none
 | _=>none
def rho0 (n:Nat)(ds:List Ka):Rho:=ds.map some++Vn (n-ds.length) none
def G0 (H:Hp)(S:Av):Gm:=⟨H,S,fun _=>(0,.none)⟩
theorem OwnS.start {K:Kd}{H:Hp}{S:Av}{vs:List V}{ds:List Ka}(m:Dm S H)(h:DenL K H S vs ds)(N:List Str):OwnS K (G0 H S) [] [] H S (start N vs) (rho0 N.length ds) :=
 ⟨DenS.start m h N,fun _ z=>z,Same.refl _,(fun _ h=>nomatch h.1),(fun _ h=>nomatch h.1),fun _ z=>.inl z,(fun _ h=>nomatch h),fun _=>[],(fun _ h=>nomatch h.1),(fun _ h=>nomatch h.1),(fun _ h=>nomatch h.1)⟩
structure FunG (K:Kd)(x qual:Str)(st:KY)(f:Ke)(fd:Vo):Prop where
 ex:∃ (oc dV:Kb) (od:Option Ke) (kV doc pm:Kb) (an:Option Ke) (cdv ct:Kb) (osl:Array (Option Kb)),
  fd=Us x qual (Zq st) (zK st) (qj st) dV kV doc pm an cdv ct/\K.lookup f=some ⟨oc,od,.func fd,osl⟩/\U7 K cdv qual=true
 kp:VQ K (.ref f)=true
theorem Fun.g {K:Kd}{x qual:Str}{st:KY}{f:Ke}{fd:Vo}(F:Fun K x qual st f fd):FunG K x qual st f fd:=by
 obtain ⟨oc,od,kV,doc,pm,an,cdv,ct,osl,e,lk,hcd⟩:=F.ex
 exact ⟨⟨oc,_,od,kV,doc,pm,an,cdv,ct,osl,e,lk,hcd⟩,F.kp⟩
section
variable {P:Kt}{w:KF}{K:Kd}{mg:Str->Option Kb}{base:Kx}
theorem FunG.ok {x qual:Str}{st:KY}{f:Ke}{fd:Vo}{N ps:List Str}{k:Nat}{sp:Sp}(F:FunG K x qual st f fd)(S:FnScope N ps (qj st))(len:∀ vs H Q E,sp vs H Q E->vs.length=ps.length)
  (hbody:∀ (cdv:Kb) (A:KG) (outer:List Env) (s:Kf) (H:Hp) (vs:List V) (Q:VK) (E:XK),Room k (A.deeper (envOfC qual (qj st) s.heap.objs.size f cdv))->sp vs H Q E->
   ∃ t,PSs (cxOf CX0 P w K mg base N qual (qj st) f cdv A outer s H E).nox (zK st) t/\t { nx:=fun _ H'=>Q .non H',rt:=Q } (start N vs) H):FnOk P w K mg base CX0 (k+1) f fd ps sp:=by
 obtain ⟨oc,dV,od,kV,doc,pm,an,cdv,ct,osl,rfl,lk,hcd⟩:=F.ex
 refine qf0 lk hcd S len fun A outer s H vs Q E hr hsp=>?_
 obtain ⟨t,h,q⟩:=hbody cdv A outer s H vs Q E hr hsp
 exact ⟨t,h.nox,q⟩
theorem FunG.pure {x qual:Str}{st:KY}{f:Ke}{fd:Vo}{N ps:List Str}{k n:Nat}{u:Rho->Option Out}{M':List Nat}(F:FunG K x qual st f fd)(S:FnScope N ps (qj st))(hn:ps.length=n)
  (hbody:∀ (cdv:Kb) (A:KG) (outer:List Env) (s:Kf) (H:Hp) (E:XK),Room k (A.deeper (envOfC qual (qj st) s.heap.objs.size f cdv))->∀ G:Gm,
   PDSs (cxOf CX0 P w K mg base N qual (qj st) f cdv A outer s H E).nox G [] [] M' [] .pl (zK st) u) :
  FnOk P w K mg base CX0 (k+1) f fd ps (spF K n fun ds=>ob (u (rho0 N.length ds)) outD):=by
 refine F.ok S (fun vs H Q E h=>?_) (fun cdv A outer s H vs Q E hr h=>?_)
 ·obtain ⟨_,ds,d,_,h1,h2,_⟩:=h
  rw [h1.length,h2,hn]
 ·obtain ⟨Sv,ds,d,m,h1,h2,e,q⟩:=h
  obtain ⟨o,e1,e⟩:=qe e
  refine ⟨_,hbody cdv A outer s H E hr (G0 H Sv),Sv,rho0 N.length ds,o,OwnS.start m h1 N,e1,?_⟩
  cases o with
  | rt r=>cases e;exact q
  | nx ρ=>cases e;exact fun σ' H' S' hs=>q _ H' hs.h0 .none
  | bk ρ=>cases e
  | ct ρ=>cases e
theorem Fun.pure {x qual:Str}{st:KY}{f:Ke}{fd:Vo}{N ps:List Str}{k n:Nat}{u:Rho->Option Out}{M':List Nat}(F:Fun K x qual st f fd)(S:FnScope N ps (qj st))(hn:ps.length=n)
  (hbody:∀ (cdv:Kb) (A:KG) (outer:List Env) (s:Kf) (H:Hp) (E:XK),Room k (A.deeper (envOfC qual (qj st) s.heap.objs.size f cdv))->∀ G:Gm,
   PDSs (cxOf CX0 P w K mg base N qual (qj st) f cdv A outer s H E).nox G [] [] M' [] .pl (zK st) u) :
  FnOk P w K mg base CX0 (k+1) f fd ps (spF K n fun ds=>ob (u (rho0 N.length ds)) outD) :=
 F.g.pure S hn hbody
structure Known (P:Kt)(w:KF)(K:Kd)(mg:Str->Option Kb)(base:Kx)(x:Str)(n k:Nat)(h:List Ka->Option Ka):Prop where
 ex:∃ (f:Ke) (fd:Vo) (ps:List Str),FnOk P w K mg base CX0 k f fd ps (spF K n h)/\mg x=some (.ref f)/\VQ K (.ref f)=true/\Binds K fd ps []
end
section
variable {X:Cx}{G:Gm}{M M' Mb L:List Nat}{fr:Fr}{a b c:Kw}{es:List Kw}{f g:Rho->Option Ka}{p:Rho->Option Bool}{pos:Pos}{u:Rho->Option Out}
theorem qC {x:Str}{p:Pos}{n k k':Nat}{h:List Ka->Option Ka}{fs:Rho->Option (List Ka)}(F:Known X.prog X.w X.K X.mg X.base x n k h)(hr:Room k' X.A)(hk:k<=k')(hg:Gl X x)(ha:PDA X M (a::es) fs)(hl:(a::es).length=n)
  (hdb:(x==("__debug__" : Str))=false:=by decide +kernel) (he:starEach (a::es) X.env=(false,eval a X.env)::starEach es X.env:=by rfl) (hpl:(backTo pos (starEach es X.env)).any (·.1)=false:=by rfl) :
  PD X M (.Call (.Name x p) (a::es) [] pos) (evC n fs h):=by
 obtain ⟨f,fd,ps,F,m,kp,b⟩:=F.ex
 exact qiB F (hr.mono hk) hg m kp b pass0 ha hl hdb he hpl
theorem OwnO.laid {K:Kd}{H:Hp}{S:Av}{p:Ke}{vs:List V}{ds:List Ka}(n:H p=none)(t:DenL K H S vs ds):OwnO K (L2.upd H p (.lst vs)) (insA S p) p (.list ds) :=
 .lst qF ((t.sub fun a ha z=>z.elim id fun y=>absurd (by rw [y];exact n) ha).same (Same.lay n))
theorem j8 {fs:Rho->Option (List Ka)}(h:PDA X M es fs):PF X M (.List es pos) (evA fs lstD) :=
 (qgO h).weak fun σ H Q ⟨S,ρ,d,hs,e,q⟩=>by
  obtain ⟨xs,e1,e⟩:=qe e
  obtain ⟨hz,rfl⟩:=qaa e
  exact ⟨S,ρ,xs,hs,e1,fun vs H1 g1 d1=>⟨VM (zA (by rw [d1.length];exact hz)),fun p hp=>q _ _ (g1.lay' hp) (g1.free hp) (OwnO.laid hp d1)⟩⟩
def qbe (X:Cx)(f:Kb)(g:List Ka->Option Ka):Prop:=Zz X f (fun vs H Q=>∃ S ds d,Dm S H/\DenL X.K H S vs ds/\g ds=some d/\∀ p H',Same H H'->H p=none->OwnO X.K H' (insA S p) p d->Q (.ref p) H')
theorem ZM {id:String}{x:Str}{p:Pos}{h:List Ka->Option Ka}{fs:Rho->Option (List Ka)}(hc:qbe X (.builtin id) h)(hg:Gl X x)(hm:X.mg x=none)(hv:bootBuiltins x=some (.builtin id))(ha:PDA X M (a::es) fs)(hn:x ≠ "__name__" := by decide +kernel)(hdb:(x==("__debug__" : Str))=false:=by decide +kernel)
  (he:starEach (a::es) X.env=(false,eval a X.env)::starEach es X.env:=by rfl) (hpl:(backTo pos (starEach es X.env)).any (·.1)=false:=by rfl):PF X M (.Call (.Name x p) (a::es) [] pos) (evA fs h) :=
 (yt hc hg hm hv ha hn hdb he hpl).weak fun σ H Q ⟨S,ρ,d,hs,e,q⟩=>by
  obtain ⟨ds,e1,e⟩:=qe e
  exact ⟨S,ρ,ds,hs,e1,fun vs H1 g1 d1=>⟨S,ds,d,hs.1.same g1,d1,e,fun p H' g2 n o=>q p H' (g1.trans g2) (g1.free n) o⟩⟩
theorem Js {T:String}{x:Str}{p:Pos}{h:List Ka->Option Ka}{fs:Rho->Option (List Ka)}(hc:qbe X (.type T) h)(hg:Gl X x)(hm:X.mg x=none)(hv:bootBuiltins x=some (.type T))(ha:PDA X M (a::es) fs)(hn:x ≠ "__name__" := by decide +kernel)(hdb:(x==("__debug__" : Str))=false:=by decide +kernel)
  (he:starEach (a::es) X.env=(false,eval a X.env)::starEach es X.env:=by rfl) (hpl:(backTo pos (starEach es X.env)).any (·.1)=false:=by rfl):PF X M (.Call (.Name x p) (a::es) [] pos) (evA fs h) :=
 (qap hc hg hm hv ha hn hdb he hpl).weak fun σ H Q ⟨S,ρ,d,hs,e,q⟩=>by
  obtain ⟨ds,e1,e⟩:=qe e
  exact ⟨S,ρ,ds,hs,e1,fun vs H1 g1 d1=>⟨S,ds,d,hs.1.same g1,d1,e,fun p H' g2 n o=>q p H' (g1.trans g2) (g1.free n) o⟩⟩
theorem qcR:qbe X (.type "list") QM:=fun pins s σ H xs us Q I r ⟨S,ds,d,m,h1,e,q⟩=>J2 pins s σ H xs us Q I r (by
 cases h1 with
 | nil=>cases e
 | cons a t =>
  cases t with
  | cons a' t'=>cases a<;>cases e
  | nil =>
   cases a with
   | list h t=>cases e;exact ⟨_,_,rfl,.inl h.sq,fun l hl=>q _ _ (Same.lay hl) hl (OwnO.laid hl t)⟩
   | tuple h t=>cases e;exact ⟨_,_,rfl,.inr h,fun l hl=>q _ _ (Same.lay hl) hl (OwnO.laid hl t)⟩
   | _=>cases e)
def appD:Ka->Ka->Option Ka
 | .list ds,d=>if ds.length<1000 then some (.list (ds++[d])) else none
 | _,_=>none
def sApp (i:Nat)(f:Rho->Option Ka):Rho->Option Out:=fun ρ=>ob (vr i ρ) fun l=>ob (f ρ) fun d=>ob (appD l d) fun l'=>some (.nx (ρ.set i (some l')))
theorem yN {l d l':Ka}(e:appD l d=some l'):∃ ds,l=.list ds/\ds.length<1000/\l'=.list (ds++[d]):=by
 unfold appD at e
 split at e
 ·split at e
  ·rename_i hz;cases e;exact ⟨_,rfl,hz,rfl⟩
  ·cases e
 ·cases e
theorem Off.upd {S:Av}{H:Hp}{p:Ke}{o:HO}(c:S p):Off S H (L2.upd H p o):=fun b u z e=>by
 rw [qD (fun y=>z (by rw [y];exact c))];exact e
theorem qd3 (i:Nat){x:Str}{px apos cpos:Pos}(hv:Vis X.env.scope x)(hM:Flt M i)(hL:i∉L)(he:PD X M a f)(hN:X.N[i]?=some x:=by rfl)(hd:(x==("__debug__" : Str))=false:=by decide +kernel)(hcd:(x==("__classdict__" : Str))=false:=by decide +kernel)
  (hbase:attributeBase (.Name x px) "append" X.env (eval (.Name x px) X.env)=eval (.Name x px) X.env:=by rfl)
  (hfew:((backTo cpos (starEach [a] X.env)).all (fun x=>!x.1)&&(backToKw cpos (keywordEach [] X.env)).all (fun x=>x.1.isSome)
   && decide ([a].length+([]:List U6).length+(if ([]:List U6).isEmpty then 0 else 1)<30))=true:=by rfl)
  (hline:(apos.endLine==cpos.line)=true:=by rfl) (hs:starEach [a] X.env=(false,eval a X.env)::starEach [] X.env:=by rfl) (hplain:(backTo cpos (starEach [] X.env)).any (·.1)=false:=by rfl)
  (hsw:swapsWith (.Call (.Attribute (.Name x px) "append" apos) [a] [] cpos) none pos.line X.env=pure false:=by rfl) :
  PDS X G M L M Mb fr (.Expr (.Call (.Attribute (.Name x px) "append" apos) [a] [] cpos) pos) (sApp i f) :=
 (YZ (qd8 Xl Xp X2 yU (yZ i hv hN hd hcd) (qb he qi hs) hbase hfew hline hs hplain) hsw).weak fun D σ H ⟨S,ρ,o,os,e,q⟩=>by
  obtain ⟨l,e1,e⟩:=qe e
  obtain ⟨d,e2,e⟩:=qe e
  obtain ⟨l',e3,e⟩:=qe e
  cases e
  obtain ⟨ds,rfl,hz,rfl⟩:=yN e3
  obtain ⟨pp,a1,b1,c1,n1,w1,_⟩:=os.own i hM _ (QC e1)
  cases b1 with
  | @lst xs _ h t =>
   refine ⟨_,a1,.inl ⟨rfl,_,SqL.of h⟩,S,ρ,[d],os.ds,by show ob (f ρ) _=_;rw [e2];rfl,fun vs H2 g2 dl=>?_⟩
   obtain ⟨v,rfl,dv⟩:=dl.inv1
   have os2:=os.same g2
   refine ⟨pp,xs,v,rfl,rfl,g2 _ _ h,KB (by rw [t.length];exact hz) (VM (zA (Ko _))),?_⟩
   exact q _ _ _ (os2.write hM hL (QC e1) a1 rfl (.lst qF (((t.same g2).snoc dv).off os2.ds.1 (Off.upd c1))))
def isNone:Ka->Bool
 | .none=>true
 | _=>false
def isD:Ka->Ka->Option Ka
 | x,.none=>some (.bool (isNone x))
 | .bool b,.bool c=>some (.bool (b==c))
 | _,_=>none
def isnD:Ka->Ka->Option Ka
 | x,.none=>some (.bool (!isNone x))
 | .bool b,.bool c=>some (.bool (!(b==c)))
 | _,_=>none
theorem wO {K:Kd}{H:Hp}{S:Av}{v:V}{d:Ka}(h:Den K H S v d):decide (v=.non)=isNone d:=by cases h<;>rfl
theorem d_is:OpD X (compareOp .Is) isD:=by
 intro pins s σ H x y v u Q I rx ry ⟨S,dx,dy,d,m,h1,h2,e,q⟩
 unfold isD at e
 split at e
 ·cases e;cases h2
  exact qkj pins s σ H x _ v u Q I rx ry ⟨rfl,by rw [wO h1];exact q _ H (Same.refl H) (.bool _)⟩
 ·cases e;cases h1;cases h2
  cases (show v=K1 _ from rx);cases (show u=K1 _ from ry)
  exact is_bool (Zh I (q _ H (Same.refl H) (.bool _)) rfl)
 ·cases e
theorem qfQ:OpD X (compareOp .IsNot) isnD:=by
 intro pins s σ H x y v u Q I rx ry ⟨S,dx,dy,d,m,h1,h2,e,q⟩
 unfold isnD at e
 split at e
 ·cases e;cases h2
  exact qiy pins s σ H x _ v u Q I rx ry ⟨rfl,by rw [wO h1];exact q _ H (Same.refl H) (.bool _)⟩
 ·cases e;cases h1;cases h2
  cases (show v=K1 _ from rx);cases (show u=K1 _ from ry)
  exact isnot_bool (Zh I (q _ H (Same.refl H) (.bool _)) rfl)
 ·cases e
end
section
variable {X:Cx}{G:Gm}{M M' Mb L:List Nat}{fr:Fr}{a b c:Kw}{es:List Kw}{f g:Rho->Option Ka}{p:Rho->Option Bool}{pos:Pos}{u:Rho->Option Out}
def intD:Ka->Option Int
 | .int i=>some i
 | _=>none
def PDO (X:Cx)(M:List Nat)(e:Option Kw)(f:Rho->Option (Option Int)):Prop:=PO X e (fun σ H Q=>∃ S ρ i,DenS X.K H S M σ ρ/\f ρ=some i/\∀ H',Same H H'->Q i H')
def oN:Rho->Option (Option Int):=fun _=>some none
def oS (f:Rho->Option Ka):Rho->Option (Option Int):=fun ρ=>ob (f ρ) fun d=>ob (intD d) fun i=>some (some i)
theorem qeL {d:Ka}{i:Int}(h:intD d=some i):d=.int i:=by cases d<;>first|(cases h;rfl)|cases h
theorem yr (h:PD X M a f):PDO X M (some a) (oS f):=fun pins s σ H Q I ⟨S,ρ,i,hs,e,q⟩=>by
 obtain ⟨d,e1,e⟩:=qe e
 obtain ⟨j,e2,e⟩:=qe e
 cases e
 cases qeL e2
 exact qiO h pins s σ H Q I ⟨S,ρ,_,hs,e1,fun v H' g d=>⟨j,d.int_inv,q H' g⟩⟩
def cutD (ds:List Ka)(lo hi:Option Int):List Ka:=(ds.drop (HT.sIx ds.length 0 lo)).take (HT.sIx ds.length ds.length hi-HT.sIx ds.length 0 lo)
def sliD (x:Ka)(lo hi:Option Int):Option Ka:=match x with
 | .list ds=>some (.list (cutD ds lo hi))
 | .tuple ds=>if HT.sIx ds.length 0 lo=0/\HT.sIx ds.length ds.length hi=ds.length then none else some (.tuple (cutD ds lo hi))
 | _=>none
def evS (fa:Rho->Option Ka)(fl fh:Rho->Option (Option Int)):Rho->Option Ka:=fun ρ=>ob (fa ρ) fun x=>ob (fl ρ) fun l=>ob (fh ρ) fun h=>sliD x l h
theorem qbl {K:Kd}{H:Hp}{S:Av}{vs:List V}{ds:List Ka}(t:DenL K H S vs ds)(lo hi:Option Int):DenL K H S (cutV vs lo hi) (cutD ds lo hi):=by
 unfold cutV cutD
 rw [t.length]
 exact (t.drop _).take _
theorem qb3 {lo hi:Option Kw}{fl fh:Rho->Option (Option Int)}{p2:Pos}(ha:PD X M a f)(hl:PDO X M lo fl)(hh:PDO X M hi fh):PD X M (.Subscript a (.Slice lo hi none p2) pos) (evS f fl fh) :=
 (qgP (r:=fun x lo hi H Q=>rSlL X.K x lo hi H Q\/rSlT X.K x lo hi H Q) (qi3.or qkX) ha hl hh).weak fun σ H Q ⟨S,ρ,d,hs,e,q⟩=>by
  obtain ⟨x,e1,e⟩:=qe e
  obtain ⟨l,e2,e⟩:=qe e
  obtain ⟨h,e3,e⟩:=qe e
  refine ⟨S,ρ,x,hs,e1,fun v H1 g1 d1=>⟨S,ρ,l,hs.same g1,e2,fun H2 g2=>⟨S,ρ,h,hs.same (g1.trans g2),e3,fun H3 g3=>?_⟩⟩⟩
  have g13:=g1.trans (g2.trans g3)
  have d3:=d1.same (g2.trans g3)
  cases d3 with
  | list hq t =>
   cases e
   exact .inl ⟨_,_,rfl,hq.sq,fun p hp=>q _ _ (g13.lay' hp) (.list (SqLS.new qF ((hs.1.same g13).free hp)) ((qbl t l h).same (Same.lay hp)))⟩
  | @tuple a' xs ds hq t =>
   have e:(if HT.sIx ds.length 0 l=0/\HT.sIx ds.length ds.length h=ds.length then none else some (VN (cutD ds l h)))=some d:=e
   split at e
   ·cases e
   ·rename_i hc
    cases e
    refine .inr ⟨_,_,rfl,hq,by rw [t.length];exact hc,fun p hp=>q _ _ (g13.lay' hp) (.tuple (SqT.of qF) ((qbl t l h).same (Same.lay hp)))⟩
  | _=>cases e
def qda (x y:Ka):Option Ka:=match x,y with
 | .int i,.int j=>some (.int (i+j))
 | .tuple ds,.tuple es=>if ds.length+es.length<=1000 then some (.tuple (ds++es)) else none
 | _,_=>none
theorem qfJ {prog:Kt}{w:KF}{A:KG}{E:Kb->Kf->Prop}{s:Kf}{t b:Ke}{vs ws:List Kb}{Q:Kb->Kf->Prop}(ht:IsTup s.heap t vs.toArray)(hb:IsTup s.heap b ws.toArray)(hv:vs=[])(h:Q (.ref b) s) :
  wpAny (model prog w) A (binaryOp .Add (.ref t) (.ref b)) Q E s:=by
 obtain ⟨⟨cls,dd,data,sl⟩,ho,hc,n,hd⟩:=id ht
 obtain ⟨⟨cls2,dd2,data2,sl2⟩,ho2,hc2,n2,hd2⟩:=id hb
 simp only at hc hd hc2 hd2
 subst hc hd hc2 hd2
 exact Es ⟨_,ho,rfl⟩ ⟨_,ho2,rfl⟩ Et seq_tuple_add Nd X8 (XZ _ _) (tuple_addW0 t b vs.toArray ws.toArray n n2 dd dd2 sl sl2 (by simp [hv])) ⟨ho,ho2,h⟩
theorem qit:OpR X (binaryOp .Add) (fun x y H Q=>∃ a b ys,x=.ref a/\y=.ref b/\SqT X.K H a []/\SqT X.K H b ys/\Q (.ref b) H):=by
 intro pins s σ H x y v u Q I rx ry h
 obtain ⟨a,b,ys,rfl,rfl,ha,hb,q⟩:=h
 cases rx
 cases ry
 obtain ⟨its,r1,p1,_⟩:=I.tuple ha
 obtain ⟨its2,r2,p2,_⟩:=I.tuple hb
 exact qfJ p1 p2 (r1.nil_iff.mpr rfl) ⟨.ref b,H,I,rfl,q⟩
theorem qfP:OpD X (binaryOp .Add) qda:=by
 refine JG (r:=fun x y H Q=>rI0 (fun i j=>.int (i+j)) x y H Q\/(qjo X.K x y H Q\/(∃ a b ys,x=.ref a/\y=.ref b/\SqT X.K H a []/\SqT X.K H b ys/\Q (.ref b) H))) (qkh.or (qiv.or qit)) fun x y dx dy d H S Q m h1 h2 e q=>?_
 unfold qda at e
 split at e
 ·cases e;cases h1;cases h2
  exact .inl ⟨_,_,rfl,rfl,q _ H (Same.refl H) (.int _)⟩
 ·split at e
  ·rename_i ds es hc
   cases e
   cases h1 with
   | tuple a1 t1 =>
    cases h2 with
    | tuple a2 t2 =>
     cases ds with
     | nil =>
      cases t1
      exact .inr (.inr ⟨_,_,_,rfl,rfl,a1,a2,q _ H (Same.refl H) (.tuple a2 t2)⟩)
     | cons d0 ds =>
      refine .inr (.inl ⟨_,_,_,_,rfl,rfl,a1,a2,fun z=>?_,?_,fun z=>?_,fun z p hp=>q _ _ (Same.lay hp) (.tuple (SqT.of qF) ((t1.append t2).same (Same.lay hp)))⟩)
      ·subst z;cases t1
      ·rw [t1.length,t2.length]
       exact VM (zA hc)
      ·subst z;cases t2
       rw [Vl] at q
       exact q _ H (Same.refl H) (.tuple a1 t1)
  ·cases e
 ·cases e
end
section
variable {X:Cx}{G:Gm}{M M1 M' Mb L:List Nat}{fr:Fr}{a b c:Kw}{es:List Kw}{f g:Rho->Option Ka}{p:Rho->Option Bool}{pos:Pos}{u:Rho->Option Out}{ss:List KY}{s1:KY}
def PDR (X:Cx)(tg iter:Kw)(f:Rho->Option (List Ka)):Prop:=PI X tg iter (fun σ H R=>∃ S ρ ds,DenS X.K H S [] σ ρ/\f ρ=some ds/\∀ J H',Same H H'->(∀ H2 S2,IsIt X.K S2 J H2 ds)->R J H')
theorem JK {tg:Kw}{fs:Rho->Option (List Ka)}{p:Pos}(hg:Gl X "range")(hm:X.mg "range" = none)(ha:PDA X [] [a] fs)(hs:starEach [a] X.env=[(false,eval a X.env)]:=by rfl):PDR X tg (.Call (.Name "range" p) [a] [] pos) (evR fs ZZ) :=
 (qaq hg hm ha hs).weak fun σ H R ⟨S,ρ,ds,hs,e,w⟩=>by
  obtain ⟨xs,e1,e⟩:=qe e
  refine ⟨S,ρ,xs,hs,e1,fun vs H1 g1 d1=>?_⟩
  unfold ZZ at e
  split at e
  ·rename_i j
   split at e
   ·rename_i hj
    cases e
    obtain ⟨v,rfl,q⟩:=d1.inv1
    cases q
    exact ⟨j,rfl,by omega,by omega,w _ _ g1 fun _ _=>IsIt.rng 0 _⟩
   ·cases e
  ·cases e
theorem We {tg iter:Kw}{body:List KY}{fi:Rho->Option (List Ka)}{g:Ka->Rho->Option Rho}(hp:PassesOwn (model X.prog X.w) X.A X.env X.xe)(hc:X.calm=true)(hi:PDR X tg iter fi)(hg:PDG X G M L tg g)(hb:PDSs X G M L M M fr body u)
  (hs:∀ x,foldedSetIterable iter X.env x=pure x:=by intro _;rfl):PDS X G M L M Mb fr (.For tg iter body [] pos) (sFor fi g u):=by
 refine (qgV hp hc hi hg hb hs).weak fun D σ H ⟨S,ρ,o,os,e,q⟩=>?_
 obtain ⟨ds,e1,e⟩:=qe e
 refine ⟨G.S0,ρ,ds,os.den,e1,fun J H1 g1 hJ=>?_⟩
 refine ⟨fun i m σ' H'=>m=ds.length-i/\i<=ds.length/\∃ S' ρ o,OwnS X.K G M L H' S' σ' ρ/\forD g u (ds.drop i) ρ=some o/\OutQ X.K G M Mb L fr D o,⟨ds.length,by simp,Vc _,S,ρ,o,os.same g1,e,q⟩,?_⟩
 rintro i m σ' H' ⟨rfl,hi,S',ρ',o',hs',e',q'⟩
 by_cases hlt:i<ds.length
 ·rw [VV hlt] at e'
  obtain ⟨ρ1,e2,e'⟩:=qe e'
  obtain ⟨o1,e3,e'⟩:=qe e'
  have key:∀ N:St->Hp->Prop,OutQ X.K G M M L fr { D with nx:=N,ct:=N,bk:=D.nx } o1->∀ x H2,J.yld i H' x H2->tDG X.K G M L g x σ' H2 fun σ2 H2=>tDS X.K G M L M M fr u { D with nx:=N,ct:=N,bk:=D.nx } σ2 H2:=fun N hN x H2 y=>by
   obtain ⟨e4,yd⟩:=(hJ H' S').yld i H' x H2 (Same.refl _) y
   exact ⟨S',ρ',_,ρ1,hs'.same e4,yd _ (Kq hlt) S' fun y e q=>q.same e4,e2,fun σ2 H3 g3 hs3=>⟨S',ρ1,o1,hs3,e3,hN⟩⟩
  refine .inr ⟨(hJ H' S').go i H' (Same.refl _) hlt,?_⟩
  have next:∀ ρ2,forD g u (ds.drop (i+1)) ρ2=some o'->∃ N:St->Hp->Prop,(∀ σ' H'',N σ' H''->∃ m',m'<ds.length-i/\(m'=ds.length-(i+1)/\i+1<=ds.length/\∃ S' ρ o,OwnS X.K G M L H'' S' σ' ρ/\forD g u (ds.drop (i+1)) ρ=some o/\OutQ X.K G M Mb L fr D o))/\∀ σ2 H2 S2,OwnS X.K G M L H2 S2 σ2 ρ2->N σ2 H2:=fun ρ2 e4 =>
   ⟨fun σ2 H2=>∃ S2,OwnS X.K G M L H2 S2 σ2 ρ2,fun σ2 H2 ⟨S2,hs3⟩=>⟨ds.length-(i+1),by omega,rfl,hlt,S2,ρ2,o',hs3,e4,q'⟩,fun σ2 H2 S2 hs3=>⟨S2,hs3⟩⟩
  cases o1 with
  | nx ρ2 =>
   obtain ⟨N,n1,n2⟩:=next ρ2 e'
   exact ⟨N,n1,key N fun σ3 H3 S3 hs3=>n2 σ3 H3 S3 hs3⟩
  | ct ρ2 =>
   obtain ⟨N,n1,n2⟩:=next ρ2 e'
   exact ⟨N,n1,key N fun σ3 H3 S3 hs3=>n2 σ3 H3 S3 hs3⟩
  | bk ρ2 =>
   cases e'
   exact ⟨fun _ _=>False,fun _ _ z=>z.elim,key _ fun σ3 H3 S3 hs3=>q' σ3 H3 S3 hs3⟩
  | rt r =>
   cases e'
   have q2:OutQ X.K G M Mb L fr D (.rt r):=q'
   exact ⟨fun _ _=>False,fun _ _ z=>z.elim,key _ q2⟩
 ·have hi':i=ds.length:=by omega
  subst hi'
  rw [Np] at e'
  cases e'
  exact .inl ⟨(hJ H' S').stop H' (Same.refl _),q' σ' H' S' hs'⟩
theorem jd (M1:List Nat)(h:PDSs X G M L M' Mb fr ss u)(h1:subB M1 M'=true)(h2:subB L M1=true):PDSs X G M L M1 Mb fr ss u:=qiE h h1 h2
theorem qe8 (M1:List Nat)(h1:subB M1 M=true)(h2:subB L M1=true)(h:PDS X G M1 L M' Mb fr s1 u):PDS X G M L M' Mb fr s1 u:=qe7 h h1 h2
theorem j6 (i:Nat){x:Str}{px apos cpos:Pos}(hv:Vis X.env.scope x)(hM:Flt M i)(hL:i∉L)(he:PD X [] a f)(hN:X.N[i]?=some x:=by rfl)(hd:(x==("__debug__" : Str))=false:=by decide +kernel)(hcd:(x==("__classdict__" : Str))=false:=by decide +kernel)
  (hbase:attributeBase (.Name x px) "append" X.env (eval (.Name x px) X.env)=eval (.Name x px) X.env:=by rfl)
  (hfew:((backTo cpos (starEach [a] X.env)).all (fun x=>!x.1)&&(backToKw cpos (keywordEach [] X.env)).all (fun x=>x.1.isSome)
   && decide ([a].length+([]:List U6).length+(if ([]:List U6).isEmpty then 0 else 1)<30))=true:=by rfl)
  (hline:(apos.endLine==cpos.line)=true:=by rfl) (hs:starEach [a] X.env=(false,eval a X.env)::starEach [] X.env:=by rfl) (hplain:(backTo cpos (starEach [] X.env)).any (·.1)=false:=by rfl)
  (hsw:swapsWith (.Call (.Attribute (.Name x px) "append" apos) [a] [] cpos) none pos.line X.env=pure false:=by rfl) :
  PDS X G M L M Mb fr (.Expr (.Call (.Attribute (.Name x px) "append" apos) [a] [] cpos) pos) (sApp i (qQ f)) :=
 (YZ (qd8 Xl Xp X2 yU (yZ i hv hN hd hcd) (qb he qi hs) hbase hfew hline hs hplain) hsw).weak fun D σ H ⟨S,ρ,o,os,e,q⟩=>by
  obtain ⟨l,e1,e⟩:=qe e
  obtain ⟨d,e2,e⟩:=qe e
  obtain ⟨l',e3,e⟩:=qe e
  cases e
  obtain ⟨d',e4,e5⟩:=qe e2
  split at e5
  ·rename_i hf
   cases e5
   obtain ⟨ds,rfl,hz,rfl⟩:=yN e3
   obtain ⟨pp,a1,b1,c1,n1,w1,_⟩:=os.own i hM _ (QC e1)
   cases b1 with
   | @lst xs _ h t =>
    refine ⟨_,a1,.inl ⟨rfl,_,SqL.of h⟩,G.S0,ρ,[d],os.den,by show ob (f ρ) _=_;rw [e4];rfl,fun vs H2 g2 dl=>?_⟩
    obtain ⟨v,rfl,dv⟩:=dl.inv1
    have os2:=os.same g2
    refine ⟨pp,xs,v,rfl,rfl,g2 _ _ h,KB (by rw [t.length];exact hz) (VM (zA (Ko _))),?_⟩
    exact q _ _ _ (os2.write hM hL (QC e1) a1 rfl (.lst qF (((t.same g2).snoc (dv.flat hf)).off os2.ds.1 (Off.upd c1))))
  ·cases e5
end
def intsOf:List Ka->Option (List Int)
 | []=>some []
 | .int i::r=>ob (intsOf r) fun ns=>some (i::ns)
 | _::_=>none
theorem Yt:∀ {ds:List Ka} {ns:List Int},intsOf ds=some ns->ds=ns.map .int
 | [],_,h=>by cases h;rfl
 | .int i::r,ns,h=>by
  obtain ⟨ms,e1,e2⟩:=qe h
  cases e2
  rw [Yt e1]
  rfl
 | .none::_,_,h=>by cases h
 | .bool _::_,_,h=>by cases h
 | .str _::_,_,h=>by cases h
 | .list _::_,_,h=>by cases h
 | .tuple _::_,_,h=>by cases h
 | .dict _::_,_,h=>by cases h
def inOk (ds:List Ka)(x:Ka):Bool:=Kr ds&&(x.canLay0&&decide (x.depth<=63))
def inL (ds:List Ka)(x:Ka):Bool:=ds.any fun y=>KP y x
def inD (x y:Ka):Option Ka:=match y with
 | .list ds=>if inOk ds x=true then some (.bool (inL ds x)) else none
 | .tuple ds=>if inOk ds x=true then some (.bool (inL ds x)) else none
 | _=>none
def ninD (x y:Ka):Option Ka:=match y with
 | .list ds=>if inOk ds x=true then some (.bool (!inL ds x)) else none
 | .tuple ds=>if inOk ds x=true then some (.bool (!inL ds x)) else none
 | _=>none
section
variable {X:Cx}
theorem ZG {ds:List Ka}{x:Ka}(h:inOk ds x=true):Kr ds=true/\x.canLay0=true/\x.depth<=63:=by
 unfold inOk at h
 rw [Ks,Ks] at h
 exact ⟨h.1,h.2.1,of_decide_eq_true h.2.2⟩
theorem yh {A:KG}{ds:List Ka}{x:Ka}(hd:x.depth<=63)(hu:A.units+64<cLine):A.units+1+min (KI ds) x.depth<cLine:=by
 have:=Nat.min_le_right (KI ds) x.depth
 omega
theorem d_in {k:Nat}(hr:Room k X.A):OpD X (compareOp .In) inD:=by
 intro pins s σ H x y v u Q I rx ry h
 obtain ⟨S,dx,dy,d,m,h1,h2,e,q⟩:=h
 unfold inD at e
 split at e
 ·split at e
  ·rename_i hc
   obtain ⟨c1,c2,c3⟩:=ZG hc
   cases e
   obtain ⟨as,q1⟩:=h1.reads I c2 rx
   obtain ⟨bs,q2⟩:=h2.reads I (by rw [KQ];exact c1) ry
   exact SeqAt.in_list_reads q2 q1 c1 c2 (yh c3 hr.units) (Zh I (q _ H (Same.refl H) (.bool _)) rfl)
  ·cases e
 ·split at e
  ·rename_i hc
   obtain ⟨c1,c2,c3⟩:=ZG hc
   cases e
   obtain ⟨as,q1⟩:=h1.reads I c2 rx
   obtain ⟨bs,q2⟩:=h2.reads I (by rw [KQ];exact c1) ry
   exact SeqAt.in_tuple_reads q2 q1 c1 c2 (yh c3 hr.units) (Zh I (q _ H (Same.refl H) (.bool _)) rfl)
  ·cases e
 ·cases e
theorem YM {k:Nat}(hr:Room k X.A):OpD X (compareOp .NotIn) ninD:=by
 intro pins s σ H x y v u Q I rx ry h
 obtain ⟨S,dx,dy,d,m,h1,h2,e,q⟩:=h
 unfold ninD at e
 split at e
 ·split at e
  ·rename_i hc
   obtain ⟨c1,c2,c3⟩:=ZG hc
   cases e
   obtain ⟨as,q1⟩:=h1.reads I c2 rx
   obtain ⟨bs,q2⟩:=h2.reads I (by rw [KQ];exact c1) ry
   exact SeqAt.notIn_list_reads q2 q1 c1 c2 (yh c3 hr.units) (Zh I (q _ H (Same.refl H) (.bool _)) rfl)
  ·cases e
 ·split at e
  ·rename_i hc
   obtain ⟨c1,c2,c3⟩:=ZG hc
   cases e
   obtain ⟨as,q1⟩:=h1.reads I c2 rx
   obtain ⟨bs,q2⟩:=h2.reads I (by rw [KQ];exact c1) ry
   exact SeqAt.notIn_tuple_reads q2 q1 c1 c2 (yh c3 hr.units) (Zh I (q _ H (Same.refl H) (.bool _)) rfl)
  ·cases e
 ·cases e
end
section
variable {X:Cx}{G:Gm}{M M' Mb L:List Nat}{fr:Fr}{f:Rho->Option Ka}{p:Rho->Option Bool}{pos:Pos}
theorem qk2 {K:Kd}{n k:Nat}{fi:Rho->Option (List Ka)}{g:Ka->Rho->Option Rho}(hg:GIn n k g):∀ σ H Q,tF K M (jW n k fi g p f) σ H Q->qco k (tDI K M fi) (tDGc K M g) (tDT K M p) (tD K M f) σ H Q:=by
 intro σ H Q ⟨S,ρ,d,hs,e,q⟩
 obtain ⟨ds,ys,e1,hn,hz,e2,rfl⟩:=wB e
 exact qem hg σ H Q S ρ ds ys hs e1 hn hz e2 fun H' zs g2 dl D hD=>q _ _ (g2.lay' hD) (g2.free hD) (OwnO.laid hD dl)
variable {elt iter tg:Kw}{ifs:List Kw}{x:Str}{N':List Str}{px:Pos}{sc:VE}{n k:Nat}{fi:Rho->Option (List Ka)}{g:Ka->Rho->Option Rho}
def swB (sc₀ sc:VE)(t:Str)(pt p:Pos):Bool:=decide (sc₀.names.lookup t=some .local)&&(pt.line==p.line)&&!(sc.names.any fun (n,k)=>n==t&&(k==.local||k==.cell))
theorem qcn {sc:VE}{y:Str}{py:Pos}{sc₀:VE}(hsc:X.env.scope=sc₀)(h:swB sc₀ sc y py pos=true):X.env.scope.names.lookup y=some .local:=by
 subst hsc
 unfold swB at h
 rw [Ks,Ks] at h
 exact of_decide_eq_true h.1.1
theorem sw_of {elt:Kw}{gens:List Comprehension}{sc:VE}{y:Str}{py:Pos}{line:Nat}{sc₀:VE}(hsc:X.env.scope=sc₀)(h:swB sc₀ sc y py pos=true)(hbk:X.env.blockKind=.function):swapsWith (.ListComp elt gens sc pos) (some (.Name y py)) line X.env=pure true:=by
 have h0:=qcn hsc h
 subst hsc
 unfold swB at h
 rw [Ks,Ks] at h
 show pure (X.env.blockKind==.function&&X.env.kindOf y==some .local&&py.line==pos.line&&!(sc.names.any fun (n,k)=>n==y&&(k==.local||k==.cell)))=pure true
 have e1:(X.env.blockKind==UR)=true:=by rw [hbk];rfl
 have e2:(X.env.kindOf y==some NameKind.local)=true:=by
  show (X.env.scope.names.lookup y==some NameKind.local)=true
  rw [h0];rfl
 rw [e1,e2,h.1.2,h.2]
 rfl
theorem qam (j:Nat){y:Str}{py spos:Pos}(O:CompOk X N' k sc)(gi:GIn n k g)(sc₀:VE)(hsc:X.env.scope=sc₀)(hB:swB sc₀ sc y py pos=true)(hM:Out0 M j)(hL:j∉L)(hi:PDI X M tg iter fi)(hg:∀ cl C fp pins s H,PDGc (qO X N' sc cl C fp pins s H) M tg g)(hq:∀ cl C fp pins s H,PDTs (qO X N' sc cl C fp pins s H) M ifs p)(he:∀ cl C fp pins s H,PD (qO X N' sc cl C fp pins s H) M elt f)
  (hj:X.N[j]?=some y:=by rfl) (hbk:X.env.blockKind=.function:=by rfl)
  (hs:∀ v,foldedSetIterable iter X.env v=pure v:=by intro _;rfl):PDS X G M L (j::M) Mb fr (.Assign [.Name y py] (.ListComp elt [⟨tg,iter,ifs,0⟩] sc pos) spos) (q8 j (jW n k fi g p f)) :=
 (qiP (wg:=tDGc X.K M g) (tt:=tDT X.K M p) (te:=tD X.K M f) O hj (qcn hsc hB) hi hg hq he (sw_of hsc hB hbk) hs).weak fun D σ H ⟨S,ρ,o,hs,e,q⟩=>by
  unfold q8 at e
  split at e
  ·rename_i hz
   obtain ⟨d,e1,e⟩:=qe e
   cases e
   exact qk2 gi σ H _ ⟨S,ρ,d,hs.ds,e1,fun p H1 g1 n o=>q _ H1 _ (hs.take n g1 o hM hL hz)⟩
  ·cases e
theorem qb6 (j:Nat){y:Str}{py spos:Pos}(O:CompOk X N' 1 sc)(hx:N'[n]?=some x)(hl:lc1 sc x=true)(sc₀:VE)(hsc:X.env.scope=sc₀)(hB:swB sc₀ sc y py pos=true)(hM:Out0 M j)(hL:j∉L)(hi:PDI X M (.Name x px) iter fi)(hq:∀ cl C fp pins s H,PDTs (qO X N' sc cl C fp pins s H) M ifs p)(he:∀ cl C fp pins s H,PD (qO X N' sc cl C fp pins s H) M elt f)
  (hj:X.N[j]?=some y:=by rfl) (hbk:X.env.blockKind=.function:=by rfl)
  (hs:∀ v,foldedSetIterable iter X.env v=pure v:=by intro _;rfl):PDS X G M L (j::M) Mb fr (.Assign [.Name y py] (.ListComp elt [⟨.Name x px,iter,ifs,0⟩] sc pos) spos) (q8 j (Qg n fi p f)):=by
 rw [wA]
 exact qam j O (Z8 (Ko _)) sc₀ hsc hB hM hL hi (Jt O hx hl) hq he hj hbk hs
end
def qds (N N':List Str)(k:Nat)(sc₀ sc:VE):Bool :=
 decide (sc.kind=.function)&&decide N.Nodup&&decide N'.Nodup&&decide (N'.length=N.length+k)&&sc.names.all (fun y=>decide (y.2≠.cell)||decide (sc.names.lookup y.1=some .cell))&&sc.names.all (fun y=>decide (y.2≠.local)||decide (sc.names.lookup y.1=some .local)) &&
 (N.zip N').all (fun y=>(decide (y.1=y.2)&&(decide (sc.names.lookup y.2≠some .local)&&decide (sc.names.lookup y.2≠some .cell)))||decide (sc.names.lookup y.2=none)) &&
 sc.names.all (fun y=>decide (y.2≠.free)||decide (sc₀.names.lookup y.1=some .cell)||decide (sc₀.names.lookup y.1=some .free))
theorem CompOk.of {X:Cx}{sc:VE}{k:Nat}(N N':List Str)(sc₀:VE)(hc:X.calm=true)(hN:X.N=N)(hs:X.env.scope=sc₀)(h:qds N N' k sc₀ sc=true):CompOk X N' k sc:=by
 subst hN
 subst hs
 unfold qds at h
 simp only [Ks,decide_eq_true_eq,Kz,NH] at h
 obtain ⟨⟨⟨⟨⟨⟨⟨h1,h2⟩,h2'⟩,h2l⟩,h3⟩,h4⟩,h7⟩,h8⟩:=h
 refine ⟨hc,h1,h2,h2',h2l,fun y hy q=>(h3 y hy).resolve_left (fun z=>z q),fun y hy q=>(h4 y hy).resolve_left (fun z=>z q),fun i y hi e=>?_,fun y hy q=>?_⟩
 ·have hz:(X.N.zip N')[i]?=some (X.N[i],y):=by
   rw [List.getElem?_zip_eq_some]
   exact ⟨Kq hi,e⟩
  rcases h7 _ (Ve hz) with ⟨q,w⟩|q
  ·refine .inl ⟨?_,w⟩
   rw [Kq hi]
   exact congrArg some q
  ·exact .inr q
 ·rcases h8 y hy with (z|z)|z
  ·exact absurd q z
  ·exact .inl z
  ·exact .inr z
theorem Wr:∀ {ns:List Int} {n:Int},n∈ns->PySem.W.WData.weight (.int n)<=PySem.W.WData.weightAll (ns.map .int)
 | m::ns,n,h=>by
  rw [Km,PySem.W.WData.weightAll]
  rcases Kk.mp h with rfl|h
  ·omega
  ·have:=Wr h
   omega
theorem ww {ns:List Int}(h:PySem.W.WData.layableAll [.list (ns.map .int)]=true):∀ n∈ns,V9 n<=2 ^ 20:=by
 intro n hn
 have h1:PySem.W.WData.layable (.list (ns.map .int))=true:=by
  unfold PySem.W.WData.layableAll at h
  simpa using h
 unfold PySem.W.WData.layable at h1
 rw [Ks] at h1
 have h2:=of_decide_eq_true h1.2
 rw [PySem.W.WData.weight] at h2
 have h3:=Vs (Wr hn) h2
 rw [PySem.W.WData.weight] at h3
 exact h3
end L2
namespace Att
open PySem PySem.W PySem.Calls PyProof.Rows
theorem attach_callB {l:Ee}{n:Nat}{q:Kt}{loose:List Str}{XP:(Str->Option Kb)->Kx->Prop}{YP:KF->Kx->Prop}{d:DefRec}
  (hn:l.most=some n) (hdf:d.params.defaults=[])
  (call:∀ (w:KF) (s₀ s₁:Kf) (mg mb:Str->Option Kb) (fa:Ke) (o:Obj) (pm cd doc:Kb) (a:Ke) (vs:List Kb) (ns:List Int),
   Ground q loose [] XP w s₀ mg mb s₁.heap->YP w s₁.heap->
   s₁.heap.get? fa=some o->o.data=.func (docDef d.name d.params d.body d.scope pm cd doc)->s₁.heap.CodeRec cd d.name->mg d.name=some (.ref fa)->
   s₁.heap.get? a=some { cls:=.type "list", data:=.seq vs.toArray }->IntsAre vs ns->ns.length<=n->(∀ k∈ns,V9 k<=2 ^ 20)->s₁.gens=#[]->
   codeAny (model l.prog w) callerA (.call (.ref fa) ⟨[.ref a],[]⟩) (fun r s'=>r=.ok (.ret (.bool true))/\OldK s₁.heap s'.heap/\s'.os=s₁.os/\XJ s'.gens) s₁) :
  WalkO q loose XP YP l.row.toRowW d [] (fun f vs=>PySem.call f vs):=by
 intro w s₀ s₁ mg mb G Y fa o pm cd doc dV kV ho hd hcd hD hmg hg args vals as hpre hlay hrd hwl hlo
 obtain rfl:dV=.none:=Dflts.none hD hdf
 obtain rfl:kV=.none:=Dflts.noKw hD
 obtain ⟨a,vs,ns,rfl,rfl,hobj,hints,hlen⟩:=qfg hn hpre hwl
 refine enter_call (XY (call w s₀ s₁ mg mb fa o pm cd doc a vs ns G Y ho (fd_plain hd) hcd hmg hobj hints hlen (L2.ww hlay) hg) fun r s' hq=>?_)
 obtain ⟨rfl,h2,h3,h4⟩:=hq
 exact ⟨.inl ⟨.bool true,.bool true,[],rfl,fun _=>rfl,.bool true,qfc l _,fun _=>⟨List.Pairwise.nil,fun _ hm=>(nomatch hm)⟩⟩,h2,h3,h4⟩
end Att
namespace L2
open PySem PySem.Spec PyProof.Rows
def qc3 (K:Kd)(n:Nat):Sp:=fun vs H Q _=>∃ (a:Ke) (ns:List Int),vs=[.ref a]/\SqL K H a (ns.map V.int)/\ns.length<=n/\(∀ k∈ns,V9 k<=2 ^ 20)/\∀ H',Q (.bl true) H'
theorem qgi {P:Kt}{w:KF}{K:Kd}{mg:Str->Option Kb}{base:Kx}{CX:CXT}{k n:Nat}{f:Ke}{fd:Vo}{ps:List Str}{h:List Ka->Option Ka}(F:FnOk P w K mg base CX k f fd ps (spF K 1 h))
  (e:∀ ns:List Int,ns.length<=n->(∀ k∈ns,V9 k<=2 ^ 20)->h [.list (ns.map .int)]=some (.bool true)):FnOk P w K mg base CX k f fd ps (qc3 K n) :=
 F.imp fun vs H Q E ⟨a,ns,h1,h2,h3,h4,q⟩=>by
  subst h1
  exact ⟨fun _=>False,[.list (ns.map .int)],.bool true,(fun _ z=>z.elim),.cons (.list (h2.imp (fun y=>⟨y,id⟩) id) (DenL.ints ns)) .nil,rfl,e ns h3 h4,fun v H' _ d=>by rw [d.bool_inv];exact q H'⟩
theorem qfn {l:Ee}{n k:Nat}{q:Kt}{loose:List Str}{XP:(Str->Option Kb)->Kx->Prop}{YP:KF->Kx->Prop}{d:DefRec}{K:Params->Kd}{x:Str}
  (hn:l.most=some n) (hn2:n<=sizeLine) (hdf:d.params.defaults=[]) (hr:Room k callerA)
  (hY:∀ (w:KF) (h:Kx),YP w h->(K w.params).In h)
  (F:∀ (w:KF) (mg:Str->Option Kb) (fa:Ke) (h:Kx),(K w.params).In h->h.Ns mainGlobals mg->mg d.name=some (.ref fa)->
   ∃ fd:Vo,(∀ (s:Kf) (u:Kb),BindsTo s fd ⟨[u],[]⟩ [(x,u)])/\
    ∀ base:Kx,(K w.params).In base->base.Ns mainGlobals mg->FnOk l.prog w (K w.params) mg base CX0 k fa fd [x] (qc3 (K w.params) n)) :
  PySem.W.WalkO q loose XP YP l.row.toRowW d [] (fun f vs=>PySem.call f vs):=by
 refine Att.attach_callB hn hdf fun w s₀ s₁ mg mb fa o pm cd doc a vs ns G Y ho hd hcd hmg hobj hints hlen hbits hg=>?_
 have KX:=hY w _ Y
 obtain ⟨fd,hb,hF⟩:=F w mg fa _ KX G.T.g hmg
 exact qgh KX G.T.g G.T.b G.T.builtins G.T.nolimit hg hobj hints (Vs hlen hn2) hr hF hb (fun H hO hS=>⟨a,ns,rfl,hS,hlen,hbits,fun _=>rfl⟩) fun H e s' h=>h
mutual
def ltX:Ka->Ka->Option Bool
 | .int i,.int j=>some (decide (i<j))
 | .tuple xs,.tuple ys=>ltXs xs ys
 | .list xs,.list ys=>ltXs xs ys
 | _,_=>none
def ltXs:List Ka->List Ka->Option Bool
 | [],[]=>some false
 | [],_::_=>some true
 | _::_,[]=>some false
 | x::xs,y::ys=>if KP x y=true then ltXs xs ys else ltX x y
end
def LtAt (A:KG)(s:Kf)(y x:Kb)(b:Bool):Prop:=∀ (prog:Kt) (w:KF) (E Q:Kb->Kf->Prop),Q (.bool b) s->wpAny (model prog w) A (richCompare .Lt y x) Q E s
def Yl (A:KG)(s:Kf):List Kb->List Kb->Bool->Prop
 | [],[],r=>r=false
 | [],_::_,r=>r=true
 | _::_,[],r=>r=false
 | y::ys,x::xs,r=>∃ e,SeqAt.EqAt A s y x e/\(e=true->Yl A s ys xs r)/\(e=false->LtAt A s y x r)
section
open PySem.SeqAt
open PySem.AutoSeq1 (wpAny_loadPart')
open PySem.MeetsSeq PySem.MeetsSeq2 PySem.MeetsSeq3
theorem qbc (l b:Ke)(items items2:Array Kb)(n n2:Nat)(dd dd2:Option Ke)(sl sl2:Array (Option Kb)) :
  Meets (UA.«tuple.__lt__» ⟨[.ref l,.ref b],[]⟩)
   (fun A R s=>s.heap.get? l=some { cls:=.type "tuple", dict:=dd,data:=.seq items n,slots:=sl }/\s.heap.get? b=some { cls:=.type "tuple", dict:=dd2,data:=.seq items2 n2,slots:=sl2 }/\
    ∃ r,Yl A.in1 s items.toList items2.toList r/\R (.ok (.ret (.bool r))) s) :=
 .of_wp fun prog w A R s h=>by
  obtain ⟨hp,g,d,tk,os⟩:=s;obtain ⟨hl,hb,r,hx,h⟩:=h
  have f2:=AutoSeq1.sub_tuple_tuple
  wp_walk using wpAny_loadPart' hl,wpAny_loadPart' hb,Ex _ (fun rest b s'=>b.1=none/\s'=⟨hp,g,d,tk,os⟩/\∃ (vs ws:List Kb),rest=vs.zip ws/\
   Yl A.in1 ⟨hp,g,d,tk,os⟩ vs ws r/\vs.length+items2.size=ws.length+items.size) _
  case turn =>
   rintro ⟨y,x⟩ rest b s' ⟨hb',rfl,vs,ws,hz,hlx,hlen⟩
   cases vs with
   | nil=>rw [List.zip_nil_left] at hz;cases hz
   | cons v vs =>
    cases ws with
    | nil=>rw [List.zip_nil_right] at hz;cases hz
    | cons u ws =>
     rw [NY] at hz
     injection hz with hyx hrest
     injection hyx with hy hx'
     subst hy hx'
     simp only [KC] at hlen
     obtain ⟨e,he,h1,h2⟩:=hlx
     refine Kc (he prog w _ _ ?_)
     cases e with
     | true =>
      wp_walk
      exact ⟨rfl,rfl,_,_,hrest,h1 rfl,by omega⟩
     | false =>
      have hri:=h2 rfl prog w
      wp_walk using hri
      exact ⟨_,rfl,by simpa using h⟩
  case fin =>
   rintro ⟨b1,b2⟩ s' ⟨hb',rfl,vs,ws,hz,hlx,hlen⟩
   simp only at hb'
   subst hb'
   have hv:r=decide (items.size<items2.size):=by
    cases vs with
    | nil =>
     cases ws with
     | nil =>
      simp only [Xs] at hlen
      rw [show r=false from hlx]
      exact (decide_eq_false (by omega)).symm
     | cons c hw =>
      simp only [Xs,KC] at hlen
      rw [show r=true from hlx]
      exact (decide_eq_true (by omega)).symm
    | cons a hv =>
     cases ws with
     | nil =>
      simp only [Xs,KC] at hlen
      rw [show r=false from hlx]
      exact (decide_eq_false (by omega)).symm
     | cons c hw =>
      rw [NY] at hz
      cases hz
   rw [hv] at h
   wp_walk
   exact ⟨_,rfl,by simpa [Builtin.Tuple.tupleCompareSizes] using h⟩
  case h =>
   exact ⟨rfl,rfl,items.toList,items2.toList,rfl,hx,by simp [Nat.add_comm]⟩
end
theorem qgp {A:KG}{s:Kf}{l b:Ke}{items items2:Array Kb}{r:Bool}(hl:IsTup s.heap l items)(hb:IsTup s.heap b items2)(hu:A.units<cLine)(h:Yl A.in1 s items.toList items2.toList r):LtAt A s (.ref l) (.ref b) r:=fun prog w E Q q=>by
 obtain ⟨⟨cls,dd,data,sl⟩,ho,hc,n,hd⟩:=id hl
 obtain ⟨⟨cls2,dd2,data2,sl2⟩,ho2,hc2,n2,hd2⟩:=id hb
 simp only at hc hd hc2 hd2
 subst hc hd hc2 hd2
 exact richCompare_meets_room (op:=.Lt) ⟨_,ho,rfl⟩ ⟨_,ho2,rfl⟩ PySem.F.slot_tuple_lt PySem.F.entry_tuple_lt (PySem.F.args_tuple_lt_2 _ _) (qbc l b items items2 n n2 dd dd2 sl sl2)
  ⟨ho,ho2,r,h,show K1 r≠E7/\Q (.bool r) s from ⟨(fun x=>nomatch x),q⟩⟩ hu
section
open PySem.SeqAt
open PySem.AutoSeq1 (wpAny_loadPart')
open PySem.MeetsSeq PySem.MeetsSeq2 PySem.MeetsSeq3
theorem qaZ (l b:Ke)(xs ys:Array Kb)(n n2:Nat)(dd dd2:Option Ke)(sl sl2:Array (Option Kb)):∀ (k i:Nat),xs.size=i+k->i<=ys.size->Meets (UA.«list.__eq__.loop» ⟨[.ref l,.ref b,rawInt i,rawInt 0],[]⟩)
   (fun A R s=>s.heap.get? l=some ⟨.type "list", dd,.seq xs n,sl⟩/\s.heap.get? b=some ⟨.type "list", dd2,.seq ys n2,sl2⟩/\∃ r,Yl A.in1 s (xs.toList.drop i) (ys.toList.drop i) r/\R (.ok (.ret (.bool r))) s):=by
 intro k
 induction k with
 | zero =>
  intro i hx hy prog w A R s ⟨hl,hb,r,hq,hR⟩
  obtain ⟨hp,g,d,tk,os⟩:=s
  have e1:xs.toList.drop i=[]:=Nf (by rw [K0];omega)
  have e2:xs[((i:Nat):Int).toNat]?=none:=by rw [VO];exact Ng (by omega)
  rw [e1] at hq
  have hr:r=decide (xs.size<ys.size):=by
   by_cases h:i<ys.size
   ·have e3:ys.toList.drop i=ys[i]::ys.toList.drop (i+1):=by rw [VV (by rw [K0];exact h),NI]
    rw [e3] at hq
    rw [show r=true from hq];exact (decide_eq_true (by omega)).symm
   ·rw [Nf (by rw [K0];omega)] at hq
    rw [show r=false from hq];exact (decide_eq_false (by omega)).symm
  rw [hr] at hR
  wp_walk using wpAny_loadPart' hl,wpAny_loadPart' hb
  rw [e2]
  wp_walk using wpAny_loadPart' hl,wpAny_loadPart' hb
  exact hR
 | succ k ih =>
  intro i hx hy prog w A R s ⟨hl,hb,r,hq,hR⟩
  obtain ⟨hp,g,d,tk,os⟩:=s
  have h1:i<xs.size:=by omega
  have e1:xs.toList.drop i=xs[i]::xs.toList.drop (i+1):=by rw [VV (by rw [K0];exact h1),NI]
  have e2:xs[((i:Nat):Int).toNat]?=some xs[i]:=by rw [VO];exact Ub h1
  rw [e1] at hq
  wp_walk using wpAny_loadPart' hl,wpAny_loadPart' hb
  by_cases h2:i<ys.size
  ·have e3:ys.toList.drop i=ys[i]::ys.toList.drop (i+1):=by rw [VV (by rw [K0];exact h2),NI]
   have e4:ys[((i:Nat):Int).toNat]?=some ys[i]:=by rw [VO];exact Ub h2
   rw [e3] at hq
   obtain ⟨e,he,q1,q2⟩:=hq
   rw [e2,e4]
   refine Kc (he prog w _ _ ?_)
   cases e with
   | true =>
    wp_walk
    refine ⟨UC plain_eq_loop _,Uq entry_eq_loop ?_⟩
    rw [V1 plain_eq_loop _]
    exact ih (i+1) (by omega) h2 prog w A R _ ⟨hl,hb,r,q1 rfl,hR⟩
   | false =>
    wp_walk using wpAny_loadPart' hl,wpAny_loadPart' hb
    rw [e2,e4]
    have hri:=q2 rfl prog w
    wp_walk using hri
    exact hR
  ·rw [Nf (as:=ys.toList) (by rw [K0];omega)] at hq
   have e4:ys[((i:Nat):Int).toNat]?=none:=by rw [VO];exact Ng (by omega)
   have hr:r=decide (xs.size<ys.size):=by rw [show r=false from hq];exact (decide_eq_false (by omega)).symm
   rw [hr] at hR
   rw [e2,e4]
   wp_walk using wpAny_loadPart' hl,wpAny_loadPart' hb
   exact hR
theorem qbS (l b:Ke)(xs ys:Array Kb)(n n2:Nat)(dd dd2:Option Ke)(sl sl2:Array (Option Kb)):Meets (UA.«list.__lt__» ⟨[.ref l,.ref b],[]⟩)
   (fun A R s=>s.heap.get? l=some ⟨.type "list", dd,.seq xs n,sl⟩/\s.heap.get? b=some ⟨.type "list", dd2,.seq ys n2,sl2⟩/\∃ r,Yl A.in1 s xs.toList ys.toList r/\R (.ok (.ret (.bool r))) s):=by
 intro prog w A R s ⟨hl,hb,r,hq,hR⟩
 obtain ⟨hp,g,d,tk,os⟩:=s
 have f3:=AutoSeq1.sub_list_list
 wp_walk using wpAny_loadPart' hl,wpAny_loadPart' hb
 refine ⟨UC plain_eq_loop _,Uq entry_eq_loop ?_⟩
 rw [V1 plain_eq_loop _]
 exact qaZ l b xs ys n n2 dd dd2 sl sl2 xs.size 0 (Xf _).symm (Vc _) prog w A R _ ⟨hl,hb,r,hq,hR⟩
end
theorem qeZ {A:KG}{s:Kf}{l b:Ke}{o o2:Obj}{xs ys:Array Kb}{n n2:Nat}{r:Bool}(h1:s.heap.get? l=some o)(c1:o.cls=.type "list")(d1:o.data=.seq xs n)(h2:s.heap.get? b=some o2)(c2:o2.cls=.type "list")(d2:o2.data=.seq ys n2)(hu:A.units<cLine)(h:Yl A.in1 s xs.toList ys.toList r):LtAt A s (.ref l) (.ref b) r:=fun prog w E Q q=>by
 obtain ⟨cls,dd,data,sl⟩:=o
 obtain ⟨cls2,dd2,data2,sl2⟩:=o2
 simp only at c1 d1 c2 d2
 subst c1 d1 c2 d2
 exact richCompare_meets_room (op:=.Lt) ⟨_,h1,rfl⟩ ⟨_,h2,rfl⟩ PySem.F.slot_list_lt PySem.F.entry_list_lt (PySem.F.args_list_lt_2 _ _) (qbS l b xs ys n n2 dd dd2 sl sl2)
  ⟨h1,h2,r,h,show K1 r≠E7/\Q (.bool r) s from ⟨(fun x=>nomatch x),q⟩⟩ hu
theorem Yx {A:KG}{s:Kf}{m:Nat}(hu:A.units+m+1<cLine)(hit:∀ (x y:Ka) (a b:Kb) (as bs:List Ke) (r:Bool),x.depth<=m->Xr s.heap a x as->Xr s.heap b y bs->x.canLay0=true->y.canLay0=true->ltX x y=some r->LtAt A s a b r) :
  ∀ (xs ys:List Ka) (vs ws:List Kb) (as bs:List Ke) (r:Bool),KI xs<=m->Up s.heap vs xs as->Up s.heap ws ys bs->Kr xs=true->Kr ys=true->ltXs xs ys=some r->Yl A s vs ws r:=by
 intro xs
 induction xs with
 | nil =>
  intro ys vs ws as bs r _ h1 h2 _ _ e
  cases h1
  cases ys with
  | nil=>cases h2;rw [ltXs] at e;cases e;rfl
  | cons y ys=>cases h2;rw [ltXs] at e;cases e;rfl
 | cons x xs ih =>
  intro ys vs ws as bs r hm h1 h2 c1 c2 e
  cases h1 with
  | cons rx rxs =>
   cases ys with
   | nil=>cases h2;rw [ltXs] at e;cases e;rfl
   | cons y ys =>
    cases h2 with
    | cons ry rys =>
     have c1':x.canLay0=true/\Kr xs=true:=by simpa [Kr] using c1
     have c2':y.canLay0=true/\Kr ys=true:=by simpa [Kr] using c2
     have hd:max x.depth (KI xs)<=m:=by rw [KI] at hm;exact hm
     have m1:=Vs (EM x.depth (KI xs)) hd
     have m2:=Vs (Ez x.depth (KI xs)) hd
     rw [ltXs] at e
     refine ⟨KP x y,Ey x y A s _ _ _ _ rx ry c1'.1 c2'.1 (by have:=EL x.depth y.depth;omega),fun q=>?_,fun q=>?_⟩
     ·rw [if_pos q] at e
      exact ih ys _ _ _ _ r m2 rxs rys c1'.2 c2'.2 e
     ·rw [if_neg (by rw [q];exact VG)] at e
      exact hit x y _ _ _ _ r m1 rx ry c1'.1 c2'.1 e
theorem JF:∀ (n:Nat) (da db:Ka) (A:KG) (s:Kf) (a b:Kb) (as bs:List Ke) (r:Bool),da.depth<=n->Xr s.heap a da as->Xr s.heap b db bs->da.canLay0=true->db.canLay0=true->A.units+n+1<cLine->ltX da db=some r->LtAt A s a b r:=by
 intro n
 induction n with
 | zero =>
  intro da db A s a b as bs r hd ra rb ca cb hu e
  cases da with
  | int i =>
   cases db with
   | int j =>
    cases ra;cases rb
    rw [ltX] at e
    cases e
    exact fun prog w E Q q=>HT.qch A s i _ j _ prog w E Q q
   | _=>simp [ltX] at e
  | tuple xs =>
   rw [Uz] at hd
   omega
  | list xs =>
   rw [Uz] at hd
   omega
  | _=>simp [ltX] at e
 | succ n ih =>
  intro da db A s a b as bs r hd ra rb ca cb hu e
  cases da with
  | int i =>
   cases db with
   | int j =>
    cases ra;cases rb
    rw [ltX] at e
    cases e
    exact fun prog w E Q q=>HT.qch A s i _ j _ prog w E Q q
   | _=>simp [ltX] at e
  | tuple xs =>
   cases db with
   | tuple ys =>
    rw [Uz] at hd
    rw [ltX] at e
    cases ra with
    | tuple e1 c1 d1 t1 =>
     cases rb with
     | tuple e2 c2 d2 t2 =>
      refine qgp ⟨_,e1,c1,_,d1⟩ ⟨_,e2,c2,_,d2⟩ (by omega) ?_
      exact Yx (m:=n) (by show A.units+1+n+1<cLine;omega) (fun x y a b as bs r hx r1 r2 k1 k2 e=>ih x y A.in1 s a b as bs r hx r1 r2 k1 k2 (by show A.units+1+n+1<cLine;omega) e)
       xs ys _ _ _ _ r (by omega) t1 t2 (by simpa [KQ] using ca) (by simpa [KQ] using cb) e
   | _=>simp [ltX] at e
  | list xs =>
   cases db with
   | list ys =>
    rw [Uz] at hd
    rw [ltX] at e
    cases ra with
    | list e1 c1 d1 t1 =>
     cases rb with
     | list e2 c2 d2 t2 =>
      refine qeZ e1 c1 d1 e2 c2 d2 (by omega) ?_
      exact Yx (m:=n) (by show A.units+1+n+1<cLine;omega) (fun x y a b as bs r hx r1 r2 k1 k2 e=>ih x y A.in1 s a b as bs r hx r1 r2 k1 k2 (by show A.units+1+n+1<cLine;omega) e)
       xs ys _ _ _ _ r (by omega) t1 t2 (by simpa [KQ] using ca) (by simpa [KQ] using cb) e
   | _=>simp [ltX] at e
  | _=>simp [ltX] at e
def ltD2 (x y:Ka):Option Ka:=if VT x=true/\VT y=true/\x.depth<=60 then ob (ltX x y) fun r=>some (.bool r) else none
theorem qje {X:Cx}{k:Nat}(hr:Room k X.A):OpD X (compareOp .Lt) ltD2:=by
 intro pins s σ H x y v u Q I rx ry ⟨S,dx,dy,d,m,h1,h2,e,q⟩
 unfold ltD2 at e
 split at e
 ·rename_i hc
  obtain ⟨as,q1⟩:=h1.reads I (K7 hc.1) rx
  obtain ⟨bs,q2⟩:=h2.reads I (K7 hc.2.1) ry
  obtain ⟨r,e1,e⟩:=qe e
  cases e
  have hu:=hr.units
  exact JF 60 dx dy X.A s v u as bs r hc.2.2 q1 q2 (K7 hc.1) (K7 hc.2.1) (by omega) e1 X.prog X.w X.xe _ (Zh I (q _ H (Same.refl H) (.bool r)) rfl)
 ·cases e
end L2
namespace L2
open PySem PySem.Spec PyProof.Rows PySem.W
def runC {α:Type}(lt:Nat->Nat->Option Bool):KasT α->Option α
 | .ret a=>some a
 | .ask i j k=>ob (lt i j) fun b=>runC lt (k b)
theorem qeg {α:Type}{cmp:Nat->Nat->(Bool->Kf->Prop)->Kf->Prop}{lt:Nat->Nat->Option Bool}{s:Kf}{Q:α->Kf->Prop}(hc:∀ i j b C,lt i j=some b->C b s->cmp i j C s) :
  ∀ (t:KasT α) (a:α),runC lt t=some a->Q a s->t.kasWp cmp Q s
 | .ret x,a,e,q=>by cases e;exact q
 | .ask i j k,a,e,q=>by
  obtain ⟨b,e1,e2⟩:=qe e
  exact hc i j b _ e1 (qeg hc (k b) a e2 q)
section
variable {prog:Kt}{w:KF}{A:KG}{E:Kb->Kf->Prop}{s:Kf}
def Kept (a:Ke)(s s':Kf):Prop:=∀ b o,b≠a->s.heap.get? b=some o->s'.heap.get? b=some o
theorem qc1 {a:Ke}{vs:List Kb}{n:Nat}{P:PySem.Fin->Kf->Prop}{κ:SortKind}{p:Array Nat}(ho:s.heap.get? a=some (seqObj "list" vs.toArray n))(h2:2<=vs.length)(h64:vs.length<64)
  (hk:∀ (s':Kf) (Q:SortKind->Kf->Prop),Kept a s s'->Q κ s'->wpAny (model prog w) A (keyKind' vs.toArray) Q E s')
  (hr:∀ (s':Kf) (G:Array Nat->Kf->Prop),Kept a s s'->G p s'->(EA vs.length).kasWp (kas_ask prog w A κ vs) G s')
  (h:P (.done (.ret .none)) { s with heap:=sortedHeap s.heap a vs (p.toList.map fun i=>vs.getD i K5).toArray }) :
  wpAny (model prog w) A (UA.«list.sort» ⟨[.ref a],[]⟩) P E s:=by
 have small:vs.length<=sizeLine:=by rw [UP];omega
 have lt:=Ku ho
 obtain ⟨e1,o1⟩:∃ e1,(s.heap.update a (VW fun _=>#[])).get? a=some (seqObj "list" #[] e1):=⟨_,get?_update_seq ho fun _=>#[]⟩
 rw [list_sort_plain]
 refine Kc (listItems_at ho rfl (Kc (N6 ho rfl (Kc (EU o1 rfl (Kc ?_))) (by simpa using small) (Vc _))))
 refine wpAny_newTuple (Kc (N7 (VP ?_) (Vc _))) (by simpa using small)
 obtain ⟨h6,hE⟩:∃ h6,h6=((s.heap.update a (VW fun _=>(#[]:Array Kb))).push (seqObj "tuple" vs.toArray 0)).push (seqObj "list" #[] 0):=⟨_,rfl⟩
 have kp:Kept a s { s with heap:=h6 }:=fun b o ne e=>by
  show h6.get? b=some o
  rw [hE]
  refine Ki _ (Ki _ ?_)
  rw [UI _ _ _ _ ne]
  exact e
 have o6:h6.get? a=some (seqObj "list" #[] e1):=by
  rw [hE]
  exact Ki _ (Ki _ o1)
 show wpAny (model prog w) A _ P E { s with heap:=((s.heap.update a (VW fun _=>(#[]:Array Kb))).push (seqObj "tuple" vs.toArray 0)).push (seqObj "list" #[] 0) }
 rw [← hE]
 have n2:¬ vs.toArray.size<2:=by rw [KA];omega
 dsimp only
 rw [if_neg n2,if_neg n2]
 refine Kc (hk _ _ kp ?_)
 refine Kc (Vq (kat_run (Q:=fun st' s'=>s'={ s with heap:=h6 }/\arrOf st'=p.map (kas_item (vs.toArray.zip vs.toArray))/\failedOf st'=none/\p.size=vs.length) rfl h2 h64
  (fun p' st' s' z har hf hg=>⟨hg.1,by rw [← hg.2];exact har,hf,by rw [← hg.2];exact z⟩) (hr _ (fun p' s'=>s'={ s with heap:=h6 }/\p'=p) kp ⟨rfl,rfl⟩)) ?_ fun _ _ e=>e)
 rintro ⟨⟨⟩,st'⟩ s' ⟨rfl,har,hf,hz⟩
 dsimp only
 rw [kat_snds rfl har]
 refine Kc (EU o6 rfl (Kc (N6 o6 rfl ?_ (Vc _) (by rw [KA,Kj,K0,hz];omega))))
 rw [hf]
 simp only [bne_self_eq_false,VH,if_false]
 refine Kl ?_
 rw [hE]
 exact h
theorem qc2 {a:Ke}{vs:List Kb}{n:Nat}{P:PySem.Fin->Kf->Prop}(ho:s.heap.get? a=some (seqObj "list" vs.toArray n))(h2:vs.length<2)
  (h:P (.done (.ret .none)) { s with heap:=sortedHeap s.heap a vs vs.toArray }):wpAny (model prog w) A (UA.«list.sort» ⟨[.ref a],[]⟩) P E s:=by
 have small:vs.length<=sizeLine:=by rw [UP];omega
 obtain ⟨e1,o1⟩:∃ e1,(s.heap.update a (VW fun _=>#[])).get? a=some (seqObj "list" #[] e1):=⟨_,get?_update_seq ho fun _=>#[]⟩
 rw [list_sort_plain]
 refine Kc (listItems_at ho rfl (Kc (N6 ho rfl (Kc (EU o1 rfl (Kc ?_))) (by simpa using small) (Vc _))))
 refine wpAny_newTuple (Kc (N7 (VP ?_) (Vc _))) (by simpa using small)
 obtain ⟨h6,hE⟩:∃ h6,h6=((s.heap.update a (VW fun _=>(#[]:Array Kb))).push (seqObj "tuple" vs.toArray 0)).push (seqObj "list" #[] 0):=⟨_,rfl⟩
 have o6:h6.get? a=some (seqObj "list" #[] e1):=by
  rw [hE]
  exact Ki _ (Ki _ o1)
 show wpAny (model prog w) A _ P E { s with heap:=((s.heap.update a (VW fun _=>(#[]:Array Kb))).push (seqObj "tuple" vs.toArray 0)).push (seqObj "list" #[] 0) }
 rw [← hE]
 have n2:vs.toArray.size<2:=by rw [KA];omega
 dsimp only
 rw [if_pos n2,if_pos n2]
 refine Kc (Kl ?_)
 rw [StateT.run_pure]
 refine Kc (Kl ?_)
 dsimp only
 have eo:Array.map (fun x=>x.2) (vs.toArray.zip vs.toArray)=vs.toArray:=by
  apply Array.toList_inj.mp
  simp [List.map_snd_zip]
 show wpAny (model prog w) A (seqEpoch a >>= _) P E { s with heap:=h6 }
 refine Kc (EU o6 rfl (Kc ?_))
 rw [show Array.map (fun x=>x.2) (arrOf (SortSt.mk' general' (vs.toArray.zip vs.toArray) #[] 7 none))=vs.toArray from eo]
 refine N6 o6 rfl ?_ (Vc _) (by rw [KA];omega)
 simp only [bne_self_eq_false,VH,if_false]
 refine Kl ?_
 rw [hE]
 exact h
theorem qba {l:Ke}{vs:List Kb}{Q:Kb->Kf->Prop}{κ:SortKind}{p:Array Nat}(hl:s.heap.IsList l vs.toArray)(h2:2<=vs.length)(h64:vs.length<64)
  (hk:∀ (s':Kf) (Q:SortKind->Kf->Prop),(∀ b o,s.heap.get? b=some o->s'.heap.get? b=some o)->Q κ s'->wpAny (model prog w) A.in1.in1 (keyKind' vs.toArray) Q (fun _ _=>False) s')
  (hr:∀ (s':Kf) (G:Array Nat->Kf->Prop),(∀ b o,s.heap.get? b=some o->s'.heap.get? b=some o)->G p s'->(EA vs.length).kasWp (kas_ask prog w A.in1.in1 κ vs) G s')
  (h:Q (.ref (s.heap.objs.size+1)) { s with heap:=sortedAll s.heap vs (p.toList.map fun i=>vs.getD i K5).toArray }) :
  wpAny (model prog w) A (call (.builtin "sorted") [.ref l]) Q E s:=by
 have small:vs.length<=sizeLine:=by rw [UP];omega
 refine Calls.call_function_entry kind_sorted plain_sorted entry_sorted (args_sorted1 _) ?_
 unfold UA.«sorted»
 refine Kc (m:=checkCount "sorted" 1 1 _) (Kl (Kc (collect_list hl (Kc (N7 ?_ (by simpa using small))) (by simpa using small))))
 have zz:((s.heap.push (seqObj "list" #[] 0)).update s.heap.objs.size (VW (·++vs.toArray))).objs.size=s.heap.objs.size+1:=by rw [Heap.size_update,size_push']
 obtain ⟨h3,hH⟩:∃ h3,h3=((s.heap.push (seqObj "list" #[] 0)).update s.heap.objs.size (VW (·++vs.toArray))).push (seqObj "list" vs.toArray 0):=⟨_,rfl⟩
 have oL:h3.get? (s.heap.objs.size+1)=some (seqObj "list" vs.toArray 0):=by
  rw [hH,← zz]
  exact Kv _ rfl
 have keep:∀ b o,s.heap.get? b=some o->h3.get? b=some o:=fun b o e=>by
  rw [hH]
  have hlt:=Ku e
  refine Ki _ ?_
  rw [UI _ _ _ _ (KR hlt)]
  exact Ki _ e
 show wpAny _ _ _ _ _ { s with heap:=((s.heap.push (seqObj "list" #[] 0)).update s.heap.objs.size (VW (·++vs.toArray))).push (seqObj "list" vs.toArray 0) }
 rw [zz,← hH]
 have k2:∀ s':Kf,Kept (s.heap.objs.size+1) { s with heap:=h3 } s'->∀ b o,s.heap.get? b=some o->s'.heap.get? b=some o:=fun s' kp b o e=>kp b o (KR (U0 (Ku e))) (keep b o e)
 refine Kc (VP (Ud slot_list_sort ⟨_,oL,rfl⟩ entry_list_sort (qc1 (κ:=κ) (p:=p) oL h2 h64 (fun s' Q kp q=>Vq (hk s' Q (k2 s' kp) q) (fun _ _ z=>z) fun _ _ z=>z.elim) (fun s' G kp q=>hr s' G (k2 s' kp) q) ⟨_,rfl,?_⟩) (args_list_sort _)))
 refine Kl ⟨_,rfl,?_⟩
 have hA:sortedHeap h3 (s.heap.objs.size+1) vs (p.toList.map fun i=>vs.getD i K5).toArray=sortedAll s.heap vs (p.toList.map fun i=>vs.getD i K5).toArray:=by
  rw [hH]
  rfl
 rw [hA]
 exact h
theorem qbb {l:Ke}{vs:List Kb}{Q:Kb->Kf->Prop}(hl:s.heap.IsList l vs.toArray)(h2:vs.length<2)
  (h:Q (.ref (s.heap.objs.size+1)) { s with heap:=sortedAll s.heap vs vs.toArray }) :
  wpAny (model prog w) A (call (.builtin "sorted") [.ref l]) Q E s:=by
 have small:vs.length<=sizeLine:=by rw [UP];omega
 refine Calls.call_function_entry kind_sorted plain_sorted entry_sorted (args_sorted1 _) ?_
 unfold UA.«sorted»
 refine Kc (m:=checkCount "sorted" 1 1 _) (Kl (Kc (collect_list hl (Kc (N7 ?_ (by simpa using small))) (by simpa using small))))
 have zz:((s.heap.push (seqObj "list" #[] 0)).update s.heap.objs.size (VW (·++vs.toArray))).objs.size=s.heap.objs.size+1:=by rw [Heap.size_update,size_push']
 obtain ⟨h3,hH⟩:∃ h3,h3=((s.heap.push (seqObj "list" #[] 0)).update s.heap.objs.size (VW (·++vs.toArray))).push (seqObj "list" vs.toArray 0):=⟨_,rfl⟩
 have oL:h3.get? (s.heap.objs.size+1)=some (seqObj "list" vs.toArray 0):=by
  rw [hH,← zz]
  exact Kv _ rfl
 show wpAny _ _ _ _ _ { s with heap:=((s.heap.push (seqObj "list" #[] 0)).update s.heap.objs.size (VW (·++vs.toArray))).push (seqObj "list" vs.toArray 0) }
 rw [zz,← hH]
 refine Kc (VP (Ud slot_list_sort ⟨_,oL,rfl⟩ entry_list_sort (qc2 oL h2 ⟨_,rfl,?_⟩) (args_list_sort _)))
 refine Kl ⟨_,rfl,?_⟩
 have hA:sortedHeap h3 (s.heap.objs.size+1) vs vs.toArray=sortedAll s.heap vs vs.toArray:=by
  rw [hH]
  rfl
 rw [hA]
 exact h
end
def qbT (ds:List Ka)(i j:Nat):Option Bool:=match ds[i]?,ds[j]? with
 | some x,some y=>ltX x y
 | _,_=>none
def keyD:Ka->Nat
 | .tuple (.int _::_)=>0
 | .tuple (.tuple _::_)=>1
 | .int _=>2
 | _=>3
def qb9 (ds:List Ka)(p:Array Nat):Option Ka:=if (p.toList.all fun i=>decide (i<ds.length))=true/\p.toList.length<=1000 then some (.list (p.toList.map fun i=>ds.getD i .none)) else none
def Z4 (k:Nat)(ds:List Ka):Bool:=(ds.all fun d=>keyD d==k)&&(decide (2<=ds.length)&&(decide (ds.length<64)&&(Kr ds&&decide (KI ds<=50))))
def zb:List Ka->Option Ka
 | [.list ds]=>if ds.length<2 then some (.list ds) else if Z4 0 ds=true\/Z4 1 ds=true then ob (runC (qbT ds) (EA ds.length)) fun p=>qb9 ds p else none
 | _=>none
section
variable {prog:Kt}{w:KF}{A:KG}{s:Kf}
theorem qaX {b fin:Bool}{m:Nat}{Q:Bool->Kf->Prop}{r:Bool}(hu:A.units+m+1<cLine)(q:Q r s) :
  ∀ (xs ys:List Ka) (vs ws:List Kb) (as bs:List Ke) (i:Nat),KI xs<=m->Up s.heap vs xs as->Up s.heap ws ys bs->Kr xs=true->Kr ys=true->ltXs xs ys=some r->
   (b=true->i=0->∀ x y,xs.head?=some x->ys.head?=some y->∃ n k,x=.int n/\y=.int k)->fin=decide (xs.length<ys.length)->KatLex prog w A b fin Q (vs.zip ws) i s:=by
 intro xs
 induction xs with
 | nil =>
  intro ys vs ws as bs i _ h1 h2 _ _ e _ hf
  cases h1
  rw [List.zip_nil_left]
  refine kat_nil ?_
  cases ys with
  | nil=>rw [ltXs] at e;cases e;rw [hf];simpa using q
  | cons y ys=>rw [ltXs] at e;cases e;rw [hf];simpa using q
 | cons x xs ih =>
  intro ys vs ws as bs i hm h1 h2 c1 c2 e hb hf
  cases h1 with
  | cons rx rxs =>
   cases ys with
   | nil =>
    cases h2
    rw [List.zip_nil_right]
    refine kat_nil ?_
    rw [ltXs] at e;cases e;rw [hf];simpa using q
   | cons y ys =>
    cases h2 with
    | cons ry rys =>
     have c1':x.canLay0=true/\Kr xs=true:=by simpa [Kr] using c1
     have c2':y.canLay0=true/\Kr ys=true:=by simpa [Kr] using c2
     have hd:max x.depth (KI xs)<=m:=by rw [KI] at hm;exact hm
     have m1:=Vs (EM x.depth (KI xs)) hd
     have m2:=Vs (Ez x.depth (KI xs)) hd
     rw [ltXs] at e
     rw [NY]
     refine kat_cons (Ey x y A s _ _ _ _ rx ry c1'.1 c2'.1 (by have:=EL x.depth y.depth;omega) prog w _ _ (kat_go (fun z=>?_) fun z=>?_))
     ·rw [if_pos z] at e
      refine kat_yes (ih ys _ _ _ _ (i+1) m2 rxs rys c1'.2 c2'.2 e (fun _ z=>by omega) ?_)
      rw [hf,KC,KC]
      exact decide_eq_decide.mpr (by omega)
     ·rw [if_neg (by rw [z];exact VG)] at e
      refine kat_no ?_
      cases hbi:(b&&i==0) with
      | true =>
       rw [Ks] at hbi
       obtain ⟨n,k,rfl,rfl⟩:=hb hbi.1 (by simpa using hbi.2) x y rfl rfl
       cases rx;cases ry
       rw [ltX] at e
       cases e
       exact oneLt_int q
      | false =>
       exact kat_one _ _ (JF m x y A s _ _ _ _ r m1 rx ry c1'.1 c2'.1 hu e prog w _ _ q)
theorem yx {h:Kx}:∀ {vs:List Kb} {ds:List Ka} {as:List Ke},Up h vs ds as->vs.length=ds.length
 | _,_,_,.nil=>rfl
 | _,_,_,.cons _ t=>by rw [KC,KC,yx t]
theorem yw {h:Kx}:∀ {vs:List Kb} {ds:List Ka} {as:List Ke} {i:Nat} {d:Ka},Up h vs ds as->ds[i]?=some d->∃ v bs,vs[i]?=some v/\Xr h v d bs
 | _,_,_,_,_,.nil,e=>by simp at e
 | _,_,_,0,_,.cons r _,e=>by simp at e;subst e;exact ⟨_,_,rfl,r⟩
 | _,_,_,i+1,d,.cons _ t,e=>by
  obtain ⟨v,bs,h1,h2⟩:=yw (i:=i) (d:=d) t (by simpa using e)
  exact ⟨v,bs,by simpa using h1,h2⟩
theorem JC:∀ {ds:List Ka} {i:Nat} {d:Ka},Kr ds=true->ds[i]?=some d->d.canLay0=true/\d.depth<=KI ds
 | [],_,_,_,e=>by simp at e
 | x::xs,0,d,h,e=>by
  have h':x.canLay0=true/\Kr xs=true:=by simpa [Kr] using h
  simp at e
  subst e
  exact ⟨h'.1,by rw [KI];exact EM _ _⟩
 | x::xs,i+1,d,h,e=>by
  have h':x.canLay0=true/\Kr xs=true:=by simpa [Kr] using h
  obtain ⟨h1,h2⟩:=JC (i:=i) (d:=d) h'.2 (by simpa using e)
  exact ⟨h1,Vs h2 (by rw [KI];exact Ez _ _)⟩
theorem wW {h:Kx}{k:Nat}(hk:k<2):∀ {vs:List Kb} {ds:List Ka} {as:List Ke},Up h vs ds as->(ds.all fun d=>keyD d==k)=true->∃ fs:List Kb,KatTups h vs fs/\fs.length=vs.length/\∀ (M:Model),∀ f∈fs,UV M h (typeOf f) (if k=0 then Vp "int" else Vp "tuple")
 | _,_,_,.nil,_=>⟨[],trivial,rfl,fun _ _ z=>nomatch z⟩
 | _,d::ds,_,.cons (d:=_) r t,e=>by
  rw [List.all_cons,Ks] at e
  obtain ⟨fs,h1,h2,h3⟩:=wW hk t e.2
  have e1:keyD d=k:=by simpa using e.1
  cases d with
  | tuple xs =>
   cases r with
   | @tuple a o its n xs' as' g1 g2 g3 g4 =>
    cases xs with
    | nil=>rw [show keyD (.tuple [])=3 from rfl] at e1;omega
    | cons x xs =>
     obtain ⟨v,rv,q1,rx⟩:=yw (i:=0) g4 rfl
     have h0:its[0]?=some v:=by rw [← Nx];exact q1
     refine ⟨v::fs,KatTups.cons g1 g2 g3 h0 h1,by rw [KC,KC,h2],fun M f hf=>?_⟩
     rcases Kk.mp hf with rfl|hf
     ·cases x with
      | int n =>
       cases rx
       rw [show keyD (.tuple (.int n::xs))=0 from rfl] at e1
       rw [if_pos e1.symm]
       exact Looks.of_pure rfl
      | tuple ys =>
       rw [show keyD (.tuple (.tuple ys::xs))=1 from rfl] at e1
       cases rx with
       | tuple k1 k2 k3 k4 =>
        rw [if_neg (by omega),← k2]
        exact (X1 k1).andThen .now
      | none=>rw [show keyD (.tuple (.none::xs))=3 from rfl] at e1;omega
      | bool _=>rw [show keyD (.tuple (.bool _::xs))=3 from rfl] at e1;omega
      | str _=>rw [show keyD (.tuple (.str _::xs))=3 from rfl] at e1;omega
      | list _=>rw [show keyD (.tuple (.list _::xs))=3 from rfl] at e1;omega
      | dict _=>rw [show keyD (.tuple (.dict _::xs))=3 from rfl] at e1;omega
     ·exact h3 M f hf
  | int n=>rw [show keyD (.int n)=2 from rfl] at e1;omega
  | none=>rw [show keyD .none=3 from rfl] at e1;omega
  | bool _=>rw [show keyD (.bool _)=3 from rfl] at e1;omega
  | str _=>rw [show keyD (.str _)=3 from rfl] at e1;omega
  | list _=>rw [show keyD (.list _)=3 from rfl] at e1;omega
  | dict _=>rw [show keyD (.dict _)=3 from rfl] at e1;omega
end
section
variable {h h':Kx}
mutual
theorem qfe (k:∀ b o,h.get? b=some o->h'.get? b=some o):∀ {d:Ka} {v:Kb} {as:List Ke},Xr h v d as->d.canLay0=true->Xr h' v d as
 | .none,_,_,r,_=>by cases r;exact .none
 | .bool _,_,_,r,_=>by cases r;exact .bool _
 | .int _,_,_,r,_=>by cases r;exact .int _ _
 | .str _,_,_,r,_=>by cases r;exact .str _ _
 | .list xs,_,_,r,c=>by
  cases r with
  | list e q g t=>exact .list (k _ _ e) q g (QZ k t (by simpa [KQ] using c))
 | .tuple xs,_,_,r,c=>by
  cases r with
  | tuple e q g t=>exact .tuple (k _ _ e) q g (QZ k t (by simpa [KQ] using c))
 | .dict _,_,_,_,c=>by simp [KQ] at c
theorem QZ (k:∀ b o,h.get? b=some o->h'.get? b=some o):∀ {ds:List Ka} {vs:List Kb} {as:List Ke},Up h vs ds as->Kr ds=true->Up h' vs ds as
 | [],_,_,r,_=>by cases r;exact .nil
 | d::ds,_,_,r,c=>by
  have c':d.canLay0=true/\Kr ds=true:=by simpa [Kr] using c
  cases r with
  | cons r t=>exact .cons (qfe k r c'.1) (QZ k t c'.2)
end
end
theorem qgr {x y:Ka}{r:Bool}(hx:keyD x<2)(e:ltX x y=some r):∃ xs ys,x=.tuple xs/\y=.tuple ys/\ltXs xs ys=some r:=by
 cases x with
 | tuple xs =>
  cases y with
  | tuple ys=>rw [ltX] at e;exact ⟨xs,ys,rfl,rfl,e⟩
  | _=>simp [ltX] at e
 | int n=>simp [keyD] at hx
 | list xs=>simp [keyD] at hx
 | _=>simp [ltX] at e
theorem W4 {k:Nat}{xs:List Ka}(e:keyD (.tuple xs)=k)(h0:k=0):∀ x,xs.head?=some x->∃ n,x=.int n:=by
 intro x hx
 cases xs with
 | nil=>cases hx
 | cons y ys =>
  cases hx
  cases x with
  | int n=>exact ⟨n,rfl⟩
  | _=>(first|(simp [keyD] at e;omega)|(simp only [keyD] at e;omega))
theorem getD_some {α:Type}{xs:List α}{i:Nat}{x d:α}(e:xs[i]?=some x):xs.getD i d=x:=by rw [V3,e];rfl
theorem ZJ {X:Cx}{k:Nat}(hr:Room k X.A):qbe X (.builtin "sorted") zb:=by
 intro pins s σ H xs us Q I r ⟨S,ds,d,m,h1,e,q⟩
 unfold zb at e
 split at e
 ·rename_i ds
  split at e
  ·rename_i hlt
   cases e
   obtain ⟨v,rfl,hv⟩:=h1.inv1
   obtain ⟨a,ys,rfl,hs,ht⟩:=hv.list_inv
   obtain ⟨u,rfl,ru⟩:=vals1 r
   cases (show u=KD a from ru)
   obtain ⟨its,rv,pl,hz⟩:=I.list hs.sq
   have hlen:=rv.length
   have hl2:=ht.length
   refine qbb pl.isList (by omega) ?_
   obtain ⟨en,ob⟩:=sortedAll_at s.heap its its.toArray
   have hfr:H (s.heap.objs.size+1)=none:=I.hok.fresh (UQ _)
   exact ⟨.ref (s.heap.objs.size+1),_,I.laid (t':=s.toks) (o:=.lst ys) (fun b o e=>sortedAll_old e) (UQ _) ⟨hz,_,en,rv,ob⟩,rfl,q _ _ (Same.lay hfr) hfr (OwnO.laid hfr ht)⟩
  split at e
  ·rename_i hok
   obtain ⟨p,e1,e2⟩:=qe e
   obtain ⟨v,rfl,hv⟩:=h1.inv1
   obtain ⟨a,ys,rfl,hs,ht⟩:=hv.list_inv
   obtain ⟨u,rfl,ru⟩:=vals1 r
   cases (show u=KD a from ru)
   obtain ⟨its,rv,pl,hz⟩:=I.list hs.sq
   obtain ⟨kk,hk2,hk⟩:∃ kk,kk<2/\Z4 kk ds=true:=hok.elim (fun z=>⟨0,by decide,z⟩) fun z=>⟨1,by decide,z⟩
   unfold Z4 at hk
   simp only [Ks,decide_eq_true_eq] at hk
   obtain ⟨hall,l2,l64,hcan,hdep⟩:=hk
   obtain ⟨as,ra⟩:=ht.reads I hcan rv
   have hlen:=yx ra
   unfold qb9 at e2
   split at e2
   ·rename_i hin
    cases e2
    have hin':∀ i∈p.toList,i<ds.length:=fun i hi=>by
     have:=Kz.mp hin.1 i hi
     simpa using this
    have hu:=hr.units
    obtain ⟨T,hT⟩:∃ T,T=(if kk=0 then Vp "int" else Vp "tuple"):=⟨_,rfl⟩
    have hT2:(T==T)=true:=by rw [hT];split<;>rfl
    have hb:(T != Vp "tuple")=true->kk=0:=fun z=>by
     rw [hT] at z
     by_cases h0:kk=0
     ·exact h0
     ·rw [if_neg h0] at z;exact absurd z (by decide)
    refine qba (κ:=tuples' (T != Vp "tuple")) (p:=p) pl.isList (by omega) (by omega) (fun s' Q' keep q'=>?_) (fun s' G keep g=>?_) ?_
    ·obtain ⟨fs,t1,t2,t3⟩:=wW hk2 (QZ keep ra hcan) hall
     exact kat_kind t1 (by omega) (fun f hf=>by rw [hT];exact t3 _ f hf) hT2 q'
    ·have ra':=QZ keep ra hcan
     rw [hlen]
     refine qeg (fun i j b C el hC=>?_) _ p e1 g
     unfold qbT at el
     split at el
     ·rename_i x y ex ey
      obtain ⟨vx,bx,gx,rx⟩:=yw ra' ex
      obtain ⟨vy,byy,gy,ry⟩:=yw ra' ey
      obtain ⟨cx,dx⟩:=JC hcan ex
      obtain ⟨cy,dy⟩:=JC hcan ey
      have kx:keyD x=kk:=by
       have:=Kz.mp hall x (Ve ex)
       simpa using this
      have ky:keyD y=kk:=by
       have:=Kz.mp hall y (Ve ey)
       simpa using this
      obtain ⟨xs,ys',rfl,rfl,elx⟩:=qgr (by omega) el
      show kas_ask X.prog X.w X.A.in1.in1 _ its i j C s'
      unfold kas_ask
      rw [getD_some gx,getD_some gy]
      cases rx with
      | @tuple ax ox ax1 nx _ _ x1 x2 x3 x4 =>
       cases ry with
       | @tuple ay oy ay1 ny _ _ y1 y2 y3 y4 =>
        have dxs:KI xs<=50:=by rw [Uz] at dx;omega
        refine kat_lt x1 x3 y1 y3 (qaX (m:=50) (by show X.A.units+1+1+50+1<cLine;omega) hC xs ys' _ _ _ _ 0 dxs x4 y4 (by simpa [KQ] using cx) (by simpa [KQ] using cy) elx (fun hbb _ x y hx hy=>?_) ?_)
        ·have h0:=hb hbb
         obtain ⟨n1,rfl⟩:=W4 kx h0 x hx
         obtain ⟨n2,rfl⟩:=W4 ky h0 y hy
         exact ⟨n1,n2,rfl,rfl⟩
        ·have z1:=yx x4
         have z2:=yx y4
         rw [K0] at z1 z2
         rw [z1,z2]
     ·cases el
    ·obtain ⟨en,ob⟩:=sortedAll_at s.heap its (p.toList.map fun i=>its.getD i K5).toArray
     have hfr:H (s.heap.objs.size+1)=none:=I.hok.fresh (UQ _)
     have dl:DenL X.K H S (p.toList.map fun i=>ys.getD i .non) (p.toList.map fun i=>ds.getD i .none):=by
      generalize p.toList=pl at hin'
      induction pl with
      | nil=>exact .nil
      | cons i pl ih =>
       have hi:=hin' i (.head _)
       obtain ⟨vy,gy,dy⟩:=ht.get (Kq hi)
       rw [Km,Km,getD_some gy,getD_some (Kq hi)]
       exact .cons dy (ih fun j hj=>hin' j (.tail _ hj))
     have vl:Vals (p.toList.map fun i=>ys.getD i .non) (p.toList.map fun i=>its.getD i K5):=by
      generalize p.toList=pl at hin'
      induction pl with
      | nil=>exact .nil
      | cons i pl ih =>
       have hi:i<ys.length:=by rw [ht.length];exact hin' i (.head _)
       obtain ⟨w,gw,rw'⟩:=rv.get (Kq hi)
       rw [Km,Km,getD_some (Kq hi),getD_some gw]
       exact .cons rw' (ih fun j hj=>hin' j (.tail _ hj))
     have zz:(p.toList.map fun i=>ys.getD i V.non).length<=sizeLine:=by rw [Kj];exact VM (zA hin.2)
     refine ⟨.ref (s.heap.objs.size+1),_,I.laid (t':=s.toks) (o:=.lst (p.toList.map fun i=>ys.getD i .non)) (fun b o e=>sortedAll_old e) (UQ _) ⟨zz,_,en,vl,ob⟩,rfl,q _ _ (Same.lay hfr) hfr (OwnO.laid hfr dl)⟩
   ·cases e2
  ·cases e
 ·cases e
end L2
namespace L2
open PySem PySem.Spec PyProof.Rows
def yH (K:Kd)(mg:Str->Option Kb)(x:Str)(d:Ka):Prop:=∃ v u,mg x=some u/\RelV v u/\∀ H S,Den K H S v d
theorem Wa {X:Cx}{M:List Nat}{x:Str}{d:Ka}{pos:Pos}(C:yH X.K X.mg x d)(hg:Gl X x)(hdb:(x==("__debug__" : Str))=false:=by decide +kernel):PD X M (.Name x pos) (kd d):=by
 obtain ⟨v,u,m,r,hd⟩:=C
 exact qiC hg m r hd hdb
end L2
namespace L2
open PySem
theorem zZ:bootBuiltins "sorted" = some (.builtin "sorted"):=by decide +kernel
end L2
namespace L2
open PySem PySem.Spec PyProof.Rows
theorem ob_s {α β:Type}(x:α)(f:α->Option β):ob (some x) f=f x:=rfl
theorem vr_z (o:Option Ka)(ρ:Rho):vr 0 (o::ρ)=o:=rfl
theorem vr_s (n:Nat)(o:Option Ka)(ρ:Rho):vr (n+1) (o::ρ)=vr n ρ:=rfl
theorem atI0 {α:Type}(x:α)(xs:List α):atI (x::xs) 0=some x:=by simp [atI,ixN]
theorem jU {α:Type}(x:α)(xs:List α)(k:Nat):atI (x::xs) ((k:Int)+1)=atI xs (k:Int):=by
 unfold atI ixN
 have h1:(0:Int)<=(k:Int)+1:=by omega
 have h2:(0:Int)<=(k:Int):=by omega
 rw [if_pos h1,if_pos h2]
 by_cases h:(k:Int)<xs.length
 ·have h':(k:Int)+1<((x::xs).length:Int):=by rw [KC];omega
  rw [if_pos h,if_pos h']
  have e1:((k:Int)+1).toNat=k+1:=by omega
  have e2:(k:Int).toNat=k:=by omega
  rw [e1,e2]
  rfl
 ·have h':¬ (k:Int)+1<((x::xs).length:Int):=by rw [KC];omega
  rw [if_neg h,if_neg h']
  rfl
theorem atI1 {α:Type}(x y:α)(xs:List α):atI (x::y::xs) 1=some y:=(jU x (y::xs) 0).trans (atI0 y xs)
theorem atI2 {α:Type}(x y z:α)(xs:List α):atI (x::y::z::xs) 2=some z:=(jU x (y::z::xs) 1).trans (atI1 y z xs)
theorem atI3 {α:Type}(x y z a:α)(xs:List α):atI (x::y::z::a::xs) 3=some a:=(jU x (y::z::a::xs) 2).trans (atI2 y z a xs)
theorem atI4 {α:Type}(x y z a b:α)(xs:List α):atI (x::y::z::a::b::xs) 4=some b:=(jU x (y::z::a::b::xs) 3).trans (atI3 y z a b xs)
theorem atI5 {α:Type}(x y z a b c:α)(xs:List α):atI (x::y::z::a::b::c::xs) 5=some c:=(jU x (y::z::a::b::c::xs) 4).trans (atI4 y z a b c xs)
theorem Qn {i j:Int}(h:NP i j):mulD (.int i) (.int j)=some (.int (i*j)):=by
 show (if NP i j then some (KU (i*j)) else none)=_
 rw [if_pos h]
def Bd (n:Nat)(i:Int):Prop:=V9 i<=n
theorem Bd.ok {n m:Nat}{i j:Int}(h:Bd n i)(g:Bd m j)(e:n+m<=134217728:=by decide):NP i j:=IntMulOk.of_le h g e
theorem Bd.of {n:Nat}{i:Int}(h:i.natAbs<2 ^ n):Bd n i:=Xa.mpr h
theorem natLit (n:Nat):((no_index (OfNat.ofNat n):Nat):Int)=(OfNat.ofNat n:Int):=rfl
theorem qhM (i j:Int):eqD (.int i) (.int j)=some (.bool (i==j)):=rfl
theorem qin (i j:Int):neD (.int i) (.int j)=some (.bool (!(i==j))):=rfl
theorem pow_a:powD (.int 7919) (.int 8)=some (.int (7919 ^ 8)):=rfl
theorem pow_b:powD (.int 10) (.int 30)=some (.int (10 ^ 30)):=rfl
theorem qdT (i:Int){j:Int}(h:0<j):modD (.int i) (.int j)=some (.int (i % j)):=by
 show (if 0<j then some (KU (i % j)) else none)=_
 rw [if_pos h]
theorem qfX (i:Int){j:Int}(h:0<j)(h2:j<1073741824):QB (.int i) (.int j)=some (.int (i / j)):=by
 show (if CDiv i j then some (KU (i / j)) else none)=_
 rw [if_pos ⟨h,h2⟩]
def wu (o:Option Out)(w:Rho->Option Out):Option Out:=match o with | some (.nx ρ')=>w ρ'|o=>o
theorem qg6 (u w:Rho->Option Out)(ρ:Rho):seqO u w ρ=wu (u ρ) w:=by
 unfold seqO ob wu
 cases u ρ with
 | none=>rfl
 | some o=>cases o<;>rfl
theorem qbg (ρ:Rho)(w:Rho->Option Out):wu (some (.nx ρ)) w=w ρ:=rfl
theorem qfB (d:Ka)(w:Rho->Option Out):wu (some (.rt d)) w=some (.rt d):=rfl
theorem qfz (ρ:Rho)(w:Rho->Option Out):wu (some (.bk ρ)) w=some (.bk ρ):=rfl
theorem qfA (ρ:Rho)(w:Rho->Option Out):wu (some (.ct ρ)) w=some (.ct ρ):=rfl
def ifO {α:Type}(b:Option Bool)(u w:Rho->Option α)(ρ:Rho):Option α:=match b with | some true=>u ρ|some false=>w ρ|none=>none
theorem ifO_t {α:Type}(u w:Rho->Option α)(ρ:Rho):ifO (some true) u w ρ=u ρ:=rfl
theorem ifO_f {α:Type}(u w:Rho->Option α)(ρ:Rho):ifO (some false) u w ρ=w ρ:=rfl
theorem qju (p:Rho->Option Bool)(u w:Rho->Option Out)(ρ:Rho):sIf p u w ρ=ifO (p ρ) u w ρ:=by
 unfold sIf ob ifO
 cases p ρ with
 | none=>rfl
 | some b=>cases b<;>rfl
theorem vIf_b (p:Rho->Option Bool)(u w:Rho->Option Ka)(ρ:Rho):vIf p u w ρ=ifO (p ρ) u w ρ:=by
 unfold vIf ob ifO
 cases p ρ with
 | none=>rfl
 | some b=>cases b<;>rfl
theorem tA_b (p q:Rho->Option Bool)(ρ:Rho):tA p q ρ=ifO (p ρ) q (fun _=>some false) ρ:=by
 unfold tA ob ifO
 cases p ρ with
 | none=>rfl
 | some b=>cases b<;>rfl
theorem tO_b (p q:Rho->Option Bool)(ρ:Rho):tO p q ρ=ifO (p ρ) (fun _=>some true) q ρ:=by
 unfold tO ob ifO
 cases p ρ with
 | none=>rfl
 | some b=>cases b<;>rfl
theorem vA_b (f g:Rho->Option Ka)(ρ:Rho):vA f g ρ=ifO (ob (f ρ) Jw) g (fun _=>some (.bool false)) ρ:=by
 unfold vA ob ifO
 cases f ρ with
 | none=>rfl
 | some x =>
  dsimp only
  cases Jw x with
  | none=>rfl
  | some b=>cases b<;>rfl
theorem vO_b (f g:Rho->Option Ka)(ρ:Rho):vO f g ρ=ifO (ob (f ρ) Jw) (fun _=>some (.bool true)) g ρ:=by
 unfold vO ob ifO
 cases f ρ with
 | none=>rfl
 | some x =>
  dsimp only
  cases Jw x with
  | none=>rfl
  | some b=>cases b<;>rfl
def setO (o:Option Ka)(i:Nat)(ρ:Rho):Option Out:=match o with | some d=>some (.nx (ρ.set i (some d)))|none=>none
theorem qkP (i:Nat)(f:Rho->Option Ka)(ρ:Rho):sSet i f ρ=setO (f ρ) i ρ:=by
 unfold sSet ob setO
 cases f ρ<;>rfl
theorem qkU (d:Ka)(i:Nat)(ρ:Rho):setO (some d) i ρ=some (.nx (ρ.set i (some d))):=rfl
def binO (a b:Option Ka)(g:Ka->Ka->Option Ka):Option Ka:=match a,b with | some x,some y=>g x y|_,_=>none
theorem ev2_b (fa fb:Rho->Option Ka)(g:Ka->Ka->Option Ka)(ρ:Rho):ev2 fa fb g ρ=binO (fa ρ) (fb ρ) g:=by
 unfold ev2 ob binO
 cases fa ρ<;>cases fb ρ<;>rfl
theorem qjF (x y:Ka)(g:Ka->Ka->Option Ka):binO (some x) (some y) g=g x y:=rfl
def Jx (a:Option Ka)(b:Option (List Ka)):Option (List Ka):=match a,b with | some x,some xs=>some (x::xs)|_,_=>none
theorem aC_b (fa:Rho->Option Ka)(fs:Rho->Option (List Ka))(ρ:Rho):aC fa fs ρ=Jx (fa ρ) (fs ρ):=by
 unfold aC ob Jx
 cases fa ρ<;>cases fs ρ<;>rfl
theorem qhC (x:Ka)(xs:List Ka):Jx (some x) (some xs)=some (x::xs):=rfl
def qfE (n:Nat)(a:Option (List Ka))(h:List Ka->Option Ka):Option Ka:=match a with | some ds=>if ds.length=n then h ds else none|none=>none
theorem evC_b (n:Nat)(fs:Rho->Option (List Ka))(h:List Ka->Option Ka)(ρ:Rho):evC n fs h ρ=qfE n (fs ρ) h:=by
 unfold evC ob qfE
 cases fs ρ<;>rfl
theorem qhs (n:Nat)(ds:List Ka)(h:List Ka->Option Ka):qfE n (some ds) h=if ds.length=n then h ds else none:=rfl
def qdp (b:Option Bool)(tt:Rho->Option Bool)(te:Rho->Option Ka)(ρ:Rho)(d:Ka)(ds:List Ka):Option (List Ka):=match b with | some true=>Jx (te (ρ++[some d])) (Qp tt te ρ ds)|some false=>Qp tt te ρ ds|none=>none
theorem qdo (tt:Rho->Option Bool)(te:Rho->Option Ka)(ρ:Rho)(d:Ka)(ds:List Ka):Qp tt te ρ (d::ds)=qdp (tt (ρ++[some d])) tt te ρ d ds:=by
 rw [Qp]
 unfold ob qdp Jx
 cases tt (ρ++[some d]) with
 | none=>rfl
 | some b =>
  cases b with
  | false=>rfl
  | true =>
   dsimp only [if_true]
   rw [if_pos rfl]
   cases te (ρ++[some d])<;>cases Qp tt te ρ ds<;>rfl
theorem qhy (tt:Rho->Option Bool)(te:Rho->Option Ka)(ρ:Rho):Qp tt te ρ []=some []:=rfl
theorem qdr (tt:Rho->Option Bool)(te:Rho->Option Ka)(ρ:Rho)(d:Ka)(ds:List Ka):qdp (some true) tt te ρ d ds=Jx (te (ρ++[some d])) (Qp tt te ρ ds):=rfl
theorem qdq (tt:Rho->Option Bool)(te:Rho->Option Ka)(ρ:Rho)(d:Ka)(ds:List Ka):qdp (some false) tt te ρ d ds=Qp tt te ρ ds:=rfl
def wY (a:Option (List Ka)):Option Ka:=match a with | some ys=>some (.list ys)|none=>none
def qfM (a:Option (List Ka))(n:Nat)(tt:Rho->Option Bool)(te:Rho->Option Ka)(ρ:Rho):Option Ka:=match a with | some ds=>if ρ.length=n/\ds.length<=1000 then wY (Qp tt te ρ ds) else none|none=>none
theorem qhA (n:Nat)(fi:Rho->Option (List Ka))(tt:Rho->Option Bool)(te:Rho->Option Ka)(ρ:Rho):Qg n fi tt te ρ=qfM (fi ρ) n tt te ρ:=by
 unfold Qg ob qfM wY
 cases fi ρ with
 | none=>rfl
 | some ds =>
  dsimp only
  split
  ·cases Qp tt te ρ ds<;>rfl
  ·rfl
theorem qhw (ds:List Ka)(n:Nat)(tt:Rho->Option Bool)(te:Rho->Option Ka)(ρ:Rho):qfM (some ds) n tt te ρ=if ρ.length=n/\ds.length<=1000 then wY (Qp tt te ρ ds) else none:=rfl
theorem qii (ds:List Ka):wY (some ds)=some (.list ds):=rfl
def forI (a:Option (List Ka))(g:Ka->Rho->Option Rho)(u:Rho->Option Out)(ρ:Rho):Option Out:=match a with | some ds=>forD g u ds ρ|none=>none
theorem qg3 (fi:Rho->Option (List Ka))(g:Ka->Rho->Option Rho)(u:Rho->Option Out)(ρ:Rho):sFor fi g u ρ=forI (fi ρ) g u ρ:=by
 unfold sFor ob forI
 cases fi ρ<;>rfl
theorem qf2 (ds:List Ka)(g:Ka->Rho->Option Rho)(u:Rho->Option Out)(ρ:Rho):forI (some ds) g u ρ=forD g u ds ρ:=rfl
def forO (o:Option Out)(g:Ka->Rho->Option Rho)(u:Rho->Option Out)(ds:List Ka):Option Out:=match o with
 | some (.nx ρ')=>forD g u ds ρ'
 | some (.ct ρ')=>forD g u ds ρ'
 | some (.bk ρ')=>some (.nx ρ')
 | some (.rt r)=>some (.rt r)
 | none=>none
theorem qf1 (g:Ka->Rho->Option Rho)(u:Rho->Option Out)(d:Ka)(ds:List Ka)(ρ:Rho):forD g u (d::ds) ρ=forO (ob (g d ρ) u) g u ds:=by
 rw [forD]
 unfold ob forO
 cases g d ρ with
 | none=>rfl
 | some ρ1 =>
  dsimp only
  cases u ρ1 with
  | none=>rfl
  | some o=>cases o<;>rfl
theorem qjN (g:Ka->Rho->Option Rho)(u:Rho->Option Out)(ρ:Rho):forD g u [] ρ=some (.nx ρ):=rfl
theorem qdC (ρ:Rho)(g:Ka->Rho->Option Rho)(u:Rho->Option Out)(ds:List Ka):forO (some (.nx ρ)) g u ds=forD g u ds ρ:=rfl
theorem qhX (ρ:Rho)(g:Ka->Rho->Option Rho)(u:Rho->Option Out)(ds:List Ka):forO (some (.ct ρ)) g u ds=forD g u ds ρ:=rfl
theorem qhW (ρ:Rho)(g:Ka->Rho->Option Rho)(u:Rho->Option Out)(ds:List Ka):forO (some (.bk ρ)) g u ds=some (.nx ρ):=rfl
theorem qhY (d:Ka)(g:Ka->Rho->Option Rho)(u:Rho->Option Out)(ds:List Ka):forO (some (.rt d)) g u ds=some (.rt d):=rfl
def nxO (o:Option Rho):Option Out:=match o with | some ρ=>some (.nx ρ)|none=>none
def retO (o:Option Ka):Option Out:=match o with | some d=>some (.rt d)|none=>none
theorem qkO (f:Rho->Option Ka)(ρ:Rho):sRet f ρ=retO (f ρ):=by
 unfold sRet ob retO
 cases f ρ<;>rfl
theorem qkJ (d:Ka):retO (some d)=some (.rt d):=rfl
theorem gsN_n (ρ:Rho):gsN [] ρ=some ρ:=rfl
theorem gsC_c (g1:Ka->Rho->Option Rho)(g2:List Ka->Rho->Option Rho)(d:Ka)(r:List Ka)(ρ:Rho):gsC g1 g2 (d::r) ρ=ob (g1 d ρ) (g2 r):=rfl
theorem qk8 (n:Nat)(g:List Ka->Rho->Option Rho)(ds:List Ka)(ρ:Rho):unpD n g (.tuple ds) ρ=if ds.length=n then g ds ρ else none:=rfl
theorem qkR (ds:List Ka):seqD (.list ds)=some ds:=rfl
theorem qkS (ds:List Ka):seqD (.tuple ds)=some ds:=rfl
theorem ixD_l (ds:List Ka)(i:Int):ixD (.list ds) (.int i)=atI ds i:=rfl
theorem ixD_t (ds:List Ka)(i:Int):ixD (.tuple ds) (.int i)=atI ds i:=rfl
theorem qj6 (ds:List Ka):lenD [.list ds]=some (.int ds.length):=rfl
theorem qj7 (ds:List Ka):lenD [.tuple ds]=some (.int ds.length):=rfl
theorem qhg (ds:List Ka):qY [.list ds]=some (.tuple ds):=rfl
theorem qhh (ds:List Ka):qY [.tuple ds]=some (.tuple ds):=rfl
theorem qig (ds:List Ka):QM [.list ds]=some (.list ds):=rfl
theorem qih (ds:List Ka):QM [.tuple ds]=some (.list ds):=rfl
theorem qhr (b:Bool):Jw (.bool b)=some b:=rfl
theorem qkp (d:Ka):outD (.rt d)=some d:=rfl
theorem qko (ρ:Rho):outD (.nx ρ)=some .none:=rfl
theorem qjx (i j:Int):qda (.int i) (.int j)=some (.int (i+j)):=rfl
def takO (b:Bool)(o:Option Ka)(i:Nat)(ρ:Rho):Option Out:=match b,o with | true,some d=>some (.nx (ρ.set i (some d)))|_,_=>none
theorem qi1 (i:Nat)(f:Rho->Option Ka)(ρ:Rho):q8 i f ρ=takO (decide (i<ρ.length)) (f ρ) i ρ:=by
 unfold q8 ob takO
 by_cases h:i<ρ.length
 ·rw [if_pos h,decide_eq_true h]
  cases f ρ<;>rfl
 ·rw [if_neg h,decide_eq_false h]
theorem qk3 (d:Ka)(i:Nat)(ρ:Rho):takO true (some d) i ρ=some (.nx (ρ.set i (some d))):=rfl
def flaO (o:Option Ka):Option Ka:=match o with | some d=>if flat d=true then some d else none|none=>none
theorem qhS (f:Rho->Option Ka)(ρ:Rho):qQ f ρ=flaO (f ρ):=by
 unfold qQ ob flaO
 cases f ρ<;>rfl
theorem qjK (d:Ka):flaO (some d)=if flat d=true then some d else none:=rfl
def flgO (o:Option Ka):Option Ka:=match o with | some d=>if WY d=true then some d else none|none=>none
theorem qhT (f:Rho->Option Ka)(ρ:Rho):Yr f ρ=flgO (f ρ):=by
 unfold Yr ob flgO
 cases f ρ<;>rfl
theorem qjL (d:Ka):flgO (some d)=if WY d=true then some d else none:=rfl
def appO (l d:Option Ka)(i:Nat)(ρ:Rho):Option Out:=match l,d with | some x,some y=>setO (appD x y) i ρ|_,_=>none
theorem qkL (i:Nat)(f:Rho->Option Ka)(ρ:Rho):sApp i f ρ=appO (vr i ρ) (f ρ) i ρ:=by
 unfold sApp ob appO setO
 cases vr i ρ with
 | none=>rfl
 | some x =>
  cases f ρ with
  | none=>rfl
  | some y=>dsimp only;cases appD x y<;>rfl
theorem qjA (x y:Ka)(i:Nat)(ρ:Rho):appO (some x) (some y) i ρ=setO (appD x y) i ρ:=rfl
theorem qjz (ds:List Ka)(d:Ka):appD (.list ds) d=if ds.length<1000 then some (.list (ds++[d])) else none:=rfl
theorem isD_n (x:Ka):isD x .none=some (.bool (isNone x)):=by cases x<;>rfl
theorem qjY (x:Ka):isnD x .none=some (.bool (!isNone x)):=by cases x<;>rfl
theorem isD_b (b c:Bool):isD (.bool b) (.bool c)=some (.bool (b==c)):=rfl
theorem qjX (b c:Bool):isnD (.bool b) (.bool c)=some (.bool (!(b==c))):=rfl
def sliO (a:Option Ka)(l h:Option (Option Int)):Option Ka:=match a,l,h with | some x,some l,some h=>sliD x l h|_,_,_=>none
theorem evS_b (fa:Rho->Option Ka)(fl fh:Rho->Option (Option Int))(ρ:Rho):evS fa fl fh ρ=sliO (fa ρ) (fl ρ) (fh ρ):=by
 unfold evS ob sliO
 cases fa ρ<;>cases fl ρ<;>cases fh ρ<;>rfl
theorem qkY (x:Ka)(l h:Option Int):sliO (some x) (some l) (some h)=sliD x l h:=rfl
def prtO (a:Option Ka):Option (Option Int):=match a with | some (.int i)=>some (some i)|_=>none
theorem oS_b (f:Rho->Option Ka)(ρ:Rho):oS f ρ=prtO (f ρ):=by
 unfold oS ob prtO
 cases f ρ with
 | none=>rfl
 | some d=>cases d<;>rfl
theorem qkB (i:Int):prtO (some (.int i))=some (some i):=rfl
theorem qk0 (i j:Int):subD (.int i) (.int j)=some (.int (i-j)):=rfl
theorem qkb (i:Int):negD (.int i)=some (.int (-i)):=rfl
theorem qj8 (i j:Int):ltD2 (.int i) (.int j)=some (.bool (decide (i<j))):=by
 show (if _ then ob (ltX (.int i) (.int j)) _ else none)=_
 rw [if_pos ⟨rfl,rfl,Vc 60⟩,ltX]
 rfl
theorem gtD_i (i j:Int):gtD (.int i) (.int j)=some (.bool (decide (j<i))):=rfl
theorem qjW (T:String)(ds:List Ka):isiT T (.tuple ds)=(T == "tuple" || T == "object"):=rfl
theorem qjT (T:String)(ds:List Ka):isiT T (.list ds)=(T == "list" || T == "object"):=rfl
theorem qjS (T:String)(i:Int):isiT T (.int i)=(T == "int" || T == "object"):=rfl
theorem qjR (T:String)(b:Bool):isiT T (.bool b)=(T == "bool" || T == "int" || T == "object"):=rfl
theorem qjV (T:String)(x:Str):isiT T (.str x)=(T == "str" || T == "object"):=rfl
theorem qjU (T:String):isiT T .none=(T == "NoneType" || T == "object"):=rfl
theorem qiY (j:Int):ZZ [.int j]=if -1000<=j/\j<=1000 then some (rngL 0 j.toNat) else none:=rfl
section
variable {X:Cx}{G:Gm}{M M' Mb L:List Nat}{fr:Fr}{a b c:Kw}{es:List Kw}{f fk g:Rho->Option Ka}{pos:Pos}{u:Rho->Option Out}
theorem DenL.set {K:Kd}{H:Hp}{S:Av}:∀ {vs:List V} {ds:List Ka} {v:V} {d:Ka} (j:Nat),DenL K H S vs ds->Den K H S v d->DenL K H S (vs.set j v) (ds.set j d)
 | _,_,_,_,_,.nil,_=>.nil
 | _,_,_,_,0,.cons _ t,q=>.cons q t
 | _,_,_,_,j+1,.cons h t,q=>.cons h (t.set j q)
def setD:Ka->Ka->Ka->Option Ka
 | .list ds,.int k,d=>ob (ixN ds.length k) fun j=>some (.list (ds.set j d))
 | _,_,_=>none
def sPut (i:Nat)(fk f:Rho->Option Ka):Rho->Option Out:=fun ρ=>ob (f ρ) fun d=>ob (vr i ρ) fun l=>ob (fk ρ) fun k=>ob (setD l k d) fun l'=>some (.nx (ρ.set i (some l')))
theorem qfh {l k d l':Ka}(e:setD l k d=some l'):∃ ds n j,l=.list ds/\k=.int n/\ixN ds.length n=some j/\l'=.list (ds.set j d):=by
 unfold setD at e
 split at e
 ·obtain ⟨j,e1,e⟩:=qe e
  cases e
  exact ⟨_,_,j,rfl,rfl,e1,rfl⟩
 ·cases e
theorem j7 (i:Nat){x:Str}{px sp:Pos}(hv:Vis X.env.scope x)(hM:Flt M i)(hL:i∉L)(hk:PD X [] b fk)(he:PD X [] a f)(hN:X.N[i]?=some x:=by rfl)(hd:(x==("__debug__" : Str))=false:=by decide +kernel)(hcd:(x==("__classdict__" : Str))=false:=by decide +kernel)
  (ha:∀ v,assign (.Subscript (.Name x px) b sp) X.env v=(do
   let ov ← holding [v] (eval (.Name x px) X.env)
   let iv ← holding [v,ov] (eval b X.env)
   standAt sp
   holding [v,ov,iv] (setItem ov iv v)
   release [v,ov,iv] []):=by intro _;rfl)
  (hs:swapsWithSole [.Subscript (.Name x px) b sp] a pos.line X.env=pure false:=by rfl) (hw:swappedStores [.Subscript (.Name x px) b sp] a X.env=pure none:=by rfl)
  (h1:(assignEach [.Subscript (.Name x px) b sp] X.env).map (·.2)=[assign (.Subscript (.Name x px) b sp) X.env]:=by rfl) :
  PDS X G M L M Mb fr (.Assign [.Subscript (.Name x px) b sp] a pos) (sPut i fk (qQ f)) :=
 (qcY he (qcW (yZ i hv hN hd hcd) hk set_list ha) hs hw h1).weak fun D σ H ⟨S,ρ,o,os,e,q⟩=>by
  obtain ⟨d,e1,e⟩:=qe e
  obtain ⟨l,e2,e⟩:=qe e
  obtain ⟨k,e3,e⟩:=qe e
  obtain ⟨l',e4,e⟩:=qe e
  cases e
  obtain ⟨ds,n,j,rfl,rfl,ej,rfl⟩:=qfh e4
  obtain ⟨d',e5,e6⟩:=qe e1
  have hf:flat d'=true/\d'=d:=by
   split at e6
   ·rename_i hf;cases e6;exact ⟨hf,rfl⟩
   ·cases e6
  obtain ⟨hf,rfl⟩:=hf
  refine ⟨G.S0,ρ,d',os.den,e5,fun v H1 g1 d1'=>?_⟩
  have d1:Den X.K H1 S v d':=d1'.flat hf
  have os1:=os.same g1
  obtain ⟨pp,a1,b1,c1,n1,w1,_⟩:=os1.own i hM _ (QC e2)
  cases b1 with
  | @lst xs _ h t =>
   refine ⟨_,a1,G.S0,ρ,_,os1.den,e3,fun kv H2 g2 dk=>?_⟩
   have os2:=os1.same g2
   refine ⟨pp,xs,n,j,rfl,dk.int_inv,g2 _ _ h,by rw [t.length];exact ej,?_⟩
   exact q _ _ _ (os2.write hM hL (QC e2) a1 rfl (.lst qF (((t.same g2).set j (d1.same g2)).off os2.ds.1 (Off.upd c1))))
end
end L2
namespace L2
open PySem
def putO (d l k:Option Ka)(i:Nat)(ρ:Rho):Option Out:=match d,l,k with | some d,some l,some k=>setO (setD l k d) i ρ|_,_,_=>none
theorem qkN (i:Nat)(fk f:Rho->Option Ka)(ρ:Rho):sPut i fk f ρ=putO (f ρ) (vr i ρ) (fk ρ) i ρ:=by
 unfold sPut ob putO setO
 cases f ρ with
 | none=>rfl
 | some d =>
  cases vr i ρ with
  | none=>rfl
  | some l =>
   cases fk ρ with
   | none=>rfl
   | some k=>dsimp only;cases setD l k d<;>rfl
theorem qkF (d l k:Ka)(i:Nat)(ρ:Rho):putO (some d) (some l) (some k) i ρ=setO (setD l k d) i ρ:=rfl
theorem qkT (ds:List Ka)(k:Int)(d:Ka):setD (.list ds) (.int k) d=ob (ixN ds.length k) fun j=>some (.list (ds.set j d)):=rfl
end L2
namespace L2
open PySem PySem.Spec PyProof.Rows
section
variable {X:Cx}
theorem qeq:bootBuiltins "min" = some (.builtin "min"):=by decide +kernel
end
def Zi (l x:Ka):Option Ka:=match l with
 | .list ds=>if inOk ds x=true/\ds.length<=1000 then ob (ds.findIdx? fun y=>KP y x) fun j=>some (.int (j:Nat)) else none
 | _=>none
section
variable {X:Cx}{G:Gm}{M M' Mb L:List Nat}{fr:Fr}{a b c:Kw}{es:List Kw}{f fk g:Rho->Option Ka}{pos:Pos}{u:Rho->Option Out}
def qiX (K:Kd):V->List V->Hp->VK->Prop:=fun x vs H Q=>∃ S dx y dy d,vs=[y]/\Den K H S x dx/\Den K H S y dy/\Zi dx dy=some d/\Dm S H/\∀ v H',Same H H'->Den K H' S v d->Q v H'
theorem qgv {k:Nat}(hr:Room k X.A):MtR X "list.index" (qiX X.K):=by
 intro pins s σ H x vs v us Q I rx rv h
 obtain ⟨S,dx,y,dy,d,rfl,h1,h2,e,m,q⟩:=h
 obtain ⟨u,rfl,ru⟩:=rv.one
 unfold Zi at e
 split at e
 ·rename_i ds
  split at e
  ·rename_i hc
   obtain ⟨⟨c1,c2,c3⟩,hz⟩:=And.intro (ZG hc.1) hc.2
   obtain ⟨j,ej,e⟩:=qe e
   cases e
   obtain ⟨bs,q2⟩:=h2.reads I c2 ru
   obtain ⟨as,q1⟩:=h1.reads I (by rw [KQ];exact c1) rx
   obtain ⟨a,xs,rfl,hsq,ht⟩:=h1.list_inv
   cases (show v=KD a from rx)
   cases q1 with
   | @list _ o items n _ _ g1 g2 g3 g4 =>
    obtain ⟨cls,dd,data,sl⟩:=o
    simp only at g2 g3
    subst g2 g3
    have hm:=SeqAt.readsAll_map _ _ _ c1 g4
    obtain ⟨hj,hp,hno⟩:=List.findIdx?_eq_some_iff_getElem.mp ej
    have hlen:items.size=ds.length:=by
     have:=congrArg Xv hm
     simpa using this
    have hat:∀ i (h:i<items.size),SeqAt.readOf s.heap items[i]=ds[i]'(by omega):=fun i h=>by
     have:=congrArg (fun l=>l[i]?) hm
     simp only [Vb] at this
     rw [Kq (by simpa using h),Kq (by omega)] at this
     simpa using this
    refine call_meets EE ⟨_,g1,rfl⟩ PySem.F.entry_list_index (PySem.F.args_list_index_2 _ _) (SeqAt.list_indexAt a items n dd sl u (fun y=>KP (SeqAt.readOf s.heap y) dy) j (by omega) (by omega) ?_ ?_) ⟨g1,SeqAt.items_eqAt g4 q2 c1 c2 (yh c3 hr.units),?_⟩
    ·rw [hat j (by omega)];exact hp
    ·intro i hi hij
     rw [hat i hi]
     simpa using hno i hij
    ·exact ⟨.int j,H,I.tok _,⟨_,rfl⟩,q _ H (Same.refl H) (.int _)⟩
  ·cases e
 ·cases e
theorem qb2 {k:Nat}{o:Kw}{apos cpos:Pos}(hr:Room k X.A)(ho:PD X M o f)(he:PD X M a g)
  (hbase:attributeBase o "index" X.env (eval o X.env)=eval o X.env:=by rfl)
  (hfew:((backTo cpos (starEach [a] X.env)).all (fun x=>!x.1)&&(backToKw cpos (keywordEach [] X.env)).all (fun x=>x.1.isSome)
   && decide ([a].length+([]:List U6).length+(if ([]:List U6).isEmpty then 0 else 1)<30))=true:=by rfl)
  (hline:(apos.endLine==cpos.line)=true:=by rfl) (hs:starEach [a] X.env=(false,eval a X.env)::starEach [] X.env:=by rfl) (hplain:(backTo cpos (starEach [] X.env)).any (·.1)=false:=by rfl) :
  PD X M (.Call (.Attribute o "index" apos) [a] [] cpos) (ev2 f g Zi) :=
 (qd8 Xl EE PySem.F.type_list_index (qgv hr) ho (qb he qi hs) hbase hfew hline hs hplain).weak fun σ H Q ⟨S,ρ,d,hs,e,q⟩=>by
  obtain ⟨dx,e1,e⟩:=qe e
  obtain ⟨dy,e2,e⟩:=qe e
  refine ⟨S,ρ,dx,hs,e1,fun v H1 g1 d1=>?_⟩
  have:∃ ds,dx=.list ds:=by
   unfold Zi at e
   split at e
   ·exact ⟨_,rfl⟩
   ·cases e
  obtain ⟨ds,rfl⟩:=this
  obtain ⟨p,xs,rfl,hsq,ht⟩:=d1.list_inv
  refine ⟨.inl ⟨rfl,_,hsq.sq⟩,S,ρ,[dy],hs.same g1,by show ob (g ρ) _=_;rw [e2];rfl,fun vs H2 g2 dl=>?_⟩
  obtain ⟨w,rfl,dw⟩:=dl.inv1
  exact ⟨S,_,w,dy,d,rfl,d1.same g2,dw,e,hs.1.same (g1.trans g2),fun v3 H3 g3 d3=>q v3 H3 (g1.trans (g2.trans g3)) d3⟩
def qP (x y:Ka):Option Ka:=match x,y with
 | .int i,.int j=>some (.int (i+j))
 | .list ds,.list es=>if ds.length+es.length<=1000 then some (.list (ds++es)) else none
 | x,y=>qda x y
def rCatL (K:Kd):R2:=fun x y H Q=>∃ l b xs zs,x=.ref l/\y=.ref b/\SqL K H l xs/\SqL K H b zs/\xs.length+zs.length<=sizeLine/\∀ p,H p=none->Q (.ref p) (upd H p (.lst (xs++zs)))
theorem qiu:OpR X (binaryOp .Add) (rCatL X.K):=by
 intro pins s σ H x y v u Q I rx ry h
 obtain ⟨l,b,xs,zs,rfl,rfl,hH,hB,hz,q⟩:=h
 cases rx
 cases ry
 obtain ⟨its,r,⟨⟨cls,dd,data,sl⟩,n,g1,g2,_,g3⟩,_⟩:=I.list hH
 obtain ⟨its2,r2,⟨⟨cls2,dd2,data2,sl2⟩,n2,k1,k2,_,k3⟩,_⟩:=I.list hB
 simp only at g2 g3 k2 k3
 subst g2 g3 k2 k3
 have ea:its.toArray++its2.toArray=(its++its2).toArray:=by simp
 have l1:=r.length
 have l2:=r2.length
 refine Es ⟨_,g1,rfl⟩ ⟨_,k1,rfl⟩ noFill_list_add seq_list_add PySem.F.slot_list_add PySem.F.entry_list_add (PySem.F.args_list_add_2 _ _) (list_addW l b its.toArray its2.toArray n n2 dd dd2 sl sl2 (by rw [KA,KA];omega)) ⟨g1,k1,?_⟩
 rw [ea]
 exact ⟨.ref _,_,I.lnew (t':=s.toks) (r.append r2) (by rw [Kp];omega),rfl,q _ I.fresh⟩
theorem qjG:OpD X (binaryOp .Add) (fun x y=>match x,y with | .list ds,.list es=>if ds.length+es.length<=1000 then some (.list (ds++es)) else none|_,_=>none):=by
 refine JG qiu fun x y dx dy d H S Q m h1 h2 e q=>?_
 split at e
 ·split at e
  ·rename_i ds es hc
   cases e
   cases h1 with
   | list a1 t1 =>
    cases h2 with
    | list a2 t2 =>
     exact ⟨_,_,_,_,rfl,rfl,a1.sq,a2.sq,by rw [t1.length,t2.length];exact VM (zA hc),fun p hp=>q _ _ (Same.lay hp) (.list (SqLS.new qF (m.free hp)) ((t1.append t2).same (Same.lay hp)))⟩
  ·cases e
 ·cases e
theorem Qa:OpD X (binaryOp .Add) qP:=by
 intro pins s σ H x y v u Q I rx ry h
 obtain ⟨S,dx,dy,d,m,h1,h2,e,q⟩:=h
 unfold qP at e
 split at e
 ·exact qfP pins s σ H x y v u Q I rx ry ⟨S,_,_,d,m,h1,h2,e,q⟩
 ·exact qjG pins s σ H x y v u Q I rx ry ⟨S,_,_,d,m,h1,h2,e,q⟩
 ·exact qfP pins s σ H x y v u Q I rx ry ⟨S,_,_,d,m,h1,h2,e,q⟩
theorem qhl (i j:Int):qP (.int i) (.int j)=some (.int (i+j)):=rfl
end
section
variable {prog:Kt}{w:KF}{A:KG}{E:Kb->Kf->Prop}{s:Kf}
theorem qbY {it t:Ke}{i:Nat}{items:Array Kb}{x:Kb}{Q:Kb->Kf->Prop}(hit:s.heap.IsTupleIter it t i)(ht:s.heap.IsTuple t items)(hx:items[i]?=some x)
  (hQ:∀ h',h'.IsTupleIter it t (i+1)->US it s.heap h'->Q x { s with heap:=h' }):wpAny (model prog w) A (U4 (.ref it)) Q E s:=by
 obtain ⟨o,ho,hc,hd⟩:=id hit
 obtain ⟨ol,hol,_,nl,hdl⟩:=ht
 unfold U4
 refine Kc (UH (name:=Kg "__next__") hit.typeIs UX (Ud UX hit.typeIs NZ ?_ (NQ _)))
 refine (Kc (Uw ho hd (x:=.ref t) rfl ?_):wpAny _ _ (field (.ref it) 0 >>= _) _ _ s)
 refine (id ?_:wpAny _ _ (if (KD t==K5)=true then _ else _) _ _ s)
 rw [if_neg (fun z=>VG z:¬ ((KD t==K5)=true))]
 refine (Kc (Uw ho hd (x:=.int i 0) rfl ?_):wpAny _ _ (field (.ref it) 1 >>= _) _ _ s)
 refine (Kc (UM hol hdl ?_):wpAny _ _ (seqItems? (.ref t) >>= _) _ _ s)
 simp only [hx,VO]
 refine Kc (Xb ho hd (by simp) (Kl ⟨x,rfl,Kl (hQ _ ⟨_,VZ _ ho (Ny (UT hd _)),(Eg ..).trans hc,by rw [UT hd];simp [rawInt]⟩ (XN ..))⟩))
theorem qcT {it t:Ke}{i:Nat}{items:Array Kb}{Q:Kb->Kf->Prop}(hh:A.handled=none)(hit:s.heap.IsTupleIter it t i)(ht:s.heap.IsTuple t items)(hx:items[i]?=none)
  (hE:∀ h' e,Heap.ExtBut it s.heap h'->(∃ o,h'.get? e=some o/\o.cls=.type "StopIteration")->E (.ref e) { s with heap:=h' }):wpAny (model prog w) A (U4 (.ref it)) Q E s:=by
 obtain ⟨o,ho,hc,hd⟩:=id hit
 obtain ⟨ol,hol,_,nl,hdl⟩:=ht
 unfold U4
 refine Kc (UH (name:=Kg "__next__") hit.typeIs UX (Ud UX hit.typeIs NZ ?_ (NQ _)))
 refine (Kc (Uw ho hd (x:=.ref t) rfl ?_):wpAny _ _ (field (.ref it) 0 >>= _) _ _ s)
 refine (id ?_:wpAny _ _ (if (KD t==K5)=true then _ else _) _ _ s)
 rw [if_neg (fun z=>VG z:¬ ((KD t==K5)=true))]
 refine (Kc (Uw ho hd (x:=.int i 0) rfl ?_):wpAny _ _ (field (.ref it) 1 >>= _) _ _ s)
 refine (Kc (UM hol hdl ?_):wpAny _ _ (seqItems? (.ref t) >>= _) _ _ s)
 simp only [hx,VO]
 refine Kc (wpAny_rule (Kc (Xb ho hd (by simp) (Kc (?_:wpAny _ _ (newExc (.type "StopIteration") []) _ _ _)))))
 simp only [newExc,newTuple]
 refine Kc (Vy (Kc (m:=firstArgMember _ _) (Nh (a:=K5) (by first|rfl|(simp only [firstArgMember];rfl)) (Vy ?_ (by size_fits)))) (by size_fits))
 simp only [raiseNew]
 refine Kc (wpAny_handled ?_)
 first|rw [show A.in1.handled=none from hh]|rw [hh]
 exact Kc (Kl (wpAny_throw (hE _ _ (((XN ..).extBut.push _).push _) ⟨_,Kv _ rfl,rfl⟩)))
end
theorem qbq {prog:Kt}{w:KF}{A:KG}(hh:A.handled=none)(it l:Ke)(hne:l≠it)(items:Array Kb) :
  Draws prog w A it [it,l] items.size (fun i v=>items[i]?=some v) (fun i h=>h.IsTupleIter it l i/\h.IsTuple l items) where
 live:=fun _ _ ⟨⟨o,ho,_⟩,_⟩=>⟨o,ho⟩
 frame:=fun _ _ _ ⟨a,b⟩ hk=>⟨a.at fun o e=>hk it (by simp) o e,let ⟨o,ho,r⟩:=b;⟨o,hk l (by simp) o ho,r⟩⟩
 item:=fun i s Q E hi ⟨a,b⟩ hQ=>qbY a b (x:=items[i]) (by simp [hi]) fun h' a' hs'=>hQ _ h' s.toks (by simp [hi]) ⟨a',b.extBut hs'.extBut hne⟩ hs'
 done:=fun s Q E ⟨a,b⟩ hE=>qcT hh a b (by simp) hE
open AutoSeq1 (wpAny_loadPart') in
theorem qeB (l:Ke)(items:Array Kb)(n:Nat)(dct:Option Ke)(sl:Array (Option Kb)) :
  Meets (UA.«enumerate.__new__» ⟨[.type "enumerate", .ref l],[]⟩) (fun _ R s=>s.heap.get? l=some { cls:=.type "tuple", dict:=dct,data:=.seq items n,slots:=sl }/\
   R (.ok (.ret (.ref (s.heap.push { cls:=.type "tuple_iterator", data:=.fields #[.ref l,.int 0 0] }).objs.size))) { s with heap:=(s.heap.push { cls:=.type "tuple_iterator", data:=.fields #[.ref l,.int 0 0] }).push { cls:=.type "enumerate", data:=.fields #[.none,.bool false,.ref s.heap.objs.size,rawInt 0,.none,.none] } }) :=
 .of_wp fun prog w A R s h=>by
  obtain ⟨hp,g,d,tk,os⟩:=s
  obtain ⟨hl,h⟩:=h
  have hsub:=sub_enumerate
  have hT:Heap.IsTuple (Shared.heap ⟨hp,g,d,tk,os⟩) l items:=⟨_,hl,rfl,n,rfl⟩
  wp_walk using wpAny_loadPart' hl
  refine wpAny_stack_any fun st=>Kl ?_
  split
  ·rename_i c _ _ _ _ _
   cases (c==Vp "enumerate")<;>(wp_walk using wpAny_loadPart' hl,NX hT;exact ⟨_,rfl,h⟩)
  ·wp_walk using wpAny_loadPart' hl,NX hT
   exact ⟨_,rfl,h⟩
section
variable {X:Cx}{pins:List (Ke×Obj)}{σ:St}{H:Hp}{s:Kf}
theorem Inv.turned2 {h':Kx}{t':Nat}{e it:Ke}(I:Inv X pins σ H s)(k:∀ b o,b≠e->b≠it->s.heap.get? b=some o->h'.get? b=some o)(fe:FpOk X pins H e)(fi:FpOk X pins H it):Inv X pins σ H { s with heap:=h',toks:=t' }:=by
 have nit:∀ b u,H b=some u->b≠e/\b≠it:=fun b u q=>⟨fun z=>by (rw [z,fe.1] at q;cases q),fun z=>by (rw [z,fi.1] at q;cases q)⟩
 have out:∀ {b},b∉[e,it]->b≠e/\b≠it:=fun hc=>⟨fun z=>hc (by simp [z]),fun z=>hc (by simp [z])⟩
 refine I.step (g':=s.gens) (d':=s.drawn) (ch:=[e,it]) (fun b hb=>?_) (fun b o _ _ hc e _=>k b o (out hc).1 (out hc).2 e) (fun b o _ _ hc e _=>⟨o.slots,k b o (out hc).1 (out hc).2 e⟩) (fun _ _ _ _ n=>n)
  (fun b o hc e=>⟨o,k b o (out hc).1 (out hc).2 e⟩) (fun _ _ e=>e) (fun _ _ _ e=>e) (fun b ps e=>⟨#[],by rw [e];simp⟩) (fun m hm=>?_) (fun b u q=>?_) I.bare
 ·rcases Kk.mp hb with rfl|hb
  ·exact ⟨fe.2.2.2.1,fe.2.1,fe.2.2.2.2.1,fe.2.2.2.2.2⟩
  ·have:=KL.mp hb
   subst this
   exact ⟨fi.2.2.2.1,fi.2.1,fi.2.2.2.2.1,fi.2.2.2.2.2⟩
 ·obtain ⟨o,es,ep,ho,r⟩:=hm
  exact ⟨o,es,ep,k _ o (VU fe.2.1) (VU fi.2.1) ho,r⟩
 ·refine (I.hok b u q).stay (fun c v hc q'=>?_) (fun _ q=>q) fun _ _ q=>q
  have n:c≠e/\c≠it:=by
   rcases hc with z|z
   ·rw [z];exact nit b u q
   ·exact nit c _ z
  exact k c v n.1 n.2 q'
end
def SqB (K:Kd)(H:Hp)(b:Bool)(a:Ke)(xs:List V):Prop:=if b=true then SqT K H a xs else SqL K H a xs
def ItB (h:Kx)(b:Bool)(it a:Ke)(i:Nat):Prop:=if b=true then h.IsTupleIter it a i else h.IsListIter it a i
def Iten (K:Kd)(b:Bool)(a:Ke):It :=
 ⟨fun i H=>∃ xs x,SqB K H b a xs/\xs[i]?=some x,
  fun i H x H'=>∃ p y,H p=none/\x=.ref p/\H'=upd H p (.tup [.int i,y])/\∀ xs,SqB K H b a xs->xs[i]?=some y,
  fun i H=>∃ xs,SqB K H b a xs/\xs.length=i⟩
def tnE (b:Bool)(e it a:Ke)(i:Nat)(h:Kx):Prop:=(∃ old,IsEnum h e it i old)/\ItB h b it a i
section
variable {X:Cx}{pins:List (Ke×Obj)}{σ:St}{H:Hp}{s:Kf}
theorem SqB.draws {b:Bool}{a e it:Ke}{i:Nat}{xs:List V}{old:Kb}(I:Inv X pins σ H s)(hh:X.A.handled=none)(hq:SqB X.K H b a xs)(he:IsEnum s.heap e it i old)(hi:ItB s.heap b it a i) :
  ∃ (its:List Kb) (St':Nat->Kx->Prop),Vals xs its/\e≠it/\e∉[it,a]/\St' i s.heap/\Draws X.prog X.w X.A.in1 it [it,a] its.length (fun i v=>its[i]?=some v) St'/\(∀ j h,St' j h->ItB h b it a j):=by
 have hh1:X.A.in1.handled=none:=hh
 cases b with
 | true =>
  have hq:SqT X.K H a xs:=hq
  have hi:s.heap.IsTupleIter it a i:=hi
  obtain ⟨its,rv,p,hz⟩:=I.tuple hq
  have p:s.heap.IsTuple a its.toArray:=p
  obtain ⟨o1,e1,c1,d1⟩:=id hi
  obtain ⟨o2,e2,c2,n2,d2⟩:=id p
  have n1:e≠it:=fun z=>by rw [z] at he;rw [he] at e1;cases e1;exact absurd (show Vp "enumerate" = Vp "tuple_iterator" from c1) (by decide)
  have n2:a≠it:=fun z=>by rw [z] at e2;rw [e2] at e1;cases e1;rw [c1] at c2;exact absurd c2 (by decide)
  have n3:e≠a:=fun z=>by rw [z] at he;rw [he] at e2;cases e2;exact absurd (show Vp "enumerate" = Vp "tuple" from c2) (by decide)
  refine ⟨its,fun j h=>h.IsTupleIter it a j/\h.IsTuple a its.toArray,rv,n1,by simp [n1,n3],⟨hi,p⟩,?_,fun j h q=>q.1⟩
  have:=qbq (prog:=X.prog) (w:=X.w) hh1 it a n2 its.toArray
  simpa using this
 | false =>
  have hq:SqL X.K H a xs:=hq
  have hi:s.heap.IsListIter it a i:=hi
  obtain ⟨its,rv,p0,hz⟩:=I.list hq
  have p:=p0.isList
  obtain ⟨o1,e1,c1,d1⟩:=id hi
  obtain ⟨o2,e2,c2,n2,d2⟩:=id p
  have n1:e≠it:=fun z=>by rw [z] at he;rw [he] at e1;cases e1;exact absurd (show Vp "enumerate" = Vp "list_iterator" from c1) (by decide)
  have n2:a≠it:=fun z=>by rw [z] at e2;rw [e2] at e1;cases e1;rw [c1] at c2;exact absurd c2 (by decide)
  have n3:e≠a:=fun z=>by rw [z] at he;rw [he] at e2;cases e2;exact absurd (show Vp "enumerate" = Vp "list" from c2) (by decide)
  refine ⟨its,fun j h=>h.IsListIter it a j/\h.IsList a its.toArray,rv,n1,by simp [n1,n3],⟨hi,p⟩,?_,fun j h q=>q.1⟩
  have:=Draws.list (prog:=X.prog) (w:=X.w) hh1 it a n2 its.toArray
  simpa using this
theorem SqB.inj {b:Bool}{a:Ke}{xs ys:List V}(I:Inv X pins σ H s)(h1:SqB X.K H b a xs)(h2:SqB X.K H b a ys):xs=ys:=by
 cases b with
 | true=>exact I.tuple_inj h1 h2
 | false=>exact I.list_inj h1 h2
theorem ItB.but {h h':Kx}{b:Bool}{it a e:Ke}{i:Nat}(q:ItB h b it a i)(n:it≠e)(hs:∀ c o,c≠e->h.get? c=some o->h'.get? c=some o):ItB h' b it a i:=by
 cases b with
 | true=>obtain ⟨o,ho,r⟩:=(show h.IsTupleIter it a i from q);exact (show h'.IsTupleIter it a i from ⟨o,hs _ o n ho,r⟩)
 | false=>obtain ⟨o,ho,r⟩:=(show h.IsListIter it a i from q);exact (show h'.IsListIter it a i from ⟨o,hs _ o n ho,r⟩)
theorem ItB.obj {h:Kx}{b:Bool}{it a:Ke}{i:Nat}(q:ItB h b it a i):∃ o,h.get? it=some o/\∀ v,o.data≠.cell v:=by
 cases b with
 | true=>obtain ⟨o,ho,c,d⟩:=(show h.IsTupleIter it a i from q);exact ⟨o,ho,fun v z=>by rw [d] at z;cases z⟩
 | false=>obtain ⟨o,ho,c,d⟩:=(show h.IsListIter it a i from q);exact ⟨o,ho,fun v z=>by rw [d] at z;cases z⟩
end
theorem qfl {P:Kt}{w:KF}{K:Kd}{ts:List Kw}{kk:Nat}{tp:Pos}(b:Bool)(a e it:Ke):Turn P w K (.Tuple ts kk tp) (Iten K b a) [e,it] e (tnE b e it a) where
 mem:=by simp
 obj:=fun i h ⟨⟨old,he⟩,hi⟩ c hc=>by
  rcases Kk.mp hc with rfl|hc
  ·exact ⟨_,he,fun v z=>by cases z⟩
  ·have:=KL.mp hc
   subst this
   exact hi.obj
 keep:=fun i h h' ⟨⟨old,he⟩,hi⟩ k=>by
  refine ⟨⟨old,k e (by simp) _ he⟩,?_⟩
  cases b with
  | true=>obtain ⟨o,ho,r⟩:=(show h.IsTupleIter it a i from hi);exact (show h'.IsTupleIter it a i from ⟨o,k it (by simp) o ho,r⟩)
  | false=>obtain ⟨o,ho,r⟩:=(show h.IsListIter it a i from hi);exact (show h'.IsListIter it a i from ⟨o,k it (by simp) o ho,r⟩)
 item:=by
  intro X hP hw hK hc i pins s σ H E I hf st hg
  subst hP hw hK
  obtain ⟨xs,x,hq,hx⟩:=hg
  obtain ⟨⟨old,he⟩,hi⟩:=st
  obtain ⟨its,St',rv,n1,n2,st,D,back⟩:=SqB.draws I (I.ok.hd hc) hq he hi
  obtain ⟨u,hu,ru⟩:=rv.get hx
  have hlt:i<its.length:=by
   rcases Nat.lt_or_ge i its.length with z|z
   ·exact z
   ·rw [Nz z] at hu;cases hu
  refine wpAny_pyNext_enum_itemD D he st hlt n1 n2 fun x' h' tk hP heo st' ht hsz hk=>?_
  have ex:x'=u:=by rw [hu] at hP;cases hP;rfl
  subst ex
  refine ⟨_,rfl,wpAny_letOwnedTupleGo_enum heo fun h2 he2 hs2=>?_⟩
  have hs2:US e h' h2:=hs2
  have k2:∀ c o,c≠e->h'.get? c=some o->h2.get? c=some o:=fun c o hc q=>(hs2.2 c hc).trans q
  have I1:Inv X pins σ H { s with heap:=h2,toks:=tk+1 }:=I.turned2 (fun c o hc1 hc2 q=>k2 c o hc1 (hk c o hc1 hc2 q)) (hf e (by simp)) (hf it (by simp))
  have hn:H s.heap.objs.size=none:=I.hok.fresh (Ko _)
  have fT:FpOk X pins H s.heap.objs.size:=I.fpOk (Ko _) hn
  have neT:s.heap.objs.size≠e:=Uy (Ku he)
  have hit:it≠s.heap.objs.size:=by
   obtain ⟨o,ho,_⟩:=hi.obj
   exact KR (Ku ho)
  have ok:zM X.prog X.w (upd H s.heap.objs.size (.tup [.int i,x])) h2 s.heap.objs.size (.tup [.int i,x]) :=
   ⟨VM (zA (show 2<=1000 by decide)),[.int i tk,x'],.cons ⟨tk,rfl⟩ (.cons ru .nil),⟨_,k2 _ _ neT ht,rfl,_,rfl⟩⟩
  refine ⟨.ref s.heap.objs.size,upd H s.heap.objs.size (.tup [.int i,x]),I1.track hn fT.2.1 fT.2.2.2.1 fT.2.2.2.2.1 fT.2.2.2.2.2 ok,rfl,⟨_,x,hn,rfl,rfl,fun ys hy=>by rw [SqB.inj I hy hq];exact hx⟩,⟨⟨x',he2⟩,(back _ _ st').but (VU n1) k2⟩,fun c hc=>?_⟩
  rcases Kk.mp hc with rfl|hc
  ·rw [qD (VU neT)];exact (hf _ (by simp)).1
  ·have:=KL.mp hc
   subst this
   rw [qD hit];exact (hf _ (by simp)).1
 done:=by
  intro X hP hw hK hc i pins s σ H E I hf st hg
  subst hP hw hK
  obtain ⟨xs,hq,hx⟩:=hg
  obtain ⟨⟨old,he⟩,hi⟩:=st
  obtain ⟨its,St',rv,n1,n2,st,D,back⟩:=SqB.draws I (I.ok.hd hc) hq he hi
  have hl:=rv.length
  have hi':i=its.length:=by omega
  subst hi'
  obtain ⟨f0,f1,f2,f3,f4,f5⟩:=hf it (by simp)
  exact wpAny_pyNext_enum_endD D he st fun h' eb=>⟨rfl,I.turned (t':=s.toks) (fun c o hc e=>eb c o hc e) f0 f1 f3 f4 f5⟩
 self:=fun _ _ _ _ _ ⟨⟨old,he⟩,_⟩ h=>wpAny_pyIter_enum he h
theorem YC:bootBuiltins "enumerate" = some (.type "enumerate"):=by decide +kernel
section
variable {X:Cx}{pins:List (Ke×Obj)}{σ:St}{H:Hp}{s:Kf}
theorem qez {b:Bool}{a:Ke}{xs:List V}{E:Kb->Kf->Prop}{Q:Kb->Kf->Prop}(I:Inv X pins σ H s)(hq:SqB X.K H b a xs)
  (h:∀ (h':Kx) (t':Nat),tnE b (s.heap.objs.size+1) s.heap.objs.size a 0 h'->(∀ c o,s.heap.get? c=some o->h'.get? c=some o)->Q (.ref (s.heap.objs.size+1)) { s with heap:=h',toks:=t' }) :
  wpAny (model X.prog X.w) X.A (call (.type "enumerate") [.ref a]) Q E s:=by
 cases b with
 | true =>
  have hq:SqT X.K H a xs:=hq
  obtain ⟨its,rv,⟨⟨cls,dd,data,sl⟩,g1,g2,n,g3⟩,hz⟩:=I.tuple hq
  simp only at g2 g3
  subst g2 g3
  have hz:(s.heap.push { cls:=.type "tuple_iterator", data:=.fields #[.ref a,.int 0 0] }).objs.size=s.heap.objs.size+1:=by rw [Uk]
  refine callType_new F.called_enumerate (by decide) (F.typeCall_enumerate_1 _) (F.newCall_enumerate_1 _) (fun obj=>F.args_object_init_2 obj _) F.entry_enumerate_new (qeB a its.toArray n dd sl) ⟨g1,?_⟩
  refine (id ?_:_/\_)
  rw [hz]
  have he:IsEnum ((s.heap.push { cls:=.type "tuple_iterator", data:=.fields #[.ref a,.int 0 0] }).push { cls:=.type "enumerate", data:=.fields #[.none,.bool false,.ref s.heap.objs.size,rawInt 0,.none,.none] }) (s.heap.objs.size+1) s.heap.objs.size 0 .none:=by
   have z:=Kv (s.heap.push { cls:=.type "tuple_iterator", data:=.fields #[.ref a,.int 0 0] }) (o:={ cls:=.type "enumerate", data:=.fields #[.none,.bool false,.ref s.heap.objs.size,rawInt 0,.none,.none] }) rfl
   rw [hz] at z
   exact z
  exact ⟨⟨_,he,rfl⟩,h _ s.toks ⟨⟨_,he⟩,(show Heap.IsTupleIter _ _ _ _ from ⟨_,Ki _ (Kv _ rfl),rfl,rfl⟩)⟩ fun c o x=>Ki _ (Ki _ x)⟩
 | false =>
  have hq:SqL X.K H a xs:=hq
  obtain ⟨its,rv,⟨⟨cls,dd,data,sl⟩,n,g1,g2,_,g3⟩,hz⟩:=I.list hq
  simp only at g2 g3
  subst g2 g3
  have hz:(s.heap.push { cls:=.type "list_iterator", data:=.fields #[.ref a,.int 0 0] }).objs.size=s.heap.objs.size+1:=by rw [Uk]
  refine callType_new F.called_enumerate (by decide) (F.typeCall_enumerate_1 _) (F.newCall_enumerate_1 _) (fun obj=>F.args_object_init_2 obj _) F.entry_enumerate_new (meets_enumerate_newL a its.toArray n dd sl) ⟨g1,?_⟩
  refine (id ?_:_/\_)
  rw [hz]
  have he:IsEnum ((s.heap.push { cls:=.type "list_iterator", data:=.fields #[.ref a,.int 0 0] }).push { cls:=.type "enumerate", data:=.fields #[.none,.bool false,.ref s.heap.objs.size,rawInt 0,.none,.none] }) (s.heap.objs.size+1) s.heap.objs.size 0 .none:=by
   have z:=Kv (s.heap.push { cls:=.type "list_iterator", data:=.fields #[.ref a,.int 0 0] }) (o:={ cls:=.type "enumerate", data:=.fields #[.none,.bool false,.ref s.heap.objs.size,rawInt 0,.none,.none] }) rfl
   rw [hz] at z
   exact z
  exact ⟨⟨_,he,rfl⟩,h _ s.toks ⟨⟨_,he⟩,(show Heap.IsListIter _ _ _ _ from ⟨_,Ki _ (Kv _ rfl),rfl,rfl⟩)⟩ fun c o x=>Ki _ (Ki _ x)⟩
end
def iEnum (K:Kd)(ta:TA):TI:=fun σ H R=>ta σ H fun vs H1=>∃ a b xs,vs=[.ref a]/\SqB K H1 b a xs/\R (Iten K b a) H1
section
variable {X:Cx}{M:List Nat}{a:Kw}{es:List Kw}{f:Rho->Option Ka}{pos:Pos}
theorem qiM {ts:List Kw}{kk:Nat}{tp:Pos}{ta:TA}{p:Pos}(hg:Gl X "enumerate")(hm:X.mg "enumerate" = none)(ha:PA X [a] ta)(hs:starEach [a] X.env=[(false,eval a X.env)]:=by rfl):PI X (.Tuple ts kk tp) (.Call (.Name "enumerate" p) [a] [] pos) (iEnum X.K ta):=by
 intro pins s σ H R I h
 refine Call_ (yQ I hg hm YC (XC (thn (ha pos pins s σ H _ I h) fun us s1 ⟨vs,H1,I1,r1,q1⟩=>?_) hs rfl) (by decide +kernel) (by decide +kernel))
 obtain ⟨p',b,xs,e,hq,q⟩:=q1
 subst e
 obtain ⟨u,rfl,ru⟩:=r1.one
 cases ru
 refine qez I1 hq fun h' t' tn k=>wpAny_pyIter_enum tn.1.choose_spec ?_
 have I2:Inv X pins σ H1 { s1 with heap:=h',toks:=t' }:=I1.kept (t':=t') k
 refine ⟨_,[s1.heap.objs.size+1,s1.heap.objs.size],tnE b (s1.heap.objs.size+1) s1.heap.objs.size p',Iten X.K b p',H1,rfl,I2,qfl b p' _ _,tn,fun c hc=>?_,q⟩
 rcases Kk.mp hc with rfl|hc
 ·exact I1.fpOk (UQ _) (I1.hok.fresh (UQ _))
 ·have:=KL.mp hc
  subst this
  exact I1.fpOk (Ko _) (I1.hok.fresh (Ko _))
def enL:Nat->List Ka->List Ka
 | _,[]=>[]
 | n,d::ds=>.tuple [.int (n:Nat),d]::enL (n+1) ds
theorem JD:∀ (n:Nat) (ds:List Ka),(enL n ds).length=ds.length
 | _,[]=>rfl
 | n,_::ds=>by rw [enL,KC,KC,JD]
theorem qdv:∀ (n i:Nat) (ds:List Ka) (d:Ka),(enL n ds)[i]?=some d->∃ e,ds[i]?=some e/\d=.tuple [.int ((n+i:Nat)),e]
 | _,_,[],_,h=>by simp [enL] at h
 | n,0,e::ds,d,h=>by simp [enL] at h;subst h;exact ⟨e,rfl,rfl⟩
 | n,i+1,e::ds,d,h=>by
  obtain ⟨e',h1,h2⟩:=qdv (n+1) i ds d (by simpa [enL] using h)
  refine ⟨e',by simpa using h1,?_⟩
  rw [h2]
  congr 3
  congr 1
  omega
theorem SqB.same {K:Kd}{H H':Hp}{b:Bool}{l:Ke}{xs:List V}(e:Same H H')(h:SqB K H b l xs):SqB K H' b l xs:=by
 cases b with
 | true=>exact e.sqT h
 | false=>exact e.seq h
theorem IsIt.enum {K:Kd}{H:Hp}{S:Av}{b:Bool}{l:Ke}{xs:List V}{ds:List Ka}(h:SqB K H b l xs)(t:DenL K H S xs ds):IsIt K S (Iten K b l) H (enL 0 ds) where
 go:=fun i H' e hi=>by
  rw [JD] at hi
  have hi':i<xs.length:=by rw [t.length];exact hi
  exact ⟨xs,xs[i],h.same e,Kq hi'⟩
 yld:=fun i H' x H2 e ⟨p,y,hp,ex,e2,q⟩=>by
  subst ex e2
  refine ⟨Same.lay hp,fun d hd S' w=>?_⟩
  obtain ⟨de,h1,rfl⟩:=qdv 0 i ds d hd
  obtain ⟨v,h2,h3⟩:=t.get h1
  have:=q xs (h.same e)
  rw [h2] at this
  cases this
  rw [Xf]
  exact .tuple (SqT.of qF) (.cons (.int _) (.cons (w _ _ h3) .nil))
 stop:=fun H' e=>⟨xs,h.same e,by rw [JD,t.length]⟩
def WX:Ka->Option (List Ka)
 | .list ds=>some (enL 0 ds)
 | .tuple ds=>some (enL 0 ds)
 | _=>none
theorem qb5 {ts:List Kw}{kk:Nat}{tp p:Pos}(hg:Gl X "enumerate")(hm:X.mg "enumerate" = none)(ha:PD X M a f)(hs:starEach [a] X.env=[(false,eval a X.env)]:=by rfl):PDI X M (.Tuple ts kk tp) (.Call (.Name "enumerate" p) [a] [] pos) (evI f WX) :=
 (qiM hg hm (qb ha qi hs) hs).weak fun σ H R ⟨S,ρ,ds,hs,e,w⟩=>by
  obtain ⟨x,e1,e⟩:=qe e
  refine ⟨S,ρ,[x],hs,by show ob (f ρ) _=_;rw [e1];rfl,fun vs H1 g1 dl=>?_⟩
  obtain ⟨v,rfl,dv⟩:=dl.inv1
  cases dv with
  | list h t=>cases e;exact ⟨_,false,_,rfl,h.sq,w _ _ g1 fun H2 o=>IsIt.enum (b:=false) (h.off o).sq (t.off (hs.1.same g1) o)⟩
  | tuple h t=>cases e;exact ⟨_,true,_,rfl,h,w _ _ g1 fun H2 o=>IsIt.enum (b:=true) (h.off (hs.1.same g1) o) (t.off (hs.1.same g1) o)⟩
  | _=>cases e
theorem qhK (ds:List Ka):WX (.list ds)=some (enL 0 ds):=rfl
theorem qhL (ds:List Ka):WX (.tuple ds)=some (enL 0 ds):=rfl
theorem enL_n (n:Nat):enL n []=[]:=rfl
theorem enL_c (n:Nat)(d:Ka)(ds:List Ka):enL n (d::ds)=.tuple [.int (n:Nat),d]::enL (n+1) ds:=rfl
def qdm (o:Option Rho)(k:Nat)(g:Ka->Rho->Option Rho)(tt:Rho->Option Bool)(te:Rho->Option Ka)(ρ:Rho)(ds:List Ka):Option (List Ka):=match o with
 | some ρ1=>(match tt ρ1 with | some true=>Jx (te ρ1) (QH k g tt te ρ ds)|some false=>QH k g tt te ρ ds|none=>none)
 | none=>none
theorem qdt (k:Nat)(g:Ka->Rho->Option Rho)(tt:Rho->Option Bool)(te:Rho->Option Ka)(ρ:Rho)(d:Ka)(ds:List Ka):QH k g tt te ρ (d::ds)=qdm (g d (ρ++Vn k none)) k g tt te ρ ds:=by
 rw [QH]
 unfold ob qdm Jx
 cases g d (ρ++Vn k none) with
 | none=>rfl
 | some ρ1 =>
  dsimp only
  cases tt ρ1 with
  | none=>rfl
  | some b =>
   cases b with
   | false=>rfl
   | true=>cases te ρ1<;>cases QH k g tt te ρ ds<;>rfl
theorem qhB (k:Nat)(g:Ka->Rho->Option Rho)(tt:Rho->Option Bool)(te:Rho->Option Ka)(ρ:Rho):QH k g tt te ρ []=some []:=rfl
def qbk (b:Option Bool)(y:Option Ka)(r:Option (List Ka)):Option (List Ka):=match b with | some true=>Jx y r|some false=>r|none=>none
theorem qdn (ρ1:Rho)(k:Nat)(g:Ka->Rho->Option Rho)(tt:Rho->Option Bool)(te:Rho->Option Ka)(ρ:Rho)(ds:List Ka):qdm (some ρ1) k g tt te ρ ds=qbk (tt ρ1) (te ρ1) (QH k g tt te ρ ds):=by
 unfold qdm qbk
 rfl
theorem qdl (y:Option Ka)(r:Option (List Ka)):qbk (some true) y r=Jx y r:=rfl
theorem qhx (y:Option Ka)(r:Option (List Ka)):qbk (some false) y r=r:=rfl
def qfL (a:Option (List Ka))(n k:Nat)(g:Ka->Rho->Option Rho)(tt:Rho->Option Bool)(te:Rho->Option Ka)(ρ:Rho):Option Ka:=match a with | some ds=>if ρ.length=n/\ds.length<=1000 then wY (QH k g tt te ρ ds) else none|none=>none
theorem qhz (n k:Nat)(fi:Rho->Option (List Ka))(g:Ka->Rho->Option Rho)(tt:Rho->Option Bool)(te:Rho->Option Ka)(ρ:Rho):jW n k fi g tt te ρ=qfL (fi ρ) n k g tt te ρ:=by
 unfold jW ob qfL wY
 cases fi ρ with
 | none=>rfl
 | some ds =>
  dsimp only
  split
  ·cases QH k g tt te ρ ds<;>rfl
  ·rfl
theorem qhv (ds:List Ka)(n k:Nat)(g:Ka->Rho->Option Rho)(tt:Rho->Option Bool)(te:Rho->Option Ka)(ρ:Rho):qfL (some ds) n k g tt te ρ=if ρ.length=n/\ds.length<=1000 then wY (QH k g tt te ρ ds) else none:=rfl
end
def k1Of:Ka->Option (Int ⊕ List Int)
 | .int i=>some (.inl i)
 | .tuple ds=>ob (intsOf ds) fun js=>some (.inr js)
 | _=>none
def qgc:List Ka->Option K2
 | []=>some []
 | d::ds=>ob (k1Of d) fun k=>ob (qgc ds) fun ks=>some (k::ks)
def k2Of:Ka->Option K2
 | .tuple ds=>qgc ds
 | _=>none
theorem qeO {d:Ka}{k:Int ⊕ List Int}(e:k1Of d=some k):d=k2D k:=by
 unfold k1Of at e
 split at e
 ·cases e;rfl
 ·obtain ⟨js,e1,e⟩:=qe e
  cases e
  rw [Yt e1];rfl
 ·cases e
theorem wQ:∀ {ds:List Ka} {ks:K2},qgc ds=some ks->ds=ks.map k2D
 | [],_,e=>by cases e;rfl
 | d::ds,_,e=>by
  obtain ⟨k,e1,e⟩:=qe e
  obtain ⟨ks,e2,e⟩:=qe e
  cases e
  rw [qeO e1,wQ e2];rfl
theorem qeP {d:Ka}{ks:K2}(e:k2Of d=some ks):d=k2T ks:=by
 unfold k2Of at e
 split at e
 ·rw [wQ e];rfl
 ·cases e
def kxOf:Ka->Option KX
 | .int i=>some (.inl i)
 | d=>ob (k2Of d) fun ks=>some (.inr ks)
theorem QL {d:Ka}{k:KX}(e:kxOf d=some k):d=kxD k:=by
 unfold kxOf at e
 split at e
 ·cases e;rfl
 ·obtain ⟨ks,e1,e⟩:=qe e
  cases e
  exact qeP e1
def kOk (kvs:List (Ka×PyData))(k:KX):Bool:=kvs.all fun p=>qf9 p.1==kxI k
theorem qbH:∀ js:List Int,Kr (js.map .int)=true
 | []=>rfl
 | j::js=>by rw [Km,Kr,KQ,qbH js];rfl
theorem qcE:∀ ks:K2,Kr (ks.map k2D)=true
 | []=>rfl
 | .inl i::ks=>by rw [Km,Kr,qcE ks];rfl
 | .inr js::ks=>by
  rw [Km,Kr,qcE ks]
  show (KQ (.tuple (js.map .int))&&true)=true
  rw [KQ,qbH];rfl
theorem qdL (ks:K2):(k2T ks).canLay0=true:=by unfold k2T;rw [KQ];exact qcE ks
theorem qia (c:Str)(z:Int)(d:Ka)(ks:KX):kOk [(.str c,d),(.int z,.none)] ks=false:=by
 cases ks with
 | inl i=>rfl
 | inr k=>rfl
theorem Zg {α β:Type}{a:Option β}{g:β->KX}{F:β->Option α}{c:Str}{z:Int}{d:Ka}{r:α}(e:(ob a fun ks=>if kOk [(.str c,d),(.int z,.none)] (g ks)=true then F ks else none)=some r):False:=by
 obtain ⟨ks,_,e⟩:=qe e
 rw [qia] at e
 cases e
def qZ (kvs:List (Ka×PyData))(ks:KX):Option Ka:=(kvs.find? fun p=>KP p.1 (kxD ks)).map (·.2)
def putD (kvs:List (Ka×PyData))(ks:KX)(v:Ka):List (Ka×PyData) :=
 if (qZ kvs ks).isSome=true then kvs.map (fun p=>if KP p.1 (kxD ks)=true then (p.1,v) else p) else kvs++[(kxD ks,v)]
def putV (kvs:List (KX×Addr×V))(ks:KX)(b:Ke)(v:V):List (KX×Addr×V) :=
 if (kvs.any fun p=>decide (p.1=ks))=true then kvs.map (fun p=>if p.1=ks then (p.1,p.2.1,v) else p) else kvs++[(ks,b,v)]
section
variable {K:Kd}{H:Hp}{S:Av}
theorem Qq (p:KX×Addr×V)(kvs:List (KX×Addr×V))(d:Ka)(ds:List Ka):dkv (p::kvs) (d::ds)=(kxD p.1,d)::dkv kvs ds:=rfl
theorem Jo {k:KX}{d:Ka}{kvs:List (Ka×PyData)}{ks:KX}(e:k=ks):qZ ((kxD k,d)::kvs) ks=some d:=by
 unfold qZ
 rw [KJ,J8,decide_eq_true e];rfl
theorem Jm {k:KX}{d:Ka}{kvs:List (Ka×PyData)}{ks:KX}(e:k≠ks):qZ ((kxD k,d)::kvs) ks=qZ kvs ks:=by
 unfold qZ
 rw [KJ,J8,decide_eq_false e]
theorem JN {α β:Type}{R:α->β->Prop}{a:α}{b:β}:∀ {as:List α} {bs:List β},Vk R as bs->R a b->Vk R (as++[a]) (bs++[b])
 | _,_,.nil,h=>.cons h .nil
 | _,_,.cons h t,q=>.cons h (JN t q)
theorem qec {ks:KX}{v:V}{d:Ka}(dv:Den K H S v d):∀ {kvs:List (KX×Addr×V)} {ds:List Ka},DenL K H S (kvs.map (·.2.2)) ds->∃ ds',DenL K H S ((kvs.map fun p=>if p.1=ks then (p.1,p.2.1,v) else p).map (·.2.2)) ds'/\dkv (kvs.map fun p=>if p.1=ks then (p.1,p.2.1,v) else p) ds'=(dkv kvs ds).map (fun p=>if KP p.1 (kxD ks)=true then (p.1,d) else p)
 | [],_,t=>by cases t;exact ⟨[],.nil,rfl⟩
 | p::kvs,_,t=>by
  cases t with
  | @cons _ d0 _ ds dv0 t' =>
   obtain ⟨ds',h1,h2⟩:=qec dv t'
   rw [Km,Km,Qq,Km,J8]
   by_cases e:p.1=ks
   ·refine ⟨d::ds',?_,?_⟩
    ·rw [if_pos e];exact .cons dv h1
    ·rw [if_pos e,Qq,h2,if_pos (decide_eq_true e)]
   ·refine ⟨d0::ds',?_,?_⟩
    ·rw [if_neg e];exact .cons dv0 h1
    ·rw [if_neg e,Qq,h2,if_neg (fun z=>e (of_decide_eq_true z))]
theorem qbo {kvs:List (KX×Addr×V)}{ds:List Ka}(hl:kvs.length=ds.length)(p:KX×Addr×V)(d:Ka):dkv (kvs++[p]) (ds++[d])=dkv kvs ds++[(kxD p.1,d)]:=by
 unfold dkv
 rw [KW,List.zip_append (by rw [Kj,hl])]
 rfl
theorem qcg {ks:KX}{b:Ke}{v:V}{d:Ka}{kvs:List (KX×Addr×V)}{ds:List Ka}(t:DenL K H S (kvs.map (·.2.2)) ds)(dv:Den K H S v d)(he:(kvs.any fun p=>decide (p.1=ks))=(qZ (dkv kvs ds) ks).isSome) :
  ∃ ds',DenL K H S ((putV kvs ks b v).map (·.2.2)) ds'/\dkv (putV kvs ks b v) ds'=putD (dkv kvs ds) ks d:=by
 have hl:kvs.length=ds.length:=by
  have:=t.length
  rwa [Kj] at this
 unfold putV putD
 rw [he]
 split
 ·exact qec dv t
 ·refine ⟨ds++[d],?_,qbo hl _ _⟩
  rw [KW]
  exact t.append (.cons dv .nil)
theorem qcd {ks:KX}{b:Ke}{v:V}{kvs:List (KX×Addr×V)}(k:DenL K H S (kvs.map fun p=>kxV p.1 p.2.1) (kvs.map fun p=>kxD p.1))(dk:Den K H S (kxV ks b) (kxD ks)):DenL K H S ((putV kvs ks b v).map fun p=>kxV p.1 p.2.1) ((putV kvs ks b v).map fun p=>kxD p.1):=by
 unfold putV
 split
 ·have e1:(kvs.map fun p=>if p.1=ks then (p.1,p.2.1,v) else p).map (fun p=>kxV p.1 p.2.1)=kvs.map fun p=>kxV p.1 p.2.1:=by
   rw [Vf]
   refine VD fun p _=>?_
   show kxV (if p.1=ks then (p.1,p.2.1,v) else p).1 (if p.1=ks then (p.1,p.2.1,v) else p).2.1=_
   split<;>rfl
  have e2:(kvs.map fun p=>if p.1=ks then (p.1,p.2.1,v) else p).map (fun p=>kxD p.1)=kvs.map fun p=>kxD p.1:=by
   rw [Vf]
   refine VD fun p _=>?_
   show kxD (if p.1=ks then (p.1,p.2.1,v) else p).1=_
   split<;>rfl
  rw [e1,e2];exact k
 ·rw [KW,KW]
  exact k.append (.cons dk .nil)
end
section
variable {K:Kd}{H:Hp}{S:Av}
theorem jr {kvs:List (KX×Addr×V)}{ds:List Ka}{k:KX}(hl:kvs.length=ds.length)(h:kOk (dkv kvs ds) k=true):∀ p∈kvs,kxI p.1=kxI k:=by
 intro p hp
 have hm:kxD p.1∈(dkv kvs ds).map (·.1):=by rw [qbn hl];exact KN.mpr ⟨p,hp,rfl⟩
 obtain ⟨q,hq,e⟩:=KN.mp hm
 have:=Kz.mp h q hq
 rw [e,qcD] at this
 simpa using this
theorem Zw (ks:K2):∀ {kvs:List (KX×Addr×V)} {xs:List (K2×Addr×Value)} {ds:List Ka},Vk PkT kvs xs->DenL K H S (kvs.map (·.2.2)) ds->
  (qZ (dkv kvs ds) (.inr ks)=none/\atKey xs ks=none/\(kvs.any fun p=>decide (p.1=.inr ks))=false)\/∃ d b y u,qZ (dkv kvs ds) (.inr ks)=some d/\atKey xs ks=some (b,u)/\RelV y u/\Den K H S y d/\(kvs.any fun p=>decide (p.1=.inr ks))=true
 | [],_,_,r,t=>by
  cases r
  cases t
  exact .inl ⟨rfl,rfl,rfl⟩
 | p::kvs,_,_,r,t=>by
  cases r with
  | @cons _ q _ qs h r' =>
   cases t with
   | @cons _ d _ ds dv t' =>
    rw [Qq]
    by_cases e:p.1=.inr ks
    ·refine .inr ⟨d,q.2.1,p.2.2,q.2.2,Jo e,?_,h.2.2,dv,by rw [Ug,decide_eq_true e,EB]⟩
     unfold atKey
     have eq:q.1=ks:=Sum.inr.inj (h.1.symm.trans e)
     rw [KJ,decide_eq_true eq];rfl
    ·have e':¬ q.1=ks:=fun z=>e (by rw [h.1,z])
     have ea:atKey (q::qs) ks=atKey qs ks:=by
      unfold atKey
      rw [KJ,decide_eq_false e']
     rw [Jm e,ea,Ug,decide_eq_false e,XH]
     exact Zw ks r' t'
theorem Z6 (i:Int):∀ {kvs:List (KX×Addr×V)} {vs:List (Int×Value)} {ds:List Ka},Vk PkI kvs vs->DenL K H S (kvs.map (·.2.2)) ds->
  (qZ (dkv kvs ds) (.inl i)=none/\valueAt vs i=none/\(kvs.any fun p=>decide (p.1=.inl i))=false)\/∃ d y u,qZ (dkv kvs ds) (.inl i)=some d/\valueAt vs i=some u/\RelV y u/\Den K H S y d/\(kvs.any fun p=>decide (p.1=.inl i))=true
 | [],_,_,r,t=>by
  cases r
  cases t
  exact .inl ⟨rfl,rfl,rfl⟩
 | p::kvs,_,_,r,t=>by
  cases r with
  | @cons _ q _ qs h r' =>
   cases t with
   | @cons _ d _ ds dv t' =>
    rw [Qq]
    by_cases e:p.1=.inl i
    ·refine .inr ⟨d,p.2.2,q.2,Jo e,?_,h.2,dv,by rw [Ug,decide_eq_true e,EB]⟩
     unfold valueAt
     have eq:q.1=i:=Sum.inl.inj (h.1.symm.trans e)
     rw [KJ,decide_eq_true eq];rfl
    ·have e':¬ q.1=i:=fun z=>e (by rw [h.1,z])
     have ea:valueAt (q::qs) i=valueAt qs i:=by
      unfold valueAt
      rw [KJ,decide_eq_false e']
     rw [Jm e,ea,Ug,decide_eq_false e,XH]
     exact Z6 i r' t'
theorem Wk {ks:K2}{v:V}{u:Kb}(rv:RelV v u):∀ {kvs:List (KX×Addr×V)} {xs:List (K2×Addr×Value)},Vk PkT kvs xs->Vk PkT (kvs.map fun p=>if p.1=.inr ks then (p.1,p.2.1,v) else p) (xs.map (putAt ks u))
 | [],_,r=>by cases r;exact .nil
 | p::kvs,_,r=>by
  cases r with
  | @cons _ q _ qs h r' =>
   rw [Km,Km]
   refine .cons ?_ (Wk rv r')
   unfold putAt
   by_cases e:p.1=.inr ks
   ·have eq:q.1=ks:=Sum.inr.inj (h.1.symm.trans e)
    rw [if_pos e,if_pos eq];exact ⟨h.1,h.2.1,rv⟩
   ·rw [if_neg e,if_neg (fun z=>e (by rw [h.1,z]))];exact h
theorem qcf {ks:K2}{b:Ke}{v:V}{u:Kb}{kvs:List (KX×Addr×V)}{xs:List (K2×Addr×Value)}(r:Vk PkT kvs xs)(rv:RelV v u)(he:(kvs.any fun p=>decide (p.1=.inr ks))=(atKey xs ks).isSome):Vk PkT (putV kvs (.inr ks) b v) (storedH xs ks b u):=by
 unfold putV storedH
 rw [he]
 split
 ·exact Wk rv r
 ·exact JN r ⟨rfl,rfl,rv⟩
theorem Wj {i:Int}{v:V}{u:Kb}(rv:RelV v u):∀ {kvs:List (KX×Addr×V)} {xs:List (Int×Value)},Vk PkI kvs xs->Vk PkI (kvs.map fun p=>if p.1=.inl i then (p.1,p.2.1,v) else p) (xs.map fun q=>if q.1=i then (q.1,u) else q)
 | [],_,r=>by cases r;exact .nil
 | p::kvs,_,r=>by
  cases r with
  | @cons _ q _ qs h r' =>
   rw [Km,Km]
   refine .cons ?_ (Wj rv r')
   by_cases e:p.1=.inl i
   ·have eq:q.1=i:=Sum.inl.inj (h.1.symm.trans e)
    rw [if_pos e,if_pos eq];exact ⟨h.1,rv⟩
   ·rw [if_neg e,if_neg (fun z=>e (by rw [h.1,z]))];exact h
theorem qdb (i:Int):∀ {kvs:List (KX×Addr×V)} {xs:List (Int×Value)},Vk PkI kvs xs->(kvs.any fun p=>decide (p.1=.inl i))=xs.any fun q=>decide (q.1=i)
 | _,_,.nil=>rfl
 | _,_,@EV _ _ _ p q _ _ h t=>by
  rw [Ug,Ug,qdb i t]
  by_cases e:p.1=.inl i
  ·rw [decide_eq_true e,decide_eq_true (Sum.inl.inj (h.1.symm.trans e):q.1=i)]
  ·rw [decide_eq_false e,decide_eq_false (fun z=>e (by rw [h.1,z]):¬ q.1=i)]
theorem qce {i:Int}{b:Ke}{v:V}{u:Kb}{kvs:List (KX×Addr×V)}{xs:List (Int×Value)}(r:Vk PkI kvs xs)(rv:RelV v u):Vk PkI (putV kvs (.inl i) b v) (stored xs i u):=by
 unfold putV stored
 rw [qdb i r]
 split
 ·exact Wj rv r
 ·exact JN r ⟨rfl,rv⟩
end
section
variable {X:Cx}{pins:List (Ke×Obj)}{σ:St}{H:Hp}{s:Kf}{S:Av}
theorem qdM (I:Inv X pins σ H s):∀ {kvs:List (KX×Addr×V)} {xs:List (K2×Addr×Value)},Vk PkT kvs xs->DenL X.K H S (kvs.map fun p=>kxV p.1 p.2.1) (kvs.map fun p=>kxD p.1)->∀ x∈xs,Is2 s.heap x.1 x.2.1
 | _,_,.nil,_,x,hx=>by cases hx
 | _,_,@EV _ _ _ p q kvs qs h t,k,x,hx=>by
  cases k with
  | cons dk k' =>
   have dk:Den X.K H S (kxV p.1 p.2.1) (kxD p.1):=dk
   rcases Kk.mp hx with rfl|hx
   ·rw [h.1] at dk
    obtain ⟨as,r⟩:=Den.reads I dk (qdL _) (u:=KD x.2.1) (by rw [h.2.1];rfl)
    exact ⟨as,r⟩
   ·exact qdM I t k' x hx
theorem Jl (I:Inv X pins σ H s){a:Ke}{kvs:List (KX×Addr×V)}{ep:Nat}(h:H a=some (DctO a kvs ep))(k:DenL X.K H S (kvs.map fun p=>kxV p.1 p.2.1) (kvs.map fun p=>kxD p.1))(hk:∀ p∈kvs,kxI p.1=false) :
  kvs.length<=sizeLine/\(a==sysModules)=false/\∃ xs:List (K2×Addr×Value),Vk PkT kvs xs/\s.heap.DictOfH (Yv X.prog X.w) a xs:=by
 have d:=zJ.of (I.hok a _ h)
 obtain ⟨xs,pk,o,es,h1,h2,h3,h4,h5⟩:=d.tup hk
 exact ⟨d.1,d.2.1,xs,pk,o,es,ep,h1,h2,h3,h4,qdM I pk k,h5⟩
theorem w5 {P:Kt}{w:KF}:∀ {es:List UB} {vs:List (Int×Value)},Vk EnI es vs->Pairs (intKind P w) es vs
 | _,_,.nil=>.nil
 | _,_,.cons h t=>by
  obtain ⟨_,⟨tk,h2⟩,h3⟩:=h
  exact .cons (by rw [h2];exact Xt P w _ tk) h3 (w5 t)
theorem W5 {P:Kt}{w:KF}{es:Array UB}{vs:List (Int×Value)}(h:Vk EnI es.toList vs):PySem.KeysOf (intKind P w) es:=by
 intro e he
 have he:e∈es.toList:=XD.mpr he
 generalize es.toList=l at h he
 induction h with
 | nil=>cases he
 | @cons a b as bs h t ih =>
  rcases Kk.mp he with rfl|he
  ·obtain ⟨h1,⟨tk,h2⟩,_⟩:=h
   exact ⟨b.1,by rw [h2];exact Xt P w _ tk,h1⟩
  ·exact ih he
theorem JH {P:Kt}{w:KF}:∀ {es:List UB} {vs:List (Int×Value)},Pairs (intKind P w) es vs->(∀ e∈es,∃ k,(intKind P w).is k e.key=true/\e.hash=(intKind P w).hash k)->Vk EnI es vs
 | _,_,.nil,_=>.nil
 | _,_,.cons h1 h2 t,hk=>by
  refine .cons ?_ (JH t fun e he=>hk e (.tail _ he))
  obtain ⟨k,g1,g2⟩:=hk _ (.head _)
  obtain ⟨tk,e⟩:=Value.isInt_shape h1
  have hkk:=(intKind P w).inj _ _ _ g1 h1
  exact ⟨by rw [g2,hkk];rfl,⟨tk,e⟩,h2⟩
theorem Jk (I:Inv X pins σ H s){a:Ke}{kvs:List (KX×Addr×V)}{ep:Nat}(h:H a=some (DctO a kvs ep))(hk:∀ p∈kvs,kxI p.1=true) :
  kvs.length<=sizeLine/\(a==sysModules)=false/\∃ vs:List (Int×Value),Vk PkI kvs vs/\s.heap.DictOf (intKind X.prog X.w) a vs:=by
 have d:=zJ.of (I.hok a _ h)
 obtain ⟨vs,pk,o,es,h1,h2,h3,h4,h5⟩:=d.int hk
 exact ⟨d.1,d.2.1,vs,pk,o,es,ep,h1,h2,h3,W5 h4,w5 h4,h5⟩
theorem key_is (I:Inv X pins σ H s){y:V}{u:Kb}{ks:K2}(d:Den X.K H S y (k2T ks))(r:RelV y u):∃ b,y=.ref b/\u=.ref b/\Is2 s.heap ks b:=by
 obtain ⟨a,xs,e,_,_⟩:=d.tuple_inv
 subst e
 cases (show u=KD a from r)
 obtain ⟨as,q⟩:=d.reads I (qdL ks) (u:=.ref a) rfl
 exact ⟨a,rfl,rfl,as,q⟩
theorem jt {y:V}{u:Kb}{i:Int}(d:Den X.K H S y (.int i))(r:RelV y u):y=.int i/\∃ t,u=.int i t:=by
 cases d
 exact ⟨rfl,r⟩
end
def dgetD (d k:Ka):Option Ka:=match d with
 | .dict kvs=>ob (kxOf k) fun ks=>if kOk kvs ks=true then qZ kvs ks else none
 | _=>none
def ix2D (d k:Ka):Option Ka:=match d with
 | .dict kvs=>dgetD (.dict kvs) k
 | d=>ixD d k
def in2D (k d:Ka):Option Ka:=match d with
 | .dict kvs=>ob (kxOf k) fun ks=>if kOk kvs ks=true then some (.bool (qZ kvs ks).isSome) else none
 | d=>inD k d
def qag (k d:Ka):Option Ka:=match d with
 | .dict kvs=>ob (kxOf k) fun ks=>if kOk kvs ks=true then some (.bool (!(qZ kvs ks).isSome)) else none
 | d=>ninD k d
def jY (d k x:Ka):Option Ka:=match d with
 | .dict kvs=>ob (kxOf k) fun ks=>if kOk kvs ks=true then some ((qZ kvs ks).getD x) else none
 | _=>none
def wI (d k v:Ka):Option Ka:=match d with
 | .dict kvs=>ob (kxOf k) fun ks=>if kOk kvs ks=true/\kvs.length<1000 then some (.dict (putD kvs ks v)) else none
 | _=>none
section
variable {X:Cx}{pins:List (Ke×Obj)}{σ:St}{H:Hp}{s:Kf}{S:Av}{A:KG}{E:Kb->Kf->Prop}{a:Ke}{kvs:List (KX×Addr×V)}{ep:Nat}{ds:List Ka}{ks:KX}{y x v:V}{u r:Kb}{d dx:Ka}
theorem qat {A:KG}(hu:A.units+64<cLine):A.in1.units+3<cLine:=by show A.units+1+3<cLine;omega
theorem J5 (I:Inv X pins σ H s)(h:H a=some (DctO a kvs ep)):s.TypeIs (.ref a) "dict"/\∃ o,s.heap.get? a=some o/\o.dict=none:=by
 obtain ⟨o,es,h1,h2,_⟩:=(zJ.of (I.hok a _ h)).vals
 exact ⟨⟨o,h1,h2.1⟩,o,h1,h2.2.1⟩
theorem qhF {Q:Kb->Kf->Prop}(hu:A.units+64<cLine)(I:Inv X pins σ H s)(h:H a=some (DctO a kvs ep))(k:DenL X.K H S (kvs.map fun p=>kxV p.1 p.2.1) (kvs.map fun p=>kxD p.1))(t:DenL X.K H S (kvs.map (·.2.2)) ds)(hk:∀ p∈kvs,kxI p.1=kxI ks)
  (dy:Den X.K H S y (kxD ks)) (ry:RelV y u) (e:qZ (dkv kvs ds) ks=some d) (q:∀ v w' s',Inv X pins σ H s'->RelV v w'->Den X.K H S v d->Q w' s'):wpAny (model X.prog X.w) A (getItem (.ref a) u) Q E s:=by
 cases ks with
 | inr ks =>
  obtain ⟨z,hs,xs,pk,dd⟩:=Jl I h k hk
  obtain ⟨b,rfl,rfl,hk⟩:=key_is I dy ry
  rcases Zw ks pk t with ⟨e1,_,_⟩|⟨d',b',v,w',e1,e2,rv,dv,_⟩
  ·rw [e] at e1;cases e1
  ·rw [e] at e1
   cases e1
   exact wpAny_getItem_heap (knd:=Yv X.prog X.w) (qat hu) hk dd e2 (q v w' _ (I.tok _) rv dv)
 | inl i =>
  obtain ⟨z,hs,vs,pk,dd⟩:=Jk I h hk
  obtain ⟨rfl,t',rfl⟩:=jt dy ry
  rcases Z6 i pk t with ⟨e1,_,_⟩|⟨d',v,w',e1,e2,rv,dv,_⟩
  ·rw [e] at e1;cases e1
  ·rw [e] at e1
   cases e1
   exact wpAny_getItem_of (Xt _ _ i t') dd.mapOf e2 (q v w' _ (I.tok _) rv dv)
theorem dg_in {Q:Kb->Kf->Prop}(hu:A.units+64<cLine)(I:Inv X pins σ H s)(h:H a=some (DctO a kvs ep))(k:DenL X.K H S (kvs.map fun p=>kxV p.1 p.2.1) (kvs.map fun p=>kxD p.1))(t:DenL X.K H S (kvs.map (·.2.2)) ds)(hk:∀ p∈kvs,kxI p.1=kxI ks)
  (dy:Den X.K H S y (kxD ks)) (ry:RelV y u) (q:∀ s',Inv X pins σ H s'->Q (.bool (qZ (dkv kvs ds) ks).isSome) s'):wpAny (model X.prog X.w) A (compareOp .In u (.ref a)) Q E s:=by
 cases ks with
 | inr ks =>
  obtain ⟨z,hs,xs,pk,dd⟩:=Jl I h k hk
  obtain ⟨b,rfl,rfl,hk⟩:=key_is I dy ry
  refine wpAny_in_heap (knd:=Yv X.prog X.w) (qat hu) hk hs dd ?_
  rcases Zw ks pk t with ⟨e1,e2,_⟩|⟨d',b',v,w',e1,e2,rv,dv,_⟩
  ·rw [e1] at q;rw [e2];exact q _ (I.tok _)
  ·rw [e1] at q;rw [e2];exact q _ (I.tok _)
 | inl i =>
  obtain ⟨z,hs,vs,pk,dd⟩:=Jk I h hk
  obtain ⟨rfl,t',rfl⟩:=jt dy ry
  refine wpAny_in_of (Xt _ _ i t') hs dd.mapOf ?_
  rcases Z6 i pk t with ⟨e1,e2,_⟩|⟨d',v,w',e1,e2,rv,dv,_⟩
  ·rw [e1] at q;rw [e2];exact q _ (I.tok _)
  ·rw [e1] at q;rw [e2];exact q _ (I.tok _)
theorem qfT {Q:Kb->Kf->Prop}(hu:A.units+64<cLine)(I:Inv X pins σ H s)(h:H a=some (DctO a kvs ep))(k:DenL X.K H S (kvs.map fun p=>kxV p.1 p.2.1) (kvs.map fun p=>kxD p.1))(t:DenL X.K H S (kvs.map (·.2.2)) ds)(hk:∀ p∈kvs,kxI p.1=kxI ks)
  (dy:Den X.K H S y (kxD ks)) (ry:RelV y u) (q:∀ s',Inv X pins σ H s'->Q (.bool (!(qZ (dkv kvs ds) ks).isSome)) s'):wpAny (model X.prog X.w) A (compareOp .NotIn u (.ref a)) Q E s:=by
 cases ks with
 | inr ks =>
  obtain ⟨z,hs,xs,pk,dd⟩:=Jl I h k hk
  obtain ⟨b,rfl,rfl,hk⟩:=key_is I dy ry
  refine wpAny_notIn_heap (knd:=Yv X.prog X.w) (qat hu) hk hs dd ?_
  rcases Zw ks pk t with ⟨e1,e2,_⟩|⟨d',b',v,w',e1,e2,rv,dv,_⟩
  ·rw [e1] at q;rw [e2];exact q _ (I.tok _)
  ·rw [e1] at q;rw [e2];exact q _ (I.tok _)
 | inl i =>
  obtain ⟨z,hs,vs,pk,dd⟩:=Jk I h hk
  obtain ⟨rfl,t',rfl⟩:=jt dy ry
  refine wpAny_notIn_of (Xt _ _ i t') hs dd.mapOf ?_
  rcases Z6 i pk t with ⟨e1,e2,_⟩|⟨d',v,w',e1,e2,rv,dv,_⟩
  ·rw [e1] at q;rw [e2];exact q _ (I.tok _)
  ·rw [e1] at q;rw [e2];exact q _ (I.tok _)
theorem qhE {Q:Kb->Kf->Prop}(hu:A.units+64<cLine)(I:Inv X pins σ H s)(h:H a=some (DctO a kvs ep))(k:DenL X.K H S (kvs.map fun p=>kxV p.1 p.2.1) (kvs.map fun p=>kxD p.1))(t:DenL X.K H S (kvs.map (·.2.2)) ds)(hk:∀ p∈kvs,kxI p.1=kxI ks)
  (dy:Den X.K H S y (kxD ks)) (ry:RelV y u) (dxv:Den X.K H S x dx) (rx:RelV x r) (q:∀ v w' s',Inv X pins σ H s'->RelV v w'->Den X.K H S v ((qZ (dkv kvs ds) ks).getD dx)->Q w' s'):wpAny (model X.prog X.w) A (call (.builtin "dict.get") [.ref a,u,r]) Q E s:=by
 cases ks with
 | inr ks =>
  obtain ⟨z,hs,xs,pk,dd⟩:=Jl I h k hk
  obtain ⟨b,rfl,rfl,hk⟩:=key_is I dy ry
  refine call_meetsIn NA dd.typeIs EW (EF _ _ _) (meetsH_dict_get_default (Yv X.prog X.w) a b hs r) ⟨qat hu,ks,xs,hk,dd,?_⟩
  rcases Zw ks pk t with ⟨e1,e2,_⟩|⟨d',b',v,w',e1,e2,rv,dv,_⟩
  ·rw [e1] at q;rw [e2];exact q _ _ _ (I.tok _) rx dxv
  ·rw [e1] at q;rw [e2];exact q _ _ _ (I.tok _) rv dv
 | inl i =>
  obtain ⟨z,hs,vs,pk,dd⟩:=Jk I h hk
  obtain ⟨rfl,t',rfl⟩:=jt dy ry
  refine call_meetsIn NA dd.typeIs EW (EF _ _ _) (meets_dict_get_default (intKind X.prog X.w) a (Xt _ _ i t') hs r) ⟨_,dd.mapOf,?_⟩
  rcases Z6 i pk t with ⟨e1,e2,_⟩|⟨d',v,w',e1,e2,rv,dv,_⟩
  ·rw [e1] at q;rw [e2];exact q _ _ _ (I.tok _) rx dxv
  ·rw [e1] at q;rw [e2];exact q _ _ _ (I.tok _) rv dv
def qkI (K:Kd):TSet:=fun o i v H Q=>∃ S p kvs ep ks ds d,o=.ref p/\H p=some (DctO p kvs ep)/\DenL K H S (kvs.map fun p=>kxV p.1 p.2.1) (kvs.map fun p=>kxD p.1)/\DenL K H S (kvs.map (·.2.2)) ds/\(∀ p∈kvs,kxI p.1=kxI ks)/\Den K H S i (kxD ks)/\Den K H S v d/\kvs.length<1000/\∀ b ep',i=kxV ks b->Q (upd H p (DctO p (putV kvs ks b v) ep'))
theorem j9 (kvs:List (KX×Addr×V))(ks:KX)(b:Ke)(v:V):(putV kvs ks b v).length<=kvs.length+1:=by
 unfold putV
 split
 ·rw [Kj];omega
 ·rw [Kp,Ky];omega
theorem set_dict (hu:X.A.units+64<cLine):PSet X (qkI X.K):=by
 intro pins s σ H o i v ov iv u Q I ro ri rv h
 obtain ⟨S,p,kvs,ep,ks,ds,d,rfl,hp,k,t,hk,di,dv,hz,q⟩:=h
 cases ro
 have z1000:1000<sizeLine:=zA (Ko _)
 cases ks with
 | inr ks =>
  obtain ⟨z,hs,xs,pk,dd⟩:=Jl I hp k hk
  obtain ⟨b,rfl,rfl,hk⟩:=key_is I di ri
  have hxl:xs.length<=sizeLine:=by rw [← XG pk];exact z
  have he:(kvs.any fun p=>decide (p.1=.inr ks))=(atKey xs ks).isSome:=by
   rcases Zw ks pk t with ⟨_,e2,e3⟩|⟨_,_,_,_,_,e2,_,_,e3⟩
   ·rw [e2,e3];rfl
   ·rw [e2,e3];rfl
  refine wpAny_setItem_heap (knd:=Yv X.prog X.w) (hsz:=hxl) (qat hu) hk dd fun h' dd' hs'=>?_
  obtain ⟨o,es,ep',g1,g2,g3,g4,_,g5⟩:=dd'
  have dct:zJ p (putV kvs (.inr ks) b v) ep' h':=⟨by have:=j9 kvs (.inr ks) b v;omega,hs,.inl ⟨_,qcf pk rv he,o,es,g1,g2,g3,g4,g5⟩⟩
  exact ⟨_,I.write (x:=p) (e:=p) (by rw [hp];exact Uj) (.inl rfl) (fun c o' hc e=>(hs'.2 c hc).trans e) ⟨o,g1⟩ dct.ok,q b ep' rfl⟩
 | inl i =>
  obtain ⟨z,hs,vs,pk,dd⟩:=Jk I hp hk
  obtain ⟨rfl,t',rfl⟩:=jt di ri
  have hxl:vs.length<=sizeLine:=by rw [← XG pk];exact z
  refine wpAny_setItem_pairs (hsz:=hxl) (Xt _ _ i t') dd fun h' dd' hs'=>?_
  obtain ⟨o,es,ep',g1,g2,g3,g4,g4',g5⟩:=dd'
  have dct:zJ p (putV kvs (.inl i) 0 v) ep' h':=⟨by have:=j9 kvs (.inl i) 0 v;omega,hs,.inr ⟨_,qce pk rv,o,es,g1,g2,g3,JH g4' fun e he=>g4 e (XD.mp he),g5⟩⟩
  exact ⟨_,I.write (x:=p) (e:=p) (by rw [hp];exact Uj) (.inl rfl) (fun c o' hc e=>(hs'.2 c hc).trans e) ⟨o,g1⟩ dct.ok,q 0 ep' rfl⟩
end
section
variable {prog:Kt}{w:KF}{A:KG}{E:Kb->Kf->Prop}{s:Kf}
theorem qh5 {d:Ke}{od:Obj}{es:Array UB}{ep:Nat}{Q:Kb->Kf->Prop}(hd:(d==sysModules)=false)(ho:s.heap.get? d=some od)(hx:od.ExactDict)(hdat:od.data=.dict es ep)
  (hQ:Q (.ref s.heap.objs.size) { s with heap:=s.heap.push { cls:=.type "dict_keyiterator", data:=.fields #[.ref d,.int 0 0,.int es.size 0,.int ep 0] } }):wpAny (model prog w) A (pyIter (.ref d)) Q E s:=by
 have hT:s.TypeIs (.ref d) "dict" := ⟨od,ho,hx.1⟩
 refine wpAny_pyIter_slot hT F.slot_dict_iter (Ud F.slot_dict_iter hT F.entry_dict_iter (id ?_) (F.args_dict_iter_1 _))
 unfold UA.«dict.__iter__»
 refine Kc (id ?_)
 unfold Builtin.Dict.dictSlotNone
 refine Kc (wpAny_notOrdered_dict hT (id ?_:wpAny _ _ (pure (KD d)) _ _ s))
 refine Kl (id ?_:wpAny _ _ (Builtin.Dict.showsAll d >>= _) _ _ s)
 unfold Builtin.Dict.showsAll
 rw [if_neg (fun z=>by rw [hd] at z;cases z)]
 refine Kc (Kl (Kc (Eh ho hdat (Kc (EN ho hdat ?_)))))
 refine Kc (Vy (Kl ⟨_,rfl, "dict_keyiterator", _,⟨_,Kv _ rfl,rfl⟩,Um.lookup,by simpa [rawInt] using hQ⟩))
theorem qa1 {it d:Ke}{od:Obj}{es:Array UB}{i ep:Nat}{e:UB}{Q:Option Kb->Kf->Prop}(hit:s.heap.IsKeyIter it d i es.size ep)(hod:s.heap.get? d=some od)(hdd:od.data=.dict es ep)(hx:es[i]?=some e)
  (hQ:∀ h',h'.IsKeyIter it d (i+1) es.size ep->US it s.heap h'->Q (some e.key) { s with heap:=h' }):wpAny (model prog w) A (pyNext (.ref it)) Q E s:=by
 obtain ⟨o,ho,hc,hd⟩:=id hit
 unfold pyNext
 refine Kc (wpAny_attempt (UH (name:=Kg "__next__") hit.typeIs Um (Ud Um hit.typeIs NN (Kc (Kl (Kc (Kc ?_)))) (NJ _))))
 first|refine Kc (UE hit.typeIs (Kl (Kc (NR ho hd ?_))))|refine Kc (Xg hit.typeIs (Kl (Kc (NR ho hd ?_))))
 have hown:Builtin.Dict_items.ownsTuple "dict_keyiterator" = false:=rfl
 simp only [VH,hown,if_false]
 refine (id ?_:wpAny _ _ (if (KD d==K5)=true then _ else _) _ _ s)
 rw [if_neg (fun z=>VG z:¬ ((KD d==K5)=true))]
 refine Kc (Kl (Kc (Eh hod hdd ?_)))
 rw [if_neg (by simp)]
 refine Kc (Kl (Kc (EN hod hdd ?_)))
 rw [if_neg (by simp)]
 refine Kl (id ?_)
 have hlt:i<es.size:=(V4.mp hx).1
 have hee:es[i]=e:=(V4.mp hx).2
 simp only [show ¬ ((i:Int)<0) from by omega,VO,if_false,Ub hlt,hee]
 refine Kc (id ?_)
 first|refine Kc (UE hit.typeIs (Kl (Kc (NB hit.typeIs ?_))))|refine Kc (Xg hit.typeIs (Kl (Kc (NB hit.typeIs ?_))))
 refine (Kc (Xb ho hd (by simp) ?_):wpAny _ _ (setField (.ref it) 1 (rawInt ((i:Int)+1)) >>= _) _ _ s)
 have hit':(s.heap.update it (UY (·.setIfInBounds 1 (rawInt ((i:Int)+1))))).IsKeyIter it d (i+1) es.size ep:=⟨_,VZ _ ho (Ny (UT hd _)),(Eg ..).trans hc,by rw [UT hd];simp [rawInt]⟩
 refine Kc (VP (Kc (NB (s:={ s with heap:=s.heap.update it (UY (·.setIfInBounds 1 (rawInt ((i:Int)+1)))) }) hit'.typeIs (id ?_:wpAny _ _ (pure e.key) _ _ _))))
 exact Kl (Kl ⟨_,rfl,Kl (hQ _ hit' (XN ..))⟩)
theorem qbX {it d:Ke}{od:Obj}{es:Array UB}{i ep:Nat}{Q:Option Kb->Kf->Prop}(hh:A.handled=none)(hit:s.heap.IsKeyIter it d i es.size ep)(hod:s.heap.get? d=some od)(hdd:od.data=.dict es ep)(hge:es.size<=i)
  (hQ:∀ h',Heap.ExtBut it s.heap h'->Q none { s with heap:=h' }):wpAny (model prog w) A (pyNext (.ref it)) Q E s:=by
 obtain ⟨o,ho,hc,hd⟩:=id hit
 unfold pyNext
 refine Kc (wpAny_attempt (UH (name:=Kg "__next__") hit.typeIs Um (Ud Um hit.typeIs NN (Kc (Kl (Kc (Kc ?_)))) (NJ _))))
 first|refine Kc (UE hit.typeIs (Kl (Kc (NR ho hd ?_))))|refine Kc (Xg hit.typeIs (Kl (Kc (NR ho hd ?_))))
 have hown:Builtin.Dict_items.ownsTuple "dict_keyiterator" = false:=rfl
 simp only [VH,hown,if_false]
 refine (id ?_:wpAny _ _ (if (KD d==K5)=true then _ else _) _ _ s)
 rw [if_neg (fun z=>VG z:¬ ((KD d==K5)=true))]
 refine Kc (Kl (Kc (Eh hod hdd ?_)))
 rw [if_neg (by simp)]
 refine Kc (Kl (Kc (EN hod hdd ?_)))
 rw [if_neg (by simp)]
 refine Kl (id ?_)
 simp only [show ¬ ((i:Int)<0) from by omega,VO,if_false,Ng hge]
 refine Kc (id ?_)
 first|refine Kc (UE hit.typeIs (Kl (id ?_)))|refine Kc (Xg hit.typeIs (Kl (id ?_)))
 refine (Kc (Xb ho hd (by simp) ?_):wpAny _ _ (setField (.ref it) 0 .none >>= _) _ _ s)
 refine (Kc ?_:wpAny _ _ (newExc (.type "StopIteration") [] >>= _) _ _ _)
 simp only [newExc,newTuple]
 refine Kc (Vy (Kc (m:=firstArgMember _ _) (Nh (a:=K5) (by first|rfl|(simp only [firstArgMember];rfl)) (Vy ?_ (by size_fits)))) (by size_fits))
 simp only [raiseNew]
 refine Kc (wpAny_handled (id ?_))
 rw [show A.in1.handled=none from hh]
 refine Kc (Kl (wpAny_throw (id ?_)))
 exact Kc (wpAny_isInstance (T := "StopIteration") (b:=true) ⟨_,Kv _ rfl,rfl⟩ isSubtype_stop (Kl (hQ _ (((XN ..).extBut.push _).push _))))
end
def Itd (a:Ke)(kvs:List (KX×Addr×V))(ep:Nat):It :=
 ⟨fun i H=>H a=some (DctO a kvs ep)/\i<kvs.length,fun i H x H'=>H'=H/\∃ p,kvs[i]?=some p/\x=kxV p.1 p.2.1,fun i H=>H a=some (DctO a kvs ep)/\kvs.length<=i⟩
theorem jX {h:Kx}{a:Ke}{kvs:List (KX×Addr×V)}{ep:Nat}(d:zJ a kvs ep h):∃ o es,h.get? a=some o/\o.ExactDict/\o.data=.dict es ep/\es.size=kvs.length/\∀ (i:Nat) p,kvs[i]?=some p->∃ e,es[i]?=some e/\RelV (kxV p.1 p.2.1) e.key/\RelV p.2.2 e.val:=by
 obtain ⟨o,es,h1,h2,h3,vk,vv⟩:=d.vals
 have hsz:es.size=kvs.length:=by
  have:=vk.length
  rw [Kj,Kj,K0] at this
  exact this.symm
 refine ⟨o,es,h1,h2,h3,hsz,fun i p hp=>?_⟩
 have hi:i<es.size:=by rw [hsz];exact (Vg.mp hp).1
 refine ⟨es[i],Ub hi,?_,?_⟩
 ·obtain ⟨u,hu,ru⟩:=vk.get (i:=i) (x:=kxV p.1 p.2.1) (by rw [Vb,hp];rfl)
  rw [Vb,Nx,Ub hi] at hu
  cases hu
  exact ru
 ·obtain ⟨u,hu,ru⟩:=vv.get (i:=i) (x:=p.2.2) (by rw [Vb,hp];rfl)
  rw [Vb,Nx,Ub hi] at hu
  cases hu
  exact ru
theorem qfk {P:Kt}{w:KF}{K:Kd}{tg:Kw}(a it:Ke)(kvs:List (KX×Addr×V))(ep:Nat):Turn P w K tg (Itd a kvs ep) [it] it (fun i h=>h.IsKeyIter it a i kvs.length ep) where
 mem:=by simp
 obj:=fun i h st b hb=>by
  have e:b=it:=by simpa using hb
  subst e
  obtain ⟨o,e,c,d⟩:=st
  exact ⟨o,e,fun v z=>by rw [d] at z;cases z⟩
 keep:=fun i h h' st k=>st.at fun o e=>k it (by simp) o e
 item:=by
  intro X hP hw hK hc i pins s σ H E I hf st hg
  subst hP hw hK
  obtain ⟨hq,hlt⟩:=hg
  obtain ⟨o,es,h1,h2,h3,hsz,hkey⟩:=jX (zJ.of (I.hok a _ hq))
  obtain ⟨e,he,hk,_⟩:=hkey i kvs[i] (Kq hlt)
  obtain ⟨f0,f1,f2,f3,f4,f5⟩:=hf it (by simp)
  have st':s.heap.IsKeyIter it a i es.size ep:=by rw [hsz];exact st
  refine qa1 st' h1 h3 he fun h' st2 sb=>?_
  have I1:Inv X pins σ H { s with heap:=h' }:=I.turned (t':=s.toks) (fun b o hb e=>(sb.2 b hb).trans e) f0 f1 f3 f4 f5
  obtain ⟨o2,e2,c2,d2⟩:=id st2
  refine ⟨e.key,rfl,qdG (s:={ s with heap:=h' }) e2 c2 d2 (by decide) ⟨kxV kvs[i].1 kvs[i].2.1,H,I1,hk,⟨rfl,_,Kq hlt,rfl⟩,by rw [hsz] at st2;exact st2,fun b hb=>(hf b hb).1⟩⟩
 done:=by
  intro X hP hw hK hc i pins s σ H E I hf st hg
  subst hP hw hK
  obtain ⟨hq,hge⟩:=hg
  obtain ⟨o,es,h1,h2,h3,hsz,hkey⟩:=jX (zJ.of (I.hok a _ hq))
  obtain ⟨f0,f1,f2,f3,f4,f5⟩:=hf it (by simp)
  have st':s.heap.IsKeyIter it a i es.size ep:=by rw [hsz];exact st
  exact qbX (I.ok.hd hc) st' h1 h3 (by omega) fun h' eb=>⟨rfl,I.turned (t':=s.toks) (fun b o hb e=>eb b o hb e) f0 f1 f3 f4 f5⟩
 self:=fun _ _ _ _ _ st h=>wpAny_pyIter_keyiter st h
def iDct (tl:TE):TI:=fun σ H R=>tl σ H fun x H1=>∃ a kvs ep,x=.ref a/\H1 a=some (DctO a kvs ep)/\R (Itd a kvs ep) H1
section
variable {X:Cx}{M:List Nat}{a:Kw}{f:Rho->Option Ka}
theorem qiL {tg l:Kw}{tl:TE}(hl:PE X l tl):PI X tg l (iDct tl):=by
 intro pins s σ H R I h
 refine thn (hl pins s σ H _ I h) fun v s1 ⟨x,H1,I1,r1,p,kvs,ep,ex,hq,q⟩=>?_
 subst ex
 cases r1
 have d:=zJ.of (I1.hok p _ hq)
 obtain ⟨o,es,h1,h2,h3,hsz,_⟩:=jX d
 refine qh5 d.2.1 h1 h2 h3 ?_
 rw [hsz]
 refine ⟨s1.heap.objs.size,[s1.heap.objs.size],_,_,H1,rfl,I1.kept (t':=s1.toks) fun b o e=>Ki _ e,qfk p _ kvs ep,⟨_,Kv _ rfl,rfl,rfl⟩,fun b hb=>?_,q⟩
 have e:b=s1.heap.objs.size:=by simpa using hb
 subst e
 exact I1.fpOk (Ko _) (I1.hok.fresh (Ko _))
theorem IsIt.dct {K:Kd}{H:Hp}{S:Av}{l:Ke}{kvs:List (KX×Addr×V)}{ep:Nat}(h:H l=some (DctO l kvs ep))(k:DenL K H S (kvs.map fun p=>kxV p.1 p.2.1) (kvs.map fun p=>kxD p.1)):IsIt K S (Itd l kvs ep) H (kvs.map fun p=>kxD p.1) where
 go:=fun i H' e hi=>⟨e _ _ h,by rwa [Kj] at hi⟩
 yld:=fun i H' x H2 e ⟨e2,p,hp,ex⟩=>⟨by rw [e2];exact Same.refl _,fun d hd S' w=>by
  obtain ⟨v,h1,h2⟩:=k.get hd
  rw [Vb,hp] at h1
  cases h1
  rw [ex]
  exact w _ _ h2⟩
 stop:=fun H' e=>⟨e _ _ h,by rw [Kj];exact Ko _⟩
def Yu:Ka->Option (List Ka)
 | .dict kvs=>if excK kvs=true then none else some (kvs.map (·.1))
 | _=>none
theorem yq {tg:Kw}(h:PD X M a f):PDI X M tg a (evI f Yu) :=
 (qiL h).weak fun σ H R ⟨S,ρ,ds,hs,e,w⟩=>by
  obtain ⟨x,e1,e⟩:=qe e
  refine ⟨S,ρ,x,hs,e1,fun v H1 g1 d1=>?_⟩
  cases d1 with
  | @dict p kvs ep ds' h k t =>
   have hl:kvs.length=ds'.length:=by
    have:=t.length
    rwa [Kj] at this
   have e:(if excK (dkv kvs ds')=true then none else some ((dkv kvs ds').map (·.1)))=some ds:=e
   rw [wJ,qbn hl] at e
   cases e
   exact ⟨p,kvs,ep,rfl,h.1,w _ _ g1 fun H2 o=>IsIt.dct (o _ _ h.2 h.1) (k.off (hs.1.same g1) o)⟩
  | _=>cases e
end
def qjr (K:Kd):R2:=fun x y H Q=>∃ S a kvs ep ks ds d,x=.ref a/\H a=some (DctO a kvs ep)/\DenL K H S (kvs.map fun p=>kxV p.1 p.2.1) (kvs.map fun p=>kxD p.1)/\DenL K H S (kvs.map (·.2.2)) ds/\(∀ p∈kvs,kxI p.1=kxI ks)/\Den K H S y (kxD ks)/\qZ (dkv kvs ds) ks=some d/\∀ v,Den K H S v d->Q v H
section
variable {X:Cx}{G:Gm}{M M' Mb L:List Nat}{fr:Fr}{a b c:Kw}{es:List Kw}{f fk fx g fa fb:Rho->Option Ka}{pos:Pos}{u:Rho->Option Out}
theorem qh6 (hu:X.A.units+64<cLine):IxR X (qjr X.K):=by
 intro value slice pins s σ H x y v u Q I rx ry h hs
 obtain ⟨S,p,kvs,ep,ks,ds,d,rfl,hp,k,t,hk,dy,e,q⟩:=h
 cases rx
 exact tail_any (J5 I hp).1 El.lookup (qhF hu I hp k t hk dy ry e fun v' w' s' I' r' d'=>⟨v',H,I',r',q v' d'⟩) hs
theorem Wd {k:Nat}(hr:Room k X.A)(ha:PD X M a fa)(hb:PD X M b fb)(hs:YG b:=by intro _ _;rfl):PD X M (.Subscript a b pos) (ev2 fa fb ix2D) :=
 (qgN (r:=fun x y H Q=>(rIxL X.K x y H Q\/rIxT X.K x y H Q)\/qjr X.K x y H Q) ((qdK.or qgb).or (qh6 hr.units)) ha hb hs).weak fun σ H Q ⟨S,ρ,d,hs,e,q⟩=>by
  obtain ⟨x,e1,e⟩:=qe e
  obtain ⟨y,e2,e⟩:=qe e
  refine ⟨S,ρ,x,hs,e1,fun v H1 g1 d1=>⟨S,ρ,y,hs.same g1,e2,fun w H2 g2 d2=>?_⟩⟩
  have d1':=d1.same g2
  cases d1' with
  | list h t =>
   cases d2 with
   | int i =>
    obtain ⟨z,h1,h2⟩:=t.atI e
    exact .inl (.inl ⟨_,_,i,z,rfl,rfl,h.sq,h1,q z H2 (g1.trans g2) h2⟩)
   | _=>cases e
  | tuple h t =>
   cases d2 with
   | int i =>
    obtain ⟨z,h1,h2⟩:=t.atI e
    exact .inl (.inr ⟨_,_,i,z,rfl,rfl,h,h1,q z H2 (g1.trans g2) h2⟩)
   | _=>cases e
  | @dict p kvs ep ds h k t =>
   have e:ob (kxOf y) (fun ks=>if kOk (dkv kvs ds) ks=true then qZ (dkv kvs ds) ks else none)=some d:=e
   obtain ⟨ks,e3,e⟩:=qe e
   have hl:kvs.length=ds.length:=by
    have:=t.length
    rwa [Kj] at this
   split at e
   case isFalse=>cases e
   rename_i hok
   rw [QL e3] at d2
   exact .inr ⟨S,p,kvs,ep,ks,ds,d,rfl,h.1,k,t,jr hl hok,d2,e,fun v' d'=>q v' H2 (g1.trans g2) d'⟩
  | exc0 h o=>exact (Zg (g:=id) e).elim
  | exc1 h o x z t=>exact (Zg (g:=id) e).elim
  | ins h o=>exact (Zg (g:=id) e).elim
  | _=>cases e
theorem d_in2 {k:Nat}(hr:Room k X.A):OpD X (compareOp .In) in2D:=by
 intro pins s σ H x y v u Q I rx ry h
 obtain ⟨S,dx,dy,d,m,h1,h2,e,q⟩:=h
 cases h2 with
 | @dict p kvs ep ds hp kk t =>
  have e:ob (kxOf dx) (fun ks=>if kOk (dkv kvs ds) ks=true then some (Ni (qZ (dkv kvs ds) ks).isSome) else none)=some d:=e
  obtain ⟨ks,e3,e⟩:=qe e
  have hl:kvs.length=ds.length:=by
   have:=t.length
   rwa [Kj] at this
  split at e
  case isFalse=>cases e
  rename_i hok
  cases e
  rw [QL e3] at h1
  cases (show u=KD p from ry)
  exact dg_in hr.units I hp.1 kk t (jr hl hok) h1 rx fun s' I'=>⟨.bl _,H,I',rfl,q _ H (Same.refl H) (.bool _)⟩
 | list a b=>exact d_in hr pins s σ H x _ v u Q I rx ry ⟨S,dx,_,d,m,h1,.list a b,e,q⟩
 | tuple a b=>exact d_in hr pins s σ H x _ v u Q I rx ry ⟨S,dx,_,d,m,h1,.tuple a b,e,q⟩
 | exc0 h o=>exact (Zg (g:=id) e).elim
 | exc1 h o x z t=>exact (Zg (g:=id) e).elim
 | ins h o=>exact (Zg (g:=id) e).elim
 | _=>cases e
theorem qfR {k:Nat}(hr:Room k X.A):OpD X (compareOp .NotIn) qag:=by
 intro pins s σ H x y v u Q I rx ry h
 obtain ⟨S,dx,dy,d,m,h1,h2,e,q⟩:=h
 cases h2 with
 | @dict p kvs ep ds hp kk t =>
  have e:ob (kxOf dx) (fun ks=>if kOk (dkv kvs ds) ks=true then some (Ni (!(qZ (dkv kvs ds) ks).isSome)) else none)=some d:=e
  obtain ⟨ks,e3,e⟩:=qe e
  have hl:kvs.length=ds.length:=by
   have:=t.length
   rwa [Kj] at this
  split at e
  case isFalse=>cases e
  rename_i hok
  cases e
  rw [QL e3] at h1
  cases (show u=KD p from ry)
  exact qfT hr.units I hp.1 kk t (jr hl hok) h1 rx fun s' I'=>⟨.bl _,H,I',rfl,q _ H (Same.refl H) (.bool _)⟩
 | list a b=>exact YM hr pins s σ H x _ v u Q I rx ry ⟨S,dx,_,d,m,h1,.list a b,e,q⟩
 | tuple a b=>exact YM hr pins s σ H x _ v u Q I rx ry ⟨S,dx,_,d,m,h1,.tuple a b,e,q⟩
 | exc0 h o=>exact (Zg (g:=id) e).elim
 | exc1 h o x z t=>exact (Zg (g:=id) e).elim
 | ins h o=>exact (Zg (g:=id) e).elim
 | _=>cases e
theorem Wg:PF X M (.Dict [] [] pos) (kd (.dict [])):=fun pins s σ H Q I ⟨S,ρ,d,hs,e,q⟩=>by
 cases e
 have hb:sysModules<s.heap.objs.size:=X0 (by decide) (show mainGlobals<s.heap.objs.size from (I.mod.glob.keeps I.bk).lt)
 have hn:=I.hok.fresh (Ko s.heap.objs.size)
 have dct:zJ s.heap.objs.size [] 0 (s.heap.push { cls:=.type "dict", data:=.dict #[] }):=⟨Vc _,beq_eq_false_iff_ne.mpr (VU (KR hb)),.inl ⟨[],.nil,_,#[],Kv _ rfl,⟨rfl,rfl,rfl⟩,rfl,rfl,U8⟩⟩
 exact wpAny_Dict_empty ⟨.ref s.heap.objs.size,_,I.laid (a:=s.heap.objs.size) (o:=DctO s.heap.objs.size [] 0) (t':=s.toks) (fun _ _ q=>Ki _ q) (Ko _) dct.ok,rfl,q _ _ (Same.lay hn) hn (.dct (kvs:=[]) (ds:=[]) qF .nil .nil)⟩
def ev3 (f g h:Rho->Option Ka)(r:Ka->Ka->Ka->Option Ka):Rho->Option Ka:=fun ρ=>ob (f ρ) fun x=>ob (g ρ) fun y=>ob (h ρ) fun z=>r x y z
theorem qd2 {k:Nat}{o:Kw}{apos cpos:Pos}(hr:Room k X.A)(ho:PD X M o f)(he:PD X M a fk)(hx:PD X M b fx)
  (hbase:attributeBase o "get" X.env (eval o X.env)=eval o X.env:=by rfl)
  (hfew:((backTo cpos (starEach [a,b] X.env)).all (fun x=>!x.1)&&(backToKw cpos (keywordEach [] X.env)).all (fun x=>x.1.isSome)
   && decide ([a,b].length+([]:List U6).length+(if ([]:List U6).isEmpty then 0 else 1)<30))=true:=by rfl)
  (hline:(apos.endLine==cpos.line)=true:=by rfl) (htr:backTo cpos (starEach [a,b] X.env)=[(false,eval a X.env),(false,eval b X.env)]:=by rfl) :
  PD X M (.Call (.Attribute o "get" apos) [a,b] [] cpos) (ev3 f fk fx jY):=by
 intro pins s σ H Q I ⟨S,ρ,d,hs,e,q⟩
 obtain ⟨x,e1,e⟩:=qe e
 obtain ⟨y,e2,e⟩:=qe e
 obtain ⟨z,e3,e⟩:=qe e
 refine wpAny_Call_method hbase hfew hline PySem.F.plainAttrs_dict NA PySem.F.type_dict_get (thn (ho pins s σ H (fun v H1=>Same H H1/\Den X.K H1 S v x) I ⟨S,ρ,x,hs,e1,fun v H1 g1 d1=>⟨g1,d1⟩⟩) fun v s1 ⟨xv,H1,I1,rx,g1,d1⟩=>?_)
 cases d1 with
 | @dict p kvs ep ds h kk t =>
  have e:ob (kxOf y) (fun ks=>if kOk (dkv kvs ds) ks=true then some ((qZ (dkv kvs ds) ks).getD z) else none)=some d:=e
  obtain ⟨ks,e4,e⟩:=qe e
  have hl:kvs.length=ds.length:=by
   have:=t.length
   rwa [Kj] at this
  split at e
  case isFalse=>cases e
  rename_i hok
  cases e
  obtain rfl:v=KD p:=rx
  refine ⟨(J5 I1 h.1).1,fun a' q'=>?_,?_⟩
  ·cases q'
   exact (J5 I1 h.1).2
  rw [htr]
  refine Calls.callWith_builtin rfl (Calls.evalArgs_plain (Calls.spliced_cons (thn (he pins s1 σ H1 (fun v H2=>Same H1 H2/\Den X.K H2 S v y) I1 ⟨S,ρ,y,hs.same g1,e2,fun v H2 g2 d2=>⟨g2,d2⟩⟩) fun kv s2 ⟨yv,H2,I2,ry,g2,d2⟩ =>
   Calls.spliced_cons (thn (hx pins s2 σ H2 (fun v H3=>Same H2 H3/\Den X.K H3 S v z) I2 ⟨S,ρ,z,hs.same (g1.trans g2),e3,fun v H3 g3 d3=>⟨g3,d3⟩⟩) fun zv s3 ⟨zz,H3,I3,rz,g3,d3⟩=>Calls.spliced_nil ?_))))
  have g23:=g2.trans g3
  rw [QL e4] at d2
  exact qhE hr.units I3 (g23 _ _ h.1) (kk.same g23) (t.same g23) (jr hl hok) (d2.same g3) ry d3 rz fun v' w' s' I' r' dv=>⟨v',H3,I',r',q v' H3 (g1.trans g23) dv⟩
 | exc0 h o=>exact (Zg (g:=id) e).elim
 | exc1 h o x z t=>exact (Zg (g:=id) e).elim
 | ins h o=>exact (Zg (g:=id) e).elim
 | _=>cases e
def yE (i:Nat)(fk f:Rho->Option Ka):Rho->Option Out:=fun ρ=>ob (f ρ) fun d=>ob (vr i ρ) fun l=>ob (fk ρ) fun k=>ob (wI l k d) fun l'=>some (.nx (ρ.set i (some l')))
theorem qhV (js:List Int):yf (js.map .int)=true:=by
 induction js with
 | nil=>rfl
 | cons j js ih=>exact ih
theorem qaM:∀ ks:K2,yf (ks.map k2D)=true
 | []=>rfl
 | .inl _::ks=>qaM ks
 | .inr js::ks=>by
  show (yf (js.map .int)&&yf (ks.map k2D))=true
  rw [qhV,qaM];rfl
theorem qfZ (k:KX):flat (kxD k)=true:=by
 cases k with
 | inl i=>rfl
 | inr ks=>exact qaM ks
theorem qcA {l k d l':Ka}(e:wI l k d=some l'):∃ kvs ks,l=.dict kvs/\k=kxD ks/\kOk kvs ks=true/\kvs.length<1000/\l'=.dict (putD kvs ks d):=by
 unfold wI at e
 split at e
 ·obtain ⟨ks,e1,e⟩:=qe e
  split at e
  ·rename_i hc;cases e;exact ⟨_,ks,rfl,QL e1,hc.1,hc.2,rfl⟩
  ·cases e
 ·cases e
theorem qgD {kvs:List (KX×Addr×V)}{ep:Nat}{ds:List Ka}{S:Av}{σ:St}{ρ:Rho}{H:Hp}{i:Nat}{pp b:Ke}{ks:KX}{v:V}{d:Ka}{ep':Nat}(os:OwnS X.K G M L H S σ ρ)(hM:Flt M i)(hL:i∉L)(e0:ρ[i]?=some (some (.dict (dkv kvs ds))))(a1:σ[i]?=some (some (.ref pp)))(c1:S pp)(h:H pp=some (DctO pp kvs ep))(k:DenL X.K H S (kvs.map fun p=>kxV p.1 p.2.1) (kvs.map fun p=>kxD p.1))(t:DenL X.K H S (kvs.map (·.2.2)) ds)(dk:Den X.K H S (kxV ks b) (kxD ks))(dv:Den X.K H S v d)
  (he:(kvs.any fun p=>decide (p.1=ks))=(qZ (dkv kvs ds) ks).isSome):OwnS X.K G M L (upd H pp (DctO pp (putV kvs ks b v) ep')) S σ (ρ.set i (some (.dict (putD (dkv kvs ds) ks d)))):=by
 obtain ⟨ds',t',ed⟩:=qcg (b:=b) t dv he
 refine os.write hM hL e0 a1 rfl ?_
 rw [← ed]
 exact .dct qF ((qcd k dk).off os.ds.1 (Off.upd c1)) (t'.off os.ds.1 (Off.upd c1))
theorem J0 {K:Kd}{H:Hp}{S:Av}(ks:KX):∀ {kvs:List (KX×Addr×V)} {ds:List Ka},DenL K H S (kvs.map (·.2.2)) ds->(kvs.any fun p=>decide (p.1=ks))=(qZ (dkv kvs ds) ks).isSome
 | [],_,t=>by cases t;rfl
 | p::kvs,_,t=>by
  cases t with
  | @cons _ d _ ds dv t' =>
   rw [Qq,Ug]
   by_cases e:p.1=ks
   ·rw [Jo e,decide_eq_true e];rfl
   ·rw [Jm e,decide_eq_false e,XH];exact J0 ks t'
theorem qaJ {kvs:List (KX×Addr×V)}{ds:List Ka}(h:kvs.length=ds.length):(dkv kvs ds).length=kvs.length:=by
 unfold dkv
 rw [List.length_zip,Kj,h,Nat.min_self]
theorem qan {k:Nat}(hr:Room k X.A)(i:Nat){x:Str}{px sp:Pos}(hv:Vis X.env.scope x)(hM:Flt M i)(hL:i∉L)(hk:PD X [] b fk)(he:PD X [] a f)(hN:X.N[i]?=some x:=by rfl)(hd:(x==("__debug__" : Str))=false:=by decide +kernel)(hcd:(x==("__classdict__" : Str))=false:=by decide +kernel)
  (ha:∀ v,assign (.Subscript (.Name x px) b sp) X.env v=(do
   let ov ← holding [v] (eval (.Name x px) X.env)
   let iv ← holding [v,ov] (eval b X.env)
   standAt sp
   holding [v,ov,iv] (setItem ov iv v)
   release [v,ov,iv] []):=by intro _;rfl)
  (hs:swapsWithSole [.Subscript (.Name x px) b sp] a pos.line X.env=pure false:=by rfl) (hw:swappedStores [.Subscript (.Name x px) b sp] a X.env=pure none:=by rfl)
  (h1:(assignEach [.Subscript (.Name x px) b sp] X.env).map (·.2)=[assign (.Subscript (.Name x px) b sp) X.env]:=by rfl) :
  PDS X G M L M Mb fr (.Assign [.Subscript (.Name x px) b sp] a pos) (yE i fk (qQ f)) :=
 (qcY he (qcW (yZ i hv hN hd hcd) hk (set_dict hr.units) ha) hs hw h1).weak fun D σ H ⟨S,ρ,o,os,e,q⟩=>by
  obtain ⟨d,e1,e⟩:=qe e
  obtain ⟨l,e2,e⟩:=qe e
  obtain ⟨kd,e3,e⟩:=qe e
  obtain ⟨l',e4,e⟩:=qe e
  cases e
  obtain ⟨kvs0,ks,rfl,rfl,hok,hz,rfl⟩:=qcA e4
  obtain ⟨d',e5,e6⟩:=qe e1
  have hf:flat d'=true/\d'=d:=by
   split at e6
   ·rename_i hf;cases e6;exact ⟨hf,rfl⟩
   ·cases e6
  obtain ⟨hf,rfl⟩:=hf
  refine ⟨G.S0,ρ,d',os.den,e5,fun v H1 g1 d1'=>?_⟩
  have d1:Den X.K H1 S v d':=d1'.flat hf
  have os1:=os.same g1
  obtain ⟨pp,a1,b1,c1,n1,w1,_⟩:=os1.own i hM _ (QC e2)
  cases b1 with
  | @dct kvs ep ds h kk t =>
   refine ⟨_,a1,G.S0,ρ,_,os1.den,e3,fun kv H2 g2 dk=>?_⟩
   have os2:=os1.same g2
   have dk:Den X.K H2 S kv (kxD ks):=dk.flat (qfZ ks)
   have hl:kvs.length=ds.length:=by
    have:=t.length
    rwa [Kj] at this
   rw [qaJ hl] at hz
   refine ⟨S,pp,kvs,ep,ks,ds,d',rfl,g2 _ _ h,kk.same g2,t.same g2,jr hl hok,dk,d1.same g2,hz,fun b' ep' eb=>?_⟩
   subst eb
   exact q _ _ _ (qgD os2 hM hL (QC e2) a1 c1 (g2 _ _ h) (kk.same g2) (t.same g2) dk (d1.same g2) (J0 ks t))
end
section
variable {X:Cx}{G:Gm}{M M' Mb L:List Nat}{fr:Fr}{a b c:Kw}{es:List Kw}{f fk g:Rho->Option Ka}{pos:Pos}{u:Rho->Option Out}
def sNo:Rho->Option Out:=fun _=>none
theorem qao {e1 e2:Option Kw}:PDS X G M L M' Mb fr (.Raise e1 e2 pos) sNo:=fun pins s σ H D I ⟨S,ρ,o,os,e,q⟩=>by cases e
end
def tVd (K:Kd)(M:List Nat)(f:Rho->Option Ka):TE:=fun σ H Q=>∃ S ρ d,DenS K H S M σ ρ/\f ρ=some d/\∀ p fp H',Same H H'->(∀ q∈fp,H q=none)->DeepO K H' (insL S fp) fp p d->Q (.ref p) H'
def PV (X:Cx)(M:List Nat)(e:Kw)(f:Rho->Option Ka):Prop:=PE X e (tVd X.K M f)
theorem Kids.length {K:Kd}{H:Hp}{S:Av}:∀ {qs:List Ke} {ds:List Ka},Kids K H S qs ds->qs.length=ds.length
 | _,_,.nil=>rfl
 | _,_,.cons _ _ _ r=>by rw [KC,KC,r.length]
theorem Kids.put {K:Kd}{H:Hp}{S:Av}{q:Ke}{xs:List V}{es:List Ka}(m:Dm S H)(hq:S q)(t:DenL K (L2.upd H q (.lst xs)) S xs es):∀ {qs:List Ke} {ds:List Ka} {i:Nat},Kids K H S qs ds->qs[i]?=some q->Kids K (L2.upd H q (.lst xs)) S qs (ds.set i (.list es))
 | _,_,_,.nil,e=>by simp at e
 | _,_,0,.cons h t' n r,e=>by
  simp at e;subst e
  exact .cons qF t n (r.upd m hq n)
 | _,_,i+1,.cons h t' n r,e=>by
  have e':=(List.getElem?_cons_succ ..).symm.trans e
  have hm:q∈_:=Ve e'
  refine .cons ?_ (t'.off m fun b u z e=>by rw [qD (fun y=>z (by rw [y];exact hq))];exact e) n (Kids.put m hq t r e')
  rw [qD (fun z=>n (by rw [z];exact hm))];exact h
section
variable {X:Cx}{G:Gm}{M M' Mb L:List Nat}{fr:Fr}{a b c:Kw}{es:List Kw}{f fk g:Rho->Option Ka}{pos:Pos}{u:Rho->Option Out}{fs:Rho->Option (List Ka)}
def Wn (i:Nat)(f:Rho->Option Ka):Rho->Option Out:=fun ρ=>if i<ρ.length/\ρ.length<=1000 then ob (f ρ) fun d=>some (.nx (ρ.set i (some d))) else none
theorem qgI (i:Nat){x:Str}{p':Pos}(hN:X.N.Nodup)(hx:Loc X.env.scope x)(hi:X.N[i]?=some x)(hs:swapsWith a (some (.Name x p')) pos.line X.env=pure false)(hf:X.fn x=true\/X.env.scope.names.lookup x=some .local)(hM:Out0 M i)(hL:i∉L)(he:PV X M a f) :
  PDS X G M L (i::(i+1000)::M) Mb fr (.Assign [.Name x p'] a pos) (Wn i f) :=
 (qa3 hN hi hx he hs hf).weak fun D σ H ⟨S,ρ,o,hs,e,q⟩=>by
  unfold Wn at e
  split at e
  ·rename_i hz
   obtain ⟨d,e1,e⟩:=qe e
   cases e
   exact ⟨S,ρ,d,hs.ds,e1,fun p fp H1 g1 n o=>q _ H1 _ (hs.takeD n g1 o hM hL hz.1 hz.2)⟩
  ·cases e
theorem DeepF.same {K:Kd}{H H':Hp}{S:Av}{σ:St}{ρ:Rho}{F:Nat->List Ke}(e:Same H H')(f:DeepF K G M H S σ ρ F):DeepF K G M H' S σ ρ F :=
 ⟨fun i hi d q=>let ⟨p,a,b,c⟩:=f.own i hi d q;⟨p,a,b.same e,c⟩,f.disj,f.flat⟩
end
section
open PySem.SeqAt
open PySem.AutoSeq1 (wpAny_loadPart')
open PySem.MeetsSeq PySem.MeetsSeq2 PySem.MeetsSeq3
end
def bestOf (bt:Nat->Nat->Bool):Nat->Nat
 | 0=>0
 | k+1=>if bt (k+1) (bestOf bt k) then k+1 else bestOf bt k
theorem Ji (bt:Nat->Nat->Bool):∀ k,bestOf bt k<=k
 | 0=>Ko _
 | k+1=>by
  have:=Ji bt k
  rw [bestOf]
  split<;>omega
def WD (prog:Kt)(w:KF)(A:KG)(h0:Kx)(P:Nat->Kb->Prop)(bt:Nat->Nat->Bool):Prop :=
 ∀ (i j:Nat) (x y:Kb) (s:Kf) (Q E:Kb->Kf->Prop),j<i->(∀ b o,h0.get? b=some o->s.heap.get? b=some o)->P i x->P j y->Q (.bool (bt i j)) s->wpAny (model prog w) A (richCompare .Lt x y) Q E s
section
variable {prog:Kt}{w:KF}{A:KG}{R:Result->Kf->Prop}{it:Ke}{fp wr:List Ke}{n:Nat}{P:Nat->Kb->Prop}{St:Nat->Kx->Prop}{h0:Kx}
theorem qgn (W:Walks prog w A.in1 it fp wr n P St)(bt:Nat->Nat->Bool)(hc:WD prog w A.in1 h0 P bt)(Z:Ke)(hZ:Z∉fp)(hw:∀ b o,h0.get? b=some o->b∉wr/\b≠Z)(kw:List (Str×Value)) :
  ∀ (m j:Nat) (s:Kf) (x:Kb) (c:Nat),n-(j+1)=m->j+1<=n->St (j+1) s.heap->P (bestOf bt j) x->(∀ b o,h0.get? b=some o->s.heap.get? b=some o)->
  s.heap.get? Z=some { cls:=.type "list", dict:=none,data:=.seq #[x,x] c,slots:=#[] }->
  (∀ v g tk,P (bestOf bt (n-1)) v->(∀ b o,b∉wr->b≠Z->s.heap.get? b=some o->g.get? b=some o)->R (.ok (.ret v)) { s with heap:=g,toks:=tk })->
  codeAny (model prog w) A (.builtin "min.loop" ⟨[.ref it,.none,.ref Z],kw⟩) R s:=by
 have zw:Z∉wr:=fun h=>hZ (W.sub _ h)
 have nm:(toString "min" ++ toString ".loop" : String) = "min.loop" := by decide
 intro m
 induction m with
 | zero =>
  intro j s x c hm hj st hP hb hz hR
  have last:j+1=n:=by omega
  refine Uq Nq ?_;rw [V1 Ue _]
  show wpAny _ A.in1 (seqItems? (.ref Z) >>= _) _ _ s
  refine Kc (UM hz rfl ?_)
  show wpAny _ A.in1 (tryCatch (pyNext (.ref it)) _ >>= _) _ _ s
  refine Kc (XA (W.done s _ _ (last ▸ st) fun g tk k=>?_))
  have hz':=k Z _ zw hz
  show wpAny _ A.in1 (updateSeq Z (fun _=>#[]) >>= _) _ _ _
  refine Kc (EO hz' rfl (Kc (EX (Kl ?_))))
  exact hR x _ tk (by rw [← last];exact hP) fun b o h1 h2 e=>(VA _ _ (fun z=>h2 z.symm)).trans (k b o h1 e)
 | succ m ih =>
  intro j s x c hm hj st hP hb hz hR
  have more:j+1<n:=by omega
  refine Uq Nq ?_;rw [V1 Ue _]
  show wpAny _ A.in1 (seqItems? (.ref Z) >>= _) _ _ s
  refine Kc (UM hz rfl ?_)
  show wpAny _ A.in1 (tryCatch (pyNext (.ref it)) _ >>= _) _ _ s
  refine Kc (XA (W.item (j+1) s _ _ more st fun y g tk hy st' k=>?_))
  have hz':=k Z _ zw hz
  have hb':∀ b o,h0.get? b=some o->g.get? b=some o:=fun b o e=>k b o (hw b o e).1 (hb b o e)
  show wpAny _ A.in1 (tryCatch (holding [y,y] (richCompare .Lt y x >>= _)) _ >>= _) _ _ _
  refine Kc (XA (VP (Kc (hc (j+1) (bestOf bt j) y x _ _ _ (Nat.lt_succ_of_le (Ji bt j)) hb' hy hP ?_))))
  refine Kc (VP (UZ (Kc (EX (Kl ?_)))))
  cases hh:bt (j+1) (bestOf bt j) with
  | true =>
   simp only [if_true]
   refine Kc (EO hz' rfl (Kc (EX ?_)))
   rw [nm]
   refine Kl ⟨UC Ue _,ih (j+1) _ y _ (by omega) more (W.frame _ _ _ st' fun b h1 o e=>(VA _ _ (fun h:Z=b=>hZ (by rw [h];exact h1))).trans e) (by simp only [bestOf,hh,if_true];exact hy)
    (fun b o e=>(VA _ _ (fun h:Z=b=>(hw b o e).2 h.symm)).trans (hb' b o e)) (VZ _ hz' rfl) fun v g2 tk2 h1 h2=>?_⟩
   exact hR v g2 tk2 h1 fun b o n1 n2 e=>h2 b o n1 n2 ((VA _ _ (fun z=>n2 z.symm)).trans (k b o n1 e))
  | false =>
   simp only [VH,if_false];refine Kc (EX ?_)
   rw [nm]
   refine Kl ⟨UC Ue _,ih (j+1) _ x c (by omega) more st' (by simp only [bestOf,hh,VH,if_false];exact hP) hb' hz' fun v g2 tk2 h1 h2=>?_⟩
   exact hR v g2 tk2 h1 fun b o n1 n2 e=>h2 b o n1 n2 (k b o n1 e)
theorem qeX (W:Walks prog w A.in1 it fp wr n P St)(bt:Nat->Nat->Bool)(hc:WD prog w A.in1 h0 P bt)(Z:Ke)(hZ:Z∉fp)(hw:∀ b o,h0.get? b=some o->b∉wr/\b≠Z)(kw:List (Str×Value))(hn:0<n){s:Kf}{c:Nat}(st:St 0 s.heap)(hb:∀ b o,h0.get? b=some o->s.heap.get? b=some o)
  (hz:s.heap.get? Z=some { cls:=.type "list", dict:=none,data:=.seq #[] c,slots:=#[] })
  (hR:∀ v g tk,P (bestOf bt (n-1)) v->(∀ b o,b∉wr->b≠Z->s.heap.get? b=some o->g.get? b=some o)->R (.ok (.ret v)) { s with heap:=g,toks:=tk }) :
  codeAny (model prog w) A (.builtin "min.loop" ⟨[.ref it,.none,.ref Z],kw⟩) R s:=by
 have zw:Z∉wr:=fun h=>hZ (W.sub _ h)
 have nm:(toString "min" ++ toString ".loop" : String) = "min.loop" := by decide
 refine Uq Nq ?_;rw [V1 Ue _]
 show wpAny _ A.in1 (seqItems? (.ref Z) >>= _) _ _ s
 refine Kc (UM hz rfl ?_)
 show wpAny _ A.in1 (tryCatch (pyNext (.ref it)) _ >>= _) _ _ s
 refine Kc (XA (W.item 0 s _ _ hn st fun y g tk hy st' k=>?_))
 have hz':=k Z _ zw hz
 show wpAny _ A.in1 (updateSeq Z (fun _=>#[y,y]) >>= _) _ _ _
 refine Kc (EO hz' rfl ?_)
 rw [nm]
 refine Kl ⟨UC Ue _,qgn W bt hc Z hZ hw kw _ 0 _ y _ rfl hn (W.frame _ _ _ st' fun b h1 o e=>(VA _ _ (fun h:Z=b=>hZ (by rw [h];exact h1))).trans e) hy
  (fun b o e=>(VA _ _ (fun h:Z=b=>(hw b o e).2 h.symm)).trans (k b o (hw b o e).1 (hb b o e))) (VZ _ hz' rfl) fun v g2 tk2 h1 h2=>?_⟩
 exact hR v g2 tk2 h1 fun b o n1 n2 e=>h2 b o n1 n2 ((VA _ _ (fun z=>n2 z.symm)).trans (k b o n1 e))
end
theorem Vals.back:∀ {vs:List V} {us:List Kb} {i:Nat} {u:Kb},Vals vs us->us[i]?=some u->∃ v,vs[i]?=some v/\RelV v u
 | _,_,_,_,.nil,h=>by simp at h
 | _,_,0,_,.cons r _,h=>by cases h;exact ⟨_,rfl,r⟩
 | _,_,i+1,_,.cons _ t,h=>by
  obtain ⟨v,hv,r⟩:=Vals.back t (i:=i) (by simpa using h)
  exact ⟨v,by simpa using hv,r⟩
theorem DenL.back {K:Kd}{H:Hp}{S:Av}:∀ {vs:List V} {ds:List Ka} {i:Nat} {v:V},DenL K H S vs ds->vs[i]?=some v->∃ d,ds[i]?=some d/\Den K H S v d
 | _,_,_,_,.nil,h=>by simp at h
 | _,_,0,_,.cons r _,h=>by cases h;exact ⟨_,rfl,r⟩
 | _,_,i+1,_,.cons _ t,h=>by
  obtain ⟨v,hv,r⟩:=DenL.back t (i:=i) (by simpa using h)
  exact ⟨v,by simpa using hv,r⟩
section
variable {X:Cx}
def Jj (ds:List Ka):Bool:=ds.all fun d=>VT d&&decide (d.depth<=50)&&ds.all fun e=>(ltX d e).isSome
def zu (ds:List Ka)(i j:Nat):Bool:=match ds[i]?,ds[j]? with
 | some d,some e=>(ltX d e).getD false
 | _,_=>false
def qgu:List Ka->Option Ka
 | [.list ds]=>if Jj ds=true/\ds.length<=1000 then ds[bestOf (zu ds) (ds.length-1)]? else none
 | _=>none
end
theorem qa0:typeLookup (.type "list") "keys" = pure none:=by rw [typeLookup_type,builtinLookup_eq_fast];kernel_rfl
theorem qip {prog:Kt}{w:KF}{A:KG}{E:Kb->Kf->Prop}{s:Kf}{a:Ke}{its:Array Kb}{n:Nat}{sl:Array (Option Kb)}{Q:Option Kb->Kf->Prop}(hx:s.heap.get? a=some { cls:=.type "list", dict:=none,data:=.seq its n,slots:=sl })(hA:A.handled=none)
  (h:∀ h' tk,(∀ b o,s.heap.get? b=some o->h'.get? b=some o)->Q none { s with heap:=h',toks:=tk }):wpAny (model prog w) A (getAttr? (.ref a) "keys") Q E s:=by
 obtain ⟨hp,g,d,tk,os⟩:=s
 have hTT:∀ tk',(⟨hp,g,d,tk',os⟩:Kf).TypeIs (.ref a) "list" := fun _=>⟨_,hx,rfl⟩
 have q1:=sub_AttributeError
 have q3:=X3.lookup
 have q4:=X3.bind (.ref a)
 have q5:=am_list_getattr_none
 unfold getAttr? getAttrBy? getAttrBy
 repeat (any_goals (first|assumption|exact hTT _|((with_reducible show wpAny _ _ (call (KS "list.__getattribute__") _ _) _ _ _);refine call_meets X3 (hTT _) am_entry_list_getattribute (F.args_list_getattribute_2 _ _) (meets_getattribute_miss_list a its n sl "keys" _ qa0 (by decide +kernel) (by size_fits)) ⟨hx,hA,fun h' tk' e hx'=>?_⟩)|wp_step))
 obtain ⟨t',u',he⟩:=hx'.there
 unfold getattributeRaised
 repeat (any_goals (first|assumption|wp_step))
 exact h _ _ hx'.keeps
def qjb (h0:Kx)(ks:KX)(b:Ke)(key:Kb):Prop:=match ks with
 | .inl i=>∃ t,key=.int i t
 | .inr t=>key=.ref b/\Is2 h0 t b
def qcq (h0:Kx)(kvs:List (KX×Addr×V)):Prop:=∀ p∈kvs,∀ ks,p.1=.inr ks->Is2 h0 ks p.2.1
theorem qdc (ks:K2):∀ {kvs:List (KX×Addr×V)} {xs:List (K2×Addr×Value)},Vk PkT kvs xs->(kvs.any fun p=>decide (p.1=.inr ks))=(atKey xs ks).isSome
 | _,_,.nil=>rfl
 | _,_,@EV _ _ _ p q _ qs h t=>by
  rw [Ug,qdc ks t]
  by_cases e:p.1=.inr ks
  ·have eq:q.1=ks:=Sum.inr.inj (h.1.symm.trans e)
   unfold atKey
   rw [decide_eq_true e,KJ,decide_eq_true eq];rfl
  ·have e':¬ q.1=ks:=fun z=>e (by rw [h.1,z])
   unfold atKey
   rw [decide_eq_false e,KJ,decide_eq_false e',XH]
theorem Is2.grow {h h':Kx}{ks:K2}{a:Ke}(x:Is2 h ks a)(k:∀ b o,h.get? b=some o->h'.get? b=some o):Is2 h' ks a:=let ⟨as,r⟩:=x;⟨as,Reads.keeps k r⟩
theorem qjk {h0 h:Kx}(k:∀ b o,h0.get? b=some o->h.get? b=some o):∀ {kvs:List (KX×Addr×V)} {xs:List (K2×Addr×Value)},Vk PkT kvs xs->qcq h0 kvs->∀ x∈xs,Is2 h x.1 x.2.1
 | _,_,.nil,_,x,hx=>by cases hx
 | _,_,@EV _ _ _ p q kvs qs h t,hk,x,hx=>by
  rcases Kk.mp hx with rfl|hx
  ·have:=hk p (.head _) x.1 h.1
   rw [h.2.1] at this
   exact this.grow k
  ·exact qjk k t (fun p hp=>hk p (.tail _ hp)) x hx
theorem qcc {kvs:List (KX×Addr×V)}{ks:KX}{b:Ke}{v:V}{p:KX×Addr×V}(hp:p∈putV kvs ks b v):(∃ q∈kvs,q.1=p.1/\q.2.1=p.2.1)\/p=(ks,b,v):=by
 unfold putV at hp
 split at hp
 ·obtain ⟨q,hq,rfl⟩:=KN.mp hp
  refine .inl ⟨q,hq,?_⟩
  split<;>exact ⟨rfl,rfl⟩
 ·rcases Vv.mp hp with z|z
  ·exact .inl ⟨p,z,rfl,rfl⟩
  ·exact .inr (KL.mp z)
section
variable {prog:Kt}{w:KF}{A:KG}{E:Kb->Kf->Prop}{s:Kf}{D:Ke}{kvs:List (KX×Addr×V)}{ep:Nat}{ks:KX}{b:Ke}{v:V}{key r:Kb}{h0:Kx}
theorem qhG {Q:Unit->Kf->Prop}(hu:A.units+3<cLine)(hk0:qcq h0 kvs)(hkey:qjb h0 ks b key)(hom:∀ p∈kvs,kxI p.1=kxI ks)(kp:∀ b o,h0.get? b=some o->s.heap.get? b=some o)(d:zJ D kvs ep s.heap)(rv:RelV v r)(hz:kvs.length<1000)
  (q:∀ h' tk ep',zJ D (putV kvs ks b v) ep' h'->US D s.heap h'->Q () { s with heap:=h',toks:=tk }):wpAny (model prog w) A (dictSet D key r) Q E s:=by
 have z1000:1000<sizeLine:=zA (Ko _)
 cases ks with
 | inr ks =>
  obtain ⟨xs,pk,o,es,g1,g2,g3,g4,g5⟩:=d.tup hom
  obtain ⟨rfl,hk⟩:=(show key=.ref b/\Is2 h0 ks b from hkey)
  have hxl:xs.length<=sizeLine:=by rw [← XG pk];exact d.1
  refine wpAny_dictSet_heap (knd:=Yv prog w) (hsz:=hxl) hu (hk.grow kp) (xs:=xs) ⟨o,es,ep,g1,g2,g3,g4,qjk kp pk hk0,g5⟩ fun h' dd' hs'=>?_
  obtain ⟨o',es',ep',k1,k2,k3,k4,_,k5⟩:=dd'
  exact q _ _ ep' ⟨by have:=j9 kvs (.inr ks) b v;omega,d.2.1,.inl ⟨_,qcf pk rv (qdc ks pk),o',es',k1,k2,k3,k4,k5⟩⟩ hs'
 | inl i =>
  obtain ⟨vs,pk,o,es,g1,g2,g3,g4,g5⟩:=d.int hom
  obtain ⟨t',rfl⟩:=(show ∃ t,key=.int i t from hkey)
  have hxl:vs.length<=sizeLine:=by rw [← XG pk];exact d.1
  refine wpAny_dictSet_pairs (knd:=intKind prog w) (hsz:=hxl) (Xt _ _ i t') (kvs:=vs) ⟨o,es,ep,g1,g2,g3,W5 g4,w5 g4,g5⟩ fun h' dd' hs'=>?_
  obtain ⟨o',es',ep',k1,k2,k3,k4,k4',k5⟩:=dd'
  exact q _ _ ep' ⟨by have:=j9 kvs (.inl i) b v;omega,d.2.1,.inr ⟨_,qce pk rv,o',es',k1,k2,k3,JH k4' fun e he=>k4 e (XD.mp he),k5⟩⟩ hs'
end
theorem zJ.but {h h':Kx}{D:Ke}{kvs:List (KX×Addr×V)}{ep:Nat}(d:zJ D kvs ep h)(k:∀ o,h.get? D=some o->h'.get? D=some o):zJ D kvs ep h' :=
 ⟨d.1,d.2.1,d.2.2.imp (fun ⟨xs,r,o,es,g1,g2⟩=>⟨xs,r,o,es,k o g1,g2⟩) fun ⟨xs,r,o,es,g1,g2⟩=>⟨xs,r,o,es,k o g1,g2⟩⟩
theorem jZ:entryFor table "dict.update.loop" = some UA.«dict.update.loop»:=entryFor_of_tree (by kernel_rfl)
theorem QX:plainId "dict.update.loop" = true:=by decide +kernel
def putAll:List (KX×Addr×V)->List (KX×Addr×V)->List (KX×Addr×V)
 | kvs,[]=>kvs
 | kvs,p::ps=>putAll (putV kvs p.1 p.2.1 p.2.2) ps
section
variable {prog:Kt}{w:KF}{A:KG}{R:Result->Kf->Prop}{it D:Ke}{fp wr:List Ke}{Pv:Nat->Kb->Prop}{St:Nat->Kx->Prop}{h0:Kx}
def qcr (h0:Kx)(p:KX×Addr×V)(u:Kb):Prop:=∃ t o key r m,u=.ref t/\h0.get? t=some o/\o.cls=.type "tuple"/\o.data=.seq #[key,r] m/\qjb h0 p.1 p.2.1 key/\RelV p.2.2 r
theorem qgo (hu:A.in1.units+3<cLine)(ps:List (KX×Addr×V))(W:Walks prog w A.in1 it fp wr ps.length Pv St)(hP:∀ j u,Pv j u->∃ p,ps[j]?=some p/\qcr h0 p u)(hDf:D∉fp)(hw:∀ b o,h0.get? b=some o->b∉wr/\b≠D)(kd:Bool)(hom:∀ p∈ps,kxI p.1=kd)(hl:ps.length<=900) :
  ∀ (m j:Nat) (s:Kf) (kvs:List (KX×Addr×V)) (ep:Nat) (i:Int) (tk:Tok),ps.length-j=m->j<=ps.length->St j s.heap->zJ D kvs ep s.heap->qcq h0 kvs->(∀ p∈kvs,kxI p.1=kd)->kvs.length<=j->(∀ b o,h0.get? b=some o->s.heap.get? b=some o)->
  (∀ h' tk ep',zJ D (putAll kvs (ps.drop j)) ep' h'->(∀ b o,h0.get? b=some o->h'.get? b=some o)->R (.ok (.ret .none)) { s with heap:=h',toks:=tk })->
  codeAny (model prog w) A (.builtin "dict.update.loop" ⟨[.ref D,.ref it,.int i tk,.none],[]⟩) R s:=by
 have dw:D∉wr:=fun h=>hDf (W.sub _ h)
 intro m
 induction m with
 | zero =>
  intro j s kvs ep i tk hm hj st d hk hkd hlen kp hR
  have last:j=ps.length:=by omega
  refine Uq jZ ?_;rw [V1 QX _]
  refine (Kc (W.done s _ _ (last ▸ st) fun h' tk' k=>?_):wpAny _ A.in1 (pyNext (.ref it) >>= _) _ _ s)
  show wpAny _ A.in1 (Builtin.Dict.addKeywords D [] >>= fun _=>ret K5) _ _ _
  refine Kc (Kl (Kl ?_))
  rw [last,Np] at hR
  exact hR h' tk' ep (d.but fun o e=>k D o dw e) fun b o e=>k b o (hw b o e).1 (kp b o e)
 | succ m ih =>
  intro j s kvs ep i tk hm hj st d hk hkd hlen kp hR
  have more:j<ps.length:=by omega
  refine Uq jZ ?_;rw [V1 QX _]
  refine (Kc (W.item j s _ _ more st fun u h' tk' hu' st' k=>?_):wpAny _ A.in1 (pyNext (.ref it) >>= _) _ _ s)
  obtain ⟨p,hp,t,o,key,r,mm,rfl,ht,hc,hd,hkey,rv⟩:=hP j u hu'
  have kp':∀ b o,h0.get? b=some o->h'.get? b=some o:=fun b o e=>k b o (hw b o e).1 (kp b o e)
  have d':=d.but fun o e=>k D o dw e
  have hpm:p∈ps:=Ve hp
  have hT:(⟨h',s.gens,s.drawn,tk',s.os⟩:Kf).TypeIs (.ref t) "tuple" := ⟨o,kp' _ _ ht,hc⟩
  show wpAny _ A.in1 (holding [KD t] _ >>= _) _ _ _
  refine Kc (VP (Kc (XA ?_)))
  unfold Builtin.Dict.pairItems
  refine Kc (Ew hT ?_)
  rw [if_pos (by decide)]
  refine Kc (UM (kp' _ _ ht) hd (Kl ?_))
  show wpAny _ A.in1 (holding [key,r] (dictSet D key r)) _ _ _
  refine VP (qhG hu hk hkey (fun q hq=>(hkd q hq).trans (hom p hpm).symm) kp' d' rv (by omega) fun h2 tk2 ep2 d2 hs2=>?_)
  have hs2:US D h' h2:=hs2
  have kp2:∀ b o,h0.get? b=some o->h2.get? b=some o:=fun b o e=>(hs2.2 b (hw b o e).2).trans (kp' b o e)
  have hdrop:ps.drop j=p::ps.drop (j+1):=by
   obtain ⟨hlt,he⟩:=Vg.mp hp
   rw [VV hlt,he]
  refine Kl ⟨UC QX _,ih (j+1) _ (putV kvs p.1 p.2.1 p.2.2) ep2 (i+1) 0 (by omega) more (W.frame _ _ _ st' fun b hb o e=>(hs2.2 b (fun z=>hDf (z ▸ hb))).trans e) d2 ?_ ?_ ?_ kp2 fun h3 tk3 ep3 d3 k3=>?_⟩
  ·intro q hq ks eq
   rcases qcc hq with ⟨q',hq',e1,e2⟩|rfl
   ·rw [← e2];exact hk q' hq' ks (e1.trans eq)
   ·dsimp only at eq ⊢
    rw [eq] at hkey
    exact hkey.2
  ·intro q hq
   rcases qcc hq with ⟨q',hq',e1,_⟩|rfl
   ·rw [← e1];exact hkd q' hq'
   ·exact hom p hpm
  ·have:=j9 kvs p.1 p.2.1 p.2.2
   omega
  ·refine hR h3 tk3 ep3 ?_ k3
   rw [hdrop]
   exact d3
end
section
variable {prog:Kt}{w:KF}{A:KG}{E:Kb->Kf->Prop}{s:Kf}
theorem qcx {l:Ke}{its:Array Kb}{n:Nat}{sl:Array (Option Kb)}(tr:List (KX×Addr×V)){Q:Kb->Kf->Prop}(hA:A.handled=none)(hu:A.units+8<cLine)(hb:sysModules<s.heap.objs.size)
  (hx:s.heap.get? l=some { cls:=.type "list", dict:=none,data:=.seq its n,slots:=sl }) (hl:s.heap.IsList l its) (hsz:its.size=tr.length) (hP:∀ (j:Nat) (u:Kb),its[j]?=some u->∃ p,tr[j]?=some p/\qcr s.heap p u) (kd:Bool) (hom:∀ p∈tr,kxI p.1=kd) (h900:tr.length<=900)
  (h:∀ h' tk ep',zJ s.heap.objs.size (putAll [] tr) ep' h'->(∀ b o,s.heap.get? b=some o->h'.get? b=some o)->Q (.ref s.heap.objs.size) { s with heap:=h',toks:=tk }) :
  wpAny (model prog w) A (call (.type "dict") [.ref l]) Q E s:=by
 have lt:∀ {b:Ke} {o:Obj},s.heap.get? b=some o->b<s.heap.objs.size:=fun e=>Ku e
 refine callType_codes (Q₁:=fun obj s₁=>obj=KD s.heap.objs.size/\s₁={ s with heap:=s.heap.push { cls:=.type "dict", data:=.dict #[] } }) F.kt_called_dict (F.kt_typeCall_dict_1 _) F.entry_dict_init (kt_code_dict_new _ ⟨rfl,rfl⟩) fun obj s₁ hobj=>?_
 obtain ⟨rfl,rfl⟩:=hobj
 have dct:zJ s.heap.objs.size [] 0 (s.heap.push { cls:=.type "dict", data:=.dict #[] }):=⟨Vc _,beq_eq_false_iff_ne.mpr (VU (KR hb)),.inl ⟨[],.nil,_,#[],Kv _ rfl,⟨rfl,rfl,rfl⟩,rfl,rfl,U8⟩⟩
 have hT:(⟨s.heap.push { cls:=.type "dict", data:=.dict #[] },s.gens,s.drawn,s.toks,s.os⟩:Kf).TypeIs (.ref s.heap.objs.size) "dict" := ⟨_,Kv _ rfl,rfl⟩
 have hx1:=Ki { cls:=.type "dict", data:=.dict #[] } hx
 refine ⟨hT,F.args_dict_init_2 _ _,?_⟩
 unfold UA.«dict.__init__» Builtin.Dict.selfAndRest
 refine Kc (Kc (wpAny_notOrdered_dict hT ?_))
 refine (Kl ?_:wpAny _ _ (pure (s.heap.objs.size,[KD l])) _ _ _)
 show wpAny _ _ (Builtin.Dict.updateFrom "dict.__init__" s.heap.objs.size (.ref l) [] .none) _ _ _
 unfold Builtin.Dict.updateFrom
 refine Kc (Ew (T := "list") ⟨_,hx1,rfl⟩ ?_)
 rw [if_pos (by decide)]
 have hin:(A.in1.in1).handled=none:=hA
 refine Kc (qip hx1 hin fun h' tk kp=>?_)
 have k1:∀ b o,s.heap.get? b=some o->h'.get? b=some o:=fun b o e=>kp b o (Ki _ e)
 have hll:=lt hx
 have hD':s.heap.objs.size<h'.objs.size:=Ku (kp _ _ (Kv _ rfl))
 have hl':h'.IsList l its:=hl.at fun o e=>k1 l o e
 rw [if_pos (show (none:Option Kb).isNone=true from rfl)]
 refine Kc (wpAny_rule (Kc (Na (s:={ s with heap:=h',toks:=tk }) hl' (Kl ⟨UC QX _,?_⟩))))
 have W:=Walks.list (prog:=prog) (w:=w) (A:=A.in1.in1) hin h'.objs.size l (KR (X0 hll hD')) its
 rw [hsz] at W
 refine qgo (h0:=s.heap) (by show A.units+1+1+3<cLine;omega) tr W hP ?_ (fun b o e=>?_) kd hom h900 _ 0 _ [] 0 0 0 rfl (Vc _) ⟨⟨_,Kv _ rfl,rfl,rfl⟩,hl'.push _⟩ ?_ (fun p hp=>nomatch hp) (fun p hp=>nomatch hp) (Vc _) (fun b o e=>Ki _ (k1 b o e)) fun h2 tk2 ep2 d2 k2=>⟨rfl,h h2 tk2 ep2 (by rw [List.drop_zero] at d2;exact d2) k2⟩
 ·intro hm
  simp only [Kk,K3,or_false] at hm
  rcases hm with hm|hm
  ·exact KR hD' hm
  ·exact Uy hll hm
 ·have:=lt e
  refine ⟨fun hm=>?_,KR this⟩
  have e2:b=h'.objs.size:=KL.mp hm
  exact absurd (X0 this hD') (by rw [e2];exact VI _)
 ·exact (dct.but fun o e=>kp _ o e).but fun o e=>Ki _ e
end
section
variable {K:Kd}{H:Hp}{S:Av}
def prOf:Ka->Option (KX×PyData)
 | .tuple [k,v]=>ob (kxOf k) fun ks=>some (ks,v)
 | _=>none
def qar:List Ka->Option (List (KX×PyData))
 | []=>some []
 | d::ds=>ob (prOf d) fun p=>ob (qar ds) fun ps=>some (p::ps)
def YB (kvs:List (Ka×PyData)):List (KX×PyData)->List (Ka×PyData)
 | []=>kvs
 | p::ps=>YB (putD kvs p.1 p.2) ps
def qaI:List Ka->Option Ka
 | [.list ds]=>ob (qar ds) fun ps=>if ((ps.all fun p=>kxI p.1)=true\/(ps.all fun p=>!kxI p.1)=true)/\ps.length<=900 then some (.dict (YB [] ps)) else none
 | _=>none
theorem Wi:∀ (ps:List (KX×PyData)) (tr kvs:List (KX×Addr×V)) (ds:List Ka),tr.map (·.1)=ps.map (·.1)->DenL K H S (tr.map fun p=>kxV p.1 p.2.1) (tr.map fun p=>kxD p.1)->DenL K H S (tr.map (·.2.2)) (ps.map (·.2))->
  DenL K H S (kvs.map fun p=>kxV p.1 p.2.1) (kvs.map fun p=>kxD p.1)->DenL K H S (kvs.map (·.2.2)) ds->
  DenL K H S ((putAll kvs tr).map fun p=>kxV p.1 p.2.1) ((putAll kvs tr).map fun p=>kxD p.1)/\∃ ds',DenL K H S ((putAll kvs tr).map (·.2.2)) ds'/\dkv (putAll kvs tr) ds'=YB (dkv kvs ds) ps
 | [],[],kvs,ds,_,_,_,k,t=>⟨k,ds,t,rfl⟩
 | [],_::_,_,_,e,_,_,_,_=>nomatch e
 | _::_,[],_,_,e,_,_,_,_=>nomatch e
 | p::ps,q::tr,kvs,ds,e,hk,hv,k,t=>by
  cases hk with
  | cons dk hk' =>
   cases hv with
   | cons dv hv' =>
    have e1:q.1=p.1:=(List.cons.inj e).1
    obtain ⟨ds',h1,h2⟩:=qcg (b:=q.2.1) t dv (J0 q.1 t)
    have:=Wi ps tr (putV kvs q.1 q.2.1 q.2.2) ds' (List.cons.inj e).2 hk' hv' (qcd k dk) h1
    rw [h2] at this
    rw [show YB (dkv kvs ds) (p::ps)=YB (putD (dkv kvs ds) q.1 p.2) ps from by rw [e1];rfl]
    exact this
end
section
variable {X:Cx}{pins:List (Ke×Obj)}{σ:St}{H:Hp}{s:Kf}{S:Av}
theorem qgU (I:Inv X pins σ H s):∀ {vs:List V} {ds:List Ka} {ps:List (KX×PyData)} {us:List Kb},DenL X.K H S vs ds->qar ds=some ps->Vals vs us->
  ∃ tr:List (KX×Addr×V),tr.map (·.1)=ps.map (·.1)/\DenL X.K H S (tr.map fun p=>kxV p.1 p.2.1) (tr.map fun p=>kxD p.1)/\DenL X.K H S (tr.map (·.2.2)) (ps.map (·.2))/\Vk (qcr s.heap) tr us
 | _,_,_,_,.nil,e,r=>by
  cases e
  cases r
  exact ⟨[],rfl,.nil,.nil,.nil⟩
 | _,_,_,_,.cons d t,e,r=>by
  obtain ⟨p,e1,e⟩:=qe e
  obtain ⟨ps',e2,e⟩:=qe e
  cases e
  cases r with
  | @cons _ u _ us' r0 r' =>
   obtain ⟨tr,a1,a2,a3,a4⟩:=qgU I t e2 r'
   unfold prOf at e1
   split at e1
   ·rename_i k v
    obtain ⟨ks,e3,e1⟩:=qe e1
    cases e1
    obtain ⟨a,xs,rfl,ht,dt⟩:=d.tuple_inv
    cases (show u=KD a from r0)
    obtain ⟨y,z,rfl,dy,dz⟩:=dt.inv2
    obtain ⟨its,rv,it,_⟩:=I.tuple ht
    cases rv with
    | @cons _ ky _ rest ry rv' =>
     obtain ⟨vz,rfl,rz⟩:∃ vz,rest=[vz]/\RelV z vz:=by
      cases rv' with
      | cons rz rn=>cases rn;exact ⟨_,rfl,rz⟩
     cases QL e3
     obtain ⟨o,g1,g2,n,g3⟩:=it
     cases ks with
     | inl i =>
      obtain ⟨rfl,tk,rfl⟩:=jt dy ry
      exact ⟨(.inl i,0,z)::tr,by rw [Km,a1];rfl,.cons dy a2,.cons dz a3,.cons ⟨a,o,_,_,n,rfl,g1,g2,g3,⟨tk,rfl⟩,rz⟩ a4⟩
     | inr kk =>
      obtain ⟨b,rfl,rfl,is⟩:=key_is I (show Den X.K H S y (k2T kk) from dy) ry
      exact ⟨(.inr kk,b,z)::tr,by rw [Km,a1];rfl,.cons dy a2,.cons dz a3,.cons ⟨a,o,_,_,n,rfl,g1,g2,g3,⟨rfl,is⟩,rz⟩ a4⟩
   ·cases e1
theorem qai {α β:Type}{R:α->β->Prop}:∀ {as:List α} {bs:List β} {j:Nat} {b:β},Vk R as bs->bs[j]?=some b->∃ a,as[j]?=some a/\R a b
 | _,_,_,_,.nil,h=>by simp at h
 | _,_,0,_,.cons r _,h=>by cases h;exact ⟨_,rfl,r⟩
 | _,_,j+1,_,.cons _ t,h=>by
  obtain ⟨a,ha,r⟩:=qai t (j:=j) (by simpa using h)
  exact ⟨a,by simpa using ha,r⟩
theorem qhn {k:Nat}(hr:Room k X.A):qbe X (.type "dict") qaI:=fun pins s σ H xs us Q I r ⟨S,ds,d,m,h1,e,q⟩=>by
 unfold qaI at e
 split at e
 ·rename_i ls
  obtain ⟨ps,e1,e⟩:=qe e
  split at e
  ·rename_i hc
   cases e
   obtain ⟨v1,rfl,d1⟩:=h1.inv1
   obtain ⟨u1,rfl,r1⟩:=r.one
   cases d1 with
   | @list a ys _ hs t =>
    cases (show u1=KD a from r1)
    obtain ⟨its,rv,p,hz⟩:=I.list hs.sq
    obtain ⟨tr,a1,a2,a3,a4⟩:=qgU I t e1 rv
    have hb:sysModules<s.heap.objs.size:=X0 (by decide) (show mainGlobals<s.heap.objs.size from (I.mod.glob.keeps I.bk).lt)
    have hn:=I.hok.fresh (Ko s.heap.objs.size)
    have hu:=hr.units
    have hlp:tr.length=ps.length:=by
     have:=congrArg Xv a1
     rwa [Kj,Kj] at this
    have hkd:∃ kd,∀ p∈tr,kxI p.1=kd:=by
     have step:∀ p∈tr,∃ p'∈ps,p'.1=p.1:=fun p hp=>by
      have:p.1∈ps.map (·.1):=by rw [← a1];exact KN.mpr ⟨p,hp,rfl⟩
      obtain ⟨p',h1,h2⟩:=KN.mp this
      exact ⟨p',h1,h2⟩
     rcases hc.1 with hc|hc
     ·exact ⟨true,fun p hp=>let ⟨p',h1,h2⟩:=step p hp;h2 ▸ Kz.mp hc p' h1⟩
     ·refine ⟨false,fun p hp=>?_⟩
      obtain ⟨p',h1,h2⟩:=step p hp
      have:=Kz.mp hc p' h1
      rw [h2] at this
      simpa using this
    obtain ⟨kd,hom⟩:=hkd
    have il:=p.isList
    obtain ⟨o,n,ho,hc1,hc2,hc3⟩:=p
    obtain ⟨c0,c1,c2,c3⟩:=o
    dsimp only at hc1 hc2 hc3
    subst hc1 hc2 hc3
    refine qcx (its:=its.toArray) tr hr.hd (by omega) hb ho ?_ (by rw [KA,← a4.length]) (fun j u hj=>?_) kd hom (by omega) fun h' tk ep' dd kp=>?_
    ·exact il
    ·rw [NC] at hj
     exact qai a4 hj
    ·have I1:=I.laid (a:=s.heap.objs.size) (o:=DctO s.heap.objs.size (putAll [] tr) ep') (t':=tk) kp (Ko _) dd.ok
     have g0:Same H (upd H s.heap.objs.size (DctO s.heap.objs.size (putAll [] tr) ep')):=Same.lay hn
     obtain ⟨b1,ds',b2,b3⟩:=Wi ps tr [] [] a1 a2 a3 .nil .nil
     have b3:dkv (putAll [] tr) ds'=YB [] ps:=b3
     have sub:∀ {vs es},DenL X.K H S vs es->DenL X.K (upd H s.heap.objs.size (DctO s.heap.objs.size (putAll [] tr) ep')) (insA S s.heap.objs.size) vs es:=fun t=>(t.sub fun a ha z=>z.elim id fun y=>absurd (by rw [y];exact hn) ha).same g0
     refine ⟨.ref s.heap.objs.size,_,I1,rfl,q _ _ g0 hn ?_⟩
     rw [← b3]
     exact .dct qF (sub b1) (sub b2)
  ·cases e
 ·cases e
end
def qja (X:Cx)(f:Kb)(k:Str)(g:Ka->Ka->Option Ka):Prop :=
 ∀ (pins:List (Ke×Obj)) (s:Kf) (σ:St) (H:Hp) (x z:V) (u w:Kb) (Q:VK),Inv X pins σ H s->RelV x u->RelV z w->(∃ S dl dd d,Dm S H/\Den X.K H S x dl/\Den X.K H S z dd/\g dl dd=some d/\∀ v H',Same H H'->Den X.K H' S v d->Q v H')->
  wpAny (model X.prog X.w) X.A (call f [u] [(k,w)]) (EP X pins σ Q) X.xe s
section
variable {X:Cx}{M:List Nat}{a b:Kw}{fa fb:Rho->Option Ka}{pos:Pos}
theorem qdZ {y:V}{us:List Kb}(r:Vals [y] us):∃ u,us=[u]/\RelV y u:=by
 cases r with
 | cons a t=>cases t;exact ⟨_,rfl,a⟩
theorem qe5 {id:String}{x k:Str}{p kp:Pos}{h:Ka->Ka->Option Ka}(hc:qja X (.builtin id) k h)(hg:Gl X x)(hm:X.mg x=none)(hv:bootBuiltins x=some (.builtin id))(ha:PD X M a fa)(hb:PD X M b fb)(hn:x ≠ "__name__" := by decide +kernel)(hdb:(x==("__debug__" : Str))=false:=by decide +kernel)
  (he:starEach [a] X.env=(false,eval a X.env)::starEach [] X.env:=by rfl) (he2:backTo pos (starEach [a] X.env)=(false,eval a X.env)::backTo pos (starEach [] X.env):=by rfl) (hpl:(backTo pos (starEach [a] X.env)).any (·.1)=false:=by rfl)
  (hall:(backToKw pos (keywordEach [⟨some k,b,kp⟩] X.env)).all (·.1.isSome)=true:=by rfl) (hks:(backToKw pos (keywordEach [⟨some k,b,kp⟩] X.env)).filterMap (·.1)=[k]:=by rfl)
  (hkw:(backToKw pos (keywordEach [⟨some k,b,kp⟩] X.env)).any (·.1.isNone)=false:=by rfl):PD X M (.Call (.Name x p) [a] [⟨some k,b,kp⟩] pos) (ev2 fa fb h):=fun pins s σ H Q I ⟨S,ρ,d,hs,e,q⟩=>by
 obtain ⟨dx,e1,e⟩:=qe e
 obtain ⟨dy,e2,e⟩:=qe e
 refine Uc (yQ I hg hm hv ?_ hn hdb)
 refine callWith_kw (thn (qb ha qi he pos pins s σ H (fun vs H1=>Same H H1/\DenL X.K H1 S vs [dx]) I ⟨S,ρ,[dx],hs,by show ob (fa ρ) _=_;rw [e1];rfl,fun vs H1 g d=>⟨g,d⟩⟩) fun us s1 ⟨vs,H1,I1,r,g1,d1⟩=>?_) he2 hpl hall hkw
 refine thn (qiN hb qkA pos pins s1 σ H1 (fun zs H2=>∃ z,zs=[z]/\Same H1 H2/\Den X.K H2 S z dy) I1 ⟨S,ρ,dy,hs.same g1,e2,fun z H2 g d=>⟨z,rfl,g,d⟩⟩) fun ws s2 ⟨zs,H2,I2,rz,z,hz,g2,d2⟩=>?_
 subst hz
 obtain ⟨v,rfl,dv⟩:=d1.inv1
 obtain ⟨u,rfl,ru⟩:=qdZ r
 obtain ⟨w,rfl,rw'⟩:=qdZ rz
 rw [hks]
 exact hc pins s2 σ H2 v z u w Q I2 ru rw' ⟨S,dx,dy,d,(hs.1.same g1).same g2,dv.same g2,d2,e,fun v' H' g3 d3=>q v' H' ((g1.trans g2).trans g3) d3⟩
end
section
variable {s:Kf}{prog:Kt}{w:KF}{A:KG}{E:Kb->Kf->Prop}
theorem qbP (a d:Kb):checkBuiltinCall "min" ⟨[a],[(("default" : Str),d)]⟩=pure ():=by kernel_rfl
theorem qgx {l:Ke}{d:Kb}{Q:Kb->Kf->Prop}(hh:A.handled=none)(hl:s.heap.IsList l #[])
  (h:∀ g tk,(∀ b o,s.heap.get? b=some o->g.get? b=some o)->Q d { s with heap:=g,toks:=tk }):wpAny (model prog w) A (call (.builtin "min") [.ref l] [(("default" : Str),d)]) Q E s:=by
 have nm:(toString "min" ++ toString ".loop" : String) = "min.loop" := by decide
 have lt:∀ {b:Ke} {o:Obj},s.heap.get? b=some o->b<s.heap.objs.size:=fun e=>Ku e
 have hll:l<s.heap.objs.size:=by obtain ⟨o,e,_⟩:=id hl;exact lt e
 refine XE (Ul F.plain_min F.entry_min (Nh (qbP _ _) ?_))
 have par:UU "min" ["key", "default"] 0 ⟨[],[(("default" : Str),d)]⟩=pure [none,some d]:=rfl
 refine (Kc (Nh par ?_):wpAny _ A.in1 (UU "min" _ 0 _ >>= _) _ _ s)
 refine Kc (Kl (Kc (Na hl (Kc (Vy ?_)))))
 rw [nm]
 refine Kl ⟨UC Ue _,?_⟩
 have W:=Walks.list (prog:=prog) (w:=w) (A:=A.in1) hh s.heap.objs.size l (KR hll) #[]
 refine Uq Nq ?_;rw [V1 Ue _]
 show wpAny _ A.in1 (seqItems? (.ref _) >>= _) _ _ _
 refine Kc (UM (Kv _ rfl) rfl ?_)
 show wpAny _ A.in1 (tryCatch (pyNext (.ref s.heap.objs.size)) _ >>= _) _ _ _
 refine Kc (XA (W.done _ _ _ ⟨⟨_,Ki _ (Kv _ rfl),rfl,rfl⟩,(hl.push _).push _⟩ fun g tk k=>?_))
 refine Kc (wpAny_rule (Kl (h g tk fun b o e=>k b o (fun hm=>absurd (KL.mp hm) (KR (lt e))) (Ki _ (Ki _ e)))))
theorem qg9 {l:Ke}{d:Kb}{items:Array Kb}{bt:Nat->Nat->Bool}{Q:Kb->Kf->Prop}(hh:A.handled=none)(hl:s.heap.IsList l items)(hn:0<items.size)
  (hc:∀ (i j:Nat) (x y:Kb) (s':Kf) (Q' E':Kb->Kf->Prop),j<i->(∀ b o,s.heap.get? b=some o->s'.heap.get? b=some o)->items[i]?=some x->items[j]?=some y->Q' (.bool (bt i j)) s'->wpAny (model prog w) A.in1 (richCompare .Lt x y) Q' E' s')
  (h:∀ v g tk,items[bestOf bt (items.size-1)]?=some v->(∀ b o,s.heap.get? b=some o->g.get? b=some o)->Q v { s with heap:=g,toks:=tk }):wpAny (model prog w) A (call (.builtin "min") [.ref l] [(("default" : Str),d)]) Q E s:=by
 have nm:(toString "min" ++ toString ".loop" : String) = "min.loop" := by decide
 have lt:∀ {b:Ke} {o:Obj},s.heap.get? b=some o->b<s.heap.objs.size:=fun e=>Ku e
 have hll:l<s.heap.objs.size:=by obtain ⟨o,e,_⟩:=id hl;exact lt e
 refine XE (Ul F.plain_min F.entry_min (Nh (qbP _ _) ?_))
 have par:UU "min" ["key", "default"] 0 ⟨[],[(("default" : Str),d)]⟩=pure [none,some d]:=rfl
 refine (Kc (Nh par ?_):wpAny _ A.in1 (UU "min" _ 0 _ >>= _) _ _ s)
 refine Kc (Kl (Kc (Na hl (Kc (Vy ?_)))))
 rw [nm]
 refine Kl ⟨UC Ue _,qeX (h0:=s.heap) (Walks.list (A:=A.in1) hh _ l (KR hll) items) bt (fun i j u v s' Q' E' hij k hu hv q=>hc i j u v s' Q' E' hij k hu hv q) _ ?_ (fun b o e=>?_) [(("default" : Str),d)] hn
  ⟨⟨_,Ki _ (Kv _ rfl),rfl,rfl⟩,(hl.push _).push _⟩ (fun b o e=>Ki _ (Ki _ e)) (Kv _ rfl) fun v g tk hv k=>?_⟩
 ·simp only [Uk]
  intro hm;simp only [Kk,K3,or_false] at hm
  rcases hm with hm|hm
  ·exact Nat.succ_ne_self _ hm
  ·exact absurd hm (Uy (U0 hll))
 ·have:=lt e
  simp only [Uk]
  exact ⟨fun hm=>absurd (KL.mp hm) (KR this),KR (U0 this)⟩
 ·refine h v g tk hv fun b o e=>k b o ?_ ?_ (Ki _ (Ki _ e))
  ·exact fun hm=>absurd (KL.mp hm) (KR (lt e))
  ·have:=lt e
   simp only [Uk]
   exact KR (U0 this)
end
section
variable {X:Cx}
def qae:Ka->Ka->Option Ka
 | .list [],d=>some d
 | .list (x::ds),_=>qgu [.list (x::ds)]
 | _,_=>none
theorem qjD {k:Nat}(hr:Room k X.A):qja X (.builtin "min") "default" qae:=fun pins s σ H x z u wv Q I r rz ⟨S,dl,dd,d,m,h1,h2,e,q⟩=>by
 unfold qae at e
 split at e
 ·cases e
  cases h1 with
  | @list a ys _ hs t =>
   cases (show u=KD a from r)
   obtain ⟨its,rv,p,hz⟩:=I.list hs.sq
   cases t
   cases rv
   exact qgx hr.hd p.isList fun g tk kp=>⟨z,H,I.kept kp,rz,q _ H (Same.refl H) h2⟩
 ·rename_i d0 ls
  unfold qgu at e
  dsimp only at e
  split at e
  ·rename_i hc
   cases h1 with
   | @list a ys _ hs t =>
    cases (show u=KD a from r)
    obtain ⟨its,rv,p,hz⟩:=I.list hs.sq
    have hl:=rv.length
    have ht:=t.length
    have hu:=hr.units
    have get:∀ {i:Nat} {x:Kb},its.toArray[i]?=some x->∃ y d,ys[i]?=some y/\RelV y x/\(d0::ls)[i]?=some d/\Den X.K H S y d:=fun {i x} hx=>by
     rw [NC] at hx
     obtain ⟨y,hy,ry⟩:=Vals.back rv hx
     obtain ⟨d,hd,dd⟩:=t.back hy
     exact ⟨y,d,hy,ry,hd,dd⟩
    have ok:=Kz.mp hc.1
    have hsz:its.toArray.size=(d0::ls).length:=by simp;simp at ht;omega
    refine qg9 (bt:=zu (d0::ls)) hr.hd p.isList (by rw [hsz];exact Nat.zero_lt_succ _) (fun i j x y s' Q' E' hij kp hx hy q'=>?_) fun v g tk hv kp=>?_
    ·obtain ⟨vx,dx,_,rx,ex,gx⟩:=get hx
     obtain ⟨vy,dy,_,ry,ey,gy⟩:=get hy
     have ox:=ok dx (Ve ex)
     have oy:=ok dy (Ve ey)
     rw [Ks,Ks] at ox oy
     obtain ⟨as,rx2⟩:=gx.reads I (K7 ox.1.1) rx
     obtain ⟨bs,ry2⟩:=gy.reads I (K7 oy.1.1) ry
     have lt:=Kz.mp ox.2 dy (Ve ey)
     obtain ⟨b,eb⟩:=Er.mp lt
     have ebt:zu (d0::ls) i j=b:=by unfold zu;rw [ex,ey];show (ltX dx dy).getD false=b;rw [eb];rfl
     rw [ebt] at q'
     exact JF 50 _ _ X.A.in1 s' x y as bs b (of_decide_eq_true ox.1.2) (Reads.keeps kp rx2) (Reads.keeps kp ry2) (K7 ox.1.1) (K7 oy.1.1) (by show X.A.units+1+50+1<cLine;omega) eb X.prog X.w E' Q' q'
    ·obtain ⟨vx,dx,_,rx,ex,gx⟩:=get hv
     rw [hsz,e] at ex
     cases ex
     exact ⟨vx,H,I.kept kp,rx,q _ H (Same.refl H) gx⟩
  ·cases e
 ·cases e
end
end L2
namespace L2
open PySem
theorem qg4 (i:Nat)(f:Rho->Option Ka)(ρ:Rho):Wn i f ρ=takO (decide (i<ρ.length/\ρ.length<=1000)) (f ρ) i ρ:=by
 unfold Wn ob takO
 by_cases h:i<ρ.length/\ρ.length<=1000
 ·rw [if_pos h,decide_eq_true h]
  cases f ρ<;>rfl
 ·rw [if_neg h,decide_eq_false h]
def nxdO (o:Option Ka)(i:Nat)(ρ:Rho):Option Out:=match o with | some l=>some (.nx (ρ.set i (some l)))|none=>none
theorem qkf (l:Ka)(i:Nat)(ρ:Rho):nxdO (some l) i ρ=some (.nx (ρ.set i (some l))):=rfl
def dpO (d l k:Option Ka)(i:Nat)(ρ:Rho):Option Out:=match d,l,k with | some d,some l,some k=>nxdO (wI l k d) i ρ|_,_,_=>none
theorem dpO_s (d l k:Ka)(i:Nat)(ρ:Rho):dpO (some d) (some l) (some k) i ρ=nxdO (wI l k d) i ρ:=rfl
theorem qi0 (i:Nat)(fk f:Rho->Option Ka)(ρ:Rho):yE i fk f ρ=dpO (f ρ) (vr i ρ) (fk ρ) i ρ:=by
 unfold yE dpO ob
 cases f ρ with
 | none=>rfl
 | some d =>
  cases vr i ρ with
  | none=>rfl
  | some l =>
   cases fk ρ with
   | none=>rfl
   | some k =>
    dsimp only
    unfold nxdO
    cases wI l k d<;>rfl
def triO (a b c:Option Ka)(r:Ka->Ka->Ka->Option Ka):Option Ka:=match a,b,c with | some x,some y,some z=>r x y z|_,_,_=>none
theorem qk4 (x y z:Ka)(r:Ka->Ka->Ka->Option Ka):triO (some x) (some y) (some z) r=r x y z:=rfl
theorem ev3_b (f g h:Rho->Option Ka)(r:Ka->Ka->Ka->Option Ka)(ρ:Rho):ev3 f g h r ρ=triO (f ρ) (g ρ) (h ρ) r:=by
 unfold ev3 triO ob
 cases f ρ<;>cases g ρ<;>cases h ρ<;>rfl
end L2
namespace L2
open PySem PySem.Spec PyProof.Rows
section
variable {K:Kd}{G:Gm}{M L:List Nat}{H H':Hp}{S:Av}{σ:St}{ρ:Rho}{d:Ka}
theorem OwnS.more (h:OwnS K G M L H S σ ρ){q:Ke}(hn:H q=none)(e:Same H H')(hq:∃ o,H' q=some o/\Z9 o=true):OwnS K G M L H' (insA S q) σ ρ:=by
 have sub:∀ a,H a≠none->insA S q a->S a:=fun a ha z=>by
  rcases z with z|rfl
  ·exact z
  ·exact absurd hn ha
 obtain ⟨F,f⟩:=h.deep
 refine ⟨⟨(h.ds.1.same e).ins hq,h.ds.2.1,fun j d' hj w=>let ⟨v,a,b⟩:=h.ds.2.2 j d' hj w;⟨v,a,(b.sub sub).same e⟩⟩,fun a z=>.inl (h.s0 a z),h.h0.trans e,fun j hj d' w=>?_,h.apart,fun a z=>?_,h.lkd,F,fun j hj d' w=>?_,f.disj,f.flat⟩
 ·obtain ⟨p,a,b,c,n⟩:=h.own j hj d' w
  exact ⟨p,a,(b.sub sub).same e,.inl c,n⟩
 ·rcases z with z|rfl
  ·exact h.bnd a z
  ·exact .inr (.inl (h.h0.free hn))
 ·obtain ⟨p,a,b,c⟩:=f.own j hj d' w
  exact ⟨p,a,(b.sub sub).same e,fun r hr=>⟨.inl (c r hr).1,(c r hr).2⟩⟩
theorem OwnS.growD (h:OwnS K G M L H S σ ρ){F:Nat->List Ke}(f:DeepF K G M H S σ ρ F){p q2 q:Ke}{fp:List Ke}{i:Nat}{o:HO}{d₀:Ka}(hi:Dp M i)(e0:ρ[i]?=some (some d₀))(e1:σ[i]?=some (some (.ref p)))(hq:q2∈F i)(hm:Z9 o=true)(ow:DeepO K (upd H q2 o) S fp p d)
  (hfp:∀ r∈fp,r∈F i\/r=q) (sq:S q) (nq:¬ G.S0 q) (zq:G.H0 q=none) (dq:∀ j,Dp M j->Has ρ j->q∉F j) (fq:∀ j,Flt M j->Has ρ j->σ[j]?≠some (some (.ref q))) :
  OwnS K G M L (upd H q2 o) S σ (ρ.set i (some d)):=by
 obtain ⟨p',a,b,cc⟩:=f.own i hi d₀ e0
 rw [e1] at a;cases a
 obtain ⟨c,n,w⟩:=cc q2 hq
 have off:Off S H (upd H q2 o):=fun b u z e=>by
  rw [qD (fun y=>z (by rw [y];exact c))];exact e
 have hz:i<ρ.length:=(Vg.mp e0).1
 have get:∀ m d',(ρ.set i (some d))[m]?=some (some d')->∃ d'',ρ[m]?=some (some d''):=fun m d' q=>by
  by_cases him:i=m
  ·subst him;exact ⟨_,e0⟩
  ·rw [qt him] at q;exact ⟨_,q⟩
 have get2:∀ m,Has (ρ.set i (some d)) m->Has ρ m:=fun m ⟨d',q⟩=>get m d' q
 have dne:∀ j,Flt M j->i≠j:=fun j hj z=>hj.2 (by rw [← z];exact hi.2)
 have fne:∀ j,j≠i->(if j=i then fp else F j)=F j:=fun j hj=>if_neg hj
 refine ⟨⟨h.ds.1.upd hm,by rw [Vw];exact h.ds.2.1,fun j d' hj q=>?_⟩,h.s0,fun a u q=>?_,fun j hj d' q=>?_,fun j hj k hk d1 d2 q h1 h2 h3 h4=>?_,h.bnd,fun j hj=>⟨(h.lkd j hj).1,by rw [qt (dne j (h.lkd j hj).1)];exact (h.lkd j hj).2⟩,
  fun j=>if j=i then fp else F j,fun j hj d' y=>?_,fun j hj k hk h1 h2 r m1 m2=>?_,fun j hj k hk h1 h2 r h3=>?_⟩
 ·have hij:i≠j:=fun z=>hj (by rw [← z];exact hi.1)
  rw [qt hij] at q
  obtain ⟨v,a,b⟩:=h.ds.2.2 j d' hj q
  exact ⟨v,a,b.off h.ds.1 off⟩
 ·have e2:=h.h0 a u q
  by_cases ne:a=q2
  ·rw [ne,w] at q;cases q
  ·rw [qD ne];exact e2
 ·rw [qt (dne j hj)] at q
  obtain ⟨q',a,b',c',n',w'⟩:=h.own j hj d' q
  exact ⟨q',a,b'.upd h.ds.1 c hm (fun z=>by subst z;exact f.flat j hj i hi ⟨_,q⟩ ⟨_,e0⟩ _ a hq),c',n',w'⟩
 ·rw [qt (dne j hj)] at h1
  rw [qt (dne k hk)] at h2
  exact h.apart j hj k hk d1 d2 q h1 h2 h3 h4
 ·by_cases hij:j=i
  ·subst hij
   rw [Vr hz] at y;cases y
   refine ⟨p,e1,by rw [if_pos rfl];exact ow,fun r hr=>?_⟩
   rw [if_pos rfl] at hr
   rcases hfp r hr with z|rfl
   ·exact cc r z
   ·exact ⟨sq,nq,zq⟩
  ·rw [qt (VU hij)] at y
   obtain ⟨q',a,b',c'⟩:=f.own j hj d' y
   rw [fne j hij]
   exact ⟨q',a,b'.upd h.ds.1 c (fun z=>hij (f.disj j hj i hi ⟨_,y⟩ ⟨_,e0⟩ _ z hq)),c'⟩
 ·by_cases ej:j=i<;>by_cases ek:k=i
  ·rw [ej,ek]
  ·rw [if_pos ej] at m1
   rw [fne k ek] at m2
   rcases hfp r m1 with z|rfl
   ·exact ej.trans (f.disj i hi k hk ⟨_,e0⟩ (get2 k h2) r z m2)
   ·exact absurd m2 (dq k hk (get2 k h2))
  ·rw [if_pos ek] at m2
   rw [fne j ej] at m1
   rcases hfp r m2 with z|rfl
   ·exact (f.disj j hj i hi (get2 j h1) ⟨_,e0⟩ r m1 z).trans ek.symm
   ·exact absurd m1 (dq j hj (get2 j h1))
  ·rw [fne j ej] at m1
   rw [fne k ek] at m2
   exact f.disj j hj k hk (get2 j h1) (get2 k h2) r m1 m2
 ·by_cases ek:k=i
  ·rw [if_pos ek]
   intro hr
   rcases hfp r hr with z|rfl
   ·exact f.flat j hj i hi (get2 j h1) ⟨_,e0⟩ r h3 z
   ·exact fq j hj (get2 j h1) h3
  ·rw [fne k ek]
   exact f.flat j hj k hk (get2 j h1) (get2 k h2) r h3
end
theorem qbw (ks:K2):∀ {kvs:List (KX×Addr×V)} {xs:List (K2×Addr×Value)} {p0:KX×Addr×V},Vk PkT kvs xs->kvs.find? (fun p=>decide (p.1=.inr ks))=some p0->∃ b u,atKey xs ks=some (b,u)/\RelV p0.2.2 u
 | [],_,_,r,e=>by cases e
 | p::kvs,_,p0,r,e=>by
  cases r with
  | @cons _ q _ qs h r' =>
   rw [KJ] at e
   by_cases z:p.1=.inr ks
   ·rw [decide_eq_true z] at e
    cases e
    have eq:q.1=ks:=Sum.inr.inj (h.1.symm.trans z)
    refine ⟨q.2.1,q.2.2,?_,h.2.2⟩
    unfold atKey
    rw [KJ,decide_eq_true eq];rfl
   ·rw [decide_eq_false z] at e
    obtain ⟨b,u,h1,h2⟩:=qbw ks r' e
    refine ⟨b,u,?_,h2⟩
    have e':¬ q.1=ks:=fun y=>z (by rw [h.1,y])
    unfold atKey at h1 ⊢
    rw [KJ,decide_eq_false e']
    exact h1
theorem qbv (i:Int):∀ {kvs:List (KX×Addr×V)} {xs:List (Int×Value)} {p0:KX×Addr×V},Vk PkI kvs xs->kvs.find? (fun p=>decide (p.1=.inl i))=some p0->∃ u,valueAt xs i=some u/\RelV p0.2.2 u
 | [],_,_,r,e=>by cases e
 | p::kvs,_,p0,r,e=>by
  cases r with
  | @cons _ q _ qs h r' =>
   rw [KJ] at e
   by_cases z:p.1=.inl i
   ·rw [decide_eq_true z] at e
    cases e
    have eq:q.1=i:=Sum.inl.inj (h.1.symm.trans z)
    refine ⟨q.2,?_,h.2⟩
    unfold valueAt
    rw [KJ,decide_eq_true eq];rfl
   ·rw [decide_eq_false z] at e
    obtain ⟨u,h1,h2⟩:=qbv i r' e
    refine ⟨u,?_,h2⟩
    have e':¬ q.1=i:=fun y=>z (by rw [h.1,y])
    unfold valueAt at h1 ⊢
    rw [KJ,decide_eq_false e']
    exact h1
def qjs (K:Kd):R2:=fun x y H Q=>∃ S a kvs ep ks p0,x=.ref a/\H a=some (DctO a kvs ep)/\DenL K H S (kvs.map fun p=>kxV p.1 p.2.1) (kvs.map fun p=>kxD p.1)/\(∀ p∈kvs,kxI p.1=kxI ks)/\Den K H S y (kxD ks)/\kvs.find? (fun p=>decide (p.1=ks))=some p0/\Q p0.2.2 H
theorem qga {X:Cx}(hu:X.A.units+64<cLine):IxR X (qjs X.K):=by
 intro value slice pins s σ H x y v u Q I rx ry h hs
 obtain ⟨S,p,kvs,ep,ks,p0,rfl,hp,k,hk,dy,e,q⟩:=h
 cases rx
 refine tail_any (J5 I hp).1 El.lookup ?_ hs
 cases ks with
 | inr ks =>
  obtain ⟨z,hs,xs,pk,dd⟩:=Jl I hp k hk
  obtain ⟨b,rfl,rfl,hk⟩:=key_is I dy ry
  obtain ⟨b',w',e2,rv⟩:=qbw ks pk e
  exact wpAny_getItem_heap (knd:=Yv X.prog X.w) (qat hu) hk dd e2 ⟨_,H,I.tok _,rv,q⟩
 | inl i =>
  obtain ⟨z,hs,vs,pk,dd⟩:=Jk I hp hk
  obtain ⟨rfl,t',rfl⟩:=jt dy ry
  obtain ⟨w',e2,rv⟩:=qbv i pk e
  exact wpAny_getItem_of (Xt _ _ i t') dd.mapOf e2 ⟨_,H,I.tok _,rv,q⟩
theorem Kids.add1 {K:Kd}{H:Hp}{S:Av}{q:Ke}(h:H q=some (.lst [])):∀ {qs:List Ke} {ds:List Ka},Kids K H S qs ds->q∉qs->Kids K H S (qs++[q]) (ds++[.list []])
 | _,_,.nil,_=>.cons h .nil (fun z=>nomatch z) .nil
 | _,_,.cons h' t n r,hn=>.cons h' t (fun z=>by
   rcases Vv.mp z with z|z
   ·exact n z
   ·exact hn (by rw [← KL.mp z];exact .head _)) (Kids.add1 h r fun z=>hn (.tail _ z))
theorem DeepO.dict_inv {K:Kd}{H:Hp}{S:Av}{fp:List Ke}{p:Ke}{m:List (Ka×PyData)}(o:DeepO K H S fp p (.dict m)):∃ kvs ep qs ds,fp=p::qs/\m=dkv kvs ds/\H p=some (DctO p kvs ep)/\DenL K H S (kvs.map fun p=>kxV p.1 p.2.1) (kvs.map fun p=>kxD p.1)/\kvs.map (·.2.2)=qs.map V.ref/\p∉qs/\Kids K H S qs ds:=by
 generalize hx:XM m=x at o
 cases o with
 | tpl h t=>cases hx
 | lst h n t=>cases hx
 | @dct _ kvs ep qs ds h k v n t=>cases hx;exact ⟨kvs,ep,qs,ds,rfl,rfl,h,k,v,n,t⟩
def J7 (c k:Ka):Option Ka:=match c with
 | .dict kvs=>ob (kxOf k) fun ks=>if kOk kvs ks=true/\kvs.length<900/\(qZ kvs ks).isSome=false then some (.dict (kvs++[(kxD ks,.list [])])) else none
 | _=>none
theorem qcz {c k c':Ka}(e:J7 c k=some c'):∃ kvs ks,c=.dict kvs/\k=kxD ks/\kOk kvs ks=true/\kvs.length<900/\(qZ kvs ks).isSome=false/\c'=.dict (kvs++[(kxD ks,.list [])]):=by
 unfold J7 at e
 split at e
 ·obtain ⟨ks,e1,e⟩:=qe e
  split at e
  ·rename_i hc;cases e;exact ⟨_,ks,rfl,QL e1,hc.1,hc.2.1,hc.2.2,rfl⟩
  ·cases e
 ·cases e
def Wm (i:Nat)(fk:Rho->Option Ka):Rho->Option Out:=fun ρ=>ob (vr i ρ) fun c=>ob (fk ρ) fun k=>ob (J7 c k) fun c'=>some (.nx (ρ.set i (some c')))
section
variable {X:Cx}{G:Gm}{M M' Mb L:List Nat}{fr:Fr}{a b:Kw}{f fk:Rho->Option Ka}{pos lp:Pos}
theorem qgY:PV X M (.Dict [] [] pos) (kd (.dict [])):=Wg.weak fun σ H Q ⟨S,ρ,d,hs,e,q⟩=>by
 cases e
 refine ⟨S,ρ,_,hs,rfl,fun p H' g n o=>q p [p] H' g (fun r hr=>by rw [KL.mp hr];exact n) ?_⟩
 have e1:insL S [p]=insA S p:=by
  funext a
  unfold insL insA
  simp
 rw [e1]
 generalize hx:XM []=x at o
 cases o with
 | lst h t=>cases hx
 | @dct kvs ep ds h k t =>
  have hl:kvs.length=ds.length:=by
   have:=t.length
   rwa [Kj] at this
  have hz:=qaJ hl
  rw [← PyData.dict.inj hx] at hz
  have:kvs=[]:=List.length_eq_zero_iff.mp hz.symm
  subst this
  cases t
  exact .dct h k rfl (fun z=>nomatch z) .nil
theorem qgG {k:Nat}(hr:Room k X.A)(i:Nat){x:Str}{px sp:Pos}(hv:Vis X.env.scope x)(hM:Dp M i)(hk:PD X M b fk)(hN:X.N[i]?=some x:=by rfl)(hd:(x==("__debug__" : Str))=false:=by decide +kernel)(hcd:(x==("__classdict__" : Str))=false:=by decide +kernel)
  (ha:∀ v,assign (.Subscript (.Name x px) b sp) X.env v=(do
   let ov ← holding [v] (eval (.Name x px) X.env)
   let iv ← holding [v,ov] (eval b X.env)
   standAt sp
   holding [v,ov,iv] (setItem ov iv v)
   release [v,ov,iv] []):=by intro _;rfl)
  (hs:swapsWithSole [.Subscript (.Name x px) b sp] (.List [] lp) pos.line X.env=pure false:=by rfl) (hw:swappedStores [.Subscript (.Name x px) b sp] (.List [] lp) X.env=pure none:=by rfl)
  (h1:(assignEach [.Subscript (.Name x px) b sp] X.env).map (·.2)=[assign (.Subscript (.Name x px) b sp) X.env]:=by rfl) :
  PDS X G M L M Mb fr (.Assign [.Subscript (.Name x px) b sp] (.List [] lp) pos) (Wm i fk) :=
 (qcY (j8 (M:=M) qi) (qcW (yZ i hv hN hd hcd) hk (set_dict hr.units) ha) hs hw h1).weak fun D σ H ⟨S,ρ,o,os,e,q⟩=>by
  obtain ⟨c0,e1,e⟩:=qe e
  obtain ⟨k0,e2,e⟩:=qe e
  obtain ⟨c',e3,e⟩:=qe e
  cases e
  obtain ⟨m,ks,rfl,rfl,hok,hz,hf,rfl⟩:=qcz e3
  refine ⟨S,ρ,.list [],os.ds,rfl,fun q1 H1 g1 n1 o1=>?_⟩
  have hq1:H1 q1=some (.lst []):=by
   cases o1 with
   | lst h t=>cases t;exact h
  have os1:=os.more n1 g1 ⟨_,hq1,rfl⟩
  obtain ⟨F0,f0⟩:=os.deep
  obtain ⟨pp,a1,b1,c1⟩:=f0.own i hM _ (QC e1)
  refine ⟨_,a1,insA S q1,ρ,_,os1.ds,e2,fun kv H2 g2 dk=>?_⟩
  have os2:=os1.same g2
  have g:=g1.trans g2
  have sub:∀ a,H a≠none->insA S q1 a->S a:=fun a ha z=>by
   rcases z with z|rfl
   ·exact z
   ·exact absurd n1 ha
  have b2:=(b1.sub sub).same g
  have f2:DeepF X.K G M H2 (insA S q1) σ ρ F0:=⟨fun j hj d' w=>let ⟨p,a,b,c⟩:=f0.own j hj d' w;⟨p,a,(b.sub sub).same g,fun r hr=>⟨.inl (c r hr).1,(c r hr).2⟩⟩,f0.disj,f0.flat⟩
  obtain ⟨kvs,ep,qs,ds,efp,rfl,hp,kk,hvs,np,kids⟩:=b2.dict_inv
  have hin:∀ r∈F0 i,H r≠none:=fun r hr z=>by
   obtain ⟨o,ho,_⟩:=os.ds.1 r (c1 r hr).1
   rw [z] at ho;cases ho
  have hl:kvs.length=ds.length:=by
   have h1:=kids.length
   have h2:=congrArg Xv hvs
   rw [Kj,Kj] at h2
   omega
  rw [qaJ hl] at hz
  have nqs:q1∉qs:=fun z=>hin q1 (by rw [efp];exact .tail _ z) n1
  have npq:pp≠q1:=fun z=>hin pp (by rw [efp];exact .head _) (by rw [z];exact n1)
  have ns0:¬ G.S0 q1:=fun z=>by
   obtain ⟨o,ho,_⟩:=os.ds.1 q1 (os.s0 q1 z)
   rw [n1] at ho;cases ho
  have toS0:∀ a,H2 a≠none->G.S0 a->insA S q1 a:=fun a _ z=>.inl (os.s0 a z)
  have vals:DenL X.K H2 G.S0 (kvs.map (·.2.2)) ds:=by
   rw [hvs]
   exact kids.den toS0 fun r hr=>(c1 r (by rw [efp];exact .tail _ hr)).2.1
  have hq2:H2 q1=some (.lst []):=g2 _ _ hq1
  have dq:Den X.K H2 G.S0 (.ref q1) (.list []):=(OwnO.lst (S:=insA S q1) hq2 .nil).den ns0 toS0
  refine ⟨G.S0,pp,kvs,ep,ks,ds,.list [],rfl,hp,kk.sub toS0,vals,jr hl hok,dk.sub toS0,dq,by omega,fun b' ep' eb=>?_⟩
  subst eb
  have hany:(kvs.any fun p=>decide (p.1=ks))=false:=by rw [J0 ks vals];exact hf
  have hput:putV kvs ks b' (.ref q1)=kvs++[(ks,b',.ref q1)]:=by
   unfold putV
   rw [hany];rfl
  rw [hput]
  have cpp:insA S q1 pp:=.inl (c1 pp (by rw [efp];exact .head _)).1
  refine q _ _ _ (os2.growD f2 (q:=q1) (fp:=pp::(qs++[q1])) hM (QC e1) a1 (by rw [efp];exact .head _) rfl ?_ (fun r hr=>?_) (.inr rfl) ns0 (os.h0.free n1) (fun j hj hh z=>?_) (fun j hj hh z=>?_))
  ·have hd2:dkv kvs ds++[(kxD ks,Nj [])]=dkv (kvs++[(ks,b',.ref q1)]) (ds++[.list []]):=(qbo hl (ks,b',V.ref q1) (Nj [])).symm
   rw [hd2]
   refine .dct qF ?_ ?_ ?_ ?_
   ·rw [KW,KW]
    exact (kk.append (.cons dk .nil)).off os2.ds.1 (Off.upd cpp)
   ·rw [KW,KW,hvs];rfl
   ·intro z
    rcases Vv.mp z with z|z
    ·exact np z
    ·exact npq (KL.mp z)
   ·exact (Kids.add1 hq2 kids nqs).upd os2.ds.1 cpp fun z=>by
     rcases Vv.mp z with z|z
     ·exact np z
     ·exact npq (KL.mp z)
  ·rcases Kk.mp hr with rfl|hr
   ·exact .inl (by rw [efp];exact .head _)
   ·rcases Vv.mp hr with z|z
    ·exact .inl (by rw [efp];exact .tail _ z)
    ·exact .inr (KL.mp z)
  ·obtain ⟨d',hd'⟩:=hh
   obtain ⟨p',_,_,c'⟩:=f0.own j hj d' hd'
   obtain ⟨o,ho,_⟩:=os.ds.1 q1 (c' q1 z).1
   rw [n1] at ho;cases ho
  ·obtain ⟨d',hd'⟩:=hh
   obtain ⟨p',a',b',c',_⟩:=os.own j hj d' hd'
   rw [z] at a'
   cases a'
   obtain ⟨o,ho,_⟩:=os.ds.1 q1 c'
   rw [n1] at ho;cases ho
def put1 (ks:KX)(l:Ka):List (Ka×PyData)->List (Ka×PyData)
 | []=>[]
 | p::r=>if KP p.1 (kxD ks)=true then (p.1,l)::r else p::put1 ks l r
theorem Kids.find {K:Kd}{H:Hp}{S:Av}{ks:KX}{l:Ka}:∀ {kvs:List (KX×Addr×V)} {qs:List Ke} {ds:List Ka},kvs.map (·.2.2)=qs.map V.ref->Kids K H S qs ds->qZ (dkv kvs ds) ks=some l->
  ∃ j p0 q xs es,kvs.find? (fun p=>decide (p.1=ks))=some p0/\p0.2.2=.ref q/\qs[j]?=some q/\l=.list es/\H q=some (.lst xs)/\DenL K H S xs es/\∀ l',put1 ks l' (dkv kvs ds)=dkv kvs (ds.set j l')
 | [],_,_,_,_,e=>by cases e
 | p::kvs,[],_,hv,_,_=>by cases hv
 | p::kvs,q::qs,_,hv,k,e=>by
  cases k with
  | @cons _ xs es _ ds h t n r =>
   obtain ⟨v1,v2⟩:=List.cons.inj hv
   rw [Qq] at e
   by_cases z:p.1=ks
   ·rw [Jo z] at e
    cases e
    refine ⟨0,p,q,xs,es,by rw [KJ,decide_eq_true z],v1,rfl,rfl,h,t,fun l'=>?_⟩
    rw [Qq,List.set_cons_zero,Qq,put1,J8,decide_eq_true z,if_pos rfl]
   ·rw [Jm z] at e
    obtain ⟨j,p0,q',xs',es',g1,g2,g3,g4,g5,g6,g7⟩:=Kids.find v2 r e
    refine ⟨j+1,p0,q',xs',es',by rw [KJ,decide_eq_false z];exact g1,g2,g3,g4,g5,g6,fun l'=>?_⟩
    rw [Qq,List.set_cons_succ,Qq,put1,J8,decide_eq_false z,if_neg (by decide),g7]
def J4 (c k d:Ka):Option Ka:=match c with
 | .dict kvs=>ob (kxOf k) fun ks=>if kOk kvs ks=true then ob (qZ kvs ks) fun l=>ob (appD l d) fun l'=>some (.dict (put1 ks l' kvs)) else none
 | _=>none
theorem qcy {c k d c':Ka}(e:J4 c k d=some c'):∃ kvs ks l l',c=.dict kvs/\k=kxD ks/\kOk kvs ks=true/\qZ kvs ks=some l/\appD l d=some l'/\c'=.dict (put1 ks l' kvs):=by
 unfold J4 at e
 split at e
 ·obtain ⟨ks,e1,e⟩:=qe e
  split at e
  ·rename_i hc
   obtain ⟨l,e2,e⟩:=qe e
   obtain ⟨l',e3,e⟩:=qe e
   cases e
   exact ⟨_,ks,l,l',rfl,QL e1,hc,e2,e3,rfl⟩
  ·cases e
 ·cases e
def JL (i:Nat)(fk f:Rho->Option Ka):Rho->Option Out:=fun ρ=>ob (vr i ρ) fun c=>ob (fk ρ) fun k=>ob (f ρ) fun d=>ob (J4 c k d) fun c'=>some (.nx (ρ.set i (some c')))
theorem qe9 {k:Nat}(hr:Room k X.A)(i:Nat){x:Str}{px sp apos cpos:Pos}(hv:Vis X.env.scope x)(hM:Dp M i)(hb:PD X M b fk)(he:PD X M a f)(hpx:YG b:=by intro _ _;rfl)(hN:X.N[i]?=some x:=by rfl)(hd:(x==("__debug__" : Str))=false:=by decide +kernel)(hcd:(x==("__classdict__" : Str))=false:=by decide +kernel)
  (hbase:attributeBase (.Subscript (.Name x px) b sp) "append" X.env (eval (.Subscript (.Name x px) b sp) X.env)=eval (.Subscript (.Name x px) b sp) X.env:=by rfl)
  (hfew:((backTo cpos (starEach [a] X.env)).all (fun x=>!x.1)&&(backToKw cpos (keywordEach [] X.env)).all (fun x=>x.1.isSome)
   && decide ([a].length+([]:List U6).length+(if ([]:List U6).isEmpty then 0 else 1)<30))=true:=by rfl)
  (hline:(apos.endLine==cpos.line)=true:=by rfl) (hs:starEach [a] X.env=(false,eval a X.env)::starEach [] X.env:=by rfl) (hplain:(backTo cpos (starEach [] X.env)).any (·.1)=false:=by rfl)
  (hsw:swapsWith (.Call (.Attribute (.Subscript (.Name x px) b sp) "append" apos) [a] [] cpos) none pos.line X.env=pure false:=by rfl) :
  PDS X G M L M Mb fr (.Expr (.Call (.Attribute (.Subscript (.Name x px) b sp) "append" apos) [a] [] cpos) pos) (JL i fk f) :=
 (YZ (qd8 Xl Xp X2 yU (qgN (r:=qjs X.K) (qga hr.units) (yZ i hv hN hd hcd) hb hpx) (qb he qi hs) hbase hfew hline hs hplain) hsw).weak fun D σ H ⟨S,ρ,o,os,e,q⟩=>by
  obtain ⟨c0,e1,e⟩:=qe e
  obtain ⟨k0,e2,e⟩:=qe e
  obtain ⟨d,e5,e⟩:=qe e
  obtain ⟨c',e6,e⟩:=qe e
  cases e
  obtain ⟨m,ks,l,l',rfl,rfl,hok,ef,ea,rfl⟩:=qcy e6
  obtain ⟨F,f0⟩:=os.deep
  obtain ⟨pp,a1,b1,c1⟩:=f0.own i hM _ (QC e1)
  refine ⟨_,a1,S,ρ,_,os.ds,e2,fun w H1 g1 d1=>?_⟩
  obtain ⟨kvs,ep,qs,ds,efp,rfl,hp,kk,hvs,np,kids⟩:=(b1.same g1).dict_inv
  obtain ⟨j,p0,q0,xs,es,h1,h2,h3,rfl,h0,t0,hset⟩:=Kids.find hvs kids ef
  have hl:kvs.length=ds.length:=by
   have h1:=kids.length
   have h2:=congrArg Xv hvs
   rw [Kj,Kj] at h2
   omega
  refine ⟨S,pp,kvs,ep,ks,p0,rfl,hp,kk,jr hl hok,d1,h1,?_⟩
  rw [h2]
  refine ⟨.inl ⟨rfl,_,SqL.of h0⟩,S,ρ,[d],os.ds.same g1,by show ob (f ρ) _=_;rw [e5];rfl,fun vs H2 g2 dl=>?_⟩
  obtain ⟨v,rfl,dv⟩:=dl.inv1
  have os2:=os.same (g1.trans g2)
  obtain ⟨ds7,e7,hz,rfl⟩:=yN ea
  cases e7
  have m0:q0∈F i:=by rw [efp];exact .tail _ (Ve h3)
  have nqp:pp≠q0:=fun z=>np (by rw [z];exact Ve h3)
  refine ⟨q0,xs,v,rfl,rfl,g2 _ _ h0,KB (by rw [t0.length];exact hz) (VM (zA (Ko _))),?_⟩
  refine q _ _ _ (os2.writeD (f0.same (g1.trans g2)) hM (QC e1) a1 m0 rfl ?_)
  rw [hset,efp]
  refine .dct (by rw [qD nqp];exact g2 _ _ hp) ((kk.same g2).off os2.ds.1 (Off.upd (c1 q0 m0).1)) hvs np ?_
  exact Kids.put os2.ds.1 (c1 q0 m0).1 (((t0.same g2).snoc dv).off os2.ds.1 (Off.upd (c1 q0 m0).1)) (kids.same g2) h3
end
def scB (N P G:List Str)(sc:VE):Bool :=
 decide (sc.kind=.function)&&(decide (sc.isCoroutine=false)&&(decide (sc.isGenerator=false)&&(decide N.Nodup&&(decide (N.take P.length=P)&&(P.all (locB sc)&&(sc.names.all (fun y=>decide (y.2≠.free))&&(N.all (fun x=>visB sc x&&locB sc x)&&G.all (glB sc))))))))
structure ScOk (N P G:List Str)(sc:VE):Prop where
 fs:FnScope N P sc
 nm:∀ x∈N,visB sc x=true/\locB sc x=true
 gb:∀ x∈G,glB sc x=true
theorem scmk {N P G:List Str}{sc:VE}(h:scB N P G sc=true):ScOk N P G sc:=by
 unfold scB at h
 simp only [Ks,decide_eq_true_eq,Kz] at h
 obtain ⟨h1,h2,h3,h4,h5,h6,h7,h8,h9⟩:=h
 exact ⟨⟨h1,h2,h3,h4,h5,fun x hx=>qgm (h6 x hx),h7⟩,h8,h9⟩
section
variable {N P G:List Str}{sc:VE}{x:Str}
theorem ScOk.vis (S:ScOk N P G sc)(i:Nat)(e:N[i]?=some x):Vis sc x:=Yk (S.nm x (Ve e)).1
theorem ScOk.loc (S:ScOk N P G sc)(i:Nat)(e:N[i]?=some x):Loc sc x:=qgm (S.nm x (Ve e)).2
theorem ScOk.gl {X:Cx}(S:ScOk N P G sc)(i:Nat)(e:G[i]?=some x)(hs:X.env.scope=sc):Gl X x:=qjh sc hs (S.gb x (Ve e))
end
def FnK (K:Kd)(n:Str)(st:KY):Prop:=∃ (f:Ke) (fd:Vo),KM K mainGlobals n=some (some (.ref f))/\Fun K n n st f fd
theorem FnK.of {K:Kd}{n:Str}{st:KY}{f:Ke}{oc:Kb}{od an:Option Ke}{osl:Array (Option Kb)}{kV doc pm cdv ct:Kb}(a:KM K mainGlobals n=some (some (.ref f)))(l:K.lookup f=some ⟨oc,od,.func (Us n n (Zq st) (zK st) (qj st) .none kV doc pm an cdv ct),osl⟩)
  (c:U7 K cdv n=true) (k:VQ K (.ref f)=true):FnK K n st:=⟨f,_,a,qcC l c k⟩
theorem wH (f:Array Kb->Array Kb)(o:Obj):(UY f o).dict=o.dict:=by
 obtain ⟨c,d,dt,sl⟩:=o
 cases dt<;>rfl
structure TrD (h B:Kx)(e:Ke)(cls a0:Kb)(dd:Option Ke)(fl:Kb):Prop where
 ex:∃ o fs T p ts,h.get? e=some o/\o.data=.fields fs/\o.cls=cls/\o.dict=dd/\fs[0]?=some a0/\fs[1]?=some (.ref T)/\T≠e/\B.get? T=none/\h.get? T=some p/\p.data=.fields ts/\ts[3]?=some fl
section
variable {h g B:Kx}{l:List Env}{e x:Ke}{o:Obj}{fs:Array Kb}{i:Nat}{v:Kb}
theorem yu (hb:x≠e):(h.update e (UY (·.setIfInBounds i v))).get? x=h.get? x:=VA _ _ (VU hb)
theorem qeb (he:h.get? e=some o)(hd:o.data=.fields fs):∃ o',(h.update e (UY (·.setIfInBounds i v))).get? e=some o'/\o'.data=.fields (fs.setIfInBounds i v)/\o'.cls=o.cls/\o'.dict=o.dict :=
 ⟨_,VZ _ he (Ny (UT hd _)),UT hd _,Eg _ _,wH _ _⟩
theorem qa4 (he:h.get? e=some o)(hd:o.data=.fields fs):h.UpToSlots (h.update e (UY (·.setIfInBounds i v))):=fun b ob hb nf=>by
 have nb:b≠e:=fun z=>by
  rw [z,he] at hb
  cases hb
  exact nf _ hd
 exact ⟨ob.slots,by rw [yu nb];exact hb⟩
theorem Yc (hB:B.StaysIn h)(hn:B.get? e=none):B.StaysIn (h.update e (UY (·.setIfInBounds i v))):=fun b ob hb=>by
 rw [yu fun z=>by rw [z,hn] at hb;cases hb]
 exact hB b ob hb
theorem Yj (u:h.UpToSlots g)(F:h.FunFrames B l):g.FunFrames B l:=F.of_keeps fun b ob hb nf=>by
 obtain ⟨sl,z⟩:=u b ob hb nf
 exact ⟨_,z,rfl⟩
end
section
variable {M:Model}{A:KG}{E:Kb->Kf->Prop}{s:Kf}{B:Kx}{env:Env}{outer:List Env}{L e:Ke}{cls a0 fl:Kb}{dd:Option Ke}{Q:Unit->Kf->Prop}
theorem WW {o:Obj}{fs:Array Kb}{hd:Kb}{nx:Bool}(fr:A.frames=some (env::outer))(F:s.heap.FunFrames B (env::outer))(hf:env.frame=some L)(he:s.heap.get? e=some o)(hB:B.StaysIn s.heap)(hn:B.get? e=none)(ho:o.data=.fields fs)(hz:1<fs.size)(h0:fs[0]?=some a0)
  (k:∀ h',B.StaysIn h'->h'.FunFrames B (env::outer)->TrD h' B e o.cls a0 o.dict (rawInt L)->s.heap.UpToSlots h'->Q () { s with heap:=h' }) :
  wpAny M A (do let a ← frameOf env;let pl ← entryPlaceOf L nx;let b ← EntryCells.newEntry hd a .none (rawInt L) .none pl;setField (.ref e) 1 b) Q E s:=by
 refine Kc (wpAny_frameOf_fun fr F hf fun g sl=>Kc (wpAny_entryPlaceOf fun pl hpl=>?_))
 have nf:e∉(env::outer).filterMap (·.frame):=fun z=>by
  obtain ⟨_,o',y,n⟩:=F.mem z
  rw [he] at y
  cases y
  exact n _ ho
 have e1:g.get? e=some o:=(sl.2.1 e nf).trans he
 have b1:B.StaysIn g:=fun b ob y=>(sl.2.1 b fun z=>by rw [(F.mem z).1] at y;cases y).trans (hB b ob y)
 have u1:s.heap.UpToSlots g:=fun b ob y _=>sl.2.2 b ob y
 unfold EntryCells.newEntry newFields
 refine Kc (Vy ?_ (hpl.sizeOk5 _ _ _ _ _))
 generalize hp:(Vj (Vp "traceback") none (U5 ([hd,KD L,K5,rawInt L,K5]++(if pl.isEmpty=true then Vn 6 K5 else pl)).toArray) #[])=p
 have t1:∃ ts,p.data=.fields ts/\ts[3]?=some (rawInt L):=⟨_,by rw [← hp],by rw [NC];rfl⟩
 obtain ⟨ts,pd,p3⟩:=t1
 have e2:(g.push p).get? e=some o:=Ki _ e1
 have eT:(g.push p).get? g.objs.size=some p:=Kv g (by rw [← hp];rfl)
 have nT:g.objs.size≠e:=Uy (Ku e1)
 have k2:∀ b ob,g.get? b=some ob->(g.push p).get? b=some ob:=fun b ob y=>Ki _ y
 refine Xb e2 ho hz ?_
 obtain ⟨o',a1,a2,a3,a4⟩:=qeb (i:=1) (v:=.ref g.objs.size) e2 ho
 have u2:s.heap.UpToSlots ((g.push p).update e (UY (·.setIfInBounds 1 (.ref g.objs.size)))):=(u1.trans (.of_keeps k2)).trans (qa4 e2 ho)
 refine k _ (Yc (fun b ob y=>k2 b ob (b1 b ob y)) hn) (Yj u2 F) ⟨o',_,g.objs.size,p,ts,a1,a2,a3,a4,?_,?_,nT,b1.fresh,?_,pd,p3⟩ u2
 ·rw [Array.getElem?_setIfInBounds_ne (by decide)];exact h0
 ·rw [Nk,if_pos hz]
 ·rw [yu nT];exact eT
theorem qcS {o:Obj}{fs:Array Kb}(fr:A.frames=some (env::outer))(F:s.heap.FunFrames B (env::outer))(hf:env.frame=some L)(he:s.heap.get? e=some o)(hB:B.StaysIn s.heap)(hn:B.get? e=none)(ho:o.data=.fields fs)(h1:fs[1]?=some .none)(h0:fs[0]?=some a0)
  (k:∀ h',B.StaysIn h'->h'.FunFrames B (env::outer)->TrD h' B e o.cls a0 o.dict (rawInt L)->s.heap.UpToSlots h'->Q () { s with heap:=h' }):wpAny M A (noteFrame (.ref e) env) Q E s:=by
 unfold noteFrame
 simp only [hf]
 refine Kc (Uw he ho h1 ?_)
 rw [if_neg (by decide)]
 exact WW fr F hf he hB hn ho (V4.mp h1).1 h0 k
theorem qdX (fr:A.frames=some (env::outer))(F:s.heap.FunFrames B (env::outer))(hf:env.frame=some L)(t:TrD s.heap B e cls a0 dd .none)(hB:B.StaysIn s.heap)(hn:B.get? e=none)
  (k:∀ h',B.StaysIn h'->h'.FunFrames B (env::outer)->TrD h' B e cls a0 dd (rawInt L)->s.heap.UpToSlots h'->Q () { s with heap:=h' }):wpAny M A (noteFrame (.ref e) env) Q E s:=by
 obtain ⟨o,fs,T,p,ts,he,ho,rfl,rfl,h0,h1,nT,bT,hT,hp,h3⟩:=t.ex
 unfold noteFrame
 simp only [hf]
 refine Kc (Uw he ho h1 ?_)
 rw [if_pos (show (KD T != K5)=true by simp)]
 refine Kc (Uw hT hp h3 ?_)
 rw [if_neg (show ¬ (K5==rawInt L)=true by simp [rawInt])]
 refine Kc (Xb hT hp (V4.mp h3).1 ?_)
 have u:=qa4 (i:=3) (v:=.none) hT hp
 exact WW fr (Yj u F) hf (by rw [yu nT.symm];exact he) (Yc hB bT) hn ho (V4.mp h1).1 h0 fun h' x1 x2 x3 x4=>k h' x1 x2 x3 (u.trans x4)
theorem ZV {l:List Env}(Fl:s.heap.FunFrames B l)(t:TrD s.heap B e cls a0 dd fl)(hB:B.StaysIn s.heap)
  (k:∀ h',B.StaysIn h'->h'.FunFrames B l->TrD h' B e cls a0 dd .none->s.heap.UpToSlots h'->Q () { s with heap:=h' }):wpAny M A (setFlight (.ref e) none) Q E s:=by
 obtain ⟨o,fs,T,p,ts,he,ho,rfl,rfl,h0,h1,nT,bT,hT,hp,h3⟩:=t.ex
 have z3:=(V4.mp h3).1
 unfold setFlight
 refine Kc (Uw he ho h1 ?_)
 rw [if_pos (show (KD T != K5)=true by simp)]
 refine Xb hT hp z3 ?_
 have u:=qa4 (i:=3) (v:=.none) hT hp
 obtain ⟨p',b1,b2,_,_⟩:=qeb (i:=3) (v:=.none) hT hp
 exact k _ (Yc hB bT) (Yj u Fl) ⟨o,fs,T,p',_,by rw [yu nT.symm];exact he,ho,rfl,rfl,h0,h1,nT,bT,b1,b2,by rw [Nk,if_pos z3]⟩ u
end
def FlyD (B:Kx)(l:List Env)(e:Ke)(cls a0:Kb)(dd:Option Ke)(h:Kx):Prop:=B.StaysIn h/\B.get? e=none/\h.FunFrames B l/\TrD h B e cls a0 dd .none
def HldD (B:Kx)(l:List Env)(e:Ke)(cls a0:Kb)(dd:Option Ke)(L:Ke)(h:Kx):Prop:=B.StaysIn h/\B.get? e=none/\h.FunFrames B l/\TrD h B e cls a0 dd (rawInt L)
theorem FlyD.first {B h:Kx}{l:List Env}{e:Ke}{cls a0:Kb}{dd:Option Ke}(x:FlyD B l e cls a0 dd h):∃ o fs,h.get? e=some o/\o.cls=cls/\o.data=.fields fs/\o.dict=dd:=by
 obtain ⟨o,fs,_,_,_,he,ho,h1,h2,_⟩:=x.2.2.2.ex
 exact ⟨o,fs,he,h1,ho,h2⟩
section
variable {M:Model}{A:KG}{E:Kb->Kf->Prop}{s:Kf}{B:Kx}{env:Env}{outer:List Env}{L e:Ke}{cls a0:Kb}{dd:Option Ke}{Q:Unit->Kf->Prop}
theorem qbQ {o:Obj}{fs:Array Kb}(fr:A.frames=some (env::outer))(F:s.heap.FunFrames B (env::outer))(hf:env.frame=some L)(he:s.heap.get? e=some o)(hB:B.StaysIn s.heap)(hn:B.get? e=none)(ho:o.data=.fields fs)(h1:fs[1]?=some .none)(h0:fs[0]?=some a0)
  (k:∀ h',FlyD B outer e o.cls a0 o.dict h'->s.heap.UpToSlots h'->Q () { s with heap:=h' }):wpAny M A (leaving env (.ref e)) Q E s:=by
 unfold leaving
 refine Kc (qcS fr F hf he hB hn ho h1 h0 fun h' x1 x2 x3 x4=>ZV x2 x3 x1 fun h2 y1 y2 y3 y4=>k h2 ⟨y1,hn,?_,y3⟩ (x4.trans y4))
 obtain ⟨_,_,z⟩:=y2
 exact z
theorem qgj (fr:A.frames=some (env::outer))(hf:env.frame=some L)(x:FlyD B (env::outer) e cls a0 dd s.heap)(k:∀ h',FlyD B outer e cls a0 dd h'->s.heap.UpToSlots h'->Q () { s with heap:=h' }):wpAny M A (leaving env (.ref e)) Q E s:=by
 unfold leaving
 refine Kc (qdX fr x.2.2.1 hf x.2.2.2 x.1 x.2.1 fun h' x1 x2 x3 x4=>ZV x2 x3 x1 fun h2 y1 y2 y3 y4=>k h2 ⟨y1,x.2.1,?_,y3⟩ (x4.trans y4))
 obtain ⟨_,_,z⟩:=y2
 exact z
theorem qij (fr:A.frames=some (env::outer))(hf:env.frame=some L)(x:FlyD B (env::outer) e cls a0 dd s.heap)(k:∀ h',HldD B (env::outer) e cls a0 dd L h'->s.heap.UpToSlots h'->Q () { s with heap:=h' }):wpAny M A (noteFrame (.ref e) env) Q E s :=
 qdX fr x.2.2.1 hf x.2.2.2 x.1 x.2.1 fun h' x1 x2 x3 x4=>k h' ⟨x1,x.2.1,x2,x3⟩ x4
theorem land {l:List Env}(x:HldD B l e cls a0 dd L s.heap)(k:∀ h',FlyD B l e cls a0 dd h'->s.heap.UpToSlots h'->Q () { s with heap:=h' }):wpAny M A (setFlight (.ref e) none) Q E s :=
 ZV x.2.2.1 x.2.2.2 x.1 fun h' x1 x2 x3 x4=>k h' ⟨x1,x.2.1,x2,x3⟩ x4
theorem qif {l:List Env}(x:FlyD B l e cls a0 dd s.heap)(k:∀ h',FlyD B l e cls a0 dd h'->s.heap.UpToSlots h'->Q () { s with heap:=h' }):wpAny M A (setFlight (.ref e) none) Q E s :=
 ZV x.2.2.1 x.2.2.2 x.1 fun h' x1 x2 x3 x4=>k h' ⟨x1,x.2.1,x2,x3⟩ x4
end
structure Fly (l:List Env)(H H':Hp)(g h B:Kx)(a:Ke)(cls:Kb)(t:Ke)(dd:Option Ke):Prop where
 fl:FlyD B l a cls (.ref t) dd h
 trk:∀ b u,H' b=some u->∀ o,h.get? b=some o->B.get? b=some o
 old:∀ b o,g.get? b=some o->H b=none->b∉frs l->B.get? b=some o
 dom:∀ b o,g.get? b=some o->b∉frs l->∃ o',B.get? b=some o'
 un:Un (frs l) [] H H' g h
def CX1 (P:Kt)(w:KF):CXT:=fun outer H s E e s'=>∃ a H' cls t B dd,e=.ref a/\s'.os=s.os/\XJ s'.gens/\HOk P w H' s'.heap/\Fly outer H H' s.heap s'.heap B a cls t dd/\E cls dd H'
theorem zM.ex {P:Kt}{w:KF}{H:Hp}{h:Kx}{a:Ke}{o:HO}(x:zM P w H h a o):∃ ob,h.get? a=some ob:=by
 cases o with
 | lst xs=>obtain ⟨_,_,_,_,e⟩:=x;exact ⟨_,e⟩
 | tup xs=>obtain ⟨_,_,_,_,e,_⟩:=x;exact ⟨_,e⟩
 | dK kvs=>obtain ⟨_,_,_,_,o,_,_,e,_⟩:=x;exact ⟨_,e⟩
 | dT kvs=>obtain ⟨_,_,_,_,o,_,_,e,_⟩:=x;exact ⟨_,e⟩
 | set S n=>obtain ⟨o,_,_,_,e,_⟩:=x;exact ⟨_,e⟩
 | ins C dx fs=>obtain ⟨_,_,_,e,_⟩:=x;exact ⟨_,e⟩
 | own y=>obtain ⟨_,e⟩:=x;exact ⟨_,e⟩
 | xd fs=>obtain ⟨_,⟨_,_,_,e,_⟩,_⟩:=x;exact ⟨_,e⟩
 | rng lo hi=>obtain ⟨_,_,_,e⟩:=x;exact ⟨_,e⟩
 | frz ob u=>exact ⟨_,x.1⟩
 | tbl ps=>exact ⟨_,(show h.get? a=some _ from x)⟩
 | met f y=>exact ⟨_,(show h.get? a=some _ from x)⟩
 | ext φ=>exact x.2.1
section
variable {P:Kt}{w:KF}{l l':List Env}{H H':Hp}{g h h' B:Kx}{a t:Ke}{cls:Kb}{dd:Option Ke}
theorem Fly.hok (F:Fly l H H' g h B a cls t dd)(k:HOk P w H' h)(fl':FlyD B l' a cls (.ref t) dd h'):HOk P w H' h':=fun b u e =>
 (k b u e).stay (fun c v hc q=>by
  have:H' c≠none:=by
   rcases hc with z|z
   ·rw [z,e];exact fun y=>nomatch y
   ·rw [z];exact fun y=>nomatch y
  obtain ⟨u',hu⟩:=N8.mp this
  exact fl'.1 _ _ (F.trk c u' hu v q)) (fun _ q=>q) fun _ _ q=>q
theorem Fly.step (F:Fly l H H' g h B a cls t dd)(k:HOk P w H' h)(fl':FlyD B l a cls (.ref t) dd h')(up:h.UpToSlots h'):Fly l H H' g h' B a cls t dd where
 fl:=fl'
 trk:=fun b u e o q=>by
  obtain ⟨o1,h1⟩:∃ o1,h.get? b=some o1:=(k b u e).ex
  have h2:=F.trk b u e o1 h1
  have h3:=fl'.1 _ _ h2
  rw [q] at h3
  cases h3
  exact h2
 old:=F.old
 dom:=F.dom
 un:={
  keep:=fun b o e n hb _=>fl'.1 _ _ (F.old b o e n hb)
  slot:=fun b o e n hb hx=>by
   obtain ⟨sl,e1⟩:=F.un.slot b o e n hb hx
   obtain ⟨_,o',e2,nf⟩:=F.fl.2.2.1.mem hb
   rw [e1] at e2
   cases e2
   obtain ⟨sl',e3⟩:=up b _ e1 nf
   exact ⟨sl',e3⟩
  free:=F.un.free
  there:=fun b o e _=>by
   by_cases hb:b∈frs l
   ·obtain ⟨_,o',e2,nf⟩:=F.fl.2.2.1.mem hb
    obtain ⟨sl',e3⟩:=up b _ e2 nf
    exact ⟨_,e3⟩
   ·obtain ⟨o',e'⟩:=F.dom b o e hb
    exact ⟨o',fl'.1 _ _ e'⟩
  tups:=F.un.tups
  frzs:=F.un.frzs
  tbls:=F.un.tbls }
end
abbrev exO (C:Ke)(od:Option Ke)(t:Ke):Obj:={ cls:=.ref C,dict:=od,data:=.fields #[.ref t,.none,.none,.none,.bool false,.none] }
def DxD (K:Kd)(H:Hp)(dd:Option Ke)(y:Ka):Prop:=y=.none\/∃ n d dx v,y=.tuple [.str n,d]/\flat d=true/\dd=some dx/\H dx=some (.xd [(n,v)])/\Den K H (fun _=>False) v d
def XMade (X:Cx)(pins:List (Ke×Obj))(G:Gm)(M L:List Nat)(ρ:Rho)(a C:Ke)(y:Ka)(s':Kf):Prop :=
 ∃ σ H S od t,Inv X pins σ H s'/\OwnS X.K G M L H S σ ρ/\DxD X.K H od y/\H a=none/\(X.ex=[]->X.s₀.heap.get? a=none)/\s'.heap.get? a=some (exO C od t)
def qjc (X:Cx)(pins:List (Ke×Obj))(G:Gm)(M L:List Nat)(ρ:Rho)(a C:Ke)(y:Ka)(s':Kf):Prop :=
 ∃ σ H S s1 H' B t dd,DxD X.K H' dd y/\Inv X pins σ H s1/\OwnS X.K G M L H S σ ρ/\Same H H'/\s'.os=s1.os/\XJ s'.gens/\HOk X.prog X.w H' s'.heap/\Fly X.stack H H' s1.heap s'.heap B a (.ref C) t dd
def XCls (K:Kd)(c:Str)(C:Ke):Prop:=KM K mainGlobals c=some (some (.ref C))/\xcB K C=true
def XAt (X:Cx)(o:Bool)(pins:List (Ke×Obj))(G:Gm)(M L:List Nat)(x:Ka)(ρ:Rho)(e:Kb)(s':Kf):Prop :=
 ∃ a c C y,e=.ref a/\x=excD c y/\XCls X.K c C/\((o=false/\XMade X pins G M L ρ a C y s')\/qjc X pins G M L ρ a C y s')
def PDX (X:Cx)(o:Bool)(G:Gm)(M L Mx:List Nat)(st:KY)(w:Rho->Option (Ka×Rho)):Prop :=
 ∀ (pins:List (Ke×Obj)) (s:Kf) (σ:St) (H:Hp) (S:Av) (ρ ρ':Rho) (x:Ka),Inv X pins σ H s->OwnS X.K G M L H S σ ρ->w ρ=some (x,ρ')->
  wpAny (model X.prog X.w) X.A (exec st X.env) (fun _ _=>False) (XAt X o pins G Mx L x ρ') s
def PDXs (X:Cx)(o:Bool)(G:Gm)(M L Mx:List Nat)(st:List KY)(w:Rho->Option (Ka×Rho)):Prop :=
 ∀ (pins:List (Ke×Obj)) (s:Kf) (σ:St) (H:Hp) (S:Av) (ρ ρ':Rho) (x:Ka),Inv X pins σ H s->OwnS X.K G M L H S σ ρ->w ρ=some (x,ρ')->
  wpAny (model X.prog X.w) X.A (execs st X.env) (fun _ _=>False) (XAt X o pins G Mx L x ρ') s
section
variable {X:Cx}{pins:List (Ke×Obj)}{σ:St}{H H':Hp}{s s':Kf}{G:Gm}{S:Av}
theorem Inv.stkLoc (I:Inv X pins σ H s){b:Ke}{o:Obj}(e:X.s₀.heap.get? b=some o)(h:b∉X.fs):b∉frs X.stack:=fun z=>by
 rcases Kk.mp (I.stkSub b z) with y|y
 ·exact absurd (Ku e) (by rw [y];exact Nat.not_lt.mpr I.ok.above)
 ·exact h y
theorem qcK {E:Kb->Kf->Prop}{Q:Unit->Kf->Prop}{a C t:Ke}{od:Option Ke}(I:Inv X pins σ H s)(hHa:H a=none)(hs0:X.s₀.heap.get? a=none)(ha:s.heap.get? a=some (exO C od t))(hst:X.stack=X.env::X.outer)(hfr:X.env.frame=some X.env.locals)(hex:X.ex=[])
  (hq:∀ h',HOk X.prog X.w H h'->Fly X.outer X.H₀ H X.s₀.heap h' (UW s.heap (a::frs X.stack)) a (.ref C) t od->Q () { s with heap:=h' }):wpAny (model X.prog X.w) X.A (leaving X.env (.ref a)) Q E s:=by
 have noex:∀ b,b∉X.ex:=fun b z=>by rw [hex] at z;cases z
 have hin:∀ env∈X.env::X.outer,∀ b,env.frame=some b->b∈a::frs X.stack:=fun env he b hb=>by
  rw [hst];exact .tail _ (NW.mpr ⟨env,he,hb⟩)
 have hF:s.heap.FunFrames X.base (X.env::X.outer):=by have:=I.stack;rw [hst] at this;exact this
 have fr:X.A.frames=some (X.env::X.outer):=by rw [I.ok.frames,hst]
 have hBn:(UW s.heap (a::frs X.stack)).get? a=none:=E6 _ (.head _)
 refine qbQ (a0:=.ref t) fr (PySem.W.funFrames_hide hF hin) hfr ha (fun b o q=>Fe _ q) hBn rfl rfl rfl fun h' x1 x4=>?_
 have hB:∀ b o,s.heap.get? b=some o->b≠a->b∉frs X.stack->(UW s.heap (a::frs X.stack)).get? b=some o:=fun b o q na n=>Fd _ q fun z=>by
  rcases Kk.mp z with z|z
  ·exact na z
  ·exact n z
 have na:∀ {b:Ke} {u:HO},H b=some u->b≠a:=fun e z=>by rw [z,hHa] at e;cases e
 have n0:∀ {b:Ke} {o:Obj},X.s₀.heap.get? b=some o->b≠a:=fun e z=>by rw [z,hs0] at e;cases e
 have trk:∀ b u,H b=some u->∀ o,s.heap.get? b=some o->(UW s.heap (a::frs X.stack)).get? b=some o:=fun b u e o q=>hB b o q (na e) fun z=>by rw [I.stkFree b z] at e;cases e
 have old:∀ b o,X.s₀.heap.get? b=some o->X.H₀ b=none->b∉frs X.outer->(UW s.heap (a::frs X.stack)).get? b=some o:=fun b o e n hb =>
  hB b o (I.base.keep b o e n hb (noex b)) (n0 e) (I.stkLoc e hb)
 have dom:∀ b o,X.s₀.heap.get? b=some o->b∉frs X.outer->∃ o',(UW s.heap (a::frs X.stack)).get? b=some o':=fun b o e hb=>by
  obtain ⟨o',e'⟩:=I.base.there b o e (noex b)
  exact ⟨o',hB b o' e' (n0 e) (I.stkLoc e hb)⟩
 have frm:∀ b o,s.heap.get? b=some o->b∈frs X.stack->∃ sl,h'.get? b=some { o with slots:=sl }:=fun b o e hb=>by
  obtain ⟨_,o',e2,nf⟩:=hF.mem (show b∈(X.env::X.outer).filterMap (·.frame) from by rw [← hst];exact hb)
  rw [e] at e2
  cases e2
  exact x4 b o e nf
 have hsub:∀ b∈frs X.outer,b∈frs X.stack:=fun b hb=>by rw [hst];show b∈(X.env::X.outer).filterMap (·.frame);rw [Xk,hfr];exact .tail _ hb
 refine hq h' (fun b u e=>(I.hok b u e).stay (fun c v hc q=>?_) (fun _ q=>q) fun _ _ q=>q) ⟨x1,fun b u e o q=>?_,old,dom,?_⟩
 ·have:H c≠none:=by
   rcases hc with z|z
   ·rw [z,e];exact fun y=>nomatch y
   ·rw [z];exact fun y=>nomatch y
  obtain ⟨u',hu⟩:=N8.mp this
  exact x1.1 _ _ (trk c u' hu v q)
 ·obtain ⟨o1,h1⟩:=(I.hok b u e).ex
  have h2:=trk b u e o1 h1
  have h3:=x1.1 _ _ h2
  rw [q] at h3
  cases h3
  exact h2
 ·exact {
      keep:=fun b o e n hb _=>x1.1 _ _ (old b o e n hb)
      slot:=fun b o e n hb _=>by
       obtain ⟨sl,e1⟩:=I.base.slot b o e n hb (noex b)
       obtain ⟨sl',e2⟩:=frm b _ e1 (hsub b hb)
       exact ⟨sl',e2⟩
      free:=fun b o e n _=>I.base.free b o e n (noex b)
      there:=fun b o e _=>by
       obtain ⟨o',e'⟩:=I.base.there b o e (noex b)
       by_cases hb:b∈frs X.stack
       ·obtain ⟨sl,e2⟩:=frm b o' e' hb
        exact ⟨_,e2⟩
       ·exact ⟨o',x1.1 _ _ (hB b o' e' (n0 e) hb)⟩
      tups:=I.base.tups
      frzs:=I.base.frzs
      tbls:=I.base.tbls }
theorem qcJ {E:Kb->Kf->Prop}{Q:Unit->Kf->Prop}{B:Kx}{a t:Ke}{cls:Kb}{dd:Option Ke}(I:Inv X pins σ H s)(ok:HOk X.prog X.w H' s'.heap)(F:Fly X.stack H H' s.heap s'.heap B a cls t dd)(hst:X.stack=X.env::X.outer)(hfr:X.env.frame=some X.env.locals)(hex:X.ex=[])
  (hq:∀ h',HOk X.prog X.w H' h'->Fly X.outer X.H₀ H' X.s₀.heap h' B a cls t dd->Q () { s' with heap:=h' }):wpAny (model X.prog X.w) X.A (leaving X.env (.ref a)) Q E s':=by
 have noex:∀ b,b∉X.ex:=fun b z=>by rw [hex] at z;cases z
 have fr:X.A.frames=some (X.env::X.outer):=by rw [I.ok.frames,hst]
 have fl:FlyD B (X.env::X.outer) a cls (.ref t) dd s'.heap:=by have:=F.fl;rw [hst] at this;exact this
 refine qgj fr hfr fl fun h' x1 up=>?_
 have hok:=F.hok ok x1
 have hsub:∀ b∈frs X.outer,b∈frs X.stack:=fun b hb=>by rw [hst];show b∈(X.env::X.outer).filterMap (·.frame);rw [Xk,hfr];exact .tail _ hb
 have old:∀ b o,X.s₀.heap.get? b=some o->X.H₀ b=none->b∉frs X.outer->B.get? b=some o:=fun b o e n hb=>F.old b o (I.base.keep b o e n hb (noex b)) (I.base.free b o e n (noex b)) (I.stkLoc e hb)
 have dom:∀ b o,X.s₀.heap.get? b=some o->b∉frs X.outer->∃ o',B.get? b=some o':=fun b o e hb=>by
  obtain ⟨o',e'⟩:=I.base.there b o e (noex b)
  exact F.dom b o' e' (I.stkLoc e hb)
 have frm:∀ b o,s'.heap.get? b=some o->b∈frs X.stack->∃ sl,h'.get? b=some { o with slots:=sl }:=fun b o e hb=>by
  obtain ⟨_,o',e2,nf⟩:=F.fl.2.2.1.mem hb
  rw [e] at e2
  cases e2
  exact up b o e nf
 refine hq h' hok ⟨x1,fun b u e o q=>?_,old,dom,?_⟩
 ·obtain ⟨o1,h1⟩:=(ok b u e).ex
  have h2:=F.trk b u e o1 h1
  have h3:=x1.1 _ _ h2
  rw [q] at h3
  cases h3
  exact h2
 ·exact {
      keep:=fun b o e n hb _=>x1.1 _ _ (old b o e n hb)
      slot:=fun b o e n hb _=>by
       obtain ⟨sl,e1⟩:=I.base.slot b o e n hb (noex b)
       obtain ⟨sl1,e2⟩:=F.un.slot b _ e1 (I.base.free b o e n (noex b)) (hsub b hb) (by simp)
       obtain ⟨sl',e3⟩:=frm b _ e2 (hsub b hb)
       exact ⟨sl',e3⟩
      free:=fun b o e n _=>by
       obtain ⟨o',e'⟩:=I.base.there b o e (noex b)
       exact F.un.free b o' e' (I.base.free b o e n (noex b)) (by simp)
      there:=fun b o e _=>by
       obtain ⟨o',e'⟩:=I.base.there b o e (noex b)
       obtain ⟨o2,e2⟩:=F.un.there b o' e' (by simp)
       by_cases hb:b∈frs X.stack
       ·obtain ⟨sl,e3⟩:=frm b o2 e2 hb
        exact ⟨_,e3⟩
       ·obtain ⟨o3,e3⟩:=F.dom b o' e' hb
        exact ⟨o3,x1.1 _ _ e3⟩
      tups:=fun b xs e=>F.un.tups b xs (I.base.tups b xs e)
      frzs:=fun b o u e=>F.un.frzs b o u (I.base.frzs b o u e)
      tbls:=fun b ps e=>by
       obtain ⟨m1,e1⟩:=I.base.tbls b ps e
       obtain ⟨m2,e2⟩:=F.un.tbls b _ e1
       exact ⟨m1++m2,by rw [e2,NV]⟩ }
end
def xNo:Rho->Option (Ka×Rho):=fun _=>none
def xSeq (u:Rho->Option Out)(w1 w2:Rho->Option (Ka×Rho))(ρ:Rho):Option (Ka×Rho):=match w1 ρ with
 | some r=>some r
 | none=>match u ρ with
  | some (.nx ρ')=>w2 ρ'
  | _=>none
def xIf (p:Rho->Option Bool)(w1 w2:Rho->Option (Ka×Rho))(ρ:Rho):Option (Ka×Rho):=ob (p ρ) fun b=>if b=true then w1 ρ else w2 ρ
def qcp (n:Nat)(fs:Rho->Option (List Ka))(h:List Ka->Option Ka)(ρ:Rho):Option (Ka×Rho):=ob (fs ρ) fun ds=>if ds.length=n then ob (h ds) fun x=>some (x,ρ) else none
def spX (K:Kd)(n:Nat)(f:List Ka->Option Ka):Sp:=fun vs H _ E=>∃ S ds x,Dm S H/\DenL K H S vs ds/\ds.length=n/\f ds=some x/\∀ c C y dd H',x=excD c y->XCls K c C->DxD K H' dd y->Same H H'->E (.ref C) dd H'
structure KnownR (P:Kt)(w:KF)(K:Kd)(mg:Str->Option Kb)(base:Kx)(x:Str)(n k:Nat)(h:List Ka->Option Ka):Prop where
 ex:∃ (f:Ke) (fd:Vo) (ps:List Str),FnOk P w K mg base (CX1 P w) k f fd ps (spX K n h)/\mg x=some (.ref f)/\VQ K (.ref f)=true/\Binds K fd ps []
section
variable {X:Cx}{G:Gm}{M M1 M' Mb L Mx:List Nat}{fr:Fr}{a c:Kw}{es:List Kw}{fs:Rho->Option (List Ka)}{p:Rho->Option Bool}{pos:Pos}{s1:KY}{ss st1 st2:List KY}{u:Rho->Option Out}{w w1 w2:Rho->Option (Ka×Rho)}{x:Str}{o:Bool}
theorem qks:PDX X o G M L Mx s1 xNo:=fun _ _ _ _ _ _ _ _ _ _ e=>nomatch e
theorem qd6:PDXs X o G M L Mx ss xNo:=fun _ _ _ _ _ _ _ _ _ _ e=>nomatch e
theorem qd5 (h:PDX X o G M L Mx s1 w):PDXs X o G M L Mx [s1] w:=fun pins s σ H S ρ ρ' x I os e=>UL (thn (h pins s σ H S ρ ρ' x I os e) fun _ _ z=>z.elim)
theorem qb7 (h1:PDS X G M L M1 Mb fr s1 u)(x1:PDX X o G M L Mx s1 w1)(x2:PDXs X o G M1 L Mx ss w2)(hn:∀ e s,X.xe e s->False:=by exact fun _ _ z=>z):PDXs X o G M L Mx (s1::ss) (xSeq u w1 w2):=by
 intro pins s σ H S ρ ρ' x I os e
 unfold xSeq at e
 cases e1:w1 ρ with
 | some r =>
  rw [e1] at e
  cases e
  exact UL (thn (x1 pins s σ H S ρ ρ' x I os e1) fun _ _ z=>z.elim)
 | none =>
  rw [e1] at e
  cases e2:u ρ with
  | none=>rw [e2] at e;cases e
  | some o' =>
   rw [e2] at e
   cases o' with
   | nx ρ1 =>
    refine UL (Vq (h1 pins s σ H { nx:=fun σ' H'=>∃ S',OwnS X.K G M1 L H' S' σ' ρ1,rt:=fun _ _=>False } I ⟨S,ρ,_,os,e2,fun σ' H' S' os'=>⟨S',os'⟩⟩) (fun f s1 q=>?_) fun e s z=>(hn e s z).elim)
    cases f with
    | next=>obtain ⟨σ',H',I',S',os'⟩:=q;exact x2 pins s1 σ' H' S' ρ1 ρ' x I' os' e
    | ret v=>obtain ⟨_,_,_,_,_,z⟩:=q;exact z.elim
    | brk=>obtain ⟨_,_,_,z⟩:=q;exact z.elim
    | cont=>obtain ⟨_,_,_,z⟩:=q;exact z.elim
   | rt d=>cases e
   | bk d=>cases e
   | ct d=>cases e
theorem qkr (hc:PDT X [] c p)(x1:PDXs X o G M L Mx st1 w1)(x2:PDXs X o G M L Mx st2 w2)(hn:∀ e s,X.xe e s->False:=by exact fun _ _ z=>z):PDX X o G M L Mx (.If c st1 st2 pos) (xIf p w1 w2):=by
 intro pins s σ H S ρ ρ' x I os e
 obtain ⟨d,e1,e⟩:=qe e
 refine wpAny_If (Vq (hc pins s σ H (fun b H1=>b=d/\Same H H1) I ⟨G.S0,ρ,d,os.den,e1,fun H1 g1=>⟨rfl,g1⟩⟩) (fun b s1 ⟨H1,I1,hb,g1⟩=>?_) fun e s z=>(hn e s z).elim)
 subst hb
 cases b with
 | true=>rw [if_pos rfl] at e;exact x1 pins s1 σ H1 S ρ ρ' x I1 (os.same g1) e
 | false=>rw [if_neg (by decide)] at e;exact x2 pins s1 σ H1 S ρ ρ' x I1 (os.same g1) e
theorem qhQ {p:Pos}{n k k':Nat}{h:List Ka->Option Ka}(F:KnownR X.prog X.w X.K X.mg X.base x n k h)(hr:Room k' X.A)(hk:k<=k')(hg:Gl X x)(ha:PDA X M (a::es) fs)
  (hdb:(x==("__debug__" : Str))=false:=by decide +kernel) (he:starEach (a::es) X.env=(false,eval a X.env)::starEach es X.env:=by rfl) (hpl:(backTo pos (starEach es X.env)).any (·.1)=false:=by rfl)
  (hn:∀ e s,X.xe e s->False:=by exact fun _ _ z=>z) {pins:List (Ke×Obj)} {s:Kf} {σ:St} {H:Hp} {S:Av} {ρ ρ':Rho} {d:Ka} (I:Inv X pins σ H s) (os:OwnS X.K G M L H S σ ρ) (e:qcp n fs h ρ=some (d,ρ')) :
  wpAny (model X.prog X.w) X.A (eval (.Call (.Name x p) (a::es) [] pos) X.env) (fun _ _=>False) (XAt X o pins G M L d ρ') s:=by
 obtain ⟨ds,e1,e⟩:=qe e
 have e:(if ds.length=n then ob (h ds) fun x=>some (x,ρ) else none)=some (d,ρ'):=e
 split at e
 case isFalse=>cases e
 rename_i hl
 obtain ⟨y,e2,e⟩:=qe e
 cases e
 obtain ⟨f,fd,ps,F,hm,kp,hb⟩:=F.ex
 refine Uc (ZW I hg hm ?_ hdb)
 have ha':=ha pos pins s σ H (fun vs H1=>Same H H1/\DenL X.K H1 S vs ds) I ⟨S,ρ,ds,os.ds,e1,fun vs H1 g1 d1=>⟨g1,d1⟩⟩
 refine Xo (h₀:=X.base) I.ok.mod.kin kp (Vq ha' (fun us s1 ⟨vs,H1,I1,r,g1,d1⟩=>⟨I1.kIn,?_⟩) fun e s z=>(hn e s z).elim) he hpl
 have hsp:spX X.K n h vs H1 (fun _ _=>False) (fun cls dd H'=>∃ cn C y,cls=.ref C/\d=excD cn y/\XCls X.K cn C/\DxD X.K H' dd y/\Same H1 H'):=⟨S,ds,d,os.ds.1.same g1,d1,hl,e2,fun cn C y dd H' ed hC dx g=>⟨cn,C,y,rfl,ed,hC,dx,g⟩⟩
 have hlen:(us++[]).length=ps.length:=by rw [Vl,← r.length];exact F.len _ _ _ _ hsp
 refine XE (XY (F.run X.A X.stack s1 H1 ⟨us,[]⟩ us vs _ _ (hr.mono hk) I1.env0 (by have:=hb s1 us I1.kIn hlen;rwa [Vl] at this) r hsp) fun r s' hq=>?_)
 cases r with
 | error e =>
  obtain ⟨a,H',cls,t,B,dd,rfl,os',bare,ok,fl,cn,C,y,rfl,rfl,hC,dx,g⟩:=hq
  exact ⟨a,cn,C,y,rfl,rfl,hC,.inr ⟨σ,H1,S,s1,H',B,t,dd,dx,I1,os.same g1,g,os',bare,ok,fl⟩⟩
 | ok fl =>
  cases fl with
  | ret u=>obtain ⟨_,_,_,_,_,_,_,z⟩:=hq;exact z.elim
  | next=>exact Vz hq
  | brk=>exact Vz hq
  | cont=>exact Vz hq
theorem qgL {p cpos:Pos}{n k k':Nat}{h:List Ka->Option Ka}(F:KnownR X.prog X.w X.K X.mg X.base x n k h)(hr:Room k' X.A)(hk:k<=k')(hg:Gl X x)(ha:PDA X M (a::es) fs)
  (hdb:(x==("__debug__" : Str))=false:=by decide +kernel) (he:starEach (a::es) X.env=(false,eval a X.env)::starEach es X.env:=by rfl) (hpl:(backTo cpos (starEach es X.env)).any (·.1)=false:=by rfl)
  (hn:∀ e s,X.xe e s->False:=by exact fun _ _ z=>z) (hsw:swapsWith (.Call (.Name x p) (a::es) [] cpos) none pos.line X.env=pure false:=by rfl):PDX X o G M L M (.Expr (.Call (.Name x p) (a::es) [] cpos) pos) (qcp n fs h) :=
 fun pins s σ H S ρ ρ' d I os e=>E2 (thn (qhQ F hr hk hg ha hdb he hpl hn I os e) fun _ _ z=>z.elim) I.quiet hsw
end
section
variable {P:Kt}{w:KF}{K:Kd}{mg:Str->Option Kb}{base:Kx}
def xOut (w:Rho->Option (Ka×Rho))(n:Nat)(ds:List Ka):Option Ka:=ob (w (rho0 n ds)) fun r=>some r.1
theorem FunG.raises {x qual:Str}{st:KY}{f:Ke}{fd:Vo}{N ps:List Str}{k n:Nat}{wx:Rho->Option (Ka×Rho)}{Mx:List Nat}(F:FunG K x qual st f fd)(S:FnScope N ps (qj st))(hn:ps.length=n)
  (hbody:∀ (cdv:Kb) (A:KG) (outer:List Env) (s:Kf) (H:Hp) (E:XK),Room k (A.deeper (envOfC qual (qj st) s.heap.objs.size f cdv))->∀ G:Gm,
   PDXs (cxOf CX0 P w K mg base N qual (qj st) f cdv A outer s H E).nox false G [] [] Mx (zK st) wx) :
  FnOk P w K mg base (CX1 P w) (k+1) f fd ps (spX K n (xOut wx N.length)):=by
 obtain ⟨oc,dV,od,kV,doc,pm,an,cdv,ct,osl,rfl,lk,hcd⟩:=F.ex
 refine qf0 lk hcd S (fun vs H Q E h=>?_) fun A outer s H vs Q E hr h=>?_
 ·obtain ⟨_,ds,_,_,h1,h2,_⟩:=h
  rw [h1.length,h2,hn]
 ·obtain ⟨Sv,ds,x,m,h1,h2,e,q⟩:=h
  obtain ⟨⟨d,ρ'⟩,e1,e⟩:=qe e
  cases e
  refine ⟨fun _ σ' H'=>σ'=start N vs/\H'=H,fun pins s1 σ' H' D I h=>?_,rfl,rfl⟩
  obtain ⟨rfl,rfl⟩:=h
  refine Vq (hbody cdv A outer s H' E hr (G0 H' Sv) pins s1 _ H' Sv _ ρ' _ (I.wish _) (OwnS.start m h1 N) e1) (fun _ _ z=>z.elim) fun ev s' hx=>?_
  obtain ⟨a,c',C',y,rfl,hd,hC',hx⟩:=hx
  show wpAny _ _ (leaving _ _) _ _ _
  rcases hx with ⟨_,σ2,H2,S2,od,t,I2,os2,dx,hHa,hs0,ha⟩|⟨σ2,H2,S2,s2,H3,B,t,dd,dx,I2,os2,g,os',bare,ok,fl⟩
  ·have I3:Inv (cxOf (CX1 P w) P w K mg base N qual (qj st) f cdv A outer s H' E) pins σ2 H2 s':=I2.unwish.wish _
   refine qcK I3 hHa (hs0 rfl) ha rfl rfl rfl fun h' ok fl=>?_
   exact ⟨a,H2,.ref C',t,_,od,rfl,I3.os,I3.bare,ok,fl,q c' C' y od H2 hd hC' dx os2.h0⟩
  ·have I3:Inv (cxOf (CX1 P w) P w K mg base N qual (qj st) f cdv A outer s H' E) pins σ2 H2 s2:=I2.unwish.wish _
   refine qcJ I3 ok fl rfl rfl rfl fun h' ok' fl'=>?_
   exact ⟨a,H3,.ref C',t,B,dd,rfl,os'.trans I3.os,bare,ok',fl',q c' C' y dd H3 hd hC' dx (os2.h0.trans g)⟩
theorem Fun.raises {x qual:Str}{st:KY}{f:Ke}{fd:Vo}{N ps:List Str}{k n:Nat}{wx:Rho->Option (Ka×Rho)}{Mx:List Nat}(F:Fun K x qual st f fd)(S:FnScope N ps (qj st))(hn:ps.length=n)
  (hbody:∀ (cdv:Kb) (A:KG) (outer:List Env) (s:Kf) (H:Hp) (E:XK),Room k (A.deeper (envOfC qual (qj st) s.heap.objs.size f cdv))->∀ G:Gm,
   PDXs (cxOf CX0 P w K mg base N qual (qj st) f cdv A outer s H E).nox false G [] [] Mx (zK st) wx) :
  FnOk P w K mg base (CX1 P w) (k+1) f fd ps (spX K n (xOut wx N.length)):=F.g.raises S hn hbody
end
abbrev Cx.mk1 (X:Cx)(e:Kb):Cx:={ X with A:=X.A.mark (some e),calm:=false }
def caught (cs:List Str):Ka->Bool
 | .dict ((.str c,_)::_)=>cs.contains c
 | _=>false
def qgC (i:Nat):Out->Out
 | .nx ρ=>.nx (ρ.set i none)
 | .rt d=>.rt d
 | .bk ρ=>.bk (ρ.set i none)
 | .ct ρ=>.ct (ρ.set i none)
def sTry (u:Rho->Option Out)(w:Rho->Option (Ka×Rho))(cs:List Str)(i:Nat)(uh:Rho->Option Out)(ρ:Rho):Option Out:=match w ρ with
 | some (x,ρ')=>if caught cs x=true then ob (uh (ρ'.set i (some x))) fun o=>some (qgC i o) else none
 | none=>u ρ
section
variable {X:Cx}{pins:List (Ke×Obj)}{σ:St}{H H':Hp}{s s':Kf}{G:Gm}{S:Av}{M L:List Nat}{ρ:Rho}
theorem Inv.mk1 (I:Inv X pins σ H s)(e:Kb):Inv (X.mk1 e) pins σ H s :=
 ⟨⟨I.ok.mod,I.ok.kind,I.ok.glob,I.ok.blt,I.ok.above,I.ok.inj,I.ok.has,I.ok.cab,(fun z=>nomatch z),I.ok.frames,I.ok.stk,I.ok.exf,I.ok.bs,I.ok.bsz,I.ok.noex,I.ok.exfs,I.ok.funs,I.ok.frf⟩,I.os,I.bare,I.base,I.loc,I.cell,I.free,I.freeC,I.pin,I.hok,I.len⟩
theorem Inv.unmk1 {e:Kb}(ok:X.Ok)(I:Inv (X.mk1 e) pins σ H s):Inv X pins σ H s:=⟨ok,I.os,I.bare,I.base,I.loc,I.cell,I.free,I.freeC,I.pin,I.hok,I.len⟩
theorem OwnS.del {i:Nat}(h:OwnS X.K G M L H S σ ρ)(hM:Out0 M i):OwnS X.K G M L H S (σ.set i none) (ρ.set i none):=by
 have back:∀ {j:Nat} {d:Ka},(ρ.set i none)[j]?=some (some d)->j≠i/\ρ[j]?=some (some d):=fun {j d} e=>by
  by_cases hj:i=j
  ·subst hj
   rw [List.getElem?_set] at e
   split at e
   ·split at e<;>cases e
   ·exact absurd rfl ‹_›
  ·rw [VR hj] at e
   exact ⟨VU hj,e⟩
 have fwd:∀ {j:Nat},j≠i->(σ.set i none)[j]?=σ[j]?:=fun {j} hj=>VR (VU hj)
 have keep:∀ {j:Nat},j∈M->j≠i:=fun {j} hj z=>hM.1 (z ▸ hj)
 have has:∀ {j:Nat},Has (ρ.set i none) j->Has ρ j:=fun {j} ⟨d,e⟩=>⟨d,(back e).2⟩
 obtain ⟨ds,s0,h0,own,apart,bnd,lkd,F,⟨d1,d2,d3⟩⟩:=h
 refine ⟨⟨ds.1,by rw [Vw,Vw];exact ds.2.1,fun j d n e=>?_⟩,s0,h0,fun j hj d e=>?_,fun j hj k hk d e p e1 e2 e3 e4=>?_,bnd,fun j hj=>?_,F,fun j hj d e=>?_,fun j hj k hk a1 a2=>d2 j hj k hk (has a1) (has a2),fun j hj k hk a1 a2 p e=>?_⟩
 ·obtain ⟨nj,e⟩:=back e
  rw [fwd nj]
  exact ds.2.2 j d n e
 ·obtain ⟨nj,e⟩:=back e
  rw [fwd nj]
  exact own j hj d e
 ·obtain ⟨n1,e1⟩:=back e1
  obtain ⟨n2,e2⟩:=back e2
  rw [fwd n1] at e3
  rw [fwd n2] at e4
  exact apart j hj k hk d e p e1 e2 e3 e4
 ·obtain ⟨a1,a2⟩:=lkd j hj
  exact ⟨a1,by rw [VR (VU (keep a1.1))];exact a2⟩
 ·obtain ⟨nj,e⟩:=back e
  rw [fwd nj]
  exact d1 j hj d e
 ·rw [fwd (keep hj.1)] at e
  exact d3 j hj k hk (has a1) (has a2) p e
theorem Inv.gone {i:Nat}{x:Str}{m:Str->Option Kb}{h':Kx}{v:Option Kb}{t':Nat}(I:Inv X pins σ H s)(hN:X.N.Nodup)(hi:X.N[i]?=some x)(hn:s.heap.Ns X.env.locals m)
  (hl:∀ (j:Nat) (y:Str) (w:V),X.N[j]?=some y->σ[j]?=some (some w)->Vis X.env.scope y->∃ u,RelV w u/\Look X.env s.heap m y u) (hn':h'.Ns X.env.locals (fun y=>if y=x then v else m y)) (hs:US X.env.locals s.heap h') :
  Inv X pins (σ.set i none) H { s with heap:=h',toks:=t' }:=by
 have cne:=I.cne
 obtain ⟨oL,_,_,hoL,_⟩:=id hn
 have nl:∀ {b:Ke} {o:Obj},X.s₀.heap.get? b=some o->b≠X.env.locals:=fun {b o} e=>KR (KB (Ku e) I.ok.above)
 refine ⟨I.ok,I.os,I.bare,⟨fun b o e n hb hx=>(hs.2 b (nl e)).trans (I.base.keep b o e n hb hx),fun b o e n hb hx=>?_,I.base.free,fun b o e hx=>?_,I.base.tups,I.base.frzs,I.base.tbls⟩,⟨_,hn',fun j y v' e1 e2 e3=>?_⟩,fun y c e=>?_,I.free,I.freeC,fun p hp=>?_,fun b ob e=>?_,by rw [Vw];exact I.len⟩
 ·obtain ⟨sl,e1⟩:=I.base.slot b o e n hb hx
  exact ⟨sl,(hs.2 b (nl e)).trans e1⟩
 ·obtain ⟨o',e1⟩:=I.base.there b o e hx
  exact ⟨o',(hs.2 b (nl e)).trans e1⟩
 ·by_cases hj:i=j
  ·subst hj
   rw [List.getElem?_set] at e2
   split at e2
   ·split at e2<;>cases e2
   ·exact absurd rfl ‹_›
  ·rw [VR hj] at e2
   obtain ⟨u',r',q⟩:=hl j y v' e1 e2 e3
   refine ⟨u',r',?_⟩
   rcases q with ⟨k,e⟩|⟨k,c,e,z⟩
   ·have ne:y≠x:=fun z=>hj (wZ hN (z ▸ hi) e1)
    exact .inl ⟨k,by show (if y=x then v else m y)=some u';rw [if_neg ne];exact e⟩
   ·exact .inr ⟨k,c,e,z.sameBut hs (cne y c e)⟩
 ·obtain ⟨w',z⟩:=I.cell y c e
  exact ⟨w',z.sameBut hs (cne y c e)⟩
 ·obtain ⟨e,n,ne,nf,d⟩:=I.pin p hp
  exact ⟨(hs.2 p.1 ne).trans e,n,ne,nf,d⟩
 ·refine (I.hok b ob e).stay (fun c w' hc q=>(hs.2 c ?_).trans q) (fun _ q=>q) fun _ _ q=>q
  rintro rfl
  rcases hc with rfl|hc
  ·rw [I.free] at e;cases e
  ·rw [I.free] at hc;cases hc
theorem Inv.trackO {a:Ke}{o:HO}(I:Inv X pins σ H s)(new:zM X.prog X.w (upd H a o) s.heap a o)(hH:H a=none)(h0:X.s₀.heap.get? a=none)(hL:a≠X.env.locals)(hc:∀ x c,X.env.cells.lookup x=some c->c≠a)(hp:∀ p∈X.pn++pins,p.1≠a) :
  Inv X pins σ (upd H a o) s:=by
 refine ⟨I.ok,I.os,I.bare,⟨I.base.keep,I.base.slot,fun b ob e n hx=>?_,I.base.there,fun b xs e=>?_,fun b ob u e=>?_,fun b ps e=>?_⟩,I.loc,I.cell,?_,fun x c e=>?_,fun p q=>?_,fun b u e=>?_,I.len⟩
 ·rw [qD (fun z=>by rw [z,h0] at e;cases e)]
  exact I.base.free b ob e n hx
 ·have:=I.base.tups b xs e
  rw [qD (qW this hH)];exact this
 ·have:=I.base.frzs b ob u e
  rw [qD (qW this hH)];exact this
 ·obtain ⟨more,this⟩:=I.base.tbls b ps e
  exact ⟨more,by rw [qD (qW this hH)];exact this⟩
 ·rw [qD (VU hL)];exact I.free
 ·rw [qD (hc x c e)];exact I.freeC x c e
 ·obtain ⟨e,n,r⟩:=I.pin p q
  exact ⟨e,by rw [qD (hp p q)];exact n,r⟩
 ·by_cases hb:b=a
  ·subst hb
   rw [qF] at e
   cases e
   exact new
  ·rw [qD hb] at e
   exact (I.hok b u e).stay (fun c v _ q=>q) (fun c q=>by rw [qD (qW q hH)];exact q) fun c xs q=>by rw [qD (qW q hH)];exact q
theorem Inv.trackX {a:Ke}{o:Obj}(I:Inv X pins σ H s)(ha:s.heap.get? a=some o)(hH:H a=none)(h0:X.s₀.heap.get? a=none)(hL:a≠X.env.locals)(hc:∀ x c,X.env.cells.lookup x=some c->c≠a)(hp:∀ p∈X.pn++pins,p.1≠a):Inv X pins σ (upd H a (.frz o (.own a))) s:=I.trackO ⟨ha,_,ha⟩ hH h0 hL hc hp
end
def catB (K:Kd)(Cc:Ke):Bool:=(Xc K (.ref Cc)==some (.type "type"))&&(V2 K Cc).isSome&&(VJ K Cc (.type "BaseException")==some true)
theorem qbu {prog:Kt}{w:KF}{A:KG}{E:Kb->Kf->Prop}{K:Kd}{s:Kf}{a C Cc:Ke}{oe:Obj}{Q:Bool->Kf->Prop}(X:K.In s.heap)(hc:catB K Cc=true)(he:s.heap.get? a=some oe)(hcl:oe.cls=.ref C)(hm:VJ K C (.ref Cc)=some true)(hq:Q true s) :
  wpAny (model prog w) A (excMatches (.ref a) (.ref Cc)) Q E s:=by
 obtain ⟨h,g,d,t,os⟩:=s
 unfold catB at hc
 simp only [Ks,beq_iff_eq] at hc
 obtain ⟨⟨h1,h2⟩,h3⟩:=hc
 have L1:=PySem.W.looks_typeIn (M:=model prog w) X h1
 have L3:=U9 (M:=model prog w) X h3
 have L4:=U9 (M:=model prog w) X hm
 have L5:UV (model prog w) h (typeOf (.ref a)) (.ref C):=hcl ▸ (X1 he).andThen .now
 have f:=tc_notTuple
 have L6:UV (model prog w) h (isType (.ref Cc)) true:=by
  unfold V2 at h2
  split at h2
  ·rename_i c' d' cd' sl' ho
   intro A' Q' E' s' k q
   unfold isType loadHead
   exact Kc (wpAny_loadPart (k _ _ (X _ _ ho)) (Kl q))
  ·cases h2
 unfold excMatches isExcClass
 unfold isInstance
 repeat (first|with_reducible refine PySem.W.Looks.at (by assumption) ?_|wp_step)
 exact hq
section
variable {X:Cx}{G:Gm}{M M' Mb L Mx:List Nat}{fr:Fr}{u uh:Rho->Option Out}{w:Rho->Option (Ka×Rho)}
theorem OwnS.setX {K:Kd}{H:Hp}{S:Av}{σ:St}{ρ:Rho}{i:Nat}{v:V}{d:Ka}(h:OwnS K G M L H S σ ρ)(q:Den K H S v d)(hM:Out0 M i):OwnS K G M L H S (σ.set i (some v)) (ρ.set i (some d)):=h.set q hM.1
theorem qiF {cn n:Str}{i:Nat}{Cc:Ke}{cs:List Str}{b0:KY}{body suite:List KY}{hpos np pos:Pos}(hb:PDSs X G M L M' Mb fr body u)(hx:PDXs X true G M L Mx body w)(hs:∀ e,PDSs (X.mk1 e) G Mx L M' Mb fr (b0::suite) uh)
  (hN:X.N.Nodup) (hloc:X.env.scope.names.lookup n=some .local) (hM:Out0 Mx i) (hM':Out0 M' i) (hMb:Out0 Mb i) (hg:Gl X cn) (hm:X.mg cn=some (.ref Cc)) (hcat:catB X.K Cc=true) (hcs:∀ c∈cs,∀ C,XCls X.K c C->VJ X.K C (.ref Cc)=some true)
  (hst:X.stack=X.env::X.outer) (hfr:X.env.frame=some X.env.locals) (hex:X.ex=[]) (hi:X.N[i]?=some n:=by rfl) (hn:∀ e s,X.xe e s->False:=by exact fun _ _ z=>z) (hdb:(cn==("__debug__" : Str))=false:=by decide +kernel) :
  PDS X G M L M' Mb fr (.Try body [.ExceptHandler (some (.Name cn np)) (some n) (b0::suite) hpos] [] [] pos) (sTry u w cs i uh):=by
 intro pins s σ H D I ⟨S,ρ,out,os,e,q⟩
 unfold sTry at e
 cases ew:w ρ with
 | none =>
  rw [ew] at e
  refine wpAny_Try_except (Vq (hb pins s σ H D I ⟨S,ρ,out,os,e,q⟩) (fun f s1 hf=>?_) fun e s z=>(hn e s z).elim)
  cases f with
  | next=>exact XO hf
  | ret v=>exact hf
  | brk=>exact hf
  | cont=>exact hf
 | some r =>
  obtain ⟨x,ρ'⟩:=r
  rw [ew] at e
  have e:(if caught cs x=true then ob (uh (ρ'.set i (some x))) fun o=>some (qgC i o) else none)=some out:=e
  split at e
  case isFalse=>cases e
  rename_i hc
  obtain ⟨o2,e2,e⟩:=qe e
  cases e
  refine wpAny_Try_except (Vq (hx pins s σ H S ρ ρ' x I os ew) (fun _ _ z=>z.elim) fun ev s1 hx1=>?_)
  obtain ⟨a,c,C,y,rfl,rfl,hC,hx1⟩:=hx1
  obtain ⟨σ1,H1,S1,s0,H2,B,t,dd,hdx,I1,os1,g12,hos,bare,ok,fl⟩:qjc X pins G Mx L ρ' a C y s1:=by
   rcases hx1 with ⟨z,_⟩|z
   ·cases z
   ·exact z
  have hcm:c∈cs:=List.contains_iff_mem.mp hc
  have frm:X.A.frames=some (X.env::X.outer):=by rw [I1.ok.frames,hst]
  have fl0:FlyD B (X.env::X.outer) a (.ref C) (.ref t) dd s1.heap:=by have:=fl.fl;rw [hst] at this;exact this
  refine qij frm hfr fl0 fun h4 held4 up4=>?_
  refine land held4 fun h5 fl5 up5=>?_
  have fl5':FlyD B X.stack a (.ref C) (.ref t) dd h5:=by rw [hst];exact fl5
  have fly5:=fl.step ok fl5' (up4.trans up5)
  have ok5:=fl.hok ok fl5
  have I5:Inv X pins σ1 H2 { s1 with heap:=h5 }:=I1.call' (s':={ s1 with heap:=h5 }) (ch:=[]) hos fly5.un ok5 bare (fun b z=>by cases z)
  obtain ⟨oc,_,hoc,hocc,_⟩:=fl5.first
  refine wpAny_handleBy_cons (codeAny_handlers_test (ZW (X:=X.mk1 (.ref a)) (I5.mk1 (.ref a)) hg hm ?_ hdb)) (by intro z;cases z)
  refine qbu (s:={ s1 with heap:=h5 }) I5.kIn hcat hoc hocc (hcs c hcm C hC) ?_
  refine codeAny_handlers_suite_as ?_
  refine qif (s:={ s1 with heap:=h5 }) fl5 fun h6 fl6 up6=>?_
  have fl6':FlyD B X.stack a (.ref C) (.ref t) dd h6:=by rw [hst];exact fl6
  have fly6:=fly5.step ok5 fl6' up6
  have ok6:=fly5.hok ok5 fl6
  have I6:Inv X pins σ1 H2 { s1 with heap:=h6 }:=I1.call' (s':={ s1 with heap:=h6 }) (ch:=[]) hos fly6.un ok6 bare (fun b z=>by cases z)
  obtain ⟨oe,ws,hoe,hoec,hoed,hoedd⟩:=fl6.first
  have hBa:B.get? a=none:=fl6.2.1
  have hH2:H2 a=none:=by
   cases z:H2 a with
   | none=>rfl
   | some v=>have:=fly6.trk a v z oe hoe;rw [hBa] at this;cases this
  have hnew:s0.heap.get? a=none:=by
   cases z:s0.heap.get? a with
   | none=>rfl
   | some o =>
    by_cases hf:a∈frs X.stack
    ·obtain ⟨_,o',e',nf⟩:=fl6'.2.2.1.mem hf
     rw [hoe] at e'
     cases e'
     exact absurd hoed (nf _)
    ·obtain ⟨o',e'⟩:=fl.dom a o z hf
     rw [hBa] at e'
     cases e'
  have h0:X.s₀.heap.get? a=none:=by
   cases z:X.s₀.heap.get? a with
   | none=>rfl
   | some o =>
    obtain ⟨o',e'⟩:=I1.base.there a o z (by rw [hex];simp)
    rw [hnew] at e'
    cases e'
  have hL:a≠X.env.locals:=fun z=>by
   obtain ⟨m,⟨o,_,_,ho,_⟩,_⟩:=I1.loc
   rw [← z,hnew] at ho
   cases ho
  have hcl:∀ y c,X.env.cells.lookup y=some c->c≠a:=fun y c ec z=>by
   obtain ⟨v,o,ho,_⟩:=I1.cell y c ec
   rw [z,hnew] at ho
   cases ho
  have hpn:∀ p∈X.pn++pins,p.1≠a:=fun p hp z=>by
   have:=(I1.pin p hp).1
   rw [z,hnew] at this
   cases this
  have I7:=I6.trackX hoe hH2 h0 hL hcl hpn
  have g17:Same H1 (upd H2 a (.frz oe (.own a))):=g12.lay' hH2
  have os7:=os1.same g17
  have den:Den X.K (upd H2 a (.frz oe (.own a))) S1 (.ref a) (excD c y):=by
   rcases hdx with rfl|⟨n',d',dx,v',rfl,hfl,hdd,hxd,hden⟩
   ·exact .exc0 qF ⟨C,ws,hoec,hoed,hC.1,hC.2⟩
   ·exact .exc1 qF ⟨C,ws,hoec,hoed,hC.1,hC.2⟩ (hoedd.trans hdd) (by rw [qD (qW hxd hH2)];exact hxd) ((hden.same (Same.lay hH2)).flat hfl)
  refine Wq (X:=X.mk1 (.ref a)) (v:=.ref a) (I7.mk1 (.ref a)) hN hi (.inl hloc) rfl (fun s8 I8=>?_) (.inr hloc)
  have fin2:∀ (f:Flow) (σ9:St) (H9:Hp) (s9:Kf),Inv X pins σ9 H9 s9->(∀ s10,Inv X pins (σ9.set i none) H9 s10->SP X pins D f s10)->
    wpAny (model X.prog X.w) X.A (do bindName X.env n .none;unbindBehindTheSuite X.env n hpos) (fun _ s10=>SP X pins D f s10) X.xe s9:=fun f σ9 H9 s9 I9 k=>by
   obtain ⟨m,hn9,hl9⟩:=I9.loc
   exact wpAny_nameGoes_keeps hloc hn9 (by rw [I9.ok.kind];rfl) fun h' v hn' hsb=>k _ (I9.gone hN hi hn9 hl9 hn' hsb)
  let D2:Ends:=⟨fun σ9 H9=>∀ s10,Inv X pins (σ9.set i none) H9 s10->SP X pins D .next s10,D.rt,fun σ9 H9=>∀ s10,Inv X pins (σ9.set i none) H9 s10->SP X pins D .brk s10,fun σ9 H9=>∀ s10,Inv X pins (σ9.set i none) H9 s10->SP X pins D .cont s10⟩
  have q2:OutQ X.K G M' Mb L fr D2 o2:=by
   cases o2 with
   | nx ρ9=>exact fun σ9 H9 S9 os9 s10 I10=>⟨_,H9,I10,q _ H9 S9 (OwnS.del (X:=X) os9 hM')⟩
   | rt d=>exact q
   | bk ρ9=>exact fun σ9 H9 S9 os9 s10 I10=>⟨_,H9,I10,q _ H9 S9 (OwnS.del (X:=X) os9 hMb)⟩
   | ct ρ9=>exact fun σ9 H9 S9 os9 s10 I10=>⟨_,H9,I10,q _ H9 S9 (OwnS.del (X:=X) os9 hMb)⟩
  refine Vq (hs (.ref a) pins s8 _ _ D2 I8 ⟨S1,_,o2,os7.setX den hM,e2,q2⟩) (fun f s9 hf=>?_) fun e s z=>(hn e s z).elim
  cases f with
  | next =>
   obtain ⟨σ9,H9,I9,k⟩:=hf
   exact fin2 .next σ9 H9 s9 (I9.unmk1 I1.ok) k
  | brk =>
   obtain ⟨σ9,H9,I9,k⟩:=hf
   exact fin2 .brk σ9 H9 s9 (I9.unmk1 I1.ok) k
  | cont =>
   obtain ⟨σ9,H9,I9,k⟩:=hf
   exact fin2 .cont σ9 H9 s9 (I9.unmk1 I1.ok) k
  | ret v =>
   obtain ⟨y,σ9,H9,I9,r,k⟩:=hf
   exact fin2 (.ret v) σ9 H9 s9 (I9.unmk1 I1.ok) fun s10 I10=>⟨y,_,H9,I10,r,k⟩
end
def bTs:List String:=["ValueError"]
def xtB (K:Kd)(XS:List (Str×List Str)):Bool:=XS.all fun c=>match KM K mainGlobals c.1 with
 | some (some (.ref C))=>xcB K C&&catB K C&&(XS.all fun d=>match KM K mainGlobals d.1 with
   | some (some (.ref D))=>(Vd K (.ref C) (.ref D)==some (c.2.contains d.1))&&(VJ K C (.ref D)==some (c.2.contains d.1))
   | _=>false)&&bTs.all fun T=>Vd K (.ref C) (.type T)==some (c.2.contains (Kg T))
 | _=>false
def adr (mg:Str->Option Kb)(c:Str):Ke:=match mg c with
 | some (.ref C)=>C
 | _=>0
structure XTab (K:Kd)(mg:Str->Option Kb)(XS:List (Str×List Str)):Prop where
 nm:∀ c∈XS,mg c.1=some (.ref (adr mg c.1))
 ns:∀ c∈XS,KM K mainGlobals c.1=some (some (.ref (adr mg c.1)))
 xc:∀ c∈XS,xcB K (adr mg c.1)=true
 cat:∀ c∈XS,catB K (adr mg c.1)=true
 kit:∀ c∈XS,∀ d∈XS,Vd K (.ref (adr mg c.1)) (.ref (adr mg d.1))=some (c.2.contains d.1)
 mro:∀ c∈XS,∀ d∈XS,VJ K (adr mg c.1) (.ref (adr mg d.1))=some (c.2.contains d.1)
 blt:∀ c∈XS,∀ T∈bTs,Vd K (.ref (adr mg c.1)) (.type T)=some (c.2.contains (Kg T))
theorem qi9 {K:Kd}{h:Kx}{mg:Str->Option Kb}{XS:List (Str×List Str)}(X:K.In h)(G:h.Ns mainGlobals mg)(e:xtB K XS=true):XTab K mg XS:=by
 have at1:∀ c∈XS,∃ C,KM K mainGlobals c.1=some (some (.ref C))/\adr mg c.1=C/\mg c.1=some (.ref C)/\xcB K C=true/\catB K C=true/\(∀ d∈XS,∃ D,KM K mainGlobals d.1=some (some (.ref D))/\Vd K (.ref C) (.ref D)=some (c.2.contains d.1)/\VJ K C (.ref D)=some (c.2.contains d.1))/\∀ T∈bTs,Vd K (.ref C) (.type T)=some (c.2.contains (Kg T)):=fun c hc=>by
  have:=Kz.mp e c hc
  split at this
  ·rename_i C hC
   simp only [Ks] at this
   obtain ⟨⟨⟨h1,h2⟩,h3⟩,h4⟩:=this
   have hm:=XI X G hC
   refine ⟨C,hC,by unfold adr;rw [hm],hm,h1,h2,fun d hd=>?_,fun T hT=>beq_iff_eq.mp (Kz.mp h4 T hT)⟩
   have:=Kz.mp h3 d hd
   split at this
   ·rename_i D hD
    rw [Ks] at this
    exact ⟨D,hD,beq_iff_eq.mp this.1,beq_iff_eq.mp this.2⟩
   ·cases this
  ·cases this
 refine ⟨fun c hc=>?_,fun c hc=>?_,fun c hc=>?_,fun c hc=>?_,fun c hc d hd=>?_,fun c hc d hd=>?_,fun c hc T hT=>?_⟩<;>obtain ⟨C,h1,h2,h3,h4,h5,h6,h7⟩:=at1 c hc
 ·rw [h2];exact h3
 ·rw [h2];exact h1
 ·rw [h2];exact h4
 ·rw [h2];exact h5
 ·obtain ⟨D,g1,g2,_⟩:=at1 d hd
  obtain ⟨D',k1,k2,k3⟩:=h6 d hd
  rw [h2,g2]
  rw [g1] at k1
  cases k1
  exact k2
 ·obtain ⟨D,g1,g2,_⟩:=at1 d hd
  obtain ⟨D',k1,k2,k3⟩:=h6 d hd
  rw [h2,g2]
  rw [g1] at k1
  cases k1
  exact k3
 ·rw [h2];exact h7 T hT
def isiN (XS:List (Str×List Str))(ns:List Str):Ka->Option Ka
 | .dict ((.str c,_)::(.int 0,.none)::[])=>ob (XS.find? fun p=>p.1==c) fun p=>some (.bool (ns.any fun n=>p.2.contains n))
 | _=>none
theorem qeM {XS:List (Str×List Str)}{ns:List Str}{d r:Ka}(e:isiN XS ns d=some r):∃ c x p,d=excD c x/\p∈XS/\p.1=c/\r=.bool (ns.any fun n=>p.2.contains n):=by
 unfold isiN at e
 split at e
 ·obtain ⟨p,h1,e⟩:=qe e
  cases e
  exact ⟨_,_,p,rfl,Em h1,beq_iff_eq.mp (List.find?_some (p:=fun p:Str×List Str=>p.1==_) h1),rfl⟩
 ·cases e
def CNm (X:Cx)(XS:List (Str×List Str))(n:Str)(v:V):Prop:=((∃ p∈XS,p.1=n)/\v=.ref (adr X.mg n))\/∃ T∈bTs,n=Kg T/\v=.ty T
def ClsV (X:Cx)(XS:List (Str×List Str))(ns:List Str)(v:V)(H:Hp):Prop:=(∃ n,ns=[n]/\CNm X XS n v)\/∃ p vs,v=.ref p/\SqT X.K H p vs/\Vk (CNm X XS) ns vs
def PCl (X:Cx)(XS:List (Str×List Str))(ns:List Str)(b:Kw):Prop:=PE X b (fun _ H Q=>∀ v H',Same H H'->ClsV X XS ns v H'->Q v H')
def PCls (X:Cx)(XS:List (Str×List Str))(ns:List Str)(es:List Kw):Prop:=PA X es (fun _ H Q=>∀ vs,Vk (CNm X XS) ns vs->Q vs H)
def rIsiN (X:Cx)(XS:List (Str×List Str)):List V->Hp->VK->Prop:=fun vs H Q=>∃ a c p ns v,vs=[.ref a,v]/\ExcH X.K H a c/\p∈XS/\p.1=c/\ClsV X XS ns v H/\Q (.bl (ns.any fun n=>p.2.contains n)) H
section
variable {X:Cx}{XS:List (Str×List Str)}{ns:List Str}{n:Str}{M:List Nat}{a b:Kw}{es:List Kw}{fa:Rho->Option Ka}{pos p1:Pos}
theorem W6 {K:Kd}{t:Kb}{f:Str->Bool}:∀ {ns:List Str} {us:List Kb},Vk (fun n u=>Vd K t u=some (f n)) ns us->PySem.W.kitAny K t us=some (ns.any f)
 | _,_,.nil=>rfl
 | n::ns,u::us,.cons h r=>by
  rw [PySem.W.kitAny,h,Ug]
  cases hf:f n with
  | true=>rfl
  | false=>exact W6 r
theorem qgg (T:XTab X.K X.mg XS){p:Str×List Str}(hp:p∈XS){v:V}{u:Kb}(h:CNm X XS n v)(r:RelV v u):Vd X.K (.ref (adr X.mg p.1)) u=some (p.2.contains n):=by
 rcases h with ⟨⟨d,hd,rfl⟩,rfl⟩|⟨t,ht,rfl,rfl⟩
 ·cases (show u=KD _ from r)
  exact T.kit p hp d hd
 ·cases (show u=Vp _ from r)
  exact T.blt p hp t ht
theorem qdN (T:XTab X.K X.mg XS){p:Str×List Str}(hp:p∈XS):∀ {ns:List Str} {vs:List V} {us:List Kb},Vk (CNm X XS) ns vs->Vals vs us->Vk (fun n u=>Vd X.K (.ref (adr X.mg p.1)) u=some (p.2.contains n)) ns us
 | _,_,_,.nil,.nil=>.nil
 | _,_,_,.cons h t,.cons r q=>.cons (qgg T hp h r) (qdN T hp t q)
theorem qet (T:XTab X.K X.mg XS):Zz X (.builtin "isinstance") (rIsiN X XS):=by
 intro pins s σ H xs us Q I r h
 obtain ⟨a,c,p,ns,v,rfl,hx,hp,hc,hv,q⟩:=h
 obtain ⟨u,u',rfl,ru,rv⟩:=r.two
 cases (show u=KD a from ru)
 obtain ⟨C,h3,h4,IA⟩:=I.excAt hx
 rw [← hc,T.ns p hp] at h3
 cases h3
 have fin:∀ tk,EP X pins σ Q (.bool (ns.any fun n=>p.2.contains n)) { s with toks:=tk }:=fun tk=>⟨.bl _,H,I.tok tk,rfl,q⟩
 rcases hv with ⟨n,rfl,hn⟩|⟨t,vs,rfl,ht,hvs⟩
 ·refine Va (wX (JR h4)) I.kIn IA ?_ (fun z=>nomatch z) fin
  rw [qgg T hp hn rv,Ug,List.any_nil,Bool.or_false]
 ·cases (show u'=KD t from rv)
  obtain ⟨its,r',⟨o,e1,e2,n',e3⟩,_⟩:=I.tuple ht
  obtain ⟨oc,od,oa,os⟩:=o
  dsimp only at e2 e3
  subst e2 e3
  exact PySem.W.kia_tup (wX (JR h4)) I.kIn IA e1 (W6 (qdN T hp hvs r')) (fun z=>nomatch z) fin
theorem qiA (T:XTab X.K X.mg XS)(hg:Gl X n)(hn:(XS.any fun p=>p.1==n)=true:=by decide +kernel)(hd:(n==("__debug__" : Str))=false:=by decide +kernel):PCl X XS [n] (.Name n pos):=by
 obtain ⟨p,hp,e⟩:=Nr.mp hn
 have e:=beq_iff_eq.mp e
 subst e
 exact (qa2 (v:=.ref (adr X.mg p.1)) hg (T.nm p hp) rfl hd).weak fun σ H Q h=>h _ H (Same.refl H) (.inl ⟨_,rfl,.inl ⟨⟨p,hp,rfl⟩,rfl⟩⟩)
theorem qiz {T:String}(hT:T∈bTs)(hg:Gl X (Kg T))(hm:X.mg (Kg T)=none)(hv:bootBuiltins (Kg T)=some (.type T))(hn:Kg T ≠ "__name__" := by decide +kernel)(hd:(Kg T==("__debug__" : Str))=false:=by decide +kernel):PCl X XS [Kg T] (.Name (Kg T) pos) :=
 (qd7 (v:=.ty T) hg hm hv rfl hn hd).weak fun σ H Q h=>h _ H (Same.refl H) (.inl ⟨_,rfl,.inr ⟨T,hT,rfl,rfl⟩⟩)
theorem qb0:PCls X XS [] []:=yW.weak fun σ H Q h=>h [] .nil
theorem Qj (T:XTab X.K X.mg XS)(hg:Gl X n)(h:PCls X XS ns es)(hn:(XS.any fun p=>p.1==n)=true:=by decide +kernel)(hd:(n==("__debug__" : Str))=false:=by decide +kernel)(hs:starEach (.Name n pos::es) X.env=(false,eval (.Name n pos) X.env)::starEach es X.env:=by rfl):PCls X XS (n::ns) (.Name n pos::es):=by
 obtain ⟨p,hp,e⟩:=Nr.mp hn
 have e:=beq_iff_eq.mp e
 subst e
 exact (Zt (qa2 (v:=.ref (adr X.mg p.1)) hg (T.nm p hp) rfl hd) h hs).weak fun σ H Q h vs hv=>h _ (.cons (.inl ⟨⟨p,hp,rfl⟩,rfl⟩) hv)
theorem qd0 {k}(h:PCls X XS ns es)(hl:ns.length<=1000:=by decide):PCl X XS ns (.Tuple es k pos) :=
 (qgQ h).weak fun σ H Q q vs hv=>⟨VM (zA (by rw [← XG hv];exact hl)),fun p hp=>q _ _ (Same.lay hp) (.inr ⟨p,vs,rfl,SqT.of qF,hv⟩)⟩
theorem YT (T:XTab X.K X.mg XS)(hg:Gl X "isinstance")(hm:X.mg "isinstance" = none)(hv:bootBuiltins "isinstance" = some (.builtin "isinstance"))(ha:PD X M a fa)(hb:PCl X XS ns b)
  (he:starEach [a,b] X.env=(false,eval a X.env)::starEach [b] X.env:=by rfl) (hpl:(backTo pos (starEach [b] X.env)).any (·.1)=false:=by rfl) (hs2:starEach [b] X.env=(false,eval b X.env)::starEach [] X.env:=by rfl) :
  PD X M (.Call (.Name "isinstance" p1) [a,b] [] pos) (ev1 fa (isiN XS ns)) :=
 (yt (qet T) hg hm hv (Zt ha (Zt hb yW hs2) he) (by decide +kernel) (by decide +kernel) he hpl).weak fun σ H Q ⟨S,ρ,d,hs,e,q⟩=>by
  obtain ⟨x,e1,e⟩:=qe e
  obtain ⟨c,y,p,rfl,hp,hc,rfl⟩:=qeM e
  refine ⟨S,ρ,_,hs,e1,fun v H1 g1 d1 v2 H2 g2 hv2=>?_⟩
  obtain ⟨a',rfl,o,ho,hx⟩:=d1.exc
  exact ⟨a',c,p,ns,v2,rfl,⟨o,g2 _ _ ho,hx⟩,hp,hc,hv2,q _ H2 (g1.trans g2) (.bool _)⟩
end
structure RoomM (k:Nat)(A:KG):Prop where
 dp:A.depth+3*k+5<recursionLimit
 un:A.units+16*k+200<cLine
theorem Room.m {k:Nat}{A:KG}(r:Room k A)(e:Option Kb):RoomM k (A.mark e):=⟨r.dp,r.un⟩
theorem RoomM.mono {j k:Nat}{A:KG}(r:RoomM k A)(h:j<=k):RoomM j A:=⟨by have:=r.dp;omega,by have:=r.un;omega⟩
structure FnOkM (P:Kt)(w:KF)(K:Kd)(mg:Str->Option Kb)(base:Kx)(k:Nat)(f:Ke)(fd:Vo)(ps:List Str)(sp:Sp):Prop where
 len:∀ vs H Q E,sp vs H Q E->vs.length=ps.length
 run:∀ (A:KG) (outer:List Env) (s:Kf) (H:Hp) (args:Args) (us:List Kb) (vs:List V) (Q:VK) (E:XK),RoomM k A->Env0 P w K mg base A outer s H->BindsTo s fd args (ps.zip us)->Vals vs us->sp vs H Q E->
  codeAny (model P w) A (.call (.ref f) args) (CR CX0 outer P w H s Q E) s
def cxM (P:Kt)(w:KF)(K:Kd)(mg:Str->Option Kb)(base:Kx)(N:List Str)(qual:Str)(scope:VE)(f:Ke)(cd:Kb)(A:KG)(outer:List Env)(s:Kf)(H:Hp)(E:XK):Cx :=
 { (cxOf CX0 P w K mg base N qual scope f cd A outer s H E).nox with calm:=false }
structure KnownM (P:Kt)(w:KF)(K:Kd)(mg:Str->Option Kb)(base:Kx)(x:Str)(n k:Nat)(h:List Ka->Option Ka):Prop where
 ex:∃ (f:Ke) (fd:Vo) (ps:List Str),FnOkM P w K mg base k f fd ps (spF K n h)/\mg x=some (.ref f)/\VQ K (.ref f)=true/\Binds K fd ps []
section
variable {P:Kt}{w:KF}{K:Kd}{mg:Str->Option Kb}{base:Kx}
theorem Fun.pureM {x qual:Str}{st:KY}{f:Ke}{fd:Vo}{N ps:List Str}{k n:Nat}{u:Rho->Option Out}{M':List Nat}(F:Fun K x qual st f fd)(S:FnScope N ps (qj st))(hn:ps.length=n)
  (hbody:∀ (cdv:Kb) (A:KG) (outer:List Env) (s:Kf) (H:Hp) (E:XK),RoomM k (A.deeper (envOfC qual (qj st) s.heap.objs.size f cdv))->∀ G:Gm,
   PDSs (cxM P w K mg base N qual (qj st) f cdv A outer s H E) G [] [] M' [] .pl (zK st) u) :
  FnOkM P w K mg base (k+1) f fd ps (spF K n fun ds=>ob (u (rho0 N.length ds)) outD):=by
 obtain ⟨oc,dV,od,kV,doc,pm,an,cdv,ct,osl,rfl,lk,hcd⟩:=F.g.ex
 have len:∀ vs H Q E,spF K n (fun ds=>ob (u (rho0 N.length ds)) outD) vs H Q E->vs.length=ps.length:=fun vs H Q E h=>by
  obtain ⟨_,ds,d,_,h1,h2,_⟩:=h
  rw [h1.length,h2,hn]
 refine ⟨len,fun A outer s H args us vs Q E hr e0 hb r hsp=>?_⟩
 have hl:=len _ _ _ _ hsp
 have KX:K.In s.heap:=e0.mod.kin.keeps fun b o e=>(e0.bs b o e).1
 have lim:s.heap.NoLimit:=e0.mod.nolimit.keeps fun b o e=>(e0.bs b o e).1
 have hkind:∀ y∈ps.zip us,(qj st).names.lookup y.1=some .local\/((qj st).names.lookup y.1=some .cell/\((cellsFrom (s.heap.objs.size+1) (qj st).names []).lookup y.1).isSome=true):=fun ⟨n,v⟩ hy=>by
  rcases S.par n (ND hy).1 with q|q
  ·exact .inl q
  ·exact .inr ⟨q,Nc _ _ _ (.inl q)⟩
 refine codeAny_call_function (by have:=hr.dp;omega) (KX _ _ lk) rfl S.co S.gen rfl (Fh KX hcd) (hb _ _ _ _ ?_)
 refine N3 S.kind hkind fun env he s1 x=>?_
 subst he
 refine ⟨lim.keeps x.toInCall.keep,codeAny_func ?_⟩
 obtain ⟨Sv,ds,d,m,h1,h2,e,q⟩:=hsp
 obtain ⟨o,e1,e⟩:=qe e
 have hr':RoomM k (A.deeper (envOfC qual (qj st) s.heap.objs.size f cdv)):=⟨by have:=hr.dp;show A.depth+1+3*k+5<_;omega,by have:=hr.un;show A.units+3+16*k+200<_;omega⟩
 have I0:Inv (cxOf CX0 P w K mg base N qual (qj st) f cdv { A with handled:=none } outer s H E) [] (start N vs) H s1:=W3 S rfl ⟨e0.frames,e0.mod,e0.bs,e0.bsz,e0.funs,e0.frf,e0.hok,e0.bare⟩ hl r x
 have I:Inv (cxM P w K mg base N qual (qj st) f cdv A outer s H E) [] (start N vs) H s1 :=
  ⟨⟨I0.ok.mod,I0.ok.kind,I0.ok.glob,I0.ok.blt,I0.ok.above,I0.ok.inj,I0.ok.has,I0.ok.cab,(fun z=>nomatch z),I0.ok.frames,I0.ok.stk,I0.ok.exf,I0.ok.bs,I0.ok.bsz,I0.ok.noex,I0.ok.exfs,I0.ok.funs,I0.ok.frf⟩,I0.os,I0.bare,I0.base,I0.loc,I0.cell,I0.free,I0.freeC,I0.pin,I0.hok,I0.len⟩
 have q':OutQ K (G0 H Sv) M' [] [] .pl { nx:=fun _ H'=>Q .non H',rt:=Q } o:=by
  cases o with
  | rt r=>cases e;exact q
  | nx ρ=>cases e;exact fun σ' H' S' hs=>q _ H' hs.h0 .none
  | bk ρ=>cases e
  | ct ρ=>cases e
 refine Vq (hbody cdv A outer s H E hr' (G0 H Sv) [] s1 (start N vs) H _ I ⟨Sv,rho0 N.length ds,o,OwnS.start m h1 N,e1,q'⟩) (fun fl s' hs=>?_) fun e s' hs=>hs.elim
 cases fl with
 | ret u=>obtain ⟨v,σ',H',J,rv,q⟩:=hs;exact ⟨v,H',J.os,J.bare,J.base,J.hok,rv,q⟩
 | next=>obtain ⟨σ',H',J,q⟩:=hs;exact ⟨V.non,H',J.os,J.bare,J.base,J.hok,rfl,q⟩
 | brk=>obtain ⟨_,_,_,q⟩:=hs;exact Vz q
 | cont=>obtain ⟨_,_,_,q⟩:=hs;exact Vz q
end
section
variable {X:Cx}{M:List Nat}{a:Kw}{es:List Kw}{pos:Pos}
theorem qe6 {x:Str}{p:Pos}{n k k':Nat}{h:List Ka->Option Ka}{fs:Rho->Option (List Ka)}(F:KnownM X.prog X.w X.K X.mg X.base x n k h)(hr:RoomM k' X.A)(hk:k<=k')(hg:Gl X x)(ha:PDA X M (a::es) fs)(hl:(a::es).length=n)
  (hdb:(x==("__debug__" : Str))=false:=by decide +kernel) (he:starEach (a::es) X.env=(false,eval a X.env)::starEach es X.env:=by rfl) (hpl:(backTo pos (starEach es X.env)).any (·.1)=false:=by rfl) :
  PD X M (.Call (.Name x p) (a::es) [] pos) (evC n fs h):=by
 obtain ⟨f,fd,ps,F,hm,kp,hb⟩:=F.ex
 intro pins s σ H Q I ⟨S,ρ,d,hs,e,q⟩
 obtain ⟨ds,e1,e⟩:=qe e
 have e:(if ds.length=n then h ds else none)=some d:=e
 split at e
 case isFalse=>cases e
 rename_i hn
 refine Uc (ZW I hg hm ?_ hdb)
 refine Xo (h₀:=X.base) I.ok.mod.kin kp (thn (ha pos pins s σ H (fun vs H1=>Same H H1/\DenL X.K H1 S vs ds) I ⟨S,ρ,ds,hs,e1,fun vs H1 g1 d1=>⟨g1,d1⟩⟩) fun us s1 ⟨vs,H1,I1,r,g1,d1⟩=>⟨I1.kIn,?_⟩) he hpl
 have hsp:spF X.K n h vs H1 Q E0:=⟨S,ds,d,hs.1.same g1,d1,hn,e,fun v H' g2 dv=>q v H' (g1.trans g2) dv⟩
 have hlen:(us++[]).length=ps.length:=by rw [Vl,← r.length];exact F.len _ _ _ _ hsp
 refine XE (XY (F.run X.A X.stack s1 H1 ⟨us,[]⟩ us vs Q E0 (hr.mono hk) I1.env0 (by have:=hb s1 us I1.kIn hlen;rwa [Vl] at this) r hsp) fun r s' hq=>?_)
 cases r with
 | error e=>exact hq.elim
 | ok fl =>
  cases fl with
  | ret u=>exact I1.after hq
  | next=>exact Vz hq
  | brk=>exact Vz hq
  | cont=>exact Vz hq
end
def vBM:List Kb:=[.type "ValueError", .type "Exception", .type "BaseException", .type "object"]
section
variable {K:Kd}{mg:Str->Option Kb}{XS:List (Str×List Str)}{c cn:Str}{cs:List Str}
theorem XTab.has (h:(XS.any fun p=>p.1==c)=true):∃ p∈XS,p.1=c:=by
 obtain ⟨p,hp,e⟩:=Nr.mp h
 exact ⟨p,hp,beq_iff_eq.mp e⟩
theorem XTab.mg1 (T:XTab K mg XS)(h:(XS.any fun p=>p.1==c)=true):mg c=some (.ref (adr mg c)):=by
 obtain ⟨p,hp,rfl⟩:=XTab.has h
 exact T.nm p hp
theorem XTab.cat1 (T:XTab K mg XS)(h:(XS.any fun p=>p.1==c)=true):catB K (adr mg c)=true:=by
 obtain ⟨p,hp,rfl⟩:=XTab.has h
 exact T.cat p hp
theorem XTab.cs1 (T:XTab K mg XS)(h:(XS.any fun p=>p.1==cn)=true)(hc:(cs.all fun c=>XS.any fun p=>p.1==c&&p.2.contains cn)=true):∀ c∈cs,∀ C,XCls K c C->VJ K C (.ref (adr mg cn))=some true:=by
 intro c hm C hC
 obtain ⟨p,hp,e⟩:=Nr.mp (Kz.mp hc c hm)
 rw [Ks] at e
 have e1:=beq_iff_eq.mp e.1
 subst e1
 obtain ⟨d,hd,rfl⟩:=XTab.has h
 have:=(T.ns p hp).symm.trans hC.1
 cases this
 rw [T.mro p hp d hd,e.2]
end
def qjt (f:Rho->Option Ka):Rho->Option Out:=fun ρ=>ob (f ρ) fun _=>some (.nx ρ)
section
variable {X:Cx}{G:Gm}{M Mb L:List Nat}{fr:Fr}{a:Kw}{f:Rho->Option Ka}{pos:Pos}
theorem qgH (h:PD X M a f)(hs:swapsWith a none pos.line X.env=pure false:=by rfl):PDS X G M L M Mb fr (.Expr a pos) (qjt f) :=
 (YZ h hs).weak fun D σ H ⟨S,ρ,o,os,e,q⟩=>by
  obtain ⟨d,e1,e⟩:=qe e
  cases e
  exact ⟨S,ρ,d,os.ds,e1,fun v H1 g1 d1=>q σ H1 S (os.same g1)⟩
end
theorem qkQ {u:Rho->Option Out}{w:Rho->Option (Ka×Rho)}{cs:List Str}{i:Nat}{uh:Rho->Option Out}{ρ ρ':Rho}{c:Str}{d:Ka}(h:w ρ=some (excD c d,ρ'))(hc:cs.contains c=true):sTry u w cs i uh ρ=ob (uh (ρ'.set i (some (excD c d)))) fun o=>some (qgC i o):=by
 unfold sTry
 rw [h]
 show (if cs.contains c=true then _ else _)=_
 rw [if_pos hc]
def clsB:KY->List KY
 | .ClassDef _ _ _ body ..=>body
 | _=>[]
abbrev tuO (l:List Kb):Obj:={ cls:=.type "tuple", data:=.seq l.toArray }
abbrev mkH (h:Kx)(C:Ke)(l:List Kb):Kx:=(h.push (tuO l)).push (exO C none h.objs.size)
theorem j0 {h:Kx}{C:Ke}{l:List Kb}:∀ b o,h.get? b=some o->(mkH h C l).get? b=some o:=fun _ _ e=>Ki _ (Ki _ e)
theorem qjm {h:Kx}{C:Ke}{l:List Kb}:(mkH h C l).get? (h.objs.size+1)=some (exO C none h.objs.size):=by
 have z:=Kv (h.push (tuO l)) (o:=exO C none h.objs.size) rfl
 rwa [Uk] at z
section
variable {prog:Kt}{w:KF}{A:KG}{E:Kb->Kf->Prop}{s:Kf}{K:Kd}{C:Ke}{env:Env}
theorem qfd {x:Sem Kb}{Q:Flow->Kf->Prop}(Z:XcK K C)(hct:Xc K (.ref C)=some (.type "type"))(hh:A.handled=none)
  (h:wpAny (model prog w) A x (fun v s₁=>∃ e od t,v=.ref e/\K.In s₁.heap/\s₁.heap.get? e=some (exO C od t)/\E (.ref e) s₁) E s):wpAny (model prog w) A (raiseStmt env (some x) none) Q E s:=by
 unfold raiseStmt
 refine Kc (Vq h (fun v s₁ ⟨e,od,t,ev,X,he,hE⟩=>?_) fun _ _ z=>z)
 subst ev
 obtain ⟨hp,g,d,tk,os⟩:=s₁
 have L1:=U9 (M:=model prog w) X Z.mb
 obtain ⟨oc,hc,hcc⟩:∃ o,hp.get? C=some o/\o.cls=.type "type" := by
  unfold Xc at hct
  obtain ⟨o,ho,hcc⟩:=EY.mp hct
  exact ⟨o,X _ _ ho,hcc⟩
 repeat (first|with_reducible refine U1 he ?_|with_reducible refine PySem.W.Looks.at (by assumption) ?_|(with_reducible refine U1 hc ?_;rw [hcc])|wp_step)
 exact wpAny_raiseNew_none hh hE
end
section
variable {prog:Kt}{w:KF}{A:KG}{E:Kb->Kf->Prop}{h:Kx}{g:Array GenState}{d:Drawn}{t:Nat}{os:OsState}
variable {nm q:Str}{C N:Ke}{bs bm bmB:List Kb}{hdct:Bool}{sn:List Str}{sub:List Kb}{ab:Bool}{col:Option Bool}{dd:Option Ke}{k0 k1 k2 k3 k5:Option Kb}{B newId initId:String}
theorem qcN (F:ExcBaseFacts B newId initId bmB)(T:OwnTail h bmB bm){mN:Str->Option Kb}{rest:List Kb}{fI:Ke}{oI:Obj}{Q:Fin->Kf->Prop}(hC:h.get? C=some (excClassObj nm q C N bs bm hdct sn sub ab col dd k0 k1 k2 k3 k5 newId))(hn:h.Ns N mN)(hi:mN "__init__" = some (.ref fI))(hf:h.get? fI=some oI)(hfc:oI.cls=.type "function")
  (hq:wpAny (model prog w) A (call (.ref fI) (.ref (h.objs.size+1)::rest)) (fun r s'=>r=.none/\Q (.done (.ret (.ref (h.objs.size+1)))) s') E ⟨mkH h C rest,g,d,t,os⟩) (hz:rest.length<=sizeLine) :
  wpAny (model prog w) A (UA.«type.__call__» ⟨.ref C::rest,[]⟩) Q E ⟨h,g,d,t,os⟩:=by
 repeat (first|with_reducible refine U1 hC ?_|with_reducible refine wpAny_madeBy_exc hC ?_|wp_step)
 refine codeAny_call_builtin_code (Code.quiet_builtin _ F.quiet) (wpAny_check_new_subT F T hC (codeAny_exc_new_subT F T hC ?_ hz))
 show wpAny _ _ _ _ _ ⟨mkH h C rest,g,d,t,os⟩
 have c1:=j0 (C:=C) (l:=rest) _ _ hC
 have f1:=j0 (C:=C) (l:=rest) _ _ hf
 have n1:(mkH h C rest).Ns N mN:=hn.keeps j0
 have e1:=qjm (h:=h) (C:=C) (l:=rest)
 have t1:=T.keeps (h':=mkH h C rest) j0
 have cc:(KD C::bm).contains (.ref C)=true:=by simp
 unfold isInstance
 repeat (first|with_reducible refine U1 e1 ?_|(with_reducible refine wpAny_isSubtype_exc c1 ?_;rw [cc])|wp_step)
 show wpAny _ _ (typeLookup (.ref C) _) _ _ _
 refine wpAny_typeLookup_tail c1 n1 t1 F.mroIs F.init.lookup ?_
 rw [hi]
 unfold bindSpecial
 refine VP (Kc (Kc (Ew (T := "function") ⟨_,f1,hfc⟩ ?_)))
 rw [if_pos (by decide)]
 refine Kl (Kc (Vq hq (fun r s' ⟨hr,z⟩=>?_) fun _ _ z=>z))
 subst hr
 wp_walk
 exact z
theorem qe0 (F:ExcBaseFacts B newId initId bmB)(T:OwnTail h bmB bm){mN:Str->Option Kb}{rest:List Kb}{fI:Ke}{oI:Obj}{Q:Kb->Kf->Prop}(hC:h.get? C=some (excClassObj nm q C N bs bm hdct sn sub ab col dd k0 k1 k2 k3 k5 newId))(hn:h.Ns N mN)(hi:mN "__init__" = some (.ref fI))(hf:h.get? fI=some oI)(hfc:oI.cls=.type "function")
  (hq:wpAny (model prog w) (A.under (.builtin "type.__call__" ⟨.ref C::rest,[]⟩)) (call (.ref fI) (.ref (h.objs.size+1)::rest)) (fun r s'=>r=.none/\Q (.ref (h.objs.size+1)) s') E ⟨mkH h C rest,g,d,t,os⟩) (hz:rest.length<=sizeLine) :
  wpAny (model prog w) A (call (.ref C) rest) Q E ⟨h,g,d,t,os⟩:=by
 have f1:=tc_lookup
 have f2:=tc_bind (.ref C)
 have hT:Shared.TypeIs ⟨h,g,d,t,os⟩ (.ref C) "type" := ⟨_,hC,rfl⟩
 refine XE (codeAny_of_tree ?_)
 show wpAny _ _ (callAny (.ref C) _) _ _ _
 repeat (any_goals (first|assumption|with_reducible refine U1 hC ?_|wp_step))
 exact ⟨rfl,codeAny_call_builtin_at (Code.quiet_builtin _ (by decide +kernel)) entry_typeCall (wpAny_check_type_call_sub hC (qcN F T hC hn hi hf hfc hq hz))⟩
end
def qay:List Kb->Bool
 | .ref _::r=>qay r
 | l=>l==[.type "ValueError", .type "Exception", .type "BaseException", .type "object"]
theorem yC (self:Kb):∀ {l:List Kb},qay l=true->refuseLoop self "__setattr__" l=pure ()
 | .ref c::r,e=>by rw [refuseLoop_ref];exact yC self (l:=r) e
 | [],e=>by cases e
 | .none::_,e | .bool _::_,e | .int _ _::_,e | .str _ _::_,e | .type _::_,e=>by
  rw [beq_iff_eq.mp (show (_==_)=true from e)]
  exact EC.passes self
 | .float _ _::_,e=>by cases e
 | .builtin _::_,e=>by cases e
section
variable {prog:Kt}{w:KF}{A:KG}{E:Kb->Kf->Prop}{h:Kx}{g:Array GenState}{d:Drawn}{tk0:Nat}{os:OsState}{K:Kd}{C x t:Ke}{name:Str}{v:Kb}{cd:ClassData}
theorem Wv {tk:Tok}{Q:Fin->Kf->Prop}(X:K.In h)(hcd:V2 K C=some cd)(htl:qay cd.mro=true)(hhd:cd.hasDict=true)(hnn:K6 K (.ref C) name=some none)(hx:h.get? x=some (exO C none t))
  (hq:∀ h' tk',h'.get? x=some (exO C (some h.objs.size) t)->h'.Ns1 h.objs.size (fun y=>if y=name then some v else none)->(∀ b o,b≠x->h.get? b=some o->h'.get? b=some o)->Q (.done (.ret .none)) ⟨h',g,d,tk',os⟩) :
  wpAny (model prog w) A (UA.«object.__setattr__» ⟨[.ref x,.str name tk,v],[]⟩) Q E ⟨h,g,d,tk0,os⟩:=by
 have L1:UV (model prog w) h (typeOf (.ref x)) (.ref C):=(X1 hx).andThen .now
 have L2:UV (model prog w) h (mroOf (.ref C)) cd.mro:=(PySem.W.looks_clsIn X hcd).andThen .now
 have L3:=UN (M:=model prog w) X hnn
 rw [PySem.W.osa_eq,refuse_eq]
 refine Kc (Kc (L1.here (Kc (L2.here ?_))))
 rw [yC _ htl]
 refine Kl (Kc (L1.here (Kc (L3.here ?_))))
 repeat (first|with_reducible refine U1 hx ?_|wp_step)
 obtain ⟨oc,od,sl,hC⟩:∃ oc od sl,h.get? C=some ⟨oc,od,.cls cd,sl⟩:=by
  unfold V2 at hcd
  split at hcd
  ·rename_i c' d' cd' sl' ho
   cases hcd
   exact ⟨_,_,_,X _ _ ho⟩
  ·cases hcd
 refine wpAny_load hC (Kl ?_)
 rw [hhd,if_neg (by decide)]
 show wpAny _ _ (alloc _ >>= _) _ _ _
 refine Kc (wpAny_alloc' ?_)
 have hx1:(h.push Ei).get? x=some (exO C none t):=Ki _ hx
 have nx:x≠h.objs.size:=KR (Ku hx)
 refine Kc (wpAny_update' hx1 (Kl ?_))
 generalize hU:((h.push Ei).update x fun o=>{ cls:=o.cls,dict:=some h.objs.size,data:=o.data,slots:=o.slots })=U
 have u1:U.get? h.objs.size=some Ei:=by rw [← hU];exact (UI _ _ _ _ nx.symm).trans (Heap.get?_push_at rfl rfl)
 have u2:U.get? x=some (exO C (some h.objs.size) t):=by rw [← hU];exact VZ _ hx1 rfl
 have u3:∀ b o,b≠x->h.get? b=some o->U.get? b=some o:=fun b o hb e=>by rw [← hU];exact (UI _ _ _ _ hb).trans (Ki _ e)
 have hnd:U.Ns h.objs.size (fun _=>none):=⟨_,#[],_,u1,rfl,fun e he=>absurd he (by simp),fun _=>rfl⟩
 show wpAny _ _ (Builtin.ObjectAttr.storeInDict h.objs.size (.str name tk) name v) _ _ _
 unfold Builtin.ObjectAttr.storeInDict Builtin.ObjectAttr.newKeyGuard
 refine Kc (Kl (Kc (wpAny_nsSet1 (Heap.Ns1.of_empty hnd) fun h' hn' hs=>?_)))
 obtain ⟨oD,esD,epD,hoD,hdD,hcD⟩:=hn'.count (Within.cons name v Within.nil)
 refine Kc (wpAny_lookBehind hoD (by rw [hdD];exact pastItsLine_dict (Vs hcD (by rw [KC,Xs,UP];omega))) ?_)
 wp_walk
 exact hq h' _ ((hs.2 x nx).trans u2) hn' fun b o hb e=>(hs.2 b (KR (Ku e))).trans (u3 b o hb e)
theorem qeF {Q:Unit->Kf->Prop}(X:K.In h)(hsa:K6 K (.ref C) "__setattr__" = some (some (.builtin "object.__setattr__")))(hmo:VJ K C (.type "object")=some true)(hcd:V2 K C=some cd)(htl:qay cd.mro=true)(hhd:cd.hasDict=true)(hnn:K6 K (.ref C) name=some none)(hx:h.get? x=some (exO C none t))
  (hq:∀ h' tk',h'.get? x=some (exO C (some h.objs.size) t)->h'.Ns1 h.objs.size (fun y=>if y=name then some v else none)->(∀ b o,b≠x->h.get? b=some o->h'.get? b=some o)->Q () ⟨h',g,d,tk',os⟩) :
  wpAny (model prog w) A (setAttr (.ref x) name v) Q E ⟨h,g,d,tk0,os⟩:=by
 have L1:UV (model prog w) h (typeOf (.ref x)) (.ref C):=(X1 hx).andThen .now
 have L2:=UN (M:=model prog w) X hsa
 have SV:=EC
 have f3:=SV.slot.bind (.ref x)
 have sub:UV (model prog w) h (isInstance (.ref x) (.type "object")) true:=L1.andThen (U9 X hmo)
 unfold setAttr callSpecial? specialOf
 repeat (any_goals (first|assumption|with_reducible refine PySem.W.Looks.at (by assumption) ?_|wp_step))
 refine Ul SV.slot.plain SV.entry (@PySem.W.check_slot (model prog w) _ _ _ "object.__setattr__" "object" "__setattr__" (.ref x) [_,v] [] _ SV.kind SV.split sub (SV.args _ _ v) ?_)
 refine Wv X hcd htl hhd hnn hx fun h' tk' a b c=>?_
 repeat (any_goals (first|assumption|wp_step))
 exact hq h' tk' a b c
end
section
variable {prog:Kt}{w:KF}{A:KG}{E:Kb->Kf->Prop}{h:Kx}{g:Array GenState}{d:Drawn}{tk0:Nat}{os:OsState}{C x t:Ke}{v:Kb}
variable {nm q:Str}{N:Ke}{bs bm bmB:List Kb}{hdct:Bool}{sn:List Str}{sub:List Kb}{ab:Bool}{col:Option Bool}{dd:Option Ke}{k0 k1 k2 k3 k5:Option Kb}{B newId initId:String}
theorem qeD (F:ExcBaseFacts B newId initId bmB)(T:OwnTail h bmB bm){Q:Kb->Kf->Prop}(hC:h.get? C=some (excClassObj nm q C N bs bm hdct sn sub ab col dd k0 k1 k2 k3 k5 newId))(hx:h.get? x=some (exO C none t))
  (hq:∀ h',h'.get? x=some (exO C none h.objs.size)->h'.get? h.objs.size=some (tuO [v])->(∀ b o,b≠x->h.get? b=some o->h'.get? b=some o)->Q .none ⟨h',g,d,tk0,os⟩) :
  wpAny (model prog w) A (call (.builtin initId) [.ref x,v]) Q E ⟨h,g,d,tk0,os⟩:=by
 have nx:x≠h.objs.size:=KR (Ku hx)
 refine XE (Ul F.init.plain F.initEntry (wpAny_check_init_subT F T hC hx rfl ?_))
 wp_walk
 refine hq _ ?_ ?_ fun b o hb e=>?_
 ·exact VZ _ (Ki _ hx) rfl
 ·exact (UI _ _ _ _ nx.symm).trans (Heap.get?_push_at rfl rfl)
 ·exact (UI _ _ _ _ hb).trans (Ki _ e)
end
def qdy (K:Kd)(D f:Ke):Bool:=match K.lookup D with
 | some ⟨.type "type", _,.cls k,z⟩=>(match k.mro,z.toList with
  | .ref D'::l,[_,_,_,_,some (.builtin i),_]=>D'==D&&(i == "ValueError.__new__" && (!k.hasDel&&(PySem.W.tailIn K vBM l&&(PySem.W.nsOkIn K k.ns&&KM K k.ns "__init__" == some (some (.ref f))))))
  | _,_=>false)
 | _=>false
theorem qiq {K:Kd}{h:Kx}{N:Ke}{m:Str->Option Kb}{n:Str}{v:Kb}(X:K.In h)(G:h.Ns N m)(e:KM K N n=some (some v)):m n=some v:=by
 obtain ⟨o,es,ep,h1,h2,_,h3⟩:=G
 unfold KM at e
 split at e
 case h_2=>cases e
 rename_i q
 have z:=(X _ _ q).symm.trans h1
 cases z;cases h2
 split at e
 ·rename_i en he
  cases e;rw [← h3]
  unfold nsFind findBy;rw [← Array.find?_toList,he];rfl
 ·split at e<;>cases e
theorem qdz {K:Kd}{h:Kx}{C fI:Ke}(X:K.In h)(q:qdy K C fI=true) :
  ∃ bm N nm qn bs hd sn sub ab col dd k0 k1 k2 k3 k5 mN,h.get? C=some (excClassObj nm qn C N bs bm hd sn sub ab col dd k0 k1 k2 k3 k5 "ValueError.__new__")/\h.Ns N mN/\mN "__init__" = some (.ref fI)/\OwnTail h vBM bm:=by
 unfold qdy at q
 split at q
 case h_2=>cases q
 rename_i dd cd sl lk;split at q
 case h_2=>cases q
 rename_i C' bm k0 k1 k2 k3 n k5 em es
 simp only [Ks,beq_iff_eq,Ef] at q
 obtain ⟨c1,c2,hdel,c4,c5,c6⟩:=q
 obtain ⟨nm,bs,mro,ns,qn,hd,sn,sub,ab,col,del⟩:=cd
 obtain ⟨l⟩:=sl
 subst c1 c2
 dsimp only at em es c5 c6 hdel;subst em es hdel
 exact ⟨bm,ns,nm,qn,bs,hd,sn,sub,ab,col,dd,k0,k1,k2,k3,k5,_,X _ _ lk,.of_isNs (Fi X c5),qiq X (.of_isNs (Fi X c5)) c6,PySem.W.tail_of_in X c4⟩
def shOk (d:Ka):Bool:=(match d with | .int _=>true | .tuple _=>true | .list _=>true|_=>false)&&(d.showable&&(d.canLay0&&(!d.hasDict&&(decide (d.depth<=63)&&decide (d.shown.length<=100000)))))
section
variable {X:Cx}{pins:List (Ke×Obj)}{σ:St}{H:Hp}{s:Kf}{S:Av}{k:Nat}{E:Kb->Kf->Prop}
theorem qg1 {v:V}{u:Kb}{d:Ka}{Q:Kb->Kf->Prop}(hr:Room k X.A)(I:Inv X pins σ H s)(dv:Den X.K H S v d)(rv:RelV v u)(hs:shOk d=true)(h:∀ y tk s',Inv X pins σ H s'->y.length<=100000->Q (.str y tk) s') :
  wpAny (model X.prog X.w) X.A (pyReprObj u) Q E s:=by
 unfold shOk at hs
 simp only [Ks,Ef,decide_eq_true_eq] at hs
 obtain ⟨h0,h1,h2,h3,h4,h5⟩:=hs
 have big:d.shown.length<=sizeLine:=by rw [UP];omega
 have ref:∀ a,u=.ref a->wpAny (model X.prog X.w) X.A (pyReprObj u) Q E s:=fun a e=>by
  subst e
  obtain ⟨as,rd⟩:=dv.reads I h2 rv
  exact pyReprObj_of_reads rd h1 (fun z=>by rw [h3] at z;cases z) hr.gd (by have:=hr.units;omega) (fun _ _ e=>e) (fun h' u' tk hk=>h _ _ _ (I.kept hk) h5) big
 cases dv with
 | int i =>
  obtain ⟨t,e⟩:=(show ∃ t,u=XX i t from rv)
  subst e
  refine pyReprObj_int ?_ (h _ _ _ (I.tok _) h5)
  rw [PyData.showable] at h1
  exact of_decide_eq_true h1
 | list a b=>exact ref _ rv
 | tuple a b=>exact ref _ rv
 | _=>cases h0
theorem qhP {c x:Str}{i j:Nat}{p1 p2 p3 pos:Pos}{v:V}{d:Ka}{Q:Kb->Kf->Prop}(hr:Room k X.A)(I:Inv X pins σ H s)(hi:X.N[i]?=some x)(hv:Vis X.env.scope x)(e:σ[i]?=some (some v))(dv:Den X.K H S v d)(hs:shOk d=true)(hc:c.length<=1000)
  (hd:(x==("__debug__" : Str))=false) (hcd:(x==("__classdict__" : Str))=false) (h:∀ y tk s',Inv X pins σ H s'->Q (.str y tk) s') :
  wpAny (model X.prog X.w) X.A (eval (.JoinedStr [.Constant (.str c) j p1,.FormattedValue (.Name x p2) 114 none p3] pos) X.env) Q X.xe s:=by
 refine wpAny_JoinedStr ?_
 show wpAny _ _ (eval (.Constant (.str c) j p1) X.env) _ _ _
 have l0:(Ff++c).length=c.length:=by rw [N9];show 0+_=_;omega
 refine Calls.Constant_str ⟨c,_,rfl,by rw [l0,UP];omega,?_⟩
 show wpAny _ _ (eval (.FormattedValue (.Name x p2) 114 none p3) X.env) _ _ _
 refine wpAny_FormattedValue_repr (thn (Yb hi hv hd hcd pins _ σ H (fun y H1=>y=v/\H1=H) (I.tok _) ⟨v,e,rfl,rfl⟩) fun u s1 ⟨v',H1,I1,rv,e1,e2⟩=>?_)
 subst e1 e2
 refine qg1 hr I1 dv rv hs fun y tk s2 I2 hy=>?_
 have l1:(Ff++c++y).length<=sizeLine:=by rw [N9,l0,UP];omega
 exact wpAny_formatField_str ⟨y,_,rfl,l1,l1,h _ _ _ (I2.tok _)⟩ ⟨y,_,rfl,l1,l1,h _ _ _ ((I2.tok _).tok _)⟩ (by rw [UP];omega)
end
structure IniK (K:Kd)(mg:Str->Option Kb)(n bn:Str)(C SE f:Ke):Prop where
 exi:qdy K C f=true
 sa:K6 K (.ref C) "__setattr__" = some (some (.builtin "object.__setattr__"))
 cd:∃ cd,V2 K C=some cd/\qay cd.mro=true/\cd.hasDict=true
 nn:K6 K (.ref C) n=some none
 xc:xcB K C=true
 seM:mg bn=some (.ref SE)
 seR:PySem.W.readsIn K SE (.type "type")=true
 seG:Xw K (.ref SE) "__getattribute__" = some (some (.builtin "type.__getattribute__"))
 seF:PySem.W.findCls K (.ref SE) (.type "type") "__init__" = some (.val (.builtin "ValueError.__init__"))
abbrev exH (e C:Ke)(od:Option Ke)(t:Ke):HO:=.ext fun h=>h.get? e=some (exO C od t)
theorem qcB {P:Kt}{w:KF}{H:Hp}{h:Kx}{e C t:Ke}{od:Option Ke}(a:h.get? e=some (exO C od t)):zM P w H h e (exH e C od t):=⟨a,⟨_,a⟩,fun _ _ x k=>k _ x⟩
section
variable {X:Cx}{pins:List (Ke×Obj)}{σ:St}{H:Hp}{s:Kf}{S:Av}{k:Nat}{n bn c:Str}{C SE f e t:Ke}{j:Nat}{p1 p2 ap q1 q2 q3 q4 cp ep r1 r2 r3 r4:Pos}{v:V}{d:Ka}
theorem qh2 {Q:Flow->Kf->Prop}{pl:Sem Bool}(Z:IniK X.K X.mg n bn C SE f)(hr:Room k X.A)(I:Inv X pins σ H s)(h0:X.N[0]?=some ("self" : Str))(h1:X.N[1]?=some n)(v0:Vis X.env.scope "self")(v1:Vis X.env.scope n)(hg:Gl X bn)(e0:σ[0]?=some (some (.ref e)))(e1:σ[1]?=some (some v))(he:H e=some (exH e C none t))(dv:Den X.K H S v d)(hs:shOk d=true)(hc:c.length<=1000)
  (hd:(n==("__debug__" : Str))=false) (hcd:(n==("__classdict__" : Str))=false) (hbd:(bn==("__debug__" : Str))=false)
  (h:∀ t' s',Inv X pins σ (upd H e (exH e C none t')) s'->Q .next s')
  (ht:eval (.Call (.Attribute (.Name bn p1) "__init__" ap) [.Name "self" p2,.JoinedStr [.Constant (.str c) j q1,.FormattedValue (.Name n q2) 114 none q3] q4] [] cp) X.env=(do
   let ov ← eval (.Name bn p1) X.env
   standAt ap.atName
   let (f,first) ← holding [ov] (getMethod ov "__init__" pl)
   callWith cp f first (backTo cp (starEach [.Name "self" p2,.JoinedStr [.Constant (.str c) j q1,.FormattedValue (.Name n q2) 114 none q3] q4] X.env)) (backToKw cp (keywordEach [] X.env))):=by rfl)
  (hsw:swapsWith (.Call (.Attribute (.Name bn p1) "__init__" ap) [.Name "self" p2,.JoinedStr [.Constant (.str c) j q1,.FormattedValue (.Name n q2) 114 none q3] q4] [] cp) none ep.line X.env=pure false:=by rfl) :
  wpAny (model X.prog X.w) X.A (exec (.Expr (.Call (.Attribute (.Name bn p1) "__init__" ap) [.Name "self" p2,.JoinedStr [.Constant (.str c) j q1,.FormattedValue (.Name n q2) 114 none q3] q4] [] cp) ep) X.env) Q X.xe s:=by
 refine E2 ?_ I.quiet hsw
 refine PySem.W.methodCall_KW (pl:=pl) (ZW I hg Z.seM ?_ hbd) ht
 refine PySem.W.method_cls I.kIn Z.seG (PySem.W.cls_value I.kIn Z.seR Z.seF rfl ?_)
 refine NF ?_ rfl rfl
 have ha:PA X [.Name "self" p2,.JoinedStr [.Constant (.str c) j q1,.FormattedValue (.Name n q2) 114 none q3] q4] (fun σ' H' Q'=>σ'=σ/\H'=H/\∀ y,Q' [.ref e,.str y] H):=by
  refine (Zt (te:=fun σ' H' Q'=>σ'=σ/\H'=H/\Q' (.ref e) H) (fun pins' s' σ' H' Q' I' hq=>?_) (Zt (te:=fun σ' H' Q'=>σ'=σ/\H'=H/\∀ y,Q' (.str y) H) (fun pins' s' σ' H' Q' I' hq=>?_) yW rfl) rfl).weak fun σ' H' Q' hq=>?_
  ·obtain ⟨rfl,rfl,hq⟩:=hq
   exact Yb h0 v0 (by decide +kernel) (by decide +kernel) pins' s' _ _ Q' I' ⟨_,e0,hq⟩
  ·obtain ⟨rfl,rfl,hq⟩:=hq
   exact qhP hr I' h1 v1 e1 dv hs hc hd hcd fun y tk s2 I2=>⟨.str y,_,I2,⟨_,rfl⟩,hq y⟩
  ·obtain ⟨rfl,rfl,hq⟩:=hq
   exact ⟨rfl,rfl,rfl,rfl,fun y=>hq y⟩
 refine thn (ha cp pins _ σ H (fun vs H1=>∃ y,vs=[.ref e,.str y]/\H1=H) (I.tok _) ⟨rfl,rfl,fun y=>⟨y,rfl,rfl⟩⟩) fun us s1 ⟨vs,H1,I1,r,y,ev,eh⟩=>?_
 subst ev eh
 obtain ⟨u1,u2,rfl,ru1,ru2⟩:=r.two
 cases (show u1=KD e from ru1)
 obtain ⟨bm,N,nm,qn,bs,hd',sn,sub,ab,col,dd,k0,k1,k2,k3,k5,mN,hC,hN,hni,TL⟩:=qdz I1.mod.kin Z.exi
 obtain ⟨hh,g,dr,tk,os⟩:=s1
 have hx:hh.get? e=some (exO C none t):=(I1.hok e _ he).1
 refine qeD Ea (TL.keeps I1.bk) (I1.bk _ _ hC) hx fun h' a1 a2 a3=>h hh.objs.size _ ?_
 exact I1.write (t':=tk) (by rw [he];exact Uj) (.inl rfl) (fun b u hb q=>a3 b u hb q) ⟨_,a1⟩ (qcB a1)
theorem qh1 {Q:Flow->Kf->Prop}(Z:IniK X.K X.mg n bn C SE f)(I:Inv X pins σ H s)(h0:X.N[0]?=some ("self" : Str))(h1:X.N[1]?=some n)(v0:Vis X.env.scope "self")(v1:Vis X.env.scope n)(e0:σ[0]?=some (some (.ref e)))(e1:σ[1]?=some (some v))(he:H e=some (exH e C none t))
  (hd:(n==("__debug__" : Str))=false) (hcd:(n==("__classdict__" : Str))=false) (hex:X.ex=[]) (h:∀ dx s',H dx=none->Inv X pins σ (upd (upd H e (exH e C (some dx) t)) dx (.xd [(n,v)])) s'->Q .next s')
  (hsw:swapsWith (.Name n r3) (some (.Attribute (.Name "self" r1) n r2)) r4.line X.env=pure false:=by rfl) :
  wpAny (model X.prog X.w) X.A (exec (.Assign [.Attribute (.Name "self" r1) n r2] (.Name n r3) r4) X.env) Q X.xe s:=by
 refine plainObj_wpAny_Assign_Attribute (thn (Yb h1 v1 hd hcd pins s σ H (fun y H1=>y=v/\H1=H) I ⟨v,e1,rfl,rfl⟩) fun u s1 ⟨v',H1,I1,rv,ev,eh⟩=>thn (Yb h0 v0 (by decide +kernel) (by decide +kernel) pins s1 σ H1 (fun y H2=>y=.ref e/\H2=H1) I1 ⟨_,e0,rfl,rfl⟩) fun ov s2 ⟨x,H2,I2,rx,ex,eh2⟩=>?_) hsw
 subst ev eh ex eh2
 cases (show ov=KD e from rx)
 obtain ⟨hh,g,dr,tk,os⟩:=s2
 obtain ⟨cd,c1,c2,c3⟩:=Z.cd
 have hx:hh.get? e=some (exO C none t):=(I2.hok e _ he).1
 have hd0:H2 hh.objs.size=none:=I2.hok.fresh (Ko _)
 have nd:hh.objs.size≠e:=Uy (Ku hx)
 refine qeF I2.kIn Z.sa (JR Z.xc).mo c1 c2 c3 Z.nn hx fun h' tk' a1 a2 a3=>h hh.objs.size _ hd0 ?_
 have I3:Inv X pins σ (upd H2 e (exH e C (some hh.objs.size) t)) ⟨h',g,dr,tk',os⟩:=I2.write (t':=tk') (by rw [he];exact Uj) (.inl rfl) (fun b u hb q=>a3 b u hb q) ⟨_,a1⟩ (qcB a1)
 refine I3.trackO ⟨_,a2,fun y=>?_⟩ (by rw [qD nd];exact hd0) ?_ (Uy I2.lt) (fun y c' ec z=>?_) fun p hp z=>?_
 ·by_cases q:y=n
  ·subst q
   rw [if_pos rfl,show Ux y [(y,v')]=some v' from by simp [Ux]]
   exact rv
  ·rw [if_neg q,show Ux y [(n,v')]=none from by simp [Ux,beq_eq_false_iff_ne.mpr q]]
   exact Uj
 ·cases z:X.s₀.heap.get? hh.objs.size with
  | none=>rfl
  | some o =>
   obtain ⟨o',y⟩:=I2.base.there _ o z (by rw [hex];simp)
   exact absurd (Ku y) (VI _)
 ·obtain ⟨w',o',ho',_⟩:=I2.cell y c' ec
  rw [z] at ho'
  exact absurd (Ku ho') (VI _)
 ·have y:=(I2.pin p hp).1
  rw [z] at y
  exact absurd (Ku y) (VI _)
end
def spI (K:Kd)(n:Str)(C:Ke):Sp:=fun vs H Q _=>∃ e t v S d,vs=[.ref e,v]/\H e=some (exH e C none t)/\Den K H S v d/\shOk d=true/\∀ H' dx t',(∀ b o,b≠e->H b=some o->H' b=some o)->H' e=some (exH e C (some dx) t')->H' dx=some (.xd [(n,v)])->Q .non H'
section
variable {P:Kt}{w:KF}{K:Kd}{mg:Str->Option Kb}{base:Kx}
theorem qjQ {pl:Env->Sem Bool}{qual n bn c:Str}{st:KY}{f C SE:Ke}{fd:Vo}{j:Nat}{p1 p2 ap q1 q2 q3 q4 cp ep r1 r2 r3 r4:Pos}(F:Fun K "__init__" qual st f fd)(S:FnScope ["self", n] ["self", n] (qj st))(Z:IniK K mg n bn C SE f)(hvs:visB (qj st) "self" = true)(hvn:visB (qj st) n=true)(hgl:glB (qj st) bn=true)(hc:c.length<=1000)
  (hd:(n==("__debug__" : Str))=false) (hcd:(n==("__classdict__" : Str))=false) (hbd:(bn==("__debug__" : Str))=false)
  (hb:zK st=[.Expr (.Call (.Attribute (.Name bn p1) "__init__" ap) [.Name "self" p2,.JoinedStr [.Constant (.str c) j q1,.FormattedValue (.Name n q2) 114 none q3] q4] [] cp) ep,.Assign [.Attribute (.Name "self" r1) n r2] (.Name n r3) r4])
  (ht:∀ env:Env,eval (.Call (.Attribute (.Name bn p1) "__init__" ap) [.Name "self" p2,.JoinedStr [.Constant (.str c) j q1,.FormattedValue (.Name n q2) 114 none q3] q4] [] cp) env=(do
   let ov ← eval (.Name bn p1) env
   standAt ap.atName
   let (f,first) ← holding [ov] (getMethod ov "__init__" (pl env))
   callWith cp f first (backTo cp (starEach [.Name "self" p2,.JoinedStr [.Constant (.str c) j q1,.FormattedValue (.Name n q2) 114 none q3] q4] env)) (backToKw cp (keywordEach [] env)))) :
  FnOk P w K mg base CX0 1 f fd ["self", n] (spI K n C):=by
 refine F.ok (k:=0) S (fun vs H Q E h=>?_) fun cdv A outer s H vs Q E hr h=>?_
 ·obtain ⟨_,_,_,_,_,rfl,_⟩:=h
  rfl
 obtain ⟨e,t,v,Sv,d,rfl,he,dv,hs,q⟩:=h
 refine ⟨fun D σ' H'=>σ'=start ["self", n] [.ref e,v]/\H'=H/\∀ H2,Q .non H2->D.nx σ' H2,fun pins s1 σ1 H1 D I ht=>?_,rfl,rfl,fun H2 z=>z⟩
 obtain ⟨rfl,rfl,hq⟩:=ht
 rw [hb]
 have e0:(start ["self", n] [.ref e,v])[0]?=some (some (.ref e)):=rfl
 have e1:(start ["self", n] [.ref e,v])[1]?=some (some v):=rfl
 refine UL (qh2 (Q:=fun f s'=>_) Z hr I rfl rfl (Yk hvs) (Yk hvn) (qjh _ rfl hgl) e0 e1 he dv hs hc hd hcd hbd (fun t' s2 I2=>?_) (ht _))
 refine UL (qh1 (Q:=fun f s'=>_) Z I2 rfl rfl (Yk hvs) (Yk hvn) e0 e1 qF hd hcd rfl fun dx s3 hdx I3=>?_)
 have nd:e≠dx:=fun z=>by rw [← z,qF] at hdx;cases hdx
 have hdx0:H1 dx=none:=by rw [qD nd.symm] at hdx;exact hdx
 refine XO ⟨_,_,I3,hq _ (q _ dx t' (fun b o nb z=>?_) (by rw [qD nd];exact qF) qF)⟩
 rw [qD (qW z hdx0),qD nb,qD nb]
 exact z
end
def rem (H:Hp)(a:Ke):Hp:=fun b=>if b=a then none else H b
theorem jD {H:Hp}{a b:Ke}(h:b≠a):rem H a b=H b:=if_neg h
theorem Wl {H:Hp}{a:Ke}:rem H a a=none:=if_pos rfl
theorem Inv.untrack {X:Cx}{pins:List (Ke×Obj)}{σ:St}{H:Hp}{s:Kf}{a:Ke}{φ:Kx->Prop}(I:Inv X pins σ H s)(ha:H a=some (.ext φ)):Inv X pins σ (rem H a) s:=by
 have no:∀ {b:Ke},H b=none->rem H a b=none:=fun {b} e=>by
  by_cases h:b=a
  ·rw [h];exact Wl
  ·rw [jD h];exact e
 have ne:∀ {b:Ke} {o:HO},H b=some o->(∀ ψ,o≠.ext ψ)->b≠a:=fun e n z=>by
  rw [z,ha] at e
  cases e
  exact n _ rfl
 refine ⟨I.ok,I.os,I.bare,⟨I.base.keep,I.base.slot,fun b o e n hx=>no (I.base.free b o e n hx),I.base.there,fun b xs e=>?_,fun b o u e=>?_,fun b ps e=>?_⟩,I.loc,I.cell,no I.free,fun x c e=>no (I.freeC x c e),fun p q=>?_,fun b u e=>?_,I.len⟩
 ·have:=I.base.tups b xs e
  rw [jD (ne this fun _ z=>nomatch z)];exact this
 ·have:=I.base.frzs b o u e
  rw [jD (ne this fun _ z=>nomatch z)];exact this
 ·obtain ⟨m,this⟩:=I.base.tbls b ps e
  exact ⟨m,by rw [jD (ne this fun _ z=>nomatch z)];exact this⟩
 ·obtain ⟨e,n,r⟩:=I.pin p q
  exact ⟨e,no n,r⟩
 ·have nb:b≠a:=fun z=>by rw [z,Wl] at e;cases e
  rw [jD nb] at e
  exact (I.hok b u e).stay (fun c v _ q=>q) (fun c q=>by rw [jD (ne q fun _ z=>nomatch z)];exact q) fun c xs q=>by rw [jD (ne q fun _ z=>nomatch z)];exact q
structure KnownI (P:Kt)(w:KF)(K:Kd)(mg:Str->Option Kb)(base:Kx)(x n:Str)(k:Nat):Prop where
 ex:∃ (bn:Str) (C SE f:Ke) (fd:Vo),IniK K mg n bn C SE f/\mg x=some (.ref C)/\XCls K x C/\VQ K (.ref C)=true/\Xc K (.ref C)=some (.type "type")/\Fj K (.ref f)=true/\FnOk P w K mg base CX0 k f fd ["self", n] (spI K n C)/\Binds K fd ["self", n] []
def qbd (x n:Str)(f:Rho->Option Ka)(ρ:Rho):Option (Ka×Rho):=ob (f ρ) fun d=>if (shOk d&&flat d)=true then some (excD x (.tuple [.str n,d]),ρ) else none
section
variable {X:Cx}{G:Gm}{M L:List Nat}{a:Kw}{fa:Rho->Option Ka}{x n:Str}{pos np cpos:Pos}{k k':Nat}
theorem qcZ {prog:Kt}{w:KF}{A:KG}{E:Kb->Kf->Prop}{s:Kf}{K:Kd}{C:Ke}{env:Env}{e:Kw}{Q:Flow->Kf->Prop}(Z:XcK K C)(hct:Xc K (.ref C)=some (.type "type"))(hh:A.handled=none)
  (h:wpAny (model prog w) A (eval e env) (fun v s₁=>∃ b od t,v=.ref b/\K.In s₁.heap/\s₁.heap.get? b=some (exO C od t)/\E (.ref b) s₁) E s):wpAny (model prog w) A (exec (.Raise (some e) none pos) env) Q E s:=by
 rw [arm_exec_Raise]
 have y:=qfd (Q:=Q) (env:=env) Z hct hh (x:=do let v ← eval e env;standAt pos;pure v) (Kc (Vq h (fun v s₃ h₃=>Kc (Xm (Kl h₃))) fun _ _ z=>z))
 first
  | exact Kc (Xm y)
  | (simp only [evalOpt,Option.map];exact Kc (Xm y))
theorem qbV {pins:List (Ke×Obj)}{s1:Kf}{σ:St}{H1:Hp}{S:Av}{v:V}{u:Kb}{d:Ka}{bn:Str}{C SE f:Ke}{fd:Vo}{Q:Kb->Kf->Prop}{E:Kb->Kf->Prop}(Z:IniK X.K X.mg n bn C SE f)(hfn:Fj X.K (.ref f)=true)(F:FnOk X.prog X.w X.K X.mg X.base CX0 k f fd ["self", n] (spI X.K n C))(hb:Binds X.K fd ["self", n] [])(hr:Room (k+1) X.A)(I1:Inv X pins σ H1 s1)(dv:Den X.K H1 S v d)(ru:RelV v u)(hs:shOk d=true)
  (kq:∀ a H' s' dx t',s1.heap.objs.size<=a->Inv X pins σ H' s'->Same H1 H'->H' a=none->(X.ex=[]->X.s₀.heap.get? a=none)->s'.heap.get? a=some (exO C (some dx) t')->H' dx=some (.xd [(n,v)])->Q (.ref a) s'):wpAny (model X.prog X.w) X.A (call (.ref C) [u]) Q E s1:=by
 obtain ⟨bm,N,nm,qn,bs,hd',sn,sub,ab,col,dd,k0,k1,k2,k3,k5,mN,hCo,hN,hni,TL⟩:=qdz I1.mod.kin Z.exi
 obtain ⟨oI,hfo,hfc⟩:∃ o,X.base.get? f=some o/\o.cls=.type "function" := by
  have:=beq_iff_eq.mp hfn
  unfold Xc at this
  obtain ⟨o,ho,hcc⟩:=EY.mp this
  exact ⟨o,I1.mod.kin _ _ ho,hcc⟩
 obtain ⟨hh,g,dr,tk,oo⟩:=s1
 have fe:H1 (hh.objs.size+1)=none:=I1.hok.fresh (UQ _)
 refine qe0 Ea (TL.keeps I1.bk) (I1.bk _ _ hCo) (hN.keeps I1.bk) hni (I1.bk _ _ hfo) hfc ?_ (show 1<=sizeLine by decide)
 have I2:Inv X pins σ (upd H1 (hh.objs.size+1) (exH (hh.objs.size+1) C none hh.objs.size)) ⟨mkH hh C [u],g,dr,tk,oo⟩:=I1.laid (t':=tk) (fun b o q=>j0 b o q) (UQ _) (qcB qjm)
 have s0:X.ex=[]->X.s₀.heap.get? (hh.objs.size+1)=none:=fun hex=>by
  cases z:X.s₀.heap.get? (hh.objs.size+1) with
  | none=>rfl
  | some o =>
   obtain ⟨o',y⟩:=I1.base.there _ o z (by rw [hex];simp)
   exact absurd (Ku y) (by show ¬ (hh.objs.size+1<hh.objs.size);omega)
 have dv2:Den X.K (upd H1 (hh.objs.size+1) (exH (hh.objs.size+1) C none hh.objs.size)) S v d:=dv.same (Same.lay fe)
 have hsp:spI X.K n C [.ref (hh.objs.size+1),v] (upd H1 (hh.objs.size+1) (exH (hh.objs.size+1) C none hh.objs.size)) (fun y H3=>y=.non/\(∀ b o,b≠hh.objs.size+1->H1 b=some o->H3 b=some o)/\∃ dx t',H3 (hh.objs.size+1)=some (exH (hh.objs.size+1) C (some dx) t')/\H3 dx=some (.xd [(n,v)])) (fun _ _ _=>False) :=
  ⟨_,_,v,S,d,rfl,qF,dv2,hs,fun H3 dx t' z1 z2 z3=>⟨rfl,fun b o nb z=>z1 b o nb (by rw [qD nb];exact z),dx,t',z2,z3⟩⟩
 have hbd:=hb ⟨mkH hh C [u],g,dr,tk,oo⟩ [.ref (hh.objs.size+1),u] I2.kIn rfl
 rw [Vl] at hbd
 refine XE (XY (F.run _ X.stack _ _ ⟨[.ref (hh.objs.size+1),u],[]⟩ [.ref (hh.objs.size+1),u] [.ref (hh.objs.size+1),v] _ _ (hr.make C [u] []) (I2.env0.make C [u] []) hbd (.cons rfl (.cons ru .nil)) hsp) fun r s' hq=>?_)
 cases r with
 | error e=>exact Vz hq
 | ok fl =>
  cases fl with
  | next=>exact Vz hq
  | brk=>exact Vz hq
  | cont=>exact Vz hq
  | ret u' =>
   obtain ⟨v',H3,I3,rv,ev,g3,dx,t',e3,e4⟩:=I2.after hq
   subst ev
   have g4:Same H1 (rem H3 (hh.objs.size+1)):=fun b o z=>by
    have nb:b≠hh.objs.size+1:=fun y=>by rw [y,fe] at z;cases z
    rw [jD nb]
    exact g3 b o nb z
   have nd:dx≠hh.objs.size+1:=ne_of e4 e3 fun z=>nomatch z
   exact ⟨rv,kq _ _ _ dx t' (UQ _) (I3.untrack e3) g4 Wl s0 (I3.hok _ _ e3).1 (by rw [jD nd];exact e4)⟩
theorem qcV (F:KnownI X.prog X.w X.K X.mg X.base x n k)(hr:Room k' X.A)(hk:k+1<=k')(hg:Gl X x)(ha:PDA X M [a] (aC fa aN))(hdb:(x==("__debug__" : Str))=false:=by decide +kernel)(he:starEach [a] X.env=(false,eval a X.env)::starEach [] X.env:=by rfl)(hpl:(backTo cpos (starEach [] X.env)).any (·.1)=false:=by rfl)
  (hn:∀ e s,X.xe e s->False:=by exact fun _ _ z=>z):PDX X false G M L M (.Raise (some (.Call (.Name x np) [a] [] cpos)) none pos) (qbd x n fa):=by
 intro pins s σ H S ρ ρ' d0 I os e
 obtain ⟨d,e1,e⟩:=qe e
 split at e
 case isFalse=>cases e
 rename_i hs
 cases e
 rw [Ks] at hs
 obtain ⟨hs,hfl⟩:=hs
 obtain ⟨bn,C,SE,f,fd,Z,hm,hC,kp,hct,hfn,F,hb⟩:=F.ex
 refine qcZ (JR Z.xc) hct hr.hd ?_
 refine Uc (ZW I hg hm ?_ hdb)
 have ha':=ha cpos pins s σ H (fun vs H1=>Same H H1/\DenL X.K H1 S vs [d]) I ⟨S,ρ,[d],os.ds,by show ob (fa ρ) _=_;rw [e1];rfl,fun vs H1 g1 d1=>⟨g1,d1⟩⟩
 refine Xo (h₀:=X.base) I.ok.mod.kin kp (Vq ha' (fun us s1 ⟨vs,H1,I1,r,g1,d1⟩=>⟨I1.kIn,?_⟩) fun e s z=>(hn e s z).elim) he hpl
 obtain ⟨v,rfl,dv⟩:=d1.inv1
 obtain ⟨u,rfl,ru⟩:=r.one
 exact qbV Z hfn F hb (hr.mono hk) I1 dv ru hs fun b H' s' dx t' _ I' g4 z1 z2 z3 z4=>⟨b,some dx,t',rfl,I'.kIn,z3,b,x,C,_,rfl,rfl,hC,.inl ⟨rfl,σ,H',S,some dx,t',I',(os.same g1).same g4,.inr ⟨n,d,dx,v,rfl,hfl,rfl,z4,(dv.same g4).flat hfl⟩,z1,z2,z3⟩⟩
def mkI (x n:Str)(d:Ka):Option Ka:=if (shOk d&&flat d)=true then some (excD x (.tuple [.str n,d])) else none
theorem qgF (F:KnownI X.prog X.w X.K X.mg X.base x n k)(hr:Room k' X.A)(hk:k+1<=k')(hg:Gl X x)(hex:X.ex=[])(ha:PD X M a fa)(hdb:(x==("__debug__" : Str))=false:=by decide +kernel)(he:starEach [a] X.env=(false,eval a X.env)::starEach [] X.env:=by rfl)(hpl:(backTo cpos (starEach [] X.env)).any (·.1)=false:=by rfl) :
  PD X M (.Call (.Name x np) [a] [] cpos) (ev1 fa (mkI x n)):=by
 intro pins s σ H Q I ⟨S,ρ,r,hs0,e,q⟩
 obtain ⟨d,e1,e⟩:=qe e
 unfold mkI at e
 split at e
 case isFalse=>cases e
 rename_i hs
 cases e
 rw [Ks] at hs
 obtain ⟨hs,hfl⟩:=hs
 obtain ⟨bn,C,SE,f,fd,Z,hm,hC,kp,hct,hfn,F,hb⟩:=F.ex
 refine Uc (ZW I hg hm ?_ hdb)
 refine Xo (h₀:=X.base) I.ok.mod.kin kp (thn (Zt ha yW he cpos pins s σ H (fun vs H1=>∃ v,vs=[v]/\Same H H1/\Den X.K H1 S v d) I ⟨S,ρ,d,hs0,e1,fun v H1 g1 d1=>⟨v,rfl,g1,d1⟩⟩) fun us s1 ⟨vs,H1,I1,r,v,ev,g1,dv⟩=>⟨I1.kIn,?_⟩) he hpl
 subst ev
 obtain ⟨u,rfl,ru⟩:=r.one
 refine qbV Z hfn F hb (hr.mono hk) I1 dv ru hs fun b H' s' dx t' hb' I' g4 z1 z2 z3 z4=>?_
 have old:∀ {y:Ke} {o:Obj},s1.heap.get? y=some o->y≠b:=fun {y o} e z=>absurd (Ku e) (by rw [z];exact Nat.not_lt.mpr hb')
 have hL:b≠X.env.locals:=fun z=>by have:=I1.lt;rw [← z] at this;exact absurd this (Nat.not_lt.mpr hb')
 have I4:=I'.trackX z3 z1 (z2 hex) hL (fun y c ec=>by obtain ⟨w',o',ho',_⟩:=I1.cell y c ec;exact old ho') fun p hp=>old (I1.pin p hp).1
 have g5:Same H1 (upd H' b (.frz (exO C (some dx) t') (.own b))):=g4.lay' z1
 exact ⟨.ref b,_,I4,rfl,q _ _ (g1.trans g5) (.exc1 qF ⟨C,_,rfl,rfl,hC.1,hC.2⟩ rfl (by rw [qD (qW z4 z1)];exact z4) (dv.same g5))⟩
end
section
variable {prog:Kt}{w:KF}{A:KG}{E:Kb->Kf->Prop}{s:Kf}{K:Kd}{x C dx:Ke}{o:Obj}{fs:Array Kb}{mA:Str->Option Kb}{n:Str}{v:Kb}{cd:ClassData}
open PySem.W in
theorem Wu {tk:Tok}{Q:Fin->Kf->Prop}(hcd:V2 K C=some cd)(hhd:cd.hasDict=true)(hn:K6 K (.ref C) n=some none)(X:K.In s.heap)(hx:s.heap.get? x=some o)(hc:o.cls=.ref C)(hf:o.data=.fields fs)(hd:o.dict=some dx)(hA:s.heap.Ns1 dx mA)(hv:mA n=some v)(hq:Q (.done (.ret v)) s) :
  wpAny (model prog w) A (UA.«object.__getattribute__» ⟨[.ref x,.str n tk],[]⟩) Q E s:=by
 obtain ⟨hh,g,d,t,os⟩:=s
 obtain ⟨oc,od,oda,osl⟩:=o
 dsimp only at hc hf hd
 subst hc hf hd
 have I:OfC hh x C:=⟨_,hx,rfl⟩
 have L0:=I.ty (M:=model prog w)
 have L1:=UN (M:=model prog w) X hn
 have L2:=looks_clsIn (M:=model prog w) X hcd
 have L3:UV (model prog w) hh (nsGet dx n) (some v):=fun A' Q' E' s' k q=>wpAny_nsGet (hA.ns.keeps k) (by rw [hv];exact q)
 repeat (any_goals (first|assumption|with_reducible refine Looks.at (by assumption) ?_|wp_step))
open PySem.W in
theorem qhR {b:Bool}{Q:Kb->Kf->Prop}(Z:XcK K C)(hcd:V2 K C=some cd)(hhd:cd.hasDict=true)(hn:K6 K (.ref C) n=some none)(X:K.In s.heap)(hx:s.heap.get? x=some o)(hc:o.cls=.ref C)(hf:o.data=.fields fs)(hd:o.dict=some dx)(hA:s.heap.Ns1 dx mA)(hv:mA n=some v)(hh:PySem.W.handedIn v=true)
  (hq:Q v { s with toks:=s.toks+1 }):wpAny (model prog w) A (getAttr (.ref x) n b) Q E s:=by
 obtain ⟨h0,g,d,t,os⟩:=s
 have I:OfC h0 x C:=⟨_,hx,hc⟩
 have L0:=I.ty (M:=model prog w)
 have L1:=UN (M:=model prog w) X Z.ga
 have L2:=UN (M:=model prog w) X Z.gt
 have f3:=XF.ga.bind (.ref x)
 have hx2:(KS "BaseException.__getattribute__" == KS "object.__getattribute__")=false:=by decide +kernel
 have hx1:(onTheHeap (KD C)&&KS "BaseException.__getattribute__" == KS "object.__getattribute__")=false:=by rw [hx2];exact E4 _
 refine Kc (wpAny_mkText ?_)
 repeat (any_goals (first|assumption|with_reducible refine Looks.at (by assumption) ?_|wp_step))
 rw [if_neg (by rw [show onTheHeap (KS "BaseException.__getattribute__")=false from rfl,E4];decide)]
 unfold boundAndCalled
 repeat (any_goals (first|assumption|with_reducible refine Looks.at (by assumption) ?_|wp_step))
 refine Ul XF.ga.plain F.entry_bexc_ga (yc (s:=⟨h0,g,d,t+1,os⟩) Z X I (Wu (s:=⟨h0,g,d,t+1,os⟩) hcd hhd hn X hx hc hf hd hA hv ?_))
 show wpAny _ _ (handedOut v) _ _ _
 rw [handedOut_of hh]
 exact Kl hq
end
def exFD (XS:List (Str×List Str))(F:Str):Ka->Option Ka
 | .dict ((.str c,.tuple [.str n,d])::(.int 0,.none)::[])=>if (n==F&&XS.any fun p=>p.1==c)=true then some d else none
 | _=>none
theorem qeC {XS:List (Str×List Str)}{F:Str}{x r:Ka}(e:exFD XS F x=some r):∃ c,x=excD c (.tuple [.str F,r])/\(XS.any fun p=>p.1==c)=true:=by
 unfold exFD at e
 split at e
 ·split at e
  ·rename_i h
   cases e
   rw [Ks] at h
   rw [← beq_iff_eq.mp h.1]
   exact ⟨_,rfl,h.2⟩
  ·cases e
 ·cases e
def xfB (K:Kd)(XS:List (Str×List Str))(F:Str):Bool:=XS.all fun p=>match KM K mainGlobals p.1 with
 | some (some (.ref C))=>(V2 K C).any (·.hasDict)&&K6 K (.ref C) F==some none
 | _=>false
theorem Den.exc1_inv {K:Kd}{H:Hp}{S:Av}{v:V}{c n:Str}{d:Ka}(h:Den K H S v (excD c (.tuple [.str n,d]))):∃ a dx o w,v=.ref a/\H a=some (.frz o (.own a))/\ExcO K o c/\o.dict=some dx/\H dx=some (.xd [(n,w)])/\Den K H S w d:=by
 generalize hd:excD c (.tuple [.str n,d])=x at h
 cases h with
 | @dict a kvs ep ds h k t =>
  have:excK (dkv kvs ds)=true:=by
   have:=PyData.dict.inj hd
   rw [← this];rfl
  rw [wJ] at this
  cases this
 | exc1 h o x y t=>cases hd;exact ⟨_,_,_,_,rfl,h,o,x,y,t⟩
 | _=>cases hd
theorem qd1 {X:Cx}{XS:List (Str×List Str)}{M:List Nat}{e:Kw}{fe:Rho->Option Ka}{F:Str}{pos:Pos}(T:XTab X.K X.mg XS)(hf:xfB X.K XS F=true)(he:PD X M e fe)(hb:attributeBase e F X.env (eval e X.env)=eval e X.env:=by rfl):PD X M (.Attribute e F pos) (ev1 fe (exFD XS F)):=by
 intro pins s σ H Q I ⟨S,ρ,d,hs,ee,q⟩
 obtain ⟨x,e1,ee⟩:=qe ee
 obtain ⟨c,rfl,hc⟩:=qeC ee
 refine qhm hb (thn (he pins s σ H (fun v H1=>Same H H1/\Den X.K H1 S v (excD c (.tuple [.str F,d]))) I ⟨S,ρ,_,hs,e1,fun v H1 g1 d1=>⟨g1,d1⟩⟩) fun u s1 ⟨v,H1,I1,rv,g1,d1⟩=>?_)
 obtain ⟨a,dx,o,w,rfl,ha,⟨C,ws,h1,h2,h3,h4⟩,hd,hx,dw⟩:=d1.exc1_inv
 cases (show u=KD a from rv)
 obtain ⟨p,hp,rfl⟩:=XTab.has hc
 have:=Kz.mp hf p hp
 rw [h3] at this
 obtain ⟨y1,y2⟩:=NK.mp this
 obtain ⟨cd,c1,c2⟩:=PySem.W.any_some y1
 obtain ⟨mA,hA,hr⟩:=(show zM X.prog X.w H1 s1.heap dx (.xd [(F,w)]) from I1.hok dx _ hx)
 obtain ⟨u',hu,ru⟩:=RelO.some_of (v:=w) (o:=mA F) (by have:=hr F;rwa [show Ux F [(F,w)]=some w from by simp [Ux]] at this)
 exact qhR (JR h4) c1 c2 (beq_iff_eq.mp y2) I1.kIn (I1.hok a _ ha).1 h1 h2 hd hA hu (qeH ru) ⟨w,H1,I1.tok _,ru,q w H1 g1 dw⟩
def iniB (K:Kd)(n:Str)(C SE f:Ke):Bool :=
 qdy K C f&&((K6 K (.ref C) "__setattr__" == some (some (.builtin "object.__setattr__")))&&(((V2 K C).any fun cd=>qay cd.mro&&cd.hasDict)&&((K6 K (.ref C) n==some none)&&(xcB K C&&(PySem.W.readsIn K SE (.type "type")&&((Xw K (.ref SE) "__getattribute__" == some (some (.builtin "type.__getattribute__"))) &&
 ((match PySem.W.findCls K (.ref SE) (.type "type") "__init__" with | some (.val (.builtin i))=>i == "ValueError.__init__" | _=>false)&&(VQ K (.ref C)&&((Xc K (.ref C)==some (.type "type"))&&Fj K (.ref f))))))))))
def IniF (K:Kd)(x n bn qual:Str)(st:KY):Prop:=∃ (C SE f:Ke) (fd:Vo),KM K mainGlobals x=some (some (.ref C))/\KM K mainGlobals bn=some (some (.ref SE))/\iniB K n C SE f=true/\Fun K "__init__" qual st f fd
theorem IniF.of {K:Kd}{x n bn qual:Str}{st:KY}{C SE f:Ke}{oc:Kb}{od an:Option Ke}{osl:Array (Option Kb)}{kV doc pm cdv ct:Kb}(a:KM K mainGlobals x=some (some (.ref C)))(b:KM K mainGlobals bn=some (some (.ref SE)))(_g:K6 K (.ref C) "__init__" = some (some (.ref f)))
  (l:K.lookup f=some ⟨oc,od,.func (Us "__init__" qual (Zq st) (zK st) (qj st) .none kV doc pm an cdv ct),osl⟩) (d:U7 K cdv qual=true) (k:VQ K (.ref f)=true) (i:iniB K n C SE f=true):IniF K x n bn qual st:=⟨C,SE,f,_,a,b,i,qcC l d k⟩
theorem IniF.known {P:Kt}{w:KF}{K:Kd}{mg:Str->Option Kb}{base h:Kx}{pl:Env->Sem Bool}{x n bn qual c:Str}{st:KY}{j:Nat}{p1 p2 ap q1 q2 q3 q4 cp ep r1 r2 r3 r4:Pos}(X:K.In h)(G:h.Ns mainGlobals mg)(A:ScOk ["self", n] ["self", n] [bn] (qj st))
  (hc:c.length<=1000) (hd:(n==("__debug__" : Str))=false) (hcd:(n==("__classdict__" : Str))=false) (hbd:(bn==("__debug__" : Str))=false)
  (hb:zK st=[.Expr (.Call (.Attribute (.Name bn p1) "__init__" ap) [.Name "self" p2,.JoinedStr [.Constant (.str c) j q1,.FormattedValue (.Name n q2) 114 none q3] q4] [] cp) ep,.Assign [.Attribute (.Name "self" r1) n r2] (.Name n r3) r4])
  (ht:∀ env:Env,eval (.Call (.Attribute (.Name bn p1) "__init__" ap) [.Name "self" p2,.JoinedStr [.Constant (.str c) j q1,.FormattedValue (.Name n q2) 114 none q3] q4] [] cp) env=(do
   let ov ← eval (.Name bn p1) env
   standAt ap.atName
   let (f,first) ← holding [ov] (getMethod ov "__init__" (pl env))
   callWith cp f first (backTo cp (starEach [.Name "self" p2,.JoinedStr [.Constant (.str c) j q1,.FormattedValue (.Name n q2) 114 none q3] q4] env)) (backToKw cp (keywordEach [] env))))
  (hbi:∀ {f:Ke} {fd:Vo},Fun K "__init__" qual st f fd->Binds K fd ["self", n] []) (F:IniF K x n bn qual st):KnownI P w K mg base x n 1:=by
 obtain ⟨C,SE,f,fd,a,b,i,F⟩:=F
 unfold iniB at i
 simp only [Ks,beq_iff_eq] at i
 obtain ⟨i1,i2,i3,i4,i5,i6,i7,i8,i9,i10,i11⟩:=i
 obtain ⟨cd,c1,c2⟩:=PySem.W.any_some i3
 rw [Ks] at c2
 have Z:IniK K mg n bn C SE f:=⟨i1,i2,⟨cd,c1,c2.1,c2.2⟩,i4,i5,XI X G b,i6,i7,by
  split at i8
  ·rename_i y hy
   rw [hy,beq_iff_eq.mp i8]
  ·cases i8⟩
 exact ⟨bn,C,SE,f,fd,Z,XI X G a,⟨a,i5⟩,i9,i10,i11,qjQ F A.fs Z (A.nm _ (.head _)).1 (A.nm _ (.tail _ (.head _))).1 (A.gb _ (.head _)) hc hd hcd hbd hb ht,hbi F⟩
theorem qiD {X:Cx}{M:List Nat}{a:Kw}{fa:Rho->Option Ka}(h:PD X M a fa)(hs:starEach [a] X.env=(false,eval a X.env)::starEach [] X.env:=by rfl):PDA X M [a] (aC fa aN):=qb h qi hs
theorem sh3 {x y z:Int}(hx:x.natAbs.log2<1920)(hy:y.natAbs.log2<1920)(hz:z.natAbs.log2<1920):shOk (.tuple [.int x,.int y,.int z])=true:=by
 have lx:(Kg (toString x)).length<=1921:=Xu hx
 have ly:(Kg (toString y)).length<=1921:=Xu hy
 have lz:(Kg (toString z)).length<=1921:=Xu hz
 have e:(VN [.int x,.int y,.int z]).shown=tupleText [Kg (toString x),Kg (toString y),Kg (toString z)]:=by
  simp only [PyData.shown,PyData.shownAll]
 have l:(VN [.int x,.int y,.int z]).shown.length<=100000:=by
  rw [e]
  have j:=join_length_add [Kg (toString x),Kg (toString y),Kg (toString z)] (by simp)
  have p:∀ a b c:Str,piled [a,b,c]=a.length+2+(b.length+2+(c.length+2+0)):=fun _ _ _=>rfl
  rw [p] at j
  show ((("(" : Str)++Str.join ", " [Kg (toString x),Kg (toString y),Kg (toString z)])++Kg ")").length<=100000
  rw [N9,N9]
  have o1:(("(" : String):Str).length=1:=rfl
  have o2:(Kg ")").length=1:=rfl
  omega
 have s1:(VN [.int x,.int y,.int z]).showable=true:=by simp only [PyData.showable,PyData.showableAll,hx,hy,hz,decide_true,Fc]
 have s2:(VN [.int x,.int y,.int z]).canLay0=true:=by simp only [KQ,Kr,Fc]
 have s3:(VN [.int x,.int y,.int z]).hasDict=false:=rfl
 have s4:(VN [.int x,.int y,.int z]).depth<=63:=by simp only [Uz,KI];decide
 unfold shOk
 rw [s1,s2,s3,decide_eq_true s4,decide_eq_true l]
 rfl
theorem RoomM.u64 {k:Nat}{A:KG}(r:RoomM k A):A.units+64<cLine:=by have:=r.un;omega
theorem d_eqM {X:Cx}{k:Nat}(hr:RoomM k X.A):OpD X (compareOp .Eq) eqD:=by
 intro pins s σ H x y v u Q I rx ry ⟨S,dx,dy,d,m,h1,h2,e,q⟩
 unfold eqD at e
 split at e
 ·rename_i c
  cases e
  obtain ⟨as,q1⟩:=h1.reads I (K7 c.1) rx
  obtain ⟨bs,q2⟩:=h2.reads I (K7 c.2) ry
  exact eq_dataH q1 q2 c.1 c.2 hr.u64 (Zh I (q _ H (Same.refl H) (.bool _)) rfl)
 ·cases e
end L2
namespace L2
open PySem PySem.W PyProof.Rows
theorem Zx {α β:Type}{lt:Nat->Nat->Option Bool}{f:α->KasT β}:∀ (t:KasT α),runC lt (t.bind f)=ob (runC lt t) fun a=>runC lt (f a)
 | .ret _=>rfl
 | .ask i j k=>by
  show ob (lt i j) (fun b=>runC lt ((k b).bind f))=ob (ob (lt i j) fun b=>runC lt (k b)) _
  cases lt i j with
  | none=>rfl
  | some b=>exact Zx (k b)
structure IOrd (n:Nat)(lt:Nat->Nat->Option Bool)(blt:Nat->Nat->Bool):Prop where
 ask:∀ i j,i<n->j<n->lt i j=some (blt i j)
 irr:∀ i,blt i i=false
 tr:∀ i j k,blt i j=true->blt j k=true->blt i k=true
 neg:∀ i j k,blt i k=true->blt i j=true\/blt j k=true
def gp (p:Array Nat)(i:Nat):Nat:=p.getD i 0
def Qm (n:Nat)(p:Array Nat):Prop:=p.toList.Perm (X7 n)
def UpTo (blt:Nat->Nat->Bool)(p:Array Nat)(m:Nat):Prop:=∀ i j,i<=j->j<m->blt (gp p j) (gp p i)=false
section
variable {n:Nat}{lt:Nat->Nat->Option Bool}{blt:Nat->Nat->Bool}{p:Array Nat}
theorem Qm.size (h:Qm n p):p.size=n:=by
 have:=h.length_eq
 rw [K0,List.length_range] at this
 exact this
theorem Qm.inb (h:Qm n p){i:Nat}(hi:i<n):gp p i<n:=by
 have hs:=h.size
 have e:gp p i=p[i]'(by omega):=by simp [gp,Array.getD,hs,hi]
 have hm:p[i]'(by omega)∈p.toList:=by simp
 have:=h.mem_iff.mp hm
 rw [e]
 exact E1.mp this
theorem qbE {q:Array Nat}{i j:Nat}(h:q[i]?=p[j]?):gp q i=gp p j:=by
 unfold gp
 simp only [Array.getD_eq_getD_getElem?,h]
theorem IOrd.le_tr (O:IOrd n lt blt){a b c:Nat}(h1:blt b a=false)(h2:blt c b=false):blt c a=false:=by
 cases h:blt c a with
 | false=>rfl
 | true =>
  rcases O.neg c b a h with z|z
  ·rw [h2] at z;cases z
  ·rw [h1] at z;cases z
theorem IOrd.asym (O:IOrd n lt blt){a b:Nat}(h:blt a b=true):blt b a=false:=by
 cases z:blt b a with
 | false=>rfl
 | true =>
  have:=O.tr a b a h z
  rw [O.irr] at this
  cases this
theorem qfb (O:IOrd n lt blt)(hp:Qm n p){k:Nat}(hk:k<n)(hs:UpTo blt p k):∀ (f l r:Nat),r-l<=f->l<=r->r<=k->(∀ i,i<l->blt (gp p k) (gp p i)=false)->(∀ i,r<=i->i<k->blt (gp p k) (gp p i)=true)->
  ∃ m,runC lt (kas_place p k f l r)=some m/\m<=k/\(∀ i,i<m->blt (gp p k) (gp p i)=false)/\(∀ i,m<=i->i<k->blt (gp p k) (gp p i)=true):=by
 intro f
 induction f with
 | zero =>
  intro l r h1 h2 h3 h4 h5
  exact ⟨l,rfl,by omega,h4,fun i hi hi2=>h5 i (by omega) hi2⟩
 | succ f ih =>
  intro l r h1 h2 h3 h4 h5
  unfold kas_place
  by_cases hlr:l >= r
  ·rw [if_pos hlr]
   exact ⟨l,rfl,by omega,h4,fun i hi hi2=>h5 i (by omega) hi2⟩
  ·rw [if_neg hlr]
   have hm:(l+r) / 2<k:=by omega
   have ea:=O.ask (gp p k) (gp p ((l+r) / 2)) (hp.inb hk) (hp.inb (by omega))
   show ∃ m,ob (lt (gp p k) (gp p ((l+r) / 2))) (fun c=>runC lt (if c=true then kas_place p k f l ((l+r) / 2) else kas_place p k f ((l+r) / 2+1) r))=some m/\_
   rw [ea]
   cases hb:blt (gp p k) (gp p ((l+r) / 2)) with
   | true =>
    refine ih l ((l+r) / 2) (by omega) (by omega) (by omega) h4 fun i hi hi2=>?_
    cases z:blt (gp p k) (gp p i) with
    | true=>rfl
    | false =>
     have:=hs ((l+r) / 2) i hi hi2
     have q:=O.le_tr this z
     rw [hb] at q
     cases q
   | false =>
    refine ih ((l+r) / 2+1) r (by omega) (by omega) h3 (fun i hi=>?_) h5
    exact O.le_tr (hs i ((l+r) / 2) (by omega) hm) hb
theorem qb8 {q:Array Nat}(h:Qm n p)(hq:q.Perm p):Qm n q:=(Array.perm_iff_toList_perm.mp hq).trans h
theorem W0 {k m:Nat}(hk:k<p.size)(hm:m<=k)(i:Nat):gp (bubble p k (k-m)) i=if i=m then gp p k else if m<i/\i<=k then gp p (i-1) else gp p i:=by
 have e:=getElem?_bubble hk (k-m) (by omega) i
 have hkm:k-(k-m)=m:=by omega
 rw [hkm] at e
 by_cases h1:i=m
 ·rw [if_pos h1] at e ⊢;exact qbE e
 ·rw [if_neg h1] at e ⊢
  by_cases h2:m<i/\i<=k
  ·rw [if_pos h2] at e ⊢;exact qbE e
  ·rw [if_neg h2] at e ⊢;exact qbE e
theorem Z2 {i j:Nat}(hj:j<=p.size)(k:Nat):gp (Xn p i j) k=if i<=k/\k<j then gp p (i+j-1-k) else gp p k:=by
 have e:=getElem?_mirror_all (i:=i) hj k
 unfold Xn
 by_cases h1:i<=k/\k<j
 ·rw [if_pos h1] at e ⊢;exact qbE e
 ·rw [if_neg h1] at e ⊢;exact qbE e
theorem jh (h:Qm n p)(i j:Nat):Qm n (Xn p i j):=qb8 h (mirror_perm _ _ _ _)
theorem qhq (O:IOrd n lt blt):∀ (f:Nat) (p:Array Nat) (k:Nat),Qm n p->UpTo blt p k->k+f=n->∃ p',runC lt (kas_bin f p k)=some p'/\Qm n p'/\UpTo blt p' n:=by
 intro f
 induction f with
 | zero=>exact fun p k hp hs e=>⟨p,rfl,hp,by rw [← e];exact hs⟩
 | succ f ih =>
  intro p k hp hs e
  have hk:k<n:=by omega
  obtain ⟨m,e1,h1,h2,h3⟩:=qfb O hp hk hs k 0 k (by omega) (by omega) (by omega) (fun i hi=>by omega) (fun i hi hi2=>by omega)
  have hz:=hp.size
  obtain ⟨p',e2,h4,h5⟩:=ih (bubble p k (k-m)) (k+1) (qb8 hp (bubble_perm _ _ _)) (fun i j hij hj=>by
   rw [W0 (by omega) h1,W0 (by omega) h1]
   by_cases a1:j=m
   ·rw [if_pos a1]
    by_cases a2:i=m
    ·rw [if_pos a2];exact O.irr _
    ·rw [if_neg a2,if_neg (by omega)]
     exact h2 i (by omega)
   ·rw [if_neg a1]
    by_cases a3:m<j/\j<=k
    ·rw [if_pos a3]
     by_cases a2:i=m
     ·rw [if_pos a2]
      exact O.asym (h3 (j-1) (by omega) (by omega))
     ·rw [if_neg a2]
      by_cases a4:m<i/\i<=k
      ·rw [if_pos a4]
       exact hs (i-1) (j-1) (by omega) (by omega)
      ·rw [if_neg a4]
       exact hs i (j-1) (by omega) (by omega)
    ·rw [if_neg a3,if_neg (by omega),if_neg (by omega)]
     exact hs i j hij (by omega)) (by omega)
  refine ⟨p',?_,h4,h5⟩
  unfold kas_bin
  rw [Zx,e1]
  exact e2
theorem qdd (O:IOrd n lt blt)(hp:Qm n p):∀ (f m:Nat),1<=m->m+f<=n->UpTo blt p m->∃ m',runC lt (kas_asc p f m)=some m'/\m<=m'/\m'<=m+f/\UpTo blt p m'/\(m'<m+f->blt (gp p m') (gp p (m'-1))=true):=by
 intro f
 induction f with
 | zero=>exact fun m h1 h2 hs=>⟨m,rfl,by omega,by omega,hs,fun z=>by omega⟩
 | succ f ih =>
  intro m h1 h2 hs
  have ea:=O.ask (gp p m) (gp p (m-1)) (hp.inb (by omega)) (hp.inb (by omega))
  unfold kas_asc
  show ∃ m',ob (lt (gp p m) (gp p (m-1))) (fun c=>runC lt (if c=true then .ret m else kas_asc p f (m+1)))=some m'/\_
  rw [ea]
  cases hb:blt (gp p m) (gp p (m-1)) with
  | true=>exact ⟨m,rfl,by omega,by omega,hs,fun _=>hb⟩
  | false =>
   obtain ⟨m',e1,h3,h4,h5,h6⟩:=ih (m+1) (by omega) (by omega) (fun i j hij hj=>by
    by_cases hjm:j=m
    ·subst hjm
     by_cases hi:i=j
     ·subst hi;exact O.irr _
     ·exact O.le_tr (hs i (j-1) (by omega) (by omega)) hb
    ·exact hs i j hij (by omega))
   exact ⟨m',e1,by omega,by omega,h5,fun z=>h6 (by omega)⟩
def yI (blt:Nat->Nat->Bool)(p:Array Nat)(m:Nat):Prop:=∀ i j,i<=j->j<m->blt (gp p i) (gp p j)=false
def qfo (blt:Nat->Nat->Bool)(p:Array Nat)(a b:Nat):Prop:=∀ i j,a<=i->i<b->a<=j->j<b->blt (gp p i) (gp p j)=false
theorem qbp (hp:Qm n p){m a:Nat}(hm:m<=n)(ha:a<=m)(hd:yI blt p m)(hs:qfo blt p a m):yI blt (Xn p a m) m/\∀ i,i<m->∃ i',i'<m/\gp (Xn p a m) i=gp p i':=by
 have hz:=hp.size
 refine ⟨fun i j hij hj=>?_,fun i hi=>?_⟩
 ·rw [Z2 (by omega),Z2 (by omega)]
  by_cases h1:a<=i/\i<m
  ·rw [if_pos h1,if_pos (by omega)]
   exact hs _ _ (by omega) (by omega) (by omega) (by omega)
  ·rw [if_neg h1]
   by_cases h2:a<=j/\j<m
   ·rw [if_pos h2];exact hd _ _ (by omega) (by omega)
   ·rw [if_neg h2];exact hd _ _ hij hj
 ·rw [Z2 (by omega)]
  by_cases h1:a<=i/\i<m
  ·rw [if_pos h1];exact ⟨_,by omega,rfl⟩
  ·rw [if_neg h1];exact ⟨i,hi,rfl⟩
theorem qfS (O:IOrd n lt blt):∀ (f:Nat) (p:Array Nat) (m q:Nat),Qm n p->m+f<=n->q+1<=m->yI blt p m->qfo blt p (m-(q+1)) m->
  ∃ p' m' q',runC lt (Nt f p m q)=some (p',m',q')/\Qm n p'/\m<=m'/\m'<=m+f/\q'+1<=m'/\yI blt p' m'/\qfo blt p' (m'-(q'+1)) m':=by
 intro f
 induction f with
 | zero=>exact fun p m q hp _ hq hd hs=>⟨p,m,q,rfl,hp,by omega,by omega,hq,hd,hs⟩
 | succ f ih =>
  intro p m q hp hm hq hd hs
  have hz:=hp.size
  have e1:=O.ask (gp p m) (gp p (m-1)) (hp.inb (by omega)) (hp.inb (by omega))
  have e2:=O.ask (gp p (m-1)) (gp p m) (hp.inb (by omega)) (hp.inb (by omega))
  unfold Nt
  show ∃ p' m' q',ob (lt (gp p m) (gp p (m-1))) (fun c=>runC lt (if c=true then (if q > 0 then Nt f (Xn p (m-(q+1)) m) (m+1) 0 else Nt f p (m+1) 0)
   else .ask (p.getD (m-1) 0) (p.getD m 0) fun d=>if d=true then .ret (p,m,q) else Nt f p (m+1) (q+1)))=some (p',m',q')/\_
  rw [e1]
  cases hb:blt (gp p m) (gp p (m-1)) with
  | true =>
   have below:∀ i,i<m->blt (gp p i) (gp p m)=false:=fun i hi=>O.le_tr (O.asym hb) (hd i (m-1) (by omega) (by omega))
   show ∃ p' m' q',runC lt (if q > 0 then Nt f (Xn p (m-(q+1)) m) (m+1) 0 else Nt f p (m+1) 0)=some (p',m',q')/\_
   by_cases hq0:q > 0
   ·rw [if_pos hq0]
    obtain ⟨d1,d2⟩:=qbp (blt:=blt) hp (m:=m) (a:=m-(q+1)) (by omega) (by omega) hd hs
    have gm:gp (Xn p (m-(q+1)) m) m=gp p m:=by rw [Z2 (by omega),if_neg (by omega)]
    obtain ⟨p',m',q',r1,r2,r3,r4,r5,r6,r7⟩:=ih (Xn p (m-(q+1)) m) (m+1) 0 (jh hp _ _) (by omega) (by omega) (fun i j hij hj=>by
     by_cases hjm:j=m
     ·subst hjm
      by_cases hi:i=j
      ·subst hi;exact O.irr _
      ·obtain ⟨i',hi',ei⟩:=d2 i (by omega)
       rw [ei,gm]
       exact below i' hi'
     ·exact d1 i j hij (by omega)) (fun i j h1 h2 h3 h4=>by
      have:i=m:=by omega
      have:j=m:=by omega
      subst i;subst j;exact O.irr _)
    exact ⟨p',m',q',r1,r2,by omega,by omega,r5,r6,r7⟩
   ·rw [if_neg hq0]
    obtain ⟨p',m',q',r1,r2,r3,r4,r5,r6,r7⟩:=ih p (m+1) 0 hp (by omega) (by omega) (fun i j hij hj=>by
     by_cases hjm:j=m
     ·subst hjm
      by_cases hi:i=j
      ·subst hi;exact O.irr _
      ·exact below i (by omega)
     ·exact hd i j hij (by omega)) (fun i j h1 h2 h3 h4=>by
      have:i=m:=by omega
      have:j=m:=by omega
      subst i;subst j;exact O.irr _)
    exact ⟨p',m',q',r1,r2,by omega,by omega,r5,r6,r7⟩
  | false =>
   show ∃ p' m' q',ob (lt (gp p (m-1)) (gp p m)) (fun d=>runC lt (if d=true then .ret (p,m,q) else Nt f p (m+1) (q+1)))=some (p',m',q')/\_
   rw [e2]
   cases hd2:blt (gp p (m-1)) (gp p m) with
   | true=>exact ⟨p,m,q,rfl,hp,by omega,by omega,hq,hd,hs⟩
   | false =>
    obtain ⟨p',m',q',r1,r2,r3,r4,r5,r6,r7⟩:=ih p (m+1) (q+1) hp (by omega) (by omega) (fun i j hij hj=>by
     by_cases hjm:j=m
     ·subst hjm
      by_cases hi:i=j
      ·subst hi;exact O.irr _
      ·exact O.le_tr hd2 (hd i (j-1) (by omega) (by omega))
     ·exact hd i j hij (by omega)) (fun i j h1 h2 h3 h4=>by
      have s1:∀ i,m-(q+1)<=i->i<m->blt (gp p i) (gp p m)=false/\blt (gp p m) (gp p i)=false:=fun i a b =>
       ⟨O.le_tr hd2 (hs i (m-1) a b (by omega) (by omega)),O.le_tr (hs (m-1) i (by omega) (by omega) a b) hb⟩
      by_cases hi:i=m
      ·subst hi
       by_cases hj:j=i
       ·subst hj;exact O.irr _
       ·exact (s1 j (by omega) (by omega)).2
      ·by_cases hj:j=m
       ·subst hj;exact (s1 i (by omega) (by omega)).1
       ·exact hs i j (by omega) (by omega) (by omega) (by omega))
    exact ⟨p',m',q',r1,r2,by omega,by omega,r5,r6,r7⟩
theorem qax (O:IOrd n lt blt)(hp:Qm n p){m:Nat}(h1:1<=m)(h2:m<=n)(hd:yI blt p m):∃ m' p',runC lt (kas_tail3 m n p)=some (m',p')/\Qm n p'/\1<=m'/\m'<=n/\UpTo blt p' m':=by
 have hz:=hp.size
 obtain ⟨m',e1,h3,h4,h5,_⟩:=qdd O (jh hp 0 m) (n-m) m h1 (by omega) (fun i j hij hj=>by
  rw [Z2 (by omega),Z2 (by omega),if_pos (by omega),if_pos (by omega)]
  exact hd _ _ (by omega) (by omega))
 refine ⟨m',Xn p 0 m,?_,jh hp 0 m,by omega,by omega,h5⟩
 unfold kas_tail3
 rw [Zx,e1]
 rfl
theorem J6 (O:IOrd n lt blt)(hp:Qm n p){k:Nat}(h2:k+1<=n)(hd:yI blt p (k+1)):∃ m' p',runC lt (NL k n p)=some (m',p')/\Qm n p'/\1<=m'/\m'<=n/\UpTo blt p' m':=by
 obtain ⟨p1,m1,q1,e1,r2,r3,r4,r5,r6,r7⟩:=qfS O (n-(k+1)) p (k+1) 0 hp (by omega) (by omega) hd (fun i j a1 a2 a3 a4=>by
  have:i=k:=by omega
  have:j=k:=by omega
  subst i;subst j;exact O.irr _)
 unfold NL
 rw [Zx,e1]
 show ∃ m' p',runC lt (if q1 > 0 then kas_tail3 m1 n (Xn p1 (m1-(q1+1)) m1) else kas_tail3 m1 n p1)=some (m',p')/\_
 by_cases hq:q1 > 0
 ·rw [if_pos hq]
  exact qax O (jh r2 _ _) (by omega) (by omega) (qbp r2 (by omega) (by omega) r6 r7).1
 ·rw [if_neg hq]
  exact qax O r2 (by omega) (by omega) r6
theorem qew (O:IOrd n lt blt)(hp:Qm n p)(hn:1<=n):∃ m' p',runC lt (kas_count n p)=some (m',p')/\Qm n p'/\1<=m'/\m'<=n/\UpTo blt p' m':=by
 have hz:=hp.size
 obtain ⟨m,e1,h3,h4,h5,h6⟩:=qdd O hp (n-1) 1 (by omega) (by omega) (fun i j hij hj=>by
  have:i=0:=by omega
  have:j=0:=by omega
  subst i;subst j;exact O.irr _)
 unfold kas_count
 rw [Zx,e1]
 show ∃ m' p',runC lt (if (m==n)=true then .ret (m,p) else if m > 1 then .ask (p.getD 0 0) (p.getD (m-1) 0) fun c=>if c=true then .ret (m,p) else NL m n (Xn p 0 m) else NL m n p)=some (m',p')/\_
 by_cases hmn:m=n
 ·rw [if_pos (by simpa using hmn)]
  exact ⟨m,p,rfl,hp,by omega,by omega,h5⟩
 ·rw [if_neg (by simpa using hmn)]
  have hb:=h6 (by omega)
  by_cases hm1:m > 1
  ·rw [if_pos hm1]
   have ea:=O.ask (gp p 0) (gp p (m-1)) (hp.inb (by omega)) (hp.inb (by omega))
   show ∃ m' p',ob (lt (gp p 0) (gp p (m-1))) (fun c=>runC lt (if c=true then .ret (m,p) else NL m n (Xn p 0 m)))=some (m',p')/\_
   rw [ea]
   cases hc:blt (gp p 0) (gp p (m-1)) with
   | true=>exact ⟨m,p,rfl,hp,by omega,by omega,h5⟩
   | false =>
    refine J6 O (jh hp 0 m) (by omega) (fun i j hij hj=>?_)
    by_cases hjm:j=m
    ·by_cases hi:i=j
     ·rw [hi];exact O.irr _
     ·rw [Z2 (by omega),Z2 (by omega),if_pos (by omega),if_neg (by omega),hjm]
      exact O.le_tr (O.asym hb) (O.le_tr hc (h5 0 (0+m-1-i) (by omega) (by omega)))
    ·rw [Z2 (by omega),Z2 (by omega),if_pos (by omega),if_pos (by omega)]
     exact h5 _ _ (by omega) (by omega)
  ·rw [if_neg hm1]
   have hm:m=1:=by omega
   subst hm
   refine J6 O hp (by omega) (fun i j hij hj=>?_)
   by_cases hi:i=j
   ·rw [hi];exact O.irr _
   ·have e0:i=0:=by omega
    have ej:j=1:=by omega
    rw [e0,ej]
    exact O.asym hb
theorem qha (O:IOrd n lt blt)(hn:1<=n):∃ p',runC lt (EA n)=some p'/\Qm n p'/\UpTo blt p' n:=by
 obtain ⟨m,p,e1,h1,h2,h3,h4⟩:=qew O (p:=(X7 n).toArray) (show Qm n _ from by unfold Qm;exact List.Perm.refl _) hn
 unfold EA
 rw [Zx,e1]
 show ∃ p',runC lt (if m<n then kas_bin (n-max m 1) p (max m 1) else .ret p)=some p'/\_
 have hmax:max m 1=m:=by omega
 by_cases hm:m<n
 ·rw [if_pos hm,hmax]
  exact qhq O (n-m) p m h1 h4 (by omega)
 ·rw [if_neg hm]
  have:m=n:=by omega
  subst this
  exact ⟨p,rfl,h1,h4⟩
end
def tI (ns:List Int):Ka:=.tuple (ns.map .int)
theorem W7:∀ xs:List Int,HT.lexLt xs xs=false
 | []=>rfl
 | x::xs=>by rw [HT.zU,if_pos rfl];exact W7 xs
theorem qbR:∀ xs ys zs:List Int,HT.lexLt xs ys=true->HT.lexLt ys zs=true->HT.lexLt xs zs=true
 | [],[],_,h,_=>by cases h
 | [],_::_,[],_,h=>by cases h
 | [],_::_,_::_,_,_=>rfl
 | _::_,[],_,h,_=>by cases h
 | _::_,_::_,[],_,h=>by cases h
 | x::xs,y::ys,z::zs,h1,h2=>by
  rw [HT.zU] at h1 h2 ⊢
  by_cases e1:x=y
  ·rw [if_pos e1] at h1
   by_cases e2:y=z
   ·rw [if_pos e2] at h2
    rw [if_pos (e1.trans e2)]
    exact qbR xs ys zs h1 h2
   ·rw [if_neg e2] at h2
    rw [if_neg (by rw [e1];exact e2),e1]
    exact h2
  ·rw [if_neg e1] at h1
   have h1':=of_decide_eq_true h1
   by_cases e2:y=z
   ·rw [if_neg (by rw [← e2];exact e1),← e2]
    exact h1
   ·rw [if_neg e2] at h2
    have h2':=of_decide_eq_true h2
    rw [if_neg (by omega)]
    exact decide_eq_true (by omega)
theorem W8:∀ xs ys zs:List Int,HT.lexLt xs zs=true->HT.lexLt xs ys=true\/HT.lexLt ys zs=true
 | [],[],zs,h=>.inr h
 | [],_::_,_,_=>.inl rfl
 | _::_,_,[],h=>by cases h
 | _::_,[],_::_,_=>.inr rfl
 | x::xs,y::ys,z::zs,h=>by
  rw [HT.zU] at h ⊢
  rw [HT.zU]
  by_cases e1:x=z
  ·rw [if_pos e1] at h
   subst e1
   by_cases e2:x=y
   ·subst e2
    rw [if_pos rfl,if_pos rfl]
    exact W8 xs ys zs h
   ·rw [if_neg e2,if_neg (fun z=>e2 z.symm)]
    by_cases hl:x<y
    ·exact .inl (decide_eq_true hl)
    ·exact .inr (decide_eq_true (by omega))
  ·rw [if_neg e1] at h
   have h':=of_decide_eq_true h
   by_cases e2:x=y
   ·subst e2
    rw [if_neg e1]
    exact .inr h
   ·rw [if_neg e2]
    by_cases hl:x<y
    ·exact .inl (decide_eq_true hl)
    ·right
     rw [if_neg (by omega)]
     exact decide_eq_true (by omega)
theorem W9:∀ xs ys:List Int,HT.lexLt xs ys=false->HT.lexLt ys xs=false->xs=ys
 | [],[],_,_=>rfl
 | [],_::_,h,_=>by cases h
 | _::_,[],_,h=>by cases h
 | x::xs,y::ys,h1,h2=>by
  rw [HT.zU] at h1 h2
  by_cases e:x=y
  ·subst e
   rw [if_pos rfl] at h1 h2
   rw [W9 xs ys h1 h2]
  ·rw [if_neg e] at h1
   rw [if_neg (fun z=>e z.symm)] at h2
   have a1:=of_decide_eq_false h1
   have a2:=of_decide_eq_false h2
   omega
theorem qab:∀ xs ys:List Int,ltXs (xs.map .int) (ys.map .int)=some (HT.lexLt xs ys)
 | [],[]=>by rw [Vt,ltXs];rfl
 | [],_::_=>by rw [Vt,Km,ltXs];rfl
 | _::_,[]=>by rw [Vt,Km,ltXs];rfl
 | x::xs,y::ys=>by
  rw [Km,Km,ltXs,HT.zU]
  have e:KP (.int x) (.int y)=(x==y):=rfl
  rw [e]
  by_cases h:x=y
  ·rw [if_pos (by simpa using h),if_pos h]
   exact qab xs ys
  ·rw [if_neg (by simpa using h),if_neg h,ltX]
theorem qgq (xs ys:List Int):ltX (tI xs) (tI ys)=some (HT.lexLt xs ys):=by
 unfold tI
 rw [ltX]
 exact qab xs ys
theorem Wf {α:Type}(xs:List α)(d:α):(X7 xs.length).map (fun i=>xs.getD i d)=xs:=by
 apply List.ext_getElem
 ·simp
 ·intro i h1 h2
  simp [V3,h2]
theorem qa7 {nss:List (List Int)}(hok:Z4 0 (nss.map tI)=true):∃ mss:List (List Int),zb [.list (nss.map tI)]=some (.list (mss.map tI))/\mss.Perm nss/\mss.Pairwise (fun a b=>HT.lexLt b a=false):=by
 have hn:2<=nss.length/\nss.length<64:=by
  unfold Z4 at hok
  simp only [Ks,decide_eq_true_eq,Kj] at hok
  exact ⟨hok.2.1,hok.2.2.1⟩
 have O:IOrd nss.length (qbT (nss.map tI)) (fun i j=>HT.lexLt (nss.getD i []) (nss.getD j [])):=by
  refine ⟨fun i j hi hj=>?_,fun i=>W7 _,fun i j k=>qbR _ _ _,fun i j k=>W8 _ _ _⟩
  unfold qbT
  rw [Vb,Vb,Kq hi,Kq hj]
  show ltX (tI nss[i]) (tI nss[j])=_
  rw [qgq,getD_some (Kq hi),getD_some (Kq hj)]
 obtain ⟨p,e1,hp,hs⟩:=qha O (by omega)
 have hin:∀ i∈p.toList,i<nss.length:=fun i hi=>E1.mp (hp.mem_iff.mp hi)
 refine ⟨p.toList.map fun i=>nss.getD i [],?_,?_,?_⟩
 ·show (if (nss.map tI).length<2 then some (Nj (nss.map tI)) else if Z4 0 (nss.map tI)=true\/Z4 1 (nss.map tI)=true then ob (runC (qbT (nss.map tI)) (EA (nss.map tI).length)) fun p=>qb9 (nss.map tI) p else none)=_
  rw [if_neg (by rw [Kj];omega),if_pos (.inl hok),Kj,e1]
  show qb9 (nss.map tI) p=_
  unfold qb9
  rw [if_pos ⟨Kz.mpr fun i hi=>by rw [Kj];exact decide_eq_true (hin i hi),by rw [K0,hp.size];omega⟩]
  congr 2
  rw [Vf]
  refine VD fun i hi=>?_
  have hi':=hin i hi
  show (nss.map tI).getD i .none=tI (nss.getD i [])
  rw [getD_some (show (nss.map tI)[i]?=some (tI nss[i]) from by rw [Vb,Kq hi'];rfl),getD_some (Kq hi')]
 ·have:=hp.map (fun i=>nss.getD i [])
  rw [Wf] at this
  exact this
 ·rw [Nb,List.pairwise_iff_getElem]
  intro i j hi hj hij
  have hsz:=hp.size
  rw [K0] at hi hj
  have:=hs i j (by omega) (by omega)
  have g1:gp p i=p.toList[i]'(by rw [K0];exact hi):=by simp [gp,Array.getD,hi]
  have g2:gp p j=p.toList[j]'(by rw [K0];exact hj):=by simp [gp,Array.getD,hj]
  rw [g1,g2] at this
  exact this
theorem qbi:∀ ns:List Int,Kr (ns.map .int)=true/\KI (ns.map .int)=0
 | []=>⟨rfl,rfl⟩
 | n::ns=>by
  obtain ⟨h1,h2⟩:=qbi ns
  rw [Km]
  exact ⟨by simp [Kr,KQ,h1],by simp [KI,Uz,h2]⟩
theorem wy:∀ nss:List (List Int),Kr (nss.map tI)=true/\KI (nss.map tI)<=1
 | []=>⟨rfl,Vc _⟩
 | ns::nss=>by
  obtain ⟨h1,h2⟩:=wy nss
  obtain ⟨h3,h4⟩:=qbi ns
  rw [Km]
  refine ⟨by simp [Kr,tI,KQ,h1,h3],?_⟩
  rw [KI,show (tI ns).depth=1 from by simp [tI,Uz,h4]]
  omega
theorem qcm {nss:List (List Int)}(h2:2<=nss.length)(h64:nss.length<64)(hne:∀ ns∈nss,ns≠[]):Z4 0 (nss.map tI)=true:=by
 obtain ⟨h3,h4⟩:=wy nss
 unfold Z4
 simp only [Ks,decide_eq_true_eq,Kj]
 refine ⟨Kz.mpr fun d hd=>?_,h2,h64,h3,by omega⟩
 obtain ⟨ns,hn,rfl⟩:=KN.mp hd
 cases ns with
 | nil=>exact absurd rfl (hne [] hn)
 | cons n ns=>rfl
theorem qa8 {nss:List (List Int)}(h64:nss.length<64)(hne:∀ ns∈nss,ns≠[]):∃ mss:List (List Int),zb [.list (nss.map tI)]=some (.list (mss.map tI))/\mss.Perm nss/\mss.Pairwise (fun a b=>HT.lexLt b a=false):=by
 by_cases h2:2<=nss.length
 ·exact qa7 (qcm h2 h64 hne)
 ·refine ⟨nss,?_,List.Perm.refl _,?_⟩
  ·show (if (nss.map tI).length<2 then some (Nj (nss.map tI)) else _)=_
   rw [if_pos (by rw [Kj];omega)]
  ·match nss,h2 with
   | [],_=>exact .nil
   | [a],_=>exact .cons (fun _ z=>nomatch z) .nil
   | _::_::_,h2=>exact absurd (by simp) h2
theorem Jy:∀ {as bs:List (List Int)},as.Perm bs->as.Pairwise (fun a b=>HT.lexLt b a=false)->bs.Pairwise (fun a b=>HT.lexLt b a=false)->as=bs
 | [],bs,h,_,_=>(List.nil_perm.mp h).symm
 | a::as,[],h,_,_=>absurd h (by simp)
 | a::as,b::bs,h,h1,h2=>by
  rw [N0] at h1 h2
  have e:a=b:=by
   have ma:a∈b::bs:=h.mem_iff.mp (.head _)
   have mb:b∈a::as:=h.mem_iff.mpr (.head _)
   rcases Kk.mp ma with z|z
   ·exact z
   ·rcases Kk.mp mb with y|y
    ·exact y.symm
    ·exact W9 a b (h2.1 a z) (h1.1 b y)
  subst e
  rw [Jy h.cons_inv h1.2 h2.2]
end L2
namespace SF
open PySem L2
variable (P:Kt)(w:KF){K:Kd}{mg:Str->Option Kb}(base:Kx){f:Ke}{fd:Vo}
def top (i:Nat):KY:=PySem.Challenge.pw_sheetfold_k23_crowded_edges.main.body.getD i (.Pass ⟨0,0,0,0⟩)
def Zb:Ka:=(.tuple [(.tuple [(.int (-1)),(.int (0)),(.int (0))]),(.tuple [(.int (0)),(.int (-1)),(.int (0))]),(.tuple [(.int (0)),(.int (0)),(.int (-1))]),(.tuple [(.int (0)),(.int (0)),(.int (1))]),(.tuple [(.int (0)),(.int (1)),(.int (0))]),(.tuple [(.int (1)),(.int (0)),(.int (0))])])
def jo:Ka:=(.int (4))
def XS:List (Str×List Str):=[("SheetError", ["SheetError", "ValueError"]),("NoDrawing", ["NoDrawing", "SheetError", "ValueError"]),("NoBend", ["NoBend", "SheetError", "ValueError"]),("NoSquare", ["NoSquare", "SheetError", "ValueError"]),("TooMany", ["TooMany", "SheetError", "ValueError"]),("NoTurn", ["NoTurn", "SheetError", "ValueError"]),("NoRow", ["NoRow", "SheetError", "ValueError"]),("NoName", ["NoName", "SheetError", "ValueError"]),("NotClosed", ["NotClosed", "SheetError", "ValueError"]),("NoSheet", ["NoSheet", "SheetError", "ValueError"]),("NoSolid", ["NoSolid", "SheetError", "ValueError"]),("NoTree", ["NoTree", "SheetError", "ValueError"]),("NoWay", ["NoWay", "SheetError", "ValueError"]),("Crowded", ["Crowded", "SheetError", "ValueError"])]
abbrev JM:KY:=(clsB (top 14)).getD 0 (.Pass ⟨0,0,0,0⟩)
theorem qcu:ScOk ["self", "edge"] ["self", "edge"] ["SheetError"] (qj JM):=scmk (by kernel_rfl)
theorem qeK {h:Kx}(X:K.In h)(G:h.Ns mainGlobals mg)(F:IniF K "Crowded" "edge" "SheetError" "Crowded.__init__" JM):KnownI P w K mg base "Crowded" "edge" 1 :=
 IniF.known X G qcu (by decide) (by decide +kernel) (by decide +kernel) (by decide +kernel) rfl (fun _=>rfl) (fun F=>F.binds (ps:=["self", "edge"]) fun _ _ _ _ _ _ us hl=>match us,hl with | [_,_],_=>rfl) F
abbrev Tq4:KY:=top 16
abbrev QS:List Str:=["things"]
theorem Zm:ScOk QS ["things"] ["enumerate", "dict"] (qj Tq4):=scmk (by kernel_rfl)
def jJ:Rho->Option Out:=(sRet (evA (aC (jW 1 2 (evI (vr 0) WX) (unpD 2 (gsC (gNm 1) (gsC (gNm 2) gsN))) tT (evA (aC (vr 2) (aC (vr 1) aN)) tupD)) aN) qaI))
def Qy (ds:List Ka):Option Ka:=ob (jJ (rho0 QS.length ds)) outD
theorem qaU (F:Fun K "numbers_of" "numbers_of" Tq4 f fd)(m:mg "numbers_of" = some (.ref f))(b:Binds K fd ["things"] [])(z_dict:mg "dict" = none)(z_enumerate:mg "enumerate" = none):Known P w K mg base "numbers_of" 1 1 Qy:=by
 refine ⟨f,fd,["things"],F.pure (k:=0) (u:=jJ) (M':=[]) Zm.fs rfl (fun cdv A outer s H E hr G=>?_),m,F.kp,b⟩
 refine qu ?_
 refine qJ ?_
 refine Ze ?_
 refine Js (qhn hr) (Zm.gl 1 rfl rfl) z_dict rfl ?_
 refine qb ?_ ?_
 refine qb1 (CompOk.of (k:=2) QS ["things", "k", "thing"] (qj Tq4) rfl rfl rfl (by decide +kernel)) (qdF (Jq (Z8 (by decide)) (Jq (Z8 (by decide)) qbD))) ?_ (fun _ _ _ _ _ _=>qb4 rfl (jB (Jt (i:=1) (CompOk.of (k:=2) QS ["things", "k", "thing"] (qj Tq4) rfl rfl rfl (by decide +kernel)) rfl (by decide +kernel) _ _ _ _ _ _) (jB (Jt (i:=2) (CompOk.of (k:=2) QS ["things", "k", "thing"] (qj Tq4) rfl rfl rfl (by decide +kernel)) rfl (by decide +kernel) _ _ _ _ _ _) qal))) (fun _ _ _ _ _ _=>?_) (fun _ _ _ _ _ _=>?_)
 refine qb5 (Zm.gl 0 rfl rfl) z_enumerate ?_
 exact qd 0 (Zm.vis 0 rfl) (by decide)
 exact je
 refine zL ?_
 refine qb ?_ ?_
 exact qd 2 (qK (by decide +kernel)) (by decide)
 refine qb ?_ ?_
 exact qd 1 (qK (by decide +kernel)) (by decide)
 exact qi
 exact qi
abbrev Tq27:KY:=top 19
abbrev qc8:List Str:=["one", "other"]
theorem jk:ScOk qc8 ["one", "other"] [] (qj Tq27):=scmk (by kernel_rfl)
def Ju:Rho->Option Out:=(sRet (evA (aC (ev2 (ev2 (vr 0) (kd (.int 0)) ixD) (ev2 (vr 1) (kd (.int 0)) ixD) qP) (aC (ev2 (ev2 (vr 0) (kd (.int 1)) ixD) (ev2 (vr 1) (kd (.int 1)) ixD) qP) (aC (ev2 (ev2 (vr 0) (kd (.int 2)) ixD) (ev2 (vr 1) (kd (.int 2)) ixD) qP) aN))) tupD))
def zP (ds:List Ka):Option Ka:=ob (Ju (rho0 qc8.length ds)) outD
theorem qib (F:Fun K "added" "added" Tq27 f fd)(m:mg "added" = some (.ref f))(b:Binds K fd ["one", "other"] []):Known P w K mg base "added" 2 1 zP:=by
 refine ⟨f,fd,["one", "other"],F.pure (k:=0) (u:=Ju) (M':=[]) jk.fs rfl (fun cdv A outer s H E hr G=>?_),m,F.kp,b⟩
 refine qu ?_
 refine qJ ?_
 refine zL ?_
 refine qb ?_ ?_
 refine qI Qa ?_ ?_
 refine q9 ?_ ?_
 exact qd 0 (jk.vis 0 rfl) (by decide)
 exact ql
 refine q9 ?_ ?_
 exact qd 1 (jk.vis 1 rfl) (by decide)
 exact ql
 refine qb ?_ ?_
 refine qI Qa ?_ ?_
 refine q9 ?_ ?_
 exact qd 0 (jk.vis 0 rfl) (by decide)
 exact ql
 refine q9 ?_ ?_
 exact qd 1 (jk.vis 1 rfl) (by decide)
 exact ql
 refine qb ?_ ?_
 refine qI Qa ?_ ?_
 refine q9 ?_ ?_
 exact qd 0 (jk.vis 0 rfl) (by decide)
 exact ql
 refine q9 ?_ ?_
 exact qd 1 (jk.vis 1 rfl) (by decide)
 exact ql
 exact qi
abbrev Tq21:KY:=top 20
abbrev WK:List Str:=["spot"]
theorem Jh:ScOk WK ["spot"] [] (qj Tq21):=scmk (by kernel_rfl)
def Yh:Rho->Option Out:=(sRet (evA (aC (ev1 (ev2 (vr 0) (kd (.int 0)) ixD) negD) (aC (ev1 (ev2 (vr 0) (kd (.int 1)) ixD) negD) (aC (ev1 (ev2 (vr 0) (kd (.int 2)) ixD) negD) aN))) tupD))
def QK (ds:List Ka):Option Ka:=ob (Yh (rho0 WK.length ds)) outD
theorem qeT (F:Fun K "negated" "negated" Tq21 f fd)(m:mg "negated" = some (.ref f))(b:Binds K fd ["spot"] []):Known P w K mg base "negated" 1 1 QK:=by
 refine ⟨f,fd,["spot"],F.pure (k:=0) (u:=Yh) (M':=[]) Jh.fs rfl (fun cdv A outer s H E hr G=>?_),m,F.kp,b⟩
 refine qu ?_
 refine qJ ?_
 refine zL ?_
 refine qb ?_ ?_
 refine qaj WR ?_
 refine q9 ?_ ?_
 exact qd 0 (Jh.vis 0 rfl) (by decide)
 exact ql
 refine qb ?_ ?_
 refine qaj WR ?_
 refine q9 ?_ ?_
 exact qd 0 (Jh.vis 0 rfl) (by decide)
 exact ql
 refine qb ?_ ?_
 refine qaj WR ?_
 refine q9 ?_ ?_
 exact qd 0 (Jh.vis 0 rfl) (by decide)
 exact ql
 exact qi
abbrev Tq22:KY:=top 22
abbrev yK:List Str:=["square"]
theorem Wz:ScOk yK ["square"] [] (qj Tq22):=scmk (by kernel_rfl)
def Yg:Rho->Option Out:=(sRet (ev2 (Qg 1 (evI (vr 0) seqD) tT (ev2 (vr 1) (kd (.int 2)) modD)) (kd (.int 0)) Zi))
def Qk (ds:List Ka):Option Ka:=ob (Yg (rho0 yK.length ds)) outD
theorem qeQ (F:Fun K "axis_of" "axis_of" Tq22 f fd)(m:mg "axis_of" = some (.ref f))(b:Binds K fd ["square"] []):Known P w K mg base "axis_of" 1 1 Qk:=by
 refine ⟨f,fd,["square"],F.pure (k:=0) (u:=Yg) (M':=[]) Wz.fs rfl (fun cdv A outer s H E hr G=>?_),m,F.kp,b⟩
 refine qu ?_
 refine qJ ?_
 refine qb2 hr ?_ ?_
 refine ZX (CompOk.of (k:=1) yK ["square", "number"] (qj Tq22) rfl rfl rfl (by decide +kernel)) rfl (by decide +kernel) ?_ (fun _ _ _ _ _ _=>?_) (fun _ _ _ _ _ _=>?_)
 refine zy ?_
 exact qd 0 (Wz.vis 0 rfl) (by decide)
 exact je
 refine qI Zk ?_ ?_
 exact qd 1 (qK (by decide +kernel)) (by decide)
 exact ql
 exact ql
abbrev Tq26:KY:=top 23
abbrev Y7:List Str:=["spot", "axis"]
theorem Y6:ScOk Y7 ["spot", "axis"] ["UNITS", "sorted"] (qj Tq26):=scmk (by kernel_rfl)
def Jd:Rho->Option Out:=(sRet (evA (aC (Qg 2 (evI (kd Zb) seqD) (tV (ev2 (ev2 (vr 2) (vr 1) ixD) (kd (.int 0)) eqD)) (evC 2 (aC (vr 0) (aC (vr 2) aN)) zP)) aN) zb))
def Qs (ds:List Ka):Option Ka:=ob (Jd (rho0 Y7.length ds)) outD
theorem qgd (F:Fun K "around" "around" Tq26 f fd)(m:mg "around" = some (.ref f))(b:Binds K fd ["spot", "axis"] [])(K_added:Known P w K mg base "added" 2 1 zP)(z_sorted:mg "sorted" = none)(C_UNITS:yH K mg "UNITS" Zb):Known P w K mg base "around" 2 2 Qs:=by
 refine ⟨f,fd,["spot", "axis"],F.pure (k:=1) (u:=Jd) (M':=[]) Y6.fs rfl (fun cdv A outer s H E hr G=>?_),m,F.kp,b⟩
 refine qu ?_
 refine qJ ?_
 refine Ze ?_
 refine ZM (ZJ hr) (Y6.gl 1 rfl rfl) z_sorted zZ ?_
 refine qb ?_ ?_
 refine ZX (CompOk.of (k:=1) Y7 ["spot", "axis", "unit"] (qj Tq26) rfl rfl rfl (by decide +kernel)) rfl (by decide +kernel) ?_ (fun _ _ _ _ _ _=>?_) (fun _ _ _ _ _ _=>?_)
 refine zy ?_
 exact Wa C_UNITS (Y6.gl 0 rfl rfl)
 refine jg ?_
 refine qX (d_eq hr) ?_ ?_ (zj _)
 refine q9 ?_ ?_
 exact qd 2 (qK (by decide +kernel)) (by decide)
 exact qd 1 (qK (by decide +kernel)) (by decide)
 exact ql
 refine qC K_added hr (by decide) (YS (by decide +kernel)) ?_ rfl
 refine qb ?_ ?_
 exact qd 0 (qK (by decide +kernel)) (by decide)
 refine qb ?_ ?_
 exact qd 2 (qK (by decide +kernel)) (by decide)
 exact qi
 exact qi
abbrev Tq17:KY:=top 24
abbrev Y8:List Str:=["square"]
theorem Zy:ScOk Y8 ["square"] ["axis_of", "around"] (qj Tq17):=scmk (by kernel_rfl)
def JQ:Rho->Option Out:=(sRet (evC 2 (aC (vr 0) (aC (evC 1 (aC (vr 0) aN) Qk) aN)) Qs))
def Q7 (ds:List Ka):Option Ka:=ob (JQ (rho0 Y8.length ds)) outD
theorem qcI (F:Fun K "edges_of" "edges_of" Tq17 f fd)(m:mg "edges_of" = some (.ref f))(b:Binds K fd ["square"] [])(K_around:Known P w K mg base "around" 2 2 Qs)(K_axis_of:Known P w K mg base "axis_of" 1 1 Qk):Known P w K mg base "edges_of" 1 3 Q7:=by
 refine ⟨f,fd,["square"],F.pure (k:=2) (u:=JQ) (M':=[]) Zy.fs rfl (fun cdv A outer s H E hr G=>?_),m,F.kp,b⟩
 refine qu ?_
 refine qJ ?_
 refine qC K_around hr (by decide) (Zy.gl 1 rfl rfl) ?_ rfl
 refine qb ?_ ?_
 exact qd 0 (Zy.vis 0 rfl) (by decide)
 refine qb ?_ ?_
 refine qC K_axis_of hr (by decide) (Zy.gl 0 rfl rfl) ?_ rfl
 refine qb ?_ ?_
 exact qd 0 (Zy.vis 0 rfl) (by decide)
 exact qi
 exact qi
abbrev Tq5:KY:=top 25
abbrev jl:List Str:=["edge"]
theorem Zn:ScOk jl ["edge"] ["around"] (qj Tq5):=scmk (by kernel_rfl)
def jL:Rho->Option Out:=(sRet (evC 2 (aC (vr 0) (aC (ev2 (Qg 1 (evI (vr 0) seqD) tT (ev2 (vr 1) (kd (.int 2)) modD)) (kd (.int 1)) Zi) aN)) Qs))
def Qe (ds:List Ka):Option Ka:=ob (jL (rho0 jl.length ds)) outD
theorem qaW (F:Fun K "squares_at" "squares_at" Tq5 f fd)(m:mg "squares_at" = some (.ref f))(b:Binds K fd ["edge"] [])(K_around:Known P w K mg base "around" 2 2 Qs):Known P w K mg base "squares_at" 1 3 Qe:=by
 refine ⟨f,fd,["edge"],F.pure (k:=2) (u:=jL) (M':=[]) Zn.fs rfl (fun cdv A outer s H E hr G=>?_),m,F.kp,b⟩
 refine qu ?_
 refine qJ ?_
 refine qC K_around hr (by decide) (Zn.gl 0 rfl rfl) ?_ rfl
 refine qb ?_ ?_
 exact qd 0 (Zn.vis 0 rfl) (by decide)
 refine qb ?_ ?_
 refine qb2 hr ?_ ?_
 refine ZX (CompOk.of (k:=1) jl ["edge", "number"] (qj Tq5) rfl rfl rfl (by decide +kernel)) rfl (by decide +kernel) ?_ (fun _ _ _ _ _ _=>?_) (fun _ _ _ _ _ _=>?_)
 refine zy ?_
 exact qd 0 (Zn.vis 0 rfl) (by decide)
 exact je
 refine qI Zk ?_ ?_
 exact qd 1 (qK (by decide +kernel)) (by decide)
 exact ql
 exact ql
 exact qi
abbrev Tq12:KY:=top 26
abbrev Yp:List Str:=["cube"]
theorem ZS:ScOk Yp ["cube"] [] (qj Tq12):=scmk (by kernel_rfl)
def Jf:Rho->Option Out:=(sRet (evA (aC (ev2 (ev2 (kd (.int 2)) (ev2 (vr 0) (kd (.int 0)) ixD) mulD) (kd (.int 1)) qP) (aC (ev2 (ev2 (kd (.int 2)) (ev2 (vr 0) (kd (.int 1)) ixD) mulD) (kd (.int 1)) qP) (aC (ev2 (ev2 (kd (.int 2)) (ev2 (vr 0) (kd (.int 2)) ixD) mulD) (kd (.int 1)) qP) aN))) tupD))
def zQ (ds:List Ka):Option Ka:=ob (Jf (rho0 Yp.length ds)) outD
theorem qbN (F:Fun K "middle_of" "middle_of" Tq12 f fd)(m:mg "middle_of" = some (.ref f))(b:Binds K fd ["cube"] []):Known P w K mg base "middle_of" 1 1 zQ:=by
 refine ⟨f,fd,["cube"],F.pure (k:=0) (u:=Jf) (M':=[]) ZS.fs rfl (fun cdv A outer s H E hr G=>?_),m,F.kp,b⟩
 refine qu ?_
 refine qJ ?_
 refine zL ?_
 refine qb ?_ ?_
 refine qI Qa ?_ ?_
 refine qI jN ?_ ?_
 exact ql
 refine q9 ?_ ?_
 exact qd 0 (ZS.vis 0 rfl) (by decide)
 exact ql
 exact ql
 refine qb ?_ ?_
 refine qI Qa ?_ ?_
 refine qI jN ?_ ?_
 exact ql
 refine q9 ?_ ?_
 exact qd 0 (ZS.vis 0 rfl) (by decide)
 exact ql
 exact ql
 refine qb ?_ ?_
 refine qI Qa ?_ ?_
 refine qI jN ?_ ?_
 exact ql
 refine q9 ?_ ?_
 exact qd 0 (ZS.vis 0 rfl) (by decide)
 exact ql
 exact ql
 exact qi
abbrev Tq23:KY:=top 27
abbrev WF:List Str:=["spot"]
theorem Jg:ScOk WF ["spot"] [] (qj Tq23):=scmk (by kernel_rfl)
def jj:Rho->Option Out:=(sRet (evA (aC (ev2 (ev2 (vr 0) (kd (.int 0)) ixD) (kd (.int 2)) QB) (aC (ev2 (ev2 (vr 0) (kd (.int 1)) ixD) (kd (.int 2)) QB) (aC (ev2 (ev2 (vr 0) (kd (.int 2)) ixD) (kd (.int 2)) QB) aN))) tupD))
def Q6 (ds:List Ka):Option Ka:=ob (jj (rho0 WF.length ds)) outD
theorem qeS (F:Fun K "cube_of" "cube_of" Tq23 f fd)(m:mg "cube_of" = some (.ref f))(b:Binds K fd ["spot"] []):Known P w K mg base "cube_of" 1 1 Q6:=by
 refine ⟨f,fd,["spot"],F.pure (k:=0) (u:=jj) (M':=[]) Jg.fs rfl (fun cdv A outer s H E hr G=>?_),m,F.kp,b⟩
 refine qu ?_
 refine qJ ?_
 refine zL ?_
 refine qb ?_ ?_
 refine qI Z1 ?_ ?_
 refine q9 ?_ ?_
 exact qd 0 (Jg.vis 0 rfl) (by decide)
 exact ql
 exact ql
 refine qb ?_ ?_
 refine qI Z1 ?_ ?_
 refine q9 ?_ ?_
 exact qd 0 (Jg.vis 0 rfl) (by decide)
 exact ql
 exact ql
 refine qb ?_ ?_
 refine qI Z1 ?_ ?_
 refine q9 ?_ ?_
 exact qd 0 (Jg.vis 0 rfl) (by decide)
 exact ql
 exact ql
 exact qi
abbrev Tq18:KY:=top 28
abbrev ZC:List Str:=["square", "axis", "lower"]
theorem zH:ScOk ZC ["square"] ["axis_of", "enumerate", "cube_of"] (qj Tq18):=scmk (by kernel_rfl)
def ZR:Rho->Option Out:=(seqO (sSet 1 (evC 1 (aC (vr 0) aN) Qk)) (seqO (q8 2 (jW 3 2 (evI (vr 0) WX) (unpD 2 (gsC (gNm 3) (gsC (gNm 4) gsN))) tT (vIf (tV (ev2 (vr 3) (vr 1) eqD)) (ev2 (vr 4) (kd (.int 1)) subD) (vr 4)))) (sRet (evA (aC (evC 1 (aC (vr 2) aN) Q6) (aC (evC 1 (aC (vr 0) aN) Q6) aN)) tupD))))
def QF (ds:List Ka):Option Ka:=ob (ZR (rho0 ZC.length ds)) outD
theorem qcH (F:Fun K "cubes_at" "cubes_at" Tq18 f fd)(m:mg "cubes_at" = some (.ref f))(b:Binds K fd ["square"] [])(K_axis_of:Known P w K mg base "axis_of" 1 1 Qk)(K_cube_of:Known P w K mg base "cube_of" 1 1 Q6)(z_enumerate:mg "enumerate" = none):Known P w K mg base "cubes_at" 1 2 QF:=by
 refine ⟨f,fd,["square"],F.pure (k:=1) (u:=ZR) (M':=[]) zH.fs rfl (fun cdv A outer s H E hr G=>?_),m,F.kp,b⟩
 refine qp (M1:=[]) ?_ ?_
 refine qU 1 ?_ ?_ ?_ ?_ ?_ ?_ ?_
 ·exact zH.fs.nd
 ·exact (zH.loc 1 rfl)
 ·rfl
 ·rfl
 ·exact .inl rfl
 ·decide
 refine qC K_axis_of hr (by decide) (zH.gl 0 rfl rfl) ?_ rfl
 refine qb ?_ ?_
 exact qd 0 (zH.vis 0 rfl) (by decide)
 exact qi
 refine qp (M1:=[2]) ?_ ?_
 refine qam 2 (CompOk.of (k:=2) ZC ["square", "axis", "lower", "k", "number"] (qj Tq18) rfl rfl rfl (by decide +kernel)) (qdF (Jq (Z8 (by decide)) (Jq (Z8 (by decide)) qbD))) (qj Tq18) rfl (by decide +kernel) (by decide) (by decide) ?_ (fun _ _ _ _ _ _=>qb4 rfl (jB (Jt (i:=3) (CompOk.of (k:=2) ZC ["square", "axis", "lower", "k", "number"] (qj Tq18) rfl rfl rfl (by decide +kernel)) rfl (by decide +kernel) _ _ _ _ _ _) (jB (Jt (i:=4) (CompOk.of (k:=2) ZC ["square", "axis", "lower", "k", "number"] (qj Tq18) rfl rfl rfl (by decide +kernel)) rfl (by decide +kernel) _ _ _ _ _ _) qal))) (fun _ _ _ _ _ _=>?_) (fun _ _ _ _ _ _=>?_)
 refine qb5 (zH.gl 1 rfl rfl) z_enumerate ?_
 exact qd 0 (zH.vis 0 rfl) (by decide)
 exact je
 refine Wb ?_ ?_ ?_
 refine qX (d_eq hr) ?_ ?_ (zj _)
 exact qd 3 (qK (by decide +kernel)) (by decide)
 exact qd 1 (qK (by decide +kernel)) (by decide)
 refine qI qbm ?_ ?_
 exact qd 4 (qK (by decide +kernel)) (by decide)
 exact ql
 exact qd 4 (qK (by decide +kernel)) (by decide)
 refine qu ?_
 refine qJ ?_
 refine zL ?_
 refine qb ?_ ?_
 refine qC K_cube_of hr (by decide) (zH.gl 2 rfl rfl) ?_ rfl
 refine qb ?_ ?_
 exact qd 2 (zH.vis 2 rfl) (by decide)
 exact qi
 refine qb ?_ ?_
 refine qC K_cube_of hr (by decide) (zH.gl 2 rfl rfl) ?_ rfl
 refine qb ?_ ?_
 exact qd 0 (zH.vis 0 rfl) (by decide)
 exact qi
 exact qi
abbrev Tq24:KY:=top 29
abbrev yM:List Str:=["cubes", "counts", "cube", "unit", "square"]
theorem qR:ScOk yM ["cubes"] ["middle_of", "added", "UNITS", "sorted"] (qj Tq24):=scmk (by kernel_rfl)
def Yi:Rho->Option Out:=(seqO (q8 1 (kd (.dict []))) (seqO (sFor (evI (vr 0) seqD) (gNm 2) (sFor (evI (kd Zb) seqD) (gNm 3) (seqO (sSet 4 (evC 2 (aC (evC 1 (aC (vr 2) aN) zQ) (aC (vr 3) aN)) zP)) (yE 1 (vr 4) (qQ (ev2 (ev3 (vr 1) (vr 4) (kd (.int 0)) jY) (kd (.int 1)) qP)))))) (sRet (evA (aC (Qg 5 (evI (vr 1) Yu) (tV (ev2 (ev2 (vr 1) (vr 5) ix2D) (kd (.int 1)) eqD)) (vr 5)) aN) zb))))
def zG (ds:List Ka):Option Ka:=ob (Yi (rho0 yM.length ds)) outD
theorem qeU (F:Fun K "skin_of" "skin_of" Tq24 f fd)(m:mg "skin_of" = some (.ref f))(b:Binds K fd ["cubes"] [])(K_added:Known P w K mg base "added" 2 1 zP)(K_middle_of:Known P w K mg base "middle_of" 1 1 zQ)(z_sorted:mg "sorted" = none)(C_UNITS:yH K mg "UNITS" Zb):Known P w K mg base "skin_of" 1 2 zG:=by
 refine ⟨f,fd,["cubes"],F.pure (k:=1) (u:=Yi) (M':=[]) qR.fs rfl (fun cdv A outer s H E hr G=>?_),m,F.kp,b⟩
 refine qp (M1:=[1]) ?_ ?_
 refine Qw 1 ?_ ?_ ?_ ?_ ?_ ?_ ?_ ?_
 ·exact qR.fs.nd
 ·exact (qR.loc 1 rfl)
 ·rfl
 ·rfl
 ·exact .inl rfl
 ·decide
 ·decide
 exact Wg
 refine qp (M1:=[1]) ?_ ?_
 refine Qf Vm rfl ?_ (fun _=>?_) (fun _=>?_)
 refine zy ?_
 exact qd 0 (qR.vis 0 rfl) (by decide)
 exact zf 2 qR.fs.nd (qR.loc 2 rfl) (by decide)
 refine qu ?_
 refine Qf Vm rfl ?_ (fun _=>?_) (fun _=>?_)
 refine zy ?_
 exact Wa C_UNITS (qR.gl 2 rfl rfl)
 exact zf 3 qR.fs.nd (qR.loc 3 rfl) (by decide)
 refine qp (M1:=[1]) ?_ ?_
 refine qU 4 ?_ ?_ ?_ ?_ ?_ ?_ ?_
 ·exact qR.fs.nd
 ·exact (qR.loc 4 rfl)
 ·rfl
 ·rfl
 ·exact .inl rfl
 ·decide
 refine qC K_added hr (by decide) (qR.gl 1 rfl rfl) ?_ rfl
 refine qb ?_ ?_
 refine qC K_middle_of hr (by decide) (qR.gl 0 rfl rfl) ?_ rfl
 refine qb ?_ ?_
 exact qd 2 (qR.vis 2 rfl) (by decide)
 exact qi
 refine qb ?_ ?_
 exact qd 3 (qR.vis 3 rfl) (by decide)
 exact qi
 refine qu ?_
 refine qan hr 1 (qR.vis 1 rfl) (by decide) (by decide) ?_ ?_
 exact qd 4 (qR.vis 4 rfl) (by decide)
 refine qI Qa ?_ ?_
 refine qd2 hr ?_ ?_ ?_
 exact qd 1 (qR.vis 1 rfl) (by decide)
 exact qd 4 (qR.vis 4 rfl) (by decide)
 exact ql
 exact ql
 refine qu ?_
 refine qJ ?_
 refine Ze ?_
 refine ZM (ZJ hr) (qR.gl 3 rfl rfl) z_sorted zZ ?_
 refine qb ?_ ?_
 refine ZX (CompOk.of (k:=1) yM ["cubes", "counts", "cube", "unit", "", "square"] (qj Tq24) rfl rfl rfl (by decide +kernel)) rfl (by decide +kernel) ?_ (fun _ _ _ _ _ _=>?_) (fun _ _ _ _ _ _=>?_)
 refine yq ?_
 exact qd 1 (qR.vis 1 rfl) (by decide)
 refine jg ?_
 refine qX (d_eq hr) ?_ ?_ (zj _)
 refine Wd hr ?_ ?_
 exact qd 1 (qK (by decide +kernel)) (by decide)
 exact qd 5 (qK (by decide +kernel)) (by decide)
 exact ql
 exact qd 5 (qK (by decide +kernel)) (by decide)
 exact qi
abbrev Tq3:KY:=top 30
abbrev Jv:List Str:=["squares", "counts", "square", "edge"]
theorem qN:ScOk Jv ["squares"] ["edges_of"] (qj Tq3):=scmk (by kernel_rfl)
def Z5:Rho->Option Out:=(seqO (q8 1 (kd (.dict []))) (seqO (sFor (evI (vr 0) seqD) (gNm 2) (sFor (evI (evC 1 (aC (vr 2) aN) Q7) seqD) (gNm 3) (yE 1 (vr 3) (qQ (ev2 (ev3 (vr 1) (vr 3) (kd (.int 0)) jY) (kd (.int 1)) qP))))) (sRet (vr 1))))
def zr (ds:List Ka):Option Ka:=ob (Z5 (rho0 Jv.length ds)) outD
theorem Ww (F:Fun K "edge_counts" "edge_counts" Tq3 f fd)(m:mg "edge_counts" = some (.ref f))(b:Binds K fd ["squares"] [])(K_edges_of:Known P w K mg base "edges_of" 1 3 Q7):Known P w K mg base "edge_counts" 1 4 zr:=by
 refine ⟨f,fd,["squares"],F.pure (k:=3) (u:=Z5) (M':=[]) qN.fs rfl (fun cdv A outer s H E hr G=>?_),m,F.kp,b⟩
 refine qp (M1:=[1]) ?_ ?_
 refine Qw 1 ?_ ?_ ?_ ?_ ?_ ?_ ?_ ?_
 ·exact qN.fs.nd
 ·exact (qN.loc 1 rfl)
 ·rfl
 ·rfl
 ·exact .inl rfl
 ·decide
 ·decide
 exact Wg
 refine qp (M1:=[1]) ?_ ?_
 refine Qf Vm rfl ?_ (fun _=>?_) (fun _=>?_)
 refine zy ?_
 exact qd 0 (qN.vis 0 rfl) (by decide)
 exact zf 2 qN.fs.nd (qN.loc 2 rfl) (by decide)
 refine qu ?_
 refine Qf Vm rfl ?_ (fun _=>?_) (fun _=>?_)
 refine zy ?_
 refine qC K_edges_of hr (by decide) (qN.gl 0 rfl rfl) ?_ rfl
 refine qb ?_ ?_
 exact qd 2 (qN.vis 2 rfl) (by decide)
 exact qi
 exact zf 3 qN.fs.nd (qN.loc 3 rfl) (by decide)
 refine qu ?_
 refine qan hr 1 (qN.vis 1 rfl) (by decide) (by decide) ?_ ?_
 exact qd 3 (qN.vis 3 rfl) (by decide)
 refine qI Qa ?_ ?_
 refine qd2 hr ?_ ?_ ?_
 exact qd 1 (qN.vis 1 rfl) (by decide)
 exact qd 3 (qN.vis 3 rfl) (by decide)
 exact ql
 exact ql
 refine qu ?_
 refine qJ ?_
 exact qd 1 (qN.vis 1 rfl) (by decide)
abbrev Tq0:KY:=top 32
abbrev jT:List Str:=["solid", "square", "pair", "within"]
theorem qH:ScOk jT ["solid", "square"] ["cubes_at", "middle_of", "negated", "added"] (qj Tq0):=scmk (by kernel_rfl)
def Q0:Rho->Option Out:=(seqO (sSet 2 (evC 1 (aC (vr 1) aN) QF)) (seqO (sSet 3 (vIf (tV (ev2 (ev2 (vr 2) (kd (.int 0)) ixD) (vr 0) inD)) (ev2 (vr 2) (kd (.int 0)) ixD) (ev2 (vr 2) (kd (.int 1)) ixD))) (sRet (evC 2 (aC (vr 1) (aC (evC 1 (aC (evC 1 (aC (vr 3) aN) zQ) aN) QK) aN)) zP))))
def zX (ds:List Ka):Option Ka:=ob (Q0 (rho0 jT.length ds)) outD
theorem wV (F:Fun K "outward_from" "outward_from" Tq0 f fd)(m:mg "outward_from" = some (.ref f))(b:Binds K fd ["solid", "square"] [])(K_cubes_at:Known P w K mg base "cubes_at" 1 2 QF)(K_added:Known P w K mg base "added" 2 1 zP)(K_negated:Known P w K mg base "negated" 1 1 QK)(K_middle_of:Known P w K mg base "middle_of" 1 1 zQ):Known P w K mg base "outward_from" 2 3 zX:=by
 refine ⟨f,fd,["solid", "square"],F.pure (k:=2) (u:=Q0) (M':=[]) qH.fs rfl (fun cdv A outer s H E hr G=>?_),m,F.kp,b⟩
 refine qp (M1:=[]) ?_ ?_
 refine qU 2 ?_ ?_ ?_ ?_ ?_ ?_ ?_
 ·exact qH.fs.nd
 ·exact (qH.loc 2 rfl)
 ·rfl
 ·rfl
 ·exact .inl rfl
 ·decide
 refine qC K_cubes_at hr (by decide) (qH.gl 0 rfl rfl) ?_ rfl
 refine qb ?_ ?_
 exact qd 1 (qH.vis 1 rfl) (by decide)
 exact qi
 refine qp (M1:=[]) ?_ ?_
 refine qU 3 ?_ ?_ ?_ ?_ ?_ ?_ ?_
 ·exact qH.fs.nd
 ·exact (qH.loc 3 rfl)
 ·rfl
 ·rfl
 ·exact .inl rfl
 ·decide
 refine Wb ?_ ?_ ?_
 refine qX (d_in hr) ?_ ?_ rfl
 refine q9 ?_ ?_
 exact qd 2 (qH.vis 2 rfl) (by decide)
 exact ql
 exact qd 0 (qH.vis 0 rfl) (by decide)
 refine q9 ?_ ?_
 exact qd 2 (qH.vis 2 rfl) (by decide)
 exact ql
 refine q9 ?_ ?_
 exact qd 2 (qH.vis 2 rfl) (by decide)
 exact ql
 refine qu ?_
 refine qJ ?_
 refine qC K_added hr (by decide) (qH.gl 3 rfl rfl) ?_ rfl
 refine qb ?_ ?_
 exact qd 1 (qH.vis 1 rfl) (by decide)
 refine qb ?_ ?_
 refine qC K_negated hr (by decide) (qH.gl 2 rfl rfl) ?_ rfl
 refine qb ?_ ?_
 refine qC K_middle_of hr (by decide) (qH.gl 1 rfl rfl) ?_ rfl
 refine qb ?_ ?_
 exact qd 3 (qH.vis 3 rfl) (by decide)
 exact qi
 exact qi
 exact qi
abbrev Tq25:KY:=top 35
abbrev yL:List Str:=["solid", "counts"]
theorem QG:ScOk yL ["solid"] ["skin_of", "edge_counts", "min"] (qj Tq25):=scmk (by kernel_rfl)
def ji:Rho->Option Out:=(seqO (sSet 1 (evC 1 (aC (evC 1 (aC (vr 0) aN) zG) aN) zr)) (sRet (ev2 (Qg 2 (evI (vr 1) Yu) (tV (ev2 (ev2 (vr 1) (vr 2) ix2D) (kd jo) eqD)) (vr 2)) (kd .none) qae)))
def zx (ds:List Ka):Option Ka:=ob (ji (rho0 yL.length ds)) outD
theorem qeR (F:Fun K "crowded" "crowded" Tq25 f fd)(m:mg "crowded" = some (.ref f))(b:Binds K fd ["solid"] [])(K_edge_counts:Known P w K mg base "edge_counts" 1 4 zr)(K_skin_of:Known P w K mg base "skin_of" 1 2 zG)(z_min:mg "min" = none)(C_CROWD:yH K mg "CROWD" jo):Known P w K mg base "crowded" 1 5 zx:=by
 refine ⟨f,fd,["solid"],F.pure (k:=4) (u:=ji) (M':=[]) QG.fs rfl (fun cdv A outer s H E hr G=>?_),m,F.kp,b⟩
 refine qp (M1:=[]) ?_ ?_
 refine qU 1 ?_ ?_ ?_ ?_ ?_ ?_ ?_
 ·exact QG.fs.nd
 ·exact (QG.loc 1 rfl)
 ·rfl
 ·rfl
 ·exact .inl rfl
 ·decide
 refine qC K_edge_counts hr (by decide) (QG.gl 1 rfl rfl) ?_ rfl
 refine qb ?_ ?_
 refine qC K_skin_of hr (by decide) (QG.gl 0 rfl rfl) ?_ rfl
 refine qb ?_ ?_
 exact qd 0 (QG.vis 0 rfl) (by decide)
 exact qi
 exact qi
 refine qu ?_
 refine qJ ?_
 refine qe5 (qjD hr) (QG.gl 2 rfl rfl) z_min qeq ?_ ?_
 refine ZX (CompOk.of (k:=1) yL ["solid", "counts", "edge"] (qj Tq25) rfl rfl rfl (by decide +kernel)) rfl (by decide +kernel) ?_ (fun _ _ _ _ _ _=>?_) (fun _ _ _ _ _ _=>?_)
 refine yq ?_
 exact qd 1 (QG.vis 1 rfl) (by decide)
 refine jg ?_
 refine qX (d_eq hr) ?_ ?_ (zj _)
 refine Wd hr ?_ ?_
 exact qd 1 (qK (by decide +kernel)) (by decide)
 exact qd 2 (qK (by decide +kernel)) (by decide)
 exact Wa C_CROWD (YS (by decide +kernel))
 exact qd 2 (qK (by decide +kernel)) (by decide)
 exact j5
abbrev Tq13:KY:=top 37
abbrev Yo:List Str:=["solid", "square", "edge", "other", "beyond"]
theorem qT:ScOk Yo ["solid", "square", "edge", "other"] ["negated", "added", "outward_from"] (qj Tq13):=scmk (by kernel_rfl)
def Je:Rho->Option Out:=(seqO (sSet 4 (evC 2 (aC (vr 3) (aC (evC 1 (aC (vr 2) aN) QK) aN)) zP)) (seqO (sIf (tV (ev2 (vr 4) (evC 2 (aC (vr 2) (aC (evC 1 (aC (vr 1) aN) QK) aN)) zP) eqD)) (sRet (kd (.int 0))) sN) (sRet (vIf (tV (ev2 (vr 4) (evC 2 (aC (vr 0) (aC (vr 1) aN)) zX) eqD)) (kd (.int 1)) (ev1 (kd (.int 1)) negD)))))
def Qt (ds:List Ka):Option Ka:=ob (Je (rho0 Yo.length ds)) outD
theorem qbM (F:Fun K "bend_over" "bend_over" Tq13 f fd)(m:mg "bend_over" = some (.ref f))(b:Binds K fd ["solid", "square", "edge", "other"] [])(K_added:Known P w K mg base "added" 2 1 zP)(K_negated:Known P w K mg base "negated" 1 1 QK)(K_outward_from:Known P w K mg base "outward_from" 2 3 zX):Known P w K mg base "bend_over" 4 4 Qt:=by
 refine ⟨f,fd,["solid", "square", "edge", "other"],F.pure (k:=3) (u:=Je) (M':=[]) qT.fs rfl (fun cdv A outer s H E hr G=>?_),m,F.kp,b⟩
 refine qp (M1:=[]) ?_ ?_
 refine qU 4 ?_ ?_ ?_ ?_ ?_ ?_ ?_
 ·exact qT.fs.nd
 ·exact (qT.loc 4 rfl)
 ·rfl
 ·rfl
 ·exact .inl rfl
 ·decide
 refine qC K_added hr (by decide) (qT.gl 1 rfl rfl) ?_ rfl
 refine qb ?_ ?_
 exact qd 3 (qT.vis 3 rfl) (by decide)
 refine qb ?_ ?_
 refine qC K_negated hr (by decide) (qT.gl 0 rfl rfl) ?_ rfl
 refine qb ?_ ?_
 exact qd 2 (qT.vis 2 rfl) (by decide)
 exact qi
 exact qi
 refine qp (M1:=[]) ?_ ?_
 refine Ql ?_ ?_ ?_
 refine qX (d_eq hr) ?_ ?_ (zj _)
 exact qd 4 (qT.vis 4 rfl) (by decide)
 refine qC K_added hr (by decide) (qT.gl 1 rfl rfl) ?_ rfl
 refine qb ?_ ?_
 exact qd 2 (qT.vis 2 rfl) (by decide)
 refine qb ?_ ?_
 refine qC K_negated hr (by decide) (qT.gl 0 rfl rfl) ?_ rfl
 refine qb ?_ ?_
 exact qd 1 (qT.vis 1 rfl) (by decide)
 exact qi
 exact qi
 refine qu ?_
 refine qJ ?_
 exact ql
 exact zT
 refine qu ?_
 refine qJ ?_
 refine Wb ?_ ?_ ?_
 refine qX (d_eq hr) ?_ ?_ (zj _)
 exact qd 4 (qT.vis 4 rfl) (by decide)
 refine qC K_outward_from hr (by decide) (qT.gl 2 rfl rfl) ?_ rfl
 refine qb ?_ ?_
 exact qd 0 (qT.vis 0 rfl) (by decide)
 refine qb ?_ ?_
 exact qd 1 (qT.vis 1 rfl) (by decide)
 exact qi
 exact ql
 refine qaj WR ?_
 exact ql
abbrev Tq1:KY:=top 39
abbrev jP:List Str:=["_law_script", "_law_k"]
theorem zV:ScOk jP ["_law_script", "_law_k"] ["len"] (qj Tq1):=scmk (by kernel_rfl)
def ZQ:Rho->Option Out:=(seqO (sIf (tV (ev2 (vr 1) (evA (aC (vr 0) aN) lenD) ltD2)) (sRet (ev2 (vr 0) (vr 1) ixD)) sN) (sRet (kd (.int 0))))
def zW (ds:List Ka):Option Ka:=ob (ZQ (rho0 jP.length ds)) outD
theorem wR (F:Fun K "_law_cell_at" "_law_cell_at" Tq1 f fd)(m:mg "_law_cell_at" = some (.ref f))(b:Binds K fd ["_law_script", "_law_k"] [])(z_len:mg "len" = none):Known P w K mg base "_law_cell_at" 2 1 zW:=by
 refine ⟨f,fd,["_law_script", "_law_k"],F.pure (k:=0) (u:=ZQ) (M':=[]) zV.fs rfl (fun cdv A outer s H E hr G=>?_),m,F.kp,b⟩
 refine qp (M1:=[]) ?_ ?_
 refine Ql ?_ ?_ ?_
 refine qX (qje hr) ?_ ?_ (zj _)
 exact qd 1 (zV.vis 1 rfl) (by decide)
 refine ZL wk (zV.gl 0 rfl rfl) z_len Xd ?_
 refine qb ?_ ?_
 exact qd 0 (zV.vis 0 rfl) (by decide)
 exact qi
 refine qu ?_
 refine qJ ?_
 refine q9 ?_ ?_
 exact qd 0 (zV.vis 0 rfl) (by decide)
 exact qd 1 (zV.vis 1 rfl) (by decide)
 exact zT
 refine qu ?_
 refine qJ ?_
 exact ql
abbrev Tq6:KY:=top 40
abbrev JX:List Str:=["_law_found"]
theorem zY:ScOk JX ["_law_found"] ["isinstance", "int", "bool"] (qj Tq6):=scmk (by kernel_rfl)
def yG:Rho->Option Out:=(sRet (vA (ev1 (vr 0) (isiD "int")) (vN (ev1 (vr 0) (isiD "bool")))))
def QV (ds:List Ka):Option Ka:=ob (yG (rho0 JX.length ds)) outD
theorem qaT (F:Fun K "_law_whole" "_law_whole" Tq6 f fd)(m:mg "_law_whole" = some (.ref f))(b:Binds K fd ["_law_found"] [])(z_isinstance:mg "isinstance" = none)(z_int:mg "int" = none)(z_bool:mg "bool" = none):Known P w K mg base "_law_whole" 1 1 QV:=by
 refine ⟨f,fd,["_law_found"],F.pure (k:=0) (u:=yG) (M':=[]) zY.fs rfl (fun cdv A outer s H E hr G=>?_),m,F.kp,b⟩
 refine qu ?_
 refine qJ ?_
 refine j4 ?_ ?_
 refine Wc (T := "int") (qie _) (zY.gl 0 rfl rfl) z_isinstance (zY.gl 1 rfl rfl) z_int rfl rfl ?_
 exact qd 0 (zY.vis 0 rfl) (by decide)
 refine yX ?_
 refine qkq ?_
 refine Wc (T := "bool") (qgf _) (zY.gl 0 rfl rfl) z_isinstance (zY.gl 2 rfl rfl) z_bool rfl rfl ?_
 exact qd 0 (zY.vis 0 rfl) (by decide)
abbrev Tq7:KY:=top 41
abbrev JW:List Str:=["_law_found", "_law_spot", "_law_number"]
theorem qM:ScOk JW ["_law_found"] ["isinstance", "list", "tuple", "len", "_law_whole"] (qj Tq7):=scmk (by kernel_rfl)
def jH:Rho->Option Out:=(seqO (sIf (tN (tV (ev1 (vr 0) (isiD "list")))) (sRet (kd (.bool false))) sN) (seqO (sFor (evI (vr 0) seqD) (gNm 1) (seqO (sIf (tO (tN (tV (ev1 (vr 1) (isiD "tuple")))) (tV (ev2 (evA (aC (vr 1) aN) lenD) (kd (.int 3)) neD))) (sRet (kd (.bool false))) sN) (sFor (evI (vr 1) seqD) (gNm 2) (sIf (tN (tV (evC 1 (aC (vr 2) aN) QV))) (sRet (kd (.bool false))) sN)))) (sRet (kd (.bool true)))))
def zE (ds:List Ka):Option Ka:=ob (jH (rho0 JW.length ds)) outD
theorem qaS (F:Fun K "_law_spots" "_law_spots" Tq7 f fd)(m:mg "_law_spots" = some (.ref f))(b:Binds K fd ["_law_found"] [])(K__law_whole:Known P w K mg base "_law_whole" 1 1 QV)(z_isinstance:mg "isinstance" = none)(z_list:mg "list" = none)(z_tuple:mg "tuple" = none)(z_len:mg "len" = none):Known P w K mg base "_law_spots" 1 2 zE:=by
 refine ⟨f,fd,["_law_found"],F.pure (k:=1) (u:=jH) (M':=[]) qM.fs rfl (fun cdv A outer s H E hr G=>?_),m,F.kp,b⟩
 refine qp (M1:=[]) ?_ ?_
 refine Ql ?_ ?_ ?_
 refine YW ?_
 refine YX ?_
 refine Wc (T := "list") (qbO _) (qM.gl 0 rfl rfl) z_isinstance (qM.gl 1 rfl rfl) z_list rfl rfl ?_
 exact qd 0 (qM.vis 0 rfl) (by decide)
 refine qu ?_
 refine qJ ?_
 exact ZK
 exact zT
 refine qp (M1:=[]) ?_ ?_
 refine Qf Vm rfl ?_ (fun _=>?_) (fun _=>?_)
 refine zy ?_
 exact qd 0 (qM.vis 0 rfl) (by decide)
 exact zf 1 qM.fs.nd (qM.loc 1 rfl) (by decide)
 refine qp (M1:=[]) ?_ ?_
 refine Ql ?_ ?_ ?_
 refine PDW.pdt ?_
 refine qgK ?_ ?_
 refine YW ?_
 refine YX ?_
 refine Wc (T := "tuple") (kit_tuple _) (qM.gl 0 rfl rfl) z_isinstance (qM.gl 2 rfl rfl) z_tuple rfl rfl ?_
 exact qd 1 (qM.vis 1 rfl) (by decide)
 refine qd4 ?_
 refine qX (d_ne hr) ?_ ?_ (zj _)
 refine ZL wk (qM.gl 3 rfl rfl) z_len Xd ?_
 refine qb ?_ ?_
 exact qd 1 (qM.vis 1 rfl) (by decide)
 exact qi
 exact ql
 refine qu ?_
 refine qJ ?_
 exact ZK
 exact zT
 refine qu ?_
 refine Qf Vm rfl ?_ (fun _=>?_) (fun _=>?_)
 refine zy ?_
 exact qd 1 (qM.vis 1 rfl) (by decide)
 exact zf 2 qM.fs.nd (qM.loc 2 rfl) (by decide)
 refine qu ?_
 refine Ql ?_ ?_ ?_
 refine YW ?_
 refine YX ?_
 refine qC K__law_whole hr (by decide) (qM.gl 4 rfl rfl) ?_ rfl
 refine qb ?_ ?_
 exact qd 2 (qM.vis 2 rfl) (by decide)
 exact qi
 refine qu ?_
 refine qJ ?_
 exact ZK
 exact zT
 refine qu ?_
 refine qJ ?_
 exact ZK
abbrev Tq14:KY:=top 42
abbrev Ym:List Str:=["_law_cells", "_law_base_here", "_law_cell"]
theorem zc:ScOk Ym ["_law_cells"] [] (qj Tq14):=scmk (by kernel_rfl)
def Jb:Rho->Option Out:=(seqO (q8 1 (evA aN lstD)) (seqO (sFor (evI (vr 0) seqD) (gNm 2) (sIf (tV (ev2 (ev2 (vr 2) (kd (.int 5)) modD) (kd (.int 0)) eqD)) (sApp 1 (ev2 (ev2 (ev2 (vr 2) (kd (.int 5)) QB) (ev2 (ev2 (kd (.int 2)) (ev2 (kd (.int 10)) (kd (.int 19)) powD) mulD) (kd (.int 1)) qP) modD) (ev2 (kd (.int 10)) (kd (.int 19)) powD) subD)) (sApp 1 (ev2 (ev2 (ev2 (vr 2) (kd (.int 5)) QB) (kd (.int 9)) modD) (kd (.int 4)) subD)))) (sRet (vr 1))))
def QJ (ds:List Ka):Option Ka:=ob (Jb (rho0 Ym.length ds)) outD
theorem qbJ (F:Fun K "_law_base" "_law_base" Tq14 f fd)(m:mg "_law_base" = some (.ref f))(b:Binds K fd ["_law_cells"] []):Known P w K mg base "_law_base" 1 1 QJ:=by
 refine ⟨f,fd,["_law_cells"],F.pure (k:=0) (u:=Jb) (M':=[]) zc.fs rfl (fun cdv A outer s H E hr G=>?_),m,F.kp,b⟩
 refine qp (M1:=[1]) ?_ ?_
 refine Qw 1 ?_ ?_ ?_ ?_ ?_ ?_ ?_ ?_
 ·exact zc.fs.nd
 ·exact (zc.loc 1 rfl)
 ·rfl
 ·rfl
 ·exact .inl rfl
 ·decide
 ·decide
 refine j8 ?_
 exact qi
 refine qp (M1:=[1]) ?_ ?_
 refine Qf Vm rfl ?_ (fun _=>?_) (fun _=>?_)
 refine zy ?_
 exact qd 0 (zc.vis 0 rfl) (by decide)
 exact zf 2 zc.fs.nd (zc.loc 2 rfl) (by decide)
 refine qu ?_
 refine Ql ?_ ?_ ?_
 refine qX (d_eq hr) ?_ ?_ (zj _)
 refine qI Zk ?_ ?_
 exact qd 2 (zc.vis 2 rfl) (by decide)
 exact ql
 exact ql
 refine qu ?_
 refine qd3 1 (zc.vis 1 rfl) (by decide) (by decide) ?_
 refine qI qbm ?_ ?_
 refine qI Zk ?_ ?_
 refine qI Z1 ?_ ?_
 exact qd 2 (zc.vis 2 rfl) (by decide)
 exact ql
 refine qI Qa ?_ ?_
 refine qI jN ?_ ?_
 exact ql
 refine qI qjf ?_ ?_
 exact ql
 exact ql
 exact ql
 refine qI qjf ?_ ?_
 exact ql
 exact ql
 refine qu ?_
 refine qd3 1 (zc.vis 1 rfl) (by decide) (by decide) ?_
 refine qI qbm ?_ ?_
 refine qI Zk ?_ ?_
 refine qI Z1 ?_ ?_
 exact qd 2 (zc.vis 2 rfl) (by decide)
 exact ql
 exact ql
 exact ql
 refine qu ?_
 refine qJ ?_
 exact qd 1 (zc.vis 1 rfl) (by decide)
abbrev Tq8:KY:=top 43
abbrev JV:List Str:=["_law_cells", "_law_base_here", "_law_kind", "_law_cubes", "_law_corner", "_law_spot", "_law_k", "_law_cell", "_law_cube", "_law_axis"]
theorem qg:ScOk JV ["_law_cells", "_law_base_here", "_law_kind"] ["tuple", "range", "len", "list", "sorted"] (qj Tq8):=scmk (by kernel_rfl)
def Qz:Rho->Option Out:=(seqO (q8 3 (evA (aC (evA (aC (vr 1) aN) qY) aN) lstD)) (seqO (sIf (tV (ev2 (vr 2) (kd (.int 0)) gtD)) (seqO (q8 3 (evA aN lstD)) (sFor (evI (evA (aC (evA (aC (kd (.int 0)) (aC (kd (.int 0)) (aC (kd (.int 0)) aN))) tupD) (aC (evA (aC (kd (.int 0)) (aC (kd (.int 0)) (aC (kd (.int 1)) aN))) tupD) (aC (evA (aC (kd (.int 1)) (aC (kd (.int 0)) (aC (kd (.int 1)) aN))) tupD) (aC (evA (aC (kd (.int 1)) (aC (kd (.int 1)) (aC (kd (.int 1)) aN))) tupD) (aC (evA (aC (kd (.int 1)) (aC (kd (.int 1)) (aC (kd (.int 0)) aN))) tupD) aN))))) tupD) seqD) (gNm 4) (seqO (q8 5 (evA (aC (ev2 (vr 4) (ev2 (vr 2) (kd (.int 3)) modD) ixD) (aC (ev2 (vr 4) (ev2 (ev2 (vr 2) (kd (.int 1)) qP) (kd (.int 3)) modD) ixD) (aC (ev2 (vr 4) (ev2 (ev2 (vr 2) (kd (.int 2)) qP) (kd (.int 3)) modD) ixD) aN))) lstD)) (seqO (sFor (evR (aC (kd (.int 3)) aN) ZZ) (gNm 6) (sPut 5 (vr 6) (qQ (ev2 (ev2 (vr 1) (vr 6) ixD) (ev2 (ev2 (vr 5) (vr 6) ixD) (ev2 (kd (.int 1)) (ev2 (kd (.int 2)) (ev2 (ev2 (vr 2) (ev2 (evA (aC (kd (.int 3)) (aC (kd (.int 6)) (aC (kd (.int 12)) aN))) tupD) (vr 6) ixD) QB) (kd (.int 2)) modD) mulD) subD) mulD) qP)))) (sApp 3 (qQ (evA (aC (vr 5) aN) qY))))))) sN) (seqO (sFor (evI (vr 0) seqD) (gNm 7) (seqO (q8 8 (Yr (evA (aC (ev2 (vr 3) (ev2 (vr 7) (evA (aC (vr 3) aN) lenD) modD) ixD) aN) QM))) (seqO (sSet 9 (ev2 (ev2 (vr 7) (kd (.int 60)) QB) (kd (.int 3)) modD)) (seqO (sPut 8 (vr 9) (qQ (ev2 (ev2 (ev2 (vr 8) (vr 9) ixD) (ev2 (kd (.int 2)) (ev2 (ev2 (vr 7) (kd (.int 180)) QB) (kd (.int 2)) modD) mulD) qP) (kd (.int 1)) subD))) (sIf (tA (tV (ev2 (evA (aC (vr 3) aN) lenD) (kd (.int 6)) ltD2)) (tV (ev2 (evA (aC (vr 8) aN) qY) (vr 3) ninD))) (sApp 3 (qQ (evA (aC (vr 8) aN) qY))) sN))))) (sRet (evA (aC (vr 3) aN) zb)))))
def zB (ds:List Ka):Option Ka:=ob (Qz (rho0 JV.length ds)) outD
theorem qaR (F:Fun K "_law_solid" "_law_solid" Tq8 f fd)(m:mg "_law_solid" = some (.ref f))(b:Binds K fd ["_law_cells", "_law_base_here", "_law_kind"] [])(z_tuple:mg "tuple" = none)(z_range:mg "range" = none)(z_list:mg "list" = none)(z_len:mg "len" = none)(z_sorted:mg "sorted" = none):Known P w K mg base "_law_solid" 3 1 zB:=by
 refine ⟨f,fd,["_law_cells", "_law_base_here", "_law_kind"],F.pure (k:=0) (u:=Qz) (M':=[]) qg.fs rfl (fun cdv A outer s H E hr G=>?_),m,F.kp,b⟩
 refine qp (M1:=[3]) ?_ ?_
 refine Qw 3 ?_ ?_ ?_ ?_ ?_ ?_ ?_ ?_
 ·exact qg.fs.nd
 ·exact (qg.loc 3 rfl)
 ·rfl
 ·rfl
 ·exact .inl rfl
 ·decide
 ·decide
 refine j8 ?_
 refine qb ?_ ?_
 refine QQ jm (qg.gl 0 rfl rfl) z_tuple rfl ?_
 refine qb ?_ ?_
 exact qd 1 (qg.vis 1 rfl) (by decide)
 exact qi
 exact qi
 refine qp (M1:=[3]) ?_ ?_
 refine Ql ?_ ?_ ?_
 refine qX d_gt ?_ ?_ (zj _)
 exact qd 2 (qg.vis 2 rfl) (by decide)
 exact ql
 refine qp (M1:=[3]) ?_ ?_
 refine qe8 [] ?_ ?_ ?_
 ·rfl
 ·rfl
 refine Qw 3 ?_ ?_ ?_ ?_ ?_ ?_ ?_ ?_
 ·exact qg.fs.nd
 ·exact (qg.loc 3 rfl)
 ·rfl
 ·rfl
 ·exact .inl rfl
 ·decide
 ·decide
 refine j8 ?_
 exact qi
 refine qu ?_
 refine Qf Vm rfl ?_ (fun _=>?_) (fun _=>?_)
 refine zy ?_
 refine zL ?_
 refine qb ?_ ?_
 refine zL ?_
 refine qb ?_ ?_
 exact ql
 refine qb ?_ ?_
 exact ql
 refine qb ?_ ?_
 exact ql
 exact qi
 refine qb ?_ ?_
 refine zL ?_
 refine qb ?_ ?_
 exact ql
 refine qb ?_ ?_
 exact ql
 refine qb ?_ ?_
 exact ql
 exact qi
 refine qb ?_ ?_
 refine zL ?_
 refine qb ?_ ?_
 exact ql
 refine qb ?_ ?_
 exact ql
 refine qb ?_ ?_
 exact ql
 exact qi
 refine qb ?_ ?_
 refine zL ?_
 refine qb ?_ ?_
 exact ql
 refine qb ?_ ?_
 exact ql
 refine qb ?_ ?_
 exact ql
 exact qi
 refine qb ?_ ?_
 refine zL ?_
 refine qb ?_ ?_
 exact ql
 refine qb ?_ ?_
 exact ql
 refine qb ?_ ?_
 exact ql
 exact qi
 exact qi
 exact zf 4 qg.fs.nd (qg.loc 4 rfl) (by decide)
 refine jd (M':=[5,3]) [3] ?_ ?_ ?_
 refine qp (M1:=[5,3]) ?_ ?_
 refine Qw 5 ?_ ?_ ?_ ?_ ?_ ?_ ?_ ?_
 ·exact qg.fs.nd
 ·exact (qg.loc 5 rfl)
 ·rfl
 ·rfl
 ·exact .inl rfl
 ·decide
 ·decide
 refine j8 ?_
 refine qb ?_ ?_
 refine q9 ?_ ?_
 exact qd 4 (qg.vis 4 rfl) (by decide)
 refine qI Zk ?_ ?_
 exact qd 2 (qg.vis 2 rfl) (by decide)
 exact ql
 refine qb ?_ ?_
 refine q9 ?_ ?_
 exact qd 4 (qg.vis 4 rfl) (by decide)
 refine qI Zk ?_ ?_
 refine qI Qa ?_ ?_
 exact qd 2 (qg.vis 2 rfl) (by decide)
 exact ql
 exact ql
 refine qb ?_ ?_
 refine q9 ?_ ?_
 exact qd 4 (qg.vis 4 rfl) (by decide)
 refine qI Zk ?_ ?_
 refine qI Qa ?_ ?_
 exact qd 2 (qg.vis 2 rfl) (by decide)
 exact ql
 exact ql
 exact qi
 refine qp (M1:=[5,3]) ?_ ?_
 refine We Vm rfl ?_ ?_ ?_
 refine JK (qg.gl 1 rfl rfl) z_range ?_
 refine qb ?_ ?_
 exact ql
 exact qi
 exact zf 6 qg.fs.nd (qg.loc 6 rfl) (by decide)
 refine qu ?_
 refine j7 5 (qg.vis 5 rfl) (by decide) (by decide) ?_ ?_
 exact qd 6 (qg.vis 6 rfl) (by decide)
 refine qI Qa ?_ ?_
 refine q9 ?_ ?_
 exact qd 1 (qg.vis 1 rfl) (by decide)
 exact qd 6 (qg.vis 6 rfl) (by decide)
 refine qI jN ?_ ?_
 refine q9 ?_ ?_
 exact qd 5 (qg.vis 5 rfl) (by decide)
 exact qd 6 (qg.vis 6 rfl) (by decide)
 refine qI qbm ?_ ?_
 exact ql
 refine qI jN ?_ ?_
 exact ql
 refine qI Zk ?_ ?_
 refine qI Z1 ?_ ?_
 exact qd 2 (qg.vis 2 rfl) (by decide)
 refine q9 ?_ ?_
 refine zL ?_
 refine qb ?_ ?_
 exact ql
 refine qb ?_ ?_
 exact ql
 refine qb ?_ ?_
 exact ql
 exact qi
 exact qd 6 (qg.vis 6 rfl) (by decide)
 exact ql
 refine qu ?_
 refine j6 3 (qg.vis 3 rfl) (by decide) (by decide) ?_
 refine QQ jm (qg.gl 0 rfl rfl) z_tuple rfl ?_
 refine qb ?_ ?_
 exact qd 5 (qg.vis 5 rfl) (by decide)
 exact qi
 ·rfl
 ·rfl
 exact zT
 refine qp (M1:=[3]) ?_ ?_
 refine Qf Vm rfl ?_ (fun _=>?_) (fun _=>?_)
 refine zy ?_
 exact qd 0 (qg.vis 0 rfl) (by decide)
 exact zf 7 qg.fs.nd (qg.loc 7 rfl) (by decide)
 refine jd (M':=[8,3]) [3] ?_ ?_ ?_
 refine qp (M1:=[8,3]) ?_ ?_
 refine qfa 8 ?_ ?_ ?_ ?_ ?_ ?_ ?_ ?_
 ·exact qg.fs.nd
 ·exact (qg.loc 8 rfl)
 ·rfl
 ·rfl
 ·exact .inl rfl
 ·decide
 ·decide
 refine Js qcR (qg.gl 3 rfl rfl) z_list rfl ?_
 refine qb ?_ ?_
 refine q9 ?_ ?_
 exact qd 3 (qg.vis 3 rfl) (by decide)
 refine qI Zk ?_ ?_
 exact qd 7 (qg.vis 7 rfl) (by decide)
 refine ZL wk (qg.gl 2 rfl rfl) z_len Xd ?_
 refine qb ?_ ?_
 exact qd 3 (qg.vis 3 rfl) (by decide)
 exact qi
 exact qi
 refine qp (M1:=[8,3]) ?_ ?_
 refine qU 9 ?_ ?_ ?_ ?_ ?_ ?_ ?_
 ·exact qg.fs.nd
 ·exact (qg.loc 9 rfl)
 ·rfl
 ·rfl
 ·exact .inl rfl
 ·decide
 refine qI Zk ?_ ?_
 refine qI Z1 ?_ ?_
 exact qd 7 (qg.vis 7 rfl) (by decide)
 exact ql
 exact ql
 refine qp (M1:=[8,3]) ?_ ?_
 refine j7 8 (qg.vis 8 rfl) (by decide) (by decide) ?_ ?_
 exact qd 9 (qg.vis 9 rfl) (by decide)
 refine qI qbm ?_ ?_
 refine qI Qa ?_ ?_
 refine q9 ?_ ?_
 exact qd 8 (qg.vis 8 rfl) (by decide)
 exact qd 9 (qg.vis 9 rfl) (by decide)
 refine qI jN ?_ ?_
 exact ql
 refine qI Zk ?_ ?_
 refine qI Z1 ?_ ?_
 exact qd 7 (qg.vis 7 rfl) (by decide)
 exact ql
 exact ql
 exact ql
 refine qu ?_
 refine Ql ?_ ?_ ?_
 refine PDW.pdt ?_
 refine qiG ?_ ?_
 refine qX (qje hr) ?_ ?_ (zj _)
 refine ZL wk (qg.gl 2 rfl rfl) z_len Xd ?_
 refine qb ?_ ?_
 exact qd 3 (qg.vis 3 rfl) (by decide)
 exact qi
 exact ql
 refine qgJ ?_
 refine qX (YM hr) ?_ ?_ rfl
 refine QQ jm (qg.gl 0 rfl rfl) z_tuple rfl ?_
 refine qb ?_ ?_
 exact qd 8 (qg.vis 8 rfl) (by decide)
 exact qi
 exact qd 3 (qg.vis 3 rfl) (by decide)
 refine qu ?_
 refine j6 3 (qg.vis 3 rfl) (by decide) (by decide) ?_
 refine QQ jm (qg.gl 0 rfl rfl) z_tuple rfl ?_
 refine qb ?_ ?_
 exact qd 8 (qg.vis 8 rfl) (by decide)
 exact qi
 exact zT
 ·rfl
 ·rfl
 refine qu ?_
 refine qJ ?_
 refine Ze ?_
 refine ZM (ZJ hr) (qg.gl 4 rfl rfl) z_sorted zZ ?_
 refine qb ?_ ?_
 exact qd 3 (qg.vis 3 rfl) (by decide)
 exact qi
abbrev Tq15:KY:=top 44
abbrev jR:List Str:=["_law_cubes", "_law_squares", "_law_cube", "_law_axis", "_law_by", "_law_other", "_law_square"]
theorem qw:ScOk jR ["_law_cubes"] ["list", "tuple", "range", "sorted"] (qj Tq15):=scmk (by kernel_rfl)
def Jc:Rho->Option Out:=(seqO (q8 1 (evA aN lstD)) (seqO (sFor (evI (vr 0) seqD) (gNm 2) (sFor (evR (aC (kd (.int 3)) aN) ZZ) (gNm 3) (sFor (evI (evA (aC (ev1 (kd (.int 1)) negD) (aC (kd (.int 1)) aN)) tupD) seqD) (gNm 4) (seqO (q8 5 (evA (aC (vr 2) aN) QM)) (seqO (sPut 5 (vr 3) (qQ (ev2 (ev2 (vr 5) (vr 3) ixD) (vr 4) qP))) (sIf (tV (ev2 (evA (aC (vr 5) aN) qY) (vr 0) ninD)) (seqO (q8 6 (Qg 7 (evI (vr 2) seqD) tT (ev2 (ev2 (kd (.int 2)) (vr 7) mulD) (kd (.int 1)) qP))) (seqO (sPut 6 (vr 3) (qQ (ev2 (ev2 (vr 6) (vr 3) ixD) (vr 4) qP))) (sApp 1 (qQ (evA (aC (vr 6) aN) qY))))) sN)))))) (sRet (evA (aC (vr 1) aN) zb))))
def zO (ds:List Ka):Option Ka:=ob (Jc (rho0 jR.length ds)) outD
theorem qbL (F:Fun K "_law_skin" "_law_skin" Tq15 f fd)(m:mg "_law_skin" = some (.ref f))(b:Binds K fd ["_law_cubes"] [])(z_list:mg "list" = none)(z_tuple:mg "tuple" = none)(z_range:mg "range" = none)(z_sorted:mg "sorted" = none):Known P w K mg base "_law_skin" 1 1 zO:=by
 refine ⟨f,fd,["_law_cubes"],F.pure (k:=0) (u:=Jc) (M':=[]) qw.fs rfl (fun cdv A outer s H E hr G=>?_),m,F.kp,b⟩
 refine qp (M1:=[1]) ?_ ?_
 refine Qw 1 ?_ ?_ ?_ ?_ ?_ ?_ ?_ ?_
 ·exact qw.fs.nd
 ·exact (qw.loc 1 rfl)
 ·rfl
 ·rfl
 ·exact .inl rfl
 ·decide
 ·decide
 refine j8 ?_
 exact qi
 refine qp (M1:=[1]) ?_ ?_
 refine Qf Vm rfl ?_ (fun _=>?_) (fun _=>?_)
 refine zy ?_
 exact qd 0 (qw.vis 0 rfl) (by decide)
 exact zf 2 qw.fs.nd (qw.loc 2 rfl) (by decide)
 refine qu ?_
 refine We Vm rfl ?_ ?_ ?_
 refine JK (qw.gl 2 rfl rfl) z_range ?_
 refine qb ?_ ?_
 exact ql
 exact qi
 exact zf 3 qw.fs.nd (qw.loc 3 rfl) (by decide)
 refine qu ?_
 refine Qf Vm rfl ?_ (fun _=>?_) (fun _=>?_)
 refine zy ?_
 refine zL ?_
 refine qb ?_ ?_
 refine qaj WR ?_
 exact ql
 refine qb ?_ ?_
 exact ql
 exact qi
 exact zf 4 qw.fs.nd (qw.loc 4 rfl) (by decide)
 refine jd (M':=[5,1]) [1] ?_ ?_ ?_
 refine qp (M1:=[5,1]) ?_ ?_
 refine Qw 5 ?_ ?_ ?_ ?_ ?_ ?_ ?_ ?_
 ·exact qw.fs.nd
 ·exact (qw.loc 5 rfl)
 ·rfl
 ·rfl
 ·exact .inl rfl
 ·decide
 ·decide
 refine Js qcR (qw.gl 0 rfl rfl) z_list rfl ?_
 refine qb ?_ ?_
 exact qd 2 (qw.vis 2 rfl) (by decide)
 exact qi
 refine qp (M1:=[5,1]) ?_ ?_
 refine j7 5 (qw.vis 5 rfl) (by decide) (by decide) ?_ ?_
 exact qd 3 (qw.vis 3 rfl) (by decide)
 refine qI Qa ?_ ?_
 refine q9 ?_ ?_
 exact qd 5 (qw.vis 5 rfl) (by decide)
 exact qd 3 (qw.vis 3 rfl) (by decide)
 exact qd 4 (qw.vis 4 rfl) (by decide)
 refine qu ?_
 refine Ql ?_ ?_ ?_
 refine qX (YM hr) ?_ ?_ rfl
 refine QQ jm (qw.gl 1 rfl rfl) z_tuple rfl ?_
 refine qb ?_ ?_
 exact qd 5 (qw.vis 5 rfl) (by decide)
 exact qi
 exact qd 0 (qw.vis 0 rfl) (by decide)
 refine jd (M':=[6,5,1]) [5,1] ?_ ?_ ?_
 refine qp (M1:=[6,5,1]) ?_ ?_
 refine qb6 6 (CompOk.of (k:=1) jR ["_law_cubes", "_law_squares", "_law_cube", "_law_axis", "_law_by", "_law_other", "_law_square", "_law_number"] (qj Tq15) rfl rfl rfl (by decide +kernel)) rfl (by decide +kernel) (qj Tq15) rfl (by decide +kernel) (by decide) (by decide) ?_ (fun _ _ _ _ _ _=>?_) (fun _ _ _ _ _ _=>?_)
 refine zy ?_
 exact qd 2 (qw.vis 2 rfl) (by decide)
 exact je
 refine qI Qa ?_ ?_
 refine qI jN ?_ ?_
 exact ql
 exact qd 7 (qK (by decide +kernel)) (by decide)
 exact ql
 refine qp (M1:=[6,5,1]) ?_ ?_
 refine j7 6 (qw.vis 6 rfl) (by decide) (by decide) ?_ ?_
 exact qd 3 (qw.vis 3 rfl) (by decide)
 refine qI Qa ?_ ?_
 refine q9 ?_ ?_
 exact qd 6 (qw.vis 6 rfl) (by decide)
 exact qd 3 (qw.vis 3 rfl) (by decide)
 exact qd 4 (qw.vis 4 rfl) (by decide)
 refine qu ?_
 refine j6 1 (qw.vis 1 rfl) (by decide) (by decide) ?_
 refine QQ jm (qw.gl 1 rfl rfl) z_tuple rfl ?_
 refine qb ?_ ?_
 exact qd 6 (qw.vis 6 rfl) (by decide)
 exact qi
 ·rfl
 ·rfl
 exact zT
 ·rfl
 ·rfl
 refine qu ?_
 refine qJ ?_
 refine Ze ?_
 refine ZM (ZJ hr) (qw.gl 3 rfl rfl) z_sorted zZ ?_
 refine qb ?_ ?_
 exact qd 1 (qw.vis 1 rfl) (by decide)
 exact qi
abbrev Tq16:KY:=top 45
abbrev Yn:List Str:=["_law_spot", "_law_axes", "_law_found", "_law_axis", "_law_by", "_law_made"]
theorem qG:ScOk Yn ["_law_spot", "_law_axes"] ["list", "tuple", "sorted"] (qj Tq16):=scmk (by kernel_rfl)
def Zf:Rho->Option Out:=(seqO (q8 2 (evA aN lstD)) (seqO (sFor (evI (vr 1) seqD) (gNm 3) (sFor (evI (evA (aC (ev1 (kd (.int 1)) negD) (aC (kd (.int 1)) aN)) tupD) seqD) (gNm 4) (seqO (q8 5 (evA (aC (vr 0) aN) QM)) (seqO (sPut 5 (vr 3) (qQ (ev2 (ev2 (vr 5) (vr 3) ixD) (vr 4) qP))) (sApp 2 (qQ (evA (aC (vr 5) aN) qY))))))) (sRet (evA (aC (vr 2) aN) zb))))
def zF (ds:List Ka):Option Ka:=ob (Zf (rho0 Yn.length ds)) outD
theorem qbK (F:Fun K "_law_near" "_law_near" Tq16 f fd)(m:mg "_law_near" = some (.ref f))(b:Binds K fd ["_law_spot", "_law_axes"] [])(z_list:mg "list" = none)(z_tuple:mg "tuple" = none)(z_sorted:mg "sorted" = none):Known P w K mg base "_law_near" 2 1 zF:=by
 refine ⟨f,fd,["_law_spot", "_law_axes"],F.pure (k:=0) (u:=Zf) (M':=[]) qG.fs rfl (fun cdv A outer s H E hr G=>?_),m,F.kp,b⟩
 refine qp (M1:=[2]) ?_ ?_
 refine Qw 2 ?_ ?_ ?_ ?_ ?_ ?_ ?_ ?_
 ·exact qG.fs.nd
 ·exact (qG.loc 2 rfl)
 ·rfl
 ·rfl
 ·exact .inl rfl
 ·decide
 ·decide
 refine j8 ?_
 exact qi
 refine qp (M1:=[2]) ?_ ?_
 refine Qf Vm rfl ?_ (fun _=>?_) (fun _=>?_)
 refine zy ?_
 exact qd 1 (qG.vis 1 rfl) (by decide)
 exact zf 3 qG.fs.nd (qG.loc 3 rfl) (by decide)
 refine qu ?_
 refine Qf Vm rfl ?_ (fun _=>?_) (fun _=>?_)
 refine zy ?_
 refine zL ?_
 refine qb ?_ ?_
 refine qaj WR ?_
 exact ql
 refine qb ?_ ?_
 exact ql
 exact qi
 exact zf 4 qG.fs.nd (qG.loc 4 rfl) (by decide)
 refine jd (M':=[5,2]) [2] ?_ ?_ ?_
 refine qp (M1:=[5,2]) ?_ ?_
 refine Qw 5 ?_ ?_ ?_ ?_ ?_ ?_ ?_ ?_
 ·exact qG.fs.nd
 ·exact (qG.loc 5 rfl)
 ·rfl
 ·rfl
 ·exact .inl rfl
 ·decide
 ·decide
 refine Js qcR (qG.gl 0 rfl rfl) z_list rfl ?_
 refine qb ?_ ?_
 exact qd 0 (qG.vis 0 rfl) (by decide)
 exact qi
 refine qp (M1:=[5,2]) ?_ ?_
 refine j7 5 (qG.vis 5 rfl) (by decide) (by decide) ?_ ?_
 exact qd 3 (qG.vis 3 rfl) (by decide)
 refine qI Qa ?_ ?_
 refine q9 ?_ ?_
 exact qd 5 (qG.vis 5 rfl) (by decide)
 exact qd 3 (qG.vis 3 rfl) (by decide)
 exact qd 4 (qG.vis 4 rfl) (by decide)
 refine qu ?_
 refine j6 2 (qG.vis 2 rfl) (by decide) (by decide) ?_
 refine QQ jm (qG.gl 1 rfl rfl) z_tuple rfl ?_
 refine qb ?_ ?_
 exact qd 5 (qG.vis 5 rfl) (by decide)
 exact qi
 ·rfl
 ·rfl
 refine qu ?_
 refine qJ ?_
 refine Ze ?_
 refine ZM (ZJ hr) (qG.gl 2 rfl rfl) z_sorted zZ ?_
 refine qb ?_ ?_
 exact qd 2 (qG.vis 2 rfl) (by decide)
 exact qi
abbrev Tq19:KY:=top 46
abbrev JB:List Str:=["_law_squares", "_law_met_here", "_law_k", "_law_edge"]
theorem qL:ScOk JB ["_law_squares"] ["range", "_law_near", "len"] (qj Tq19):=scmk (by kernel_rfl)
def JP:Rho->Option Out:=(seqO (Wn 1 (kd (.dict []))) (seqO (sFor (evR (aC (evA (aC (vr 0) aN) lenD) aN) ZZ) (gNm 2) (sFor (evI (evC 2 (aC (ev2 (vr 0) (vr 2) ixD) (aC (Qg 4 (evR (aC (kd (.int 3)) aN) ZZ) (tV (ev2 (ev2 (ev2 (ev2 (vr 0) (vr 2) ixD) (vr 4) ixD) (kd (.int 2)) modD) (kd (.int 1)) eqD)) (vr 4)) aN)) zF) seqD) (gNm 3) (seqO (sIf (tV (ev2 (vr 3) (vr 1) qag)) (Wm 1 (vr 3)) sN) (JL 1 (vr 3) (vr 2))))) (sRet (vr 1))))
def ZF (ds:List Ka):Option Ka:=ob (JP (rho0 JB.length ds)) outD
theorem qcG (F:Fun K "_law_met" "_law_met" Tq19 f fd)(m:mg "_law_met" = some (.ref f))(b:Binds K fd ["_law_squares"] [])(K__law_near:Known P w K mg base "_law_near" 2 1 zF)(z_range:mg "range" = none)(z_len:mg "len" = none):Known P w K mg base "_law_met" 1 2 ZF:=by
 refine ⟨f,fd,["_law_squares"],F.pure (k:=1) (u:=JP) (M':=[]) qL.fs rfl (fun cdv A outer s H E hr G=>?_),m,F.kp,b⟩
 refine qp (M1:=[1,1001]) ?_ ?_
 refine qgI 1 ?_ ?_ ?_ ?_ ?_ ?_ ?_ ?_
 ·exact qL.fs.nd
 ·exact (qL.loc 1 rfl)
 ·rfl
 ·rfl
 ·exact .inl rfl
 ·decide
 ·decide
 exact qgY
 refine qp (M1:=[1,1001]) ?_ ?_
 refine We Vm rfl ?_ ?_ ?_
 refine JK (qL.gl 0 rfl rfl) z_range ?_
 refine qb ?_ ?_
 refine ZL wk (qL.gl 2 rfl rfl) z_len Xd ?_
 refine qb ?_ ?_
 exact qd 0 (qL.vis 0 rfl) (by decide)
 exact qi
 exact qi
 exact zf 2 qL.fs.nd (qL.loc 2 rfl) (by decide)
 refine qu ?_
 refine Qf Vm rfl ?_ (fun _=>?_) (fun _=>?_)
 refine zy ?_
 refine qC K__law_near hr (by decide) (qL.gl 1 rfl rfl) ?_ rfl
 refine qb ?_ ?_
 refine q9 ?_ ?_
 exact qd 0 (qL.vis 0 rfl) (by decide)
 exact qd 2 (qL.vis 2 rfl) (by decide)
 refine qb ?_ ?_
 refine ZX (CompOk.of (k:=1) JB ["_law_squares", "_law_met_here", "_law_k", "_law_edge", "_law_axis"] (qj Tq19) rfl rfl rfl (by decide +kernel)) rfl (by decide +kernel) ?_ (fun _ _ _ _ _ _=>?_) (fun _ _ _ _ _ _=>?_)
 refine qcU (qL.gl 0 rfl rfl) z_range ?_
 refine qb ?_ ?_
 exact ql
 exact qi
 refine jg ?_
 refine qX (d_eq hr) ?_ ?_ (zj _)
 refine qI Zk ?_ ?_
 refine q9 ?_ ?_
 refine q9 ?_ ?_
 exact qd 0 (qK (by decide +kernel)) (by decide)
 exact qd 2 (qK (by decide +kernel)) (by decide)
 exact qd 4 (qK (by decide +kernel)) (by decide)
 exact ql
 exact ql
 exact qd 4 (qK (by decide +kernel)) (by decide)
 exact qi
 exact zf 3 qL.fs.nd (qL.loc 3 rfl) (by decide)
 refine qp (M1:=[1,1001]) ?_ ?_
 refine Ql ?_ ?_ ?_
 refine qX (qfR hr) ?_ ?_ rfl
 exact qd 3 (qL.vis 3 rfl) (by decide)
 exact qd 1 (qL.vis 1 rfl) (by decide)
 refine qu ?_
 refine qgG hr 1 (qL.vis 1 rfl) (by decide) ?_
 exact qd 3 (qL.vis 3 rfl) (by decide)
 exact zT
 refine qu ?_
 refine qe9 hr 1 (qL.vis 1 rfl) (by decide) ?_ ?_
 exact qd 3 (qL.vis 3 rfl) (by decide)
 exact qd 2 (qL.vis 2 rfl) (by decide)
 refine qu ?_
 refine qJ ?_
 exact qd 1 (qL.vis 1 rfl) (by decide)
abbrev Tq9:KY:=top 47
abbrev JS:List Str:=["_law_e", "_law_one", "_law_two"]
theorem qy:ScOk JS ["_law_e"] ["NoRow", "NoTurn", "TooMany", "NoSquare", "NoBend", "NoDrawing", "isinstance", "NoWay", "NoTree", "NoSolid", "NoSheet", "NotClosed", "NoName", "Crowded", "ValueError"] (qj Tq9):=scmk (by kernel_rfl)
def yF:Rho->Option Out:=(seqO (sSet 1 (ev1 (vr 0) (isiN XS ["NoDrawing", "NoBend", "NoSquare", "TooMany", "NoTurn", "NoRow"]))) (seqO (sSet 2 (ev1 (vr 0) (isiN XS ["NoName", "NotClosed", "NoSheet", "NoSolid", "NoTree", "NoWay"]))) (sRet (evA (aC (ev1 (vr 0) (isiN XS ["ValueError"])) (aC (ev1 (vr 0) (isiN XS ["Crowded"])) (aC (vO (vr 1) (vr 2)) aN))) tupD))))
def Zr (ds:List Ka):Option Ka:=ob (yF (rho0 JS.length ds)) outD
theorem qaP (F:Fun K "_law_kinds" "_law_kinds" Tq9 f fd)(m:mg "_law_kinds" = some (.ref f))(b:Binds K fd ["_law_e"] [])(z_isinstance:mg "isinstance" = none)(z_ValueError:mg "ValueError" = none)(XT:XTab K mg XS):KnownM P w K mg base "_law_kinds" 1 1 Zr:=by
 refine ⟨f,fd,["_law_e"],F.pureM (k:=0) (u:=yF) (M':=[]) qy.fs rfl (fun cdv A outer s H E hr G=>?_),m,F.kp,b⟩
 refine qp (M1:=[]) ?_ ?_
 refine qU 1 ?_ ?_ ?_ ?_ ?_ ?_ ?_
 ·exact qy.fs.nd
 ·exact (qy.loc 1 rfl)
 ·rfl
 ·rfl
 ·exact .inl rfl
 ·decide
 refine YT XT (qy.gl 6 rfl rfl) z_isinstance rfl ?_ (qd0 (Qj XT (qy.gl 5 rfl rfl) (Qj XT (qy.gl 4 rfl rfl) (Qj XT (qy.gl 3 rfl rfl) (Qj XT (qy.gl 2 rfl rfl) (Qj XT (qy.gl 1 rfl rfl) (Qj XT (qy.gl 0 rfl rfl) qb0)))))))
 exact qd 0 (qy.vis 0 rfl) (by decide)
 refine qp (M1:=[]) ?_ ?_
 refine qU 2 ?_ ?_ ?_ ?_ ?_ ?_ ?_
 ·exact qy.fs.nd
 ·exact (qy.loc 2 rfl)
 ·rfl
 ·rfl
 ·exact .inl rfl
 ·decide
 refine YT XT (qy.gl 6 rfl rfl) z_isinstance rfl ?_ (qd0 (Qj XT (qy.gl 12 rfl rfl) (Qj XT (qy.gl 11 rfl rfl) (Qj XT (qy.gl 10 rfl rfl) (Qj XT (qy.gl 9 rfl rfl) (Qj XT (qy.gl 8 rfl rfl) (Qj XT (qy.gl 7 rfl rfl) qb0)))))))
 exact qd 0 (qy.vis 0 rfl) (by decide)
 refine qu ?_
 refine qJ ?_
 refine zL ?_
 refine qb ?_ ?_
 refine YT XT (qy.gl 6 rfl rfl) z_isinstance rfl ?_ (qiz (T := "ValueError") (by decide) (qy.gl 14 rfl rfl) z_ValueError rfl)
 exact qd 0 (qy.vis 0 rfl) (by decide)
 refine qb ?_ ?_
 refine YT XT (qy.gl 6 rfl rfl) z_isinstance rfl ?_ (qiA XT (qy.gl 13 rfl rfl))
 exact qd 0 (qy.vis 0 rfl) (by decide)
 refine qb ?_ ?_
 refine pd_or ?_ ?_
 exact qd 1 (qy.vis 1 rfl) (by decide)
 refine yX ?_
 exact qd 2 (qy.vis 2 rfl) (by decide)
 exact qi
abbrev Tq20:KY:=top 48
abbrev Jz:List Str:=["_law_solid_here", "_law_met_here", "_law_full"]
theorem zg:ScOk Jz ["_law_solid_here"] ["_law_skin", "_law_met", "sorted", "len"] (qj Tq20):=scmk (by kernel_rfl)
def jG:Rho->Option Out:=(seqO (sSet 1 (evC 1 (aC (evC 1 (aC (vr 0) aN) zO) aN) ZF)) (seqO (sSet 2 (evA (aC (Qg 3 (evI (vr 1) Yu) (tV (ev2 (evA (aC (ev2 (vr 1) (vr 3) ix2D) aN) lenD) (kd (.int 4)) eqD)) (vr 3)) aN) zb)) (seqO (sIf (tV (ev2 (evA (aC (vr 2) aN) lenD) (kd (.int 0)) eqD)) (sRet (kd .none)) sN) (sRet (ev2 (vr 2) (kd (.int 0)) ixD)))))
def Q5 (ds:List Ka):Option Ka:=ob (jG (rho0 Jz.length ds)) outD
theorem qcF (F:Fun K "_law_due" "_law_due" Tq20 f fd)(m:mg "_law_due" = some (.ref f))(b:Binds K fd ["_law_solid_here"] [])(K__law_met:Known P w K mg base "_law_met" 1 2 ZF)(K__law_skin:Known P w K mg base "_law_skin" 1 1 zO)(z_sorted:mg "sorted" = none)(z_len:mg "len" = none):Known P w K mg base "_law_due" 1 3 Q5:=by
 refine ⟨f,fd,["_law_solid_here"],F.pure (k:=2) (u:=jG) (M':=[]) zg.fs rfl (fun cdv A outer s H E hr G=>?_),m,F.kp,b⟩
 refine qp (M1:=[]) ?_ ?_
 refine qU 1 ?_ ?_ ?_ ?_ ?_ ?_ ?_
 ·exact zg.fs.nd
 ·exact (zg.loc 1 rfl)
 ·rfl
 ·rfl
 ·exact .inl rfl
 ·decide
 refine qC K__law_met hr (by decide) (zg.gl 1 rfl rfl) ?_ rfl
 refine qb ?_ ?_
 refine qC K__law_skin hr (by decide) (zg.gl 0 rfl rfl) ?_ rfl
 refine qb ?_ ?_
 exact qd 0 (zg.vis 0 rfl) (by decide)
 exact qi
 exact qi
 refine qp (M1:=[]) ?_ ?_
 refine qU 2 ?_ ?_ ?_ ?_ ?_ ?_ ?_
 ·exact zg.fs.nd
 ·exact (zg.loc 2 rfl)
 ·rfl
 ·rfl
 ·exact .inl rfl
 ·decide
 refine Ze ?_
 refine ZM (ZJ hr) (zg.gl 2 rfl rfl) z_sorted zZ ?_
 refine qb ?_ ?_
 refine ZX (CompOk.of (k:=1) Jz ["_law_solid_here", "_law_met_here", "_law_full", "_law_edge"] (qj Tq20) rfl rfl rfl (by decide +kernel)) rfl (by decide +kernel) ?_ (fun _ _ _ _ _ _=>?_) (fun _ _ _ _ _ _=>?_)
 refine yq ?_
 exact qd 1 (zg.vis 1 rfl) (by decide)
 refine jg ?_
 refine qX (d_eq hr) ?_ ?_ (zj _)
 refine ZL wk (YS (by decide +kernel)) z_len Xd ?_
 refine qb ?_ ?_
 refine Wd hr ?_ ?_
 exact qd 1 (qK (by decide +kernel)) (by decide)
 exact qd 3 (qK (by decide +kernel)) (by decide)
 exact qi
 exact ql
 exact qd 3 (qK (by decide +kernel)) (by decide)
 exact qi
 refine qp (M1:=[]) ?_ ?_
 refine Ql ?_ ?_ ?_
 refine qX (d_eq hr) ?_ ?_ (zj _)
 refine ZL wk (zg.gl 3 rfl rfl) z_len Xd ?_
 refine qb ?_ ?_
 exact qd 2 (zg.vis 2 rfl) (by decide)
 exact qi
 exact ql
 refine qu ?_
 refine qJ ?_
 exact j5
 exact zT
 refine qu ?_
 refine qJ ?_
 refine q9 ?_ ?_
 exact qd 2 (zg.vis 2 rfl) (by decide)
 exact ql
abbrev Tq10:KY:=top 36
abbrev Zo:List Str:=["solid", "crowd", "squares", "numbers", "joins", "edge", "pair"]
theorem qm:ScOk Zo ["solid"] ["crowded", "skin_of", "numbers_of", "squares_at", "bend_over", "edge_counts", "sorted", "Crowded"] (qj Tq10):=scmk (by kernel_rfl)
def jK:Rho->Option Out:=(seqO (sSet 1 (evC 1 (aC (vr 0) aN) zx)) (seqO (sIf (tV (ev2 (vr 1) (kd .none) isnD)) sNo sN) (seqO (sSet 2 (evC 1 (aC (vr 0) aN) zG)) (seqO (sSet 3 (evC 1 (aC (vr 2) aN) Qy)) (seqO (q8 4 (evA aN lstD)) (seqO (sFor (evI (evC 1 (aC (vr 2) aN) zr) Yu) (gNm 5) (seqO (q8 6 (Qg 7 (evI (evC 1 (aC (vr 5) aN) Qe) seqD) (tV (ev2 (vr 7) (vr 3) in2D)) (vr 7))) (sApp 4 (qQ (evA (aC (ev2 (vr 3) (ev2 (vr 6) (kd (.int 0)) ixD) ix2D) (aC (ev2 (vr 3) (ev2 (vr 6) (kd (.int 1)) ixD) ix2D) (aC (evC 4 (aC (vr 0) (aC (ev2 (vr 6) (kd (.int 0)) ixD) (aC (vr 5) (aC (ev2 (vr 6) (kd (.int 1)) ixD) aN)))) Qt) aN))) tupD))))) (sRet (evA (aC (vr 4) aN) zb))))))))
def Qc (ds:List Ka):Option Ka:=ob (jK (rho0 Zo.length ds)) outD
theorem qaV (F:Fun K "skin_joins" "skin_joins" Tq10 f fd)(m:mg "skin_joins" = some (.ref f))(b:Binds K fd ["solid"] [])(K_crowded:Known P w K mg base "crowded" 1 5 zx)(K_skin_of:Known P w K mg base "skin_of" 1 2 zG)(K_numbers_of:Known P w K mg base "numbers_of" 1 1 Qy)(K_squares_at:Known P w K mg base "squares_at" 1 3 Qe)(K_bend_over:Known P w K mg base "bend_over" 4 4 Qt)(K_edge_counts:Known P w K mg base "edge_counts" 1 4 zr)(z_sorted:mg "sorted" = none)(I_Crowded:KnownI P w K mg base "Crowded" "edge" 1):Known P w K mg base "skin_joins" 1 6 Qc:=by
 refine ⟨f,fd,["solid"],F.pure (k:=5) (u:=jK) (M':=[]) qm.fs rfl (fun cdv A outer s H E hr G=>?_),m,F.kp,b⟩
 refine qp (M1:=[]) ?_ ?_
 refine qU 1 ?_ ?_ ?_ ?_ ?_ ?_ ?_
 ·exact qm.fs.nd
 ·exact (qm.loc 1 rfl)
 ·rfl
 ·rfl
 ·exact .inl rfl
 ·decide
 refine qC K_crowded hr (by decide) (qm.gl 0 rfl rfl) ?_ rfl
 refine qb ?_ ?_
 exact qd 0 (qm.vis 0 rfl) (by decide)
 exact qi
 refine qp (M1:=[]) ?_ ?_
 refine Ql ?_ ?_ ?_
 refine qX qfQ ?_ ?_ (zj _)
 exact qd 1 (qm.vis 1 rfl) (by decide)
 exact j5
 refine qu ?_
 exact qao
 exact zT
 refine qp (M1:=[]) ?_ ?_
 refine qU 2 ?_ ?_ ?_ ?_ ?_ ?_ ?_
 ·exact qm.fs.nd
 ·exact (qm.loc 2 rfl)
 ·rfl
 ·rfl
 ·exact .inl rfl
 ·decide
 refine qC K_skin_of hr (by decide) (qm.gl 1 rfl rfl) ?_ rfl
 refine qb ?_ ?_
 exact qd 0 (qm.vis 0 rfl) (by decide)
 exact qi
 refine qp (M1:=[]) ?_ ?_
 refine qU 3 ?_ ?_ ?_ ?_ ?_ ?_ ?_
 ·exact qm.fs.nd
 ·exact (qm.loc 3 rfl)
 ·rfl
 ·rfl
 ·exact .inl rfl
 ·decide
 refine qC K_numbers_of hr (by decide) (qm.gl 2 rfl rfl) ?_ rfl
 refine qb ?_ ?_
 exact qd 2 (qm.vis 2 rfl) (by decide)
 exact qi
 refine qp (M1:=[4]) ?_ ?_
 refine Qw 4 ?_ ?_ ?_ ?_ ?_ ?_ ?_ ?_
 ·exact qm.fs.nd
 ·exact (qm.loc 4 rfl)
 ·rfl
 ·rfl
 ·exact .inl rfl
 ·decide
 ·decide
 refine j8 ?_
 exact qi
 refine qp (M1:=[4]) ?_ ?_
 refine Qf Vm rfl ?_ (fun _=>?_) (fun _=>?_)
 refine yq ?_
 refine qC K_edge_counts hr (by decide) (qm.gl 5 rfl rfl) ?_ rfl
 refine qb ?_ ?_
 exact qd 2 (qm.vis 2 rfl) (by decide)
 exact qi
 exact zf 5 qm.fs.nd (qm.loc 5 rfl) (by decide)
 refine jd (M':=[6,4]) [4] ?_ ?_ ?_
 refine qp (M1:=[6,4]) ?_ ?_
 refine qb6 6 (CompOk.of (k:=1) Zo ["solid", "crowd", "squares", "numbers", "joins", "edge", "pair", "square"] (qj Tq10) rfl rfl rfl (by decide +kernel)) rfl (by decide +kernel) (qj Tq10) rfl (by decide +kernel) (by decide) (by decide) ?_ (fun _ _ _ _ _ _=>?_) (fun _ _ _ _ _ _=>?_)
 refine zy ?_
 refine qC K_squares_at hr (by decide) (qm.gl 3 rfl rfl) ?_ rfl
 refine qb ?_ ?_
 exact qd 5 (qm.vis 5 rfl) (by decide)
 exact qi
 refine jg ?_
 refine qX (d_in2 hr) ?_ ?_ rfl
 exact qd 7 (qK (by decide +kernel)) (by decide)
 exact qd 3 (qK (by decide +kernel)) (by decide)
 exact qd 7 (qK (by decide +kernel)) (by decide)
 refine qu ?_
 refine j6 4 (qm.vis 4 rfl) (by decide) (by decide) ?_
 refine zL ?_
 refine qb ?_ ?_
 refine Wd hr ?_ ?_
 exact qd 3 (qm.vis 3 rfl) (by decide)
 refine q9 ?_ ?_
 exact qd 6 (qm.vis 6 rfl) (by decide)
 exact ql
 refine qb ?_ ?_
 refine Wd hr ?_ ?_
 exact qd 3 (qm.vis 3 rfl) (by decide)
 refine q9 ?_ ?_
 exact qd 6 (qm.vis 6 rfl) (by decide)
 exact ql
 refine qb ?_ ?_
 refine qC K_bend_over hr (by decide) (qm.gl 4 rfl rfl) ?_ rfl
 refine qb ?_ ?_
 exact qd 0 (qm.vis 0 rfl) (by decide)
 refine qb ?_ ?_
 refine q9 ?_ ?_
 exact qd 6 (qm.vis 6 rfl) (by decide)
 exact ql
 refine qb ?_ ?_
 exact qd 5 (qm.vis 5 rfl) (by decide)
 refine qb ?_ ?_
 refine q9 ?_ ?_
 exact qd 6 (qm.vis 6 rfl) (by decide)
 exact ql
 exact qi
 exact qi
 ·rfl
 ·rfl
 refine qu ?_
 refine qJ ?_
 refine Ze ?_
 refine ZM (ZJ hr) (qm.gl 6 rfl rfl) z_sorted zZ ?_
 refine qb ?_ ?_
 exact qd 4 (qm.vis 4 rfl) (by decide)
 exact qi
def Q3:Rho->Option (Ka×Rho):=(xSeq (sSet 1 (evC 1 (aC (vr 0) aN) zx)) xNo (xSeq (sIf (tV (ev2 (vr 1) (kd .none) isnD)) sNo sN) (xIf (tV (ev2 (vr 1) (kd .none) isnD)) (qbd "Crowded" "edge" (vr 1)) xNo) xNo))
def Q4 (ds:List Ka):Option Ka:=xOut Q3 Zo.length ds
theorem qa5 (F:Fun K "skin_joins" "skin_joins" Tq10 f fd)(m:mg "skin_joins" = some (.ref f))(b:Binds K fd ["solid"] [])(K_crowded:Known P w K mg base "crowded" 1 5 zx)(K_skin_of:Known P w K mg base "skin_of" 1 2 zG)(K_numbers_of:Known P w K mg base "numbers_of" 1 1 Qy)(K_squares_at:Known P w K mg base "squares_at" 1 3 Qe)(K_bend_over:Known P w K mg base "bend_over" 4 4 Qt)(K_edge_counts:Known P w K mg base "edge_counts" 1 4 zr)(z_sorted:mg "sorted" = none)(I_Crowded:KnownI P w K mg base "Crowded" "edge" 1):KnownR P w K mg base "skin_joins" 1 6 Q4:=by
 refine ⟨f,fd,["solid"],F.raises (k:=5) (wx:=Q3) (Mx:=[]) qm.fs rfl (fun cdv A outer s H E hr G=>?_),m,F.kp,b⟩
 refine qb7 (M1:=[]) (fr:=.pl) (Mb:=[]) ?_ ?_ ?_
 refine qU 1 ?_ ?_ ?_ ?_ ?_ ?_ ?_
 ·exact qm.fs.nd
 ·exact (qm.loc 1 rfl)
 ·rfl
 ·rfl
 ·exact .inl rfl
 ·decide
 refine qC K_crowded hr (by decide) (qm.gl 0 rfl rfl) ?_ rfl
 refine qb ?_ ?_
 exact qd 0 (qm.vis 0 rfl) (by decide)
 exact qi
 exact qks
 refine qb7 (M1:=[]) (fr:=.pl) (Mb:=[]) ?_ ?_ ?_
 refine Ql ?_ ?_ ?_
 refine qX qfQ ?_ ?_ (zj _)
 exact qd 1 (qm.vis 1 rfl) (by decide)
 exact j5
 refine qu ?_
 exact qao
 exact zT
 refine qkr ?_ ?_ ?_
 refine qX qfQ ?_ ?_ (zj _)
 exact qd 1 (qm.vis 1 rfl) (by decide)
 exact j5
 refine qd5 ?_
 refine qcV I_Crowded hr (by decide) (qm.gl 7 rfl rfl) (qiD ?_)
 exact qd 1 (qm.vis 1 rfl) (by decide)
 exact qd6
 exact qd6
abbrev Tq2:KY:=top 49
abbrev jQ:List Str:=["_law_solid_here", "_law_due_here", "_law_kinds_here", "_law_told", "_law_e"]
theorem qz:ScOk jQ ["_law_solid_here", "_law_due_here"] ["skin_joins", "_law_kinds", "SheetError", "_law_spots"] (qj Tq2):=scmk (by kernel_rfl)
theorem ym:(qj Tq2).names.lookup ("_law_e" : Str)=some NameKind.local:=by decide +kernel
def Qx:Rho->Option Out:=(seqO (sSet 2 (evA (aC (kd (.bool false)) (aC (kd (.bool false)) (aC (kd (.bool true)) aN))) tupD)) (seqO (sSet 3 (kd .none)) (seqO (sTry (qjt (evC 1 (aC (vr 0) aN) Qc)) (qcp 1 (aC (vr 0) aN) Q4) ["SheetError", "NoDrawing", "NoBend", "NoSquare", "TooMany", "NoTurn", "NoRow", "NoName", "NotClosed", "NoSheet", "NoSolid", "NoTree", "NoWay", "Crowded"] 4 (seqO (sSet 2 (evC 1 (aC (vr 4) aN) Zr)) (sIf (tV (ev2 (vr 2) (evA (aC (kd (.bool true)) (aC (kd (.bool true)) (aC (kd (.bool false)) aN))) tupD) eqD)) (sSet 3 (ev1 (vr 4) (exFD XS "edge"))) sN))) (sRet (vA (ev2 (vr 2) (evA (aC (kd (.bool true)) (aC (kd (.bool true)) (aC (kd (.bool false)) aN))) tupD) eqD) (vA (evC 1 (aC (evA (aC (vr 3) aN) lstD) aN) zE) (ev2 (vr 3) (vr 1) eqD)))))))
def QT (ds:List Ka):Option Ka:=ob (Qx (rho0 jQ.length ds)) outD
theorem wU (F:Fun K "_law_refused" "_law_refused" Tq2 f fd)(m:mg "_law_refused" = some (.ref f))(b:Binds K fd ["_law_solid_here", "_law_due_here"] [])(K_skin_joins:Known P w K mg base "skin_joins" 1 6 Qc)(K__law_kinds:KnownM P w K mg base "_law_kinds" 1 1 Zr)(K__law_spots:Known P w K mg base "_law_spots" 1 2 zE)(xf_edge:xfB K XS "edge" = true)(XT:XTab K mg XS)(R_skin_joins:KnownR P w K mg base "skin_joins" 1 6 Q4):Known P w K mg base "_law_refused" 2 7 QT:=by
 refine ⟨f,fd,["_law_solid_here", "_law_due_here"],F.pure (k:=6) (u:=Qx) (M':=[]) qz.fs rfl (fun cdv A outer s H E hr G=>?_),m,F.kp,b⟩
 refine qp (M1:=[]) ?_ ?_
 refine qU 2 ?_ ?_ ?_ ?_ ?_ ?_ ?_
 ·exact qz.fs.nd
 ·exact (qz.loc 2 rfl)
 ·rfl
 ·rfl
 ·exact .inl rfl
 ·decide
 refine zL ?_
 refine qb ?_ ?_
 exact ZK
 refine qb ?_ ?_
 exact ZK
 refine qb ?_ ?_
 exact ZK
 exact qi
 refine qp (M1:=[]) ?_ ?_
 refine qU 3 ?_ ?_ ?_ ?_ ?_ ?_ ?_
 ·exact qz.fs.nd
 ·exact (qz.loc 3 rfl)
 ·rfl
 ·rfl
 ·exact .inl rfl
 ·decide
 exact j5
 refine qp (M1:=[]) ?_ ?_
 refine qiF (Mx:=[]) (cs:=["SheetError", "NoDrawing", "NoBend", "NoSquare", "TooMany", "NoTurn", "NoRow", "NoName", "NotClosed", "NoSheet", "NoSolid", "NoTree", "NoWay", "Crowded"]) ?_ ?_ (fun _=>?_) qz.fs.nd ym (by decide) (by decide) (by decide) (qz.gl 2 rfl rfl) (XT.mg1 (by decide +kernel)) (XT.cat1 (by decide +kernel)) (XT.cs1 (by decide +kernel) (by decide +kernel)) rfl rfl rfl
 refine qu ?_
 refine qgH ?_
 refine qC K_skin_joins hr (by decide) (qz.gl 0 rfl rfl) ?_ rfl
 refine qb ?_ ?_
 exact qd 0 (qz.vis 0 rfl) (by decide)
 exact qi
 refine qd5 ?_
 refine qgL R_skin_joins hr (by decide) (qz.gl 0 rfl rfl) ?_
 refine qb ?_ ?_
 exact qd 0 (qz.vis 0 rfl) (by decide)
 exact qi
 refine qp (M1:=[]) ?_ ?_
 refine qU 2 ?_ ?_ ?_ ?_ ?_ ?_ ?_
 ·exact qz.fs.nd
 ·exact (qz.loc 2 rfl)
 ·rfl
 ·rfl
 ·exact .inl rfl
 ·decide
 refine qe6 K__law_kinds (hr.m _) (by decide) (qz.gl 1 rfl rfl) ?_ rfl
 refine qb ?_ ?_
 exact qd 4 (qz.vis 4 rfl) (by decide)
 exact qi
 refine qu ?_
 refine Ql ?_ ?_ ?_
 refine qX (d_eqM (hr.m _)) ?_ ?_ (zj _)
 exact qd 2 (qz.vis 2 rfl) (by decide)
 refine zL ?_
 refine qb ?_ ?_
 exact ZK
 refine qb ?_ ?_
 exact ZK
 refine qb ?_ ?_
 exact ZK
 exact qi
 refine qu ?_
 refine qU 3 ?_ ?_ ?_ ?_ ?_ ?_ ?_
 ·exact qz.fs.nd
 ·exact (qz.loc 3 rfl)
 ·rfl
 ·rfl
 ·exact .inl rfl
 ·decide
 refine qd1 XT xf_edge ?_
 exact qd 4 (qz.vis 4 rfl) (by decide)
 exact zT
 refine qu ?_
 refine qJ ?_
 refine j4 ?_ ?_
 refine w6 (d_eq hr) ?_ ?_ (zj _)
 exact qd 2 (qz.vis 2 rfl) (by decide)
 refine zL ?_
 refine qb ?_ ?_
 exact ZK
 refine qb ?_ ?_
 exact ZK
 refine qb ?_ ?_
 exact ZK
 exact qi
 refine j4 ?_ ?_
 refine qC K__law_spots hr (by decide) (qz.gl 3 rfl rfl) ?_ rfl
 refine qb ?_ ?_
 refine qgE ?_
 refine qb ?_ ?_
 exact qd 3 (qz.vis 3 rfl) (by decide)
 exact qi
 exact qi
 refine yX ?_
 refine w6 (d_eq hr) ?_ ?_ (zj _)
 exact qd 3 (qz.vis 3 rfl) (by decide)
 exact qd 1 (qz.vis 1 rfl) (by decide)
abbrev Tq11:KY:=top 50
abbrev JT:List Str:=["_law_solid_here", "_law_due_here", "_law_mine", "_law_found"]
theorem qx:ScOk JT ["_law_solid_here"] ["_law_due", "list", "crowded", "skin_joins", "isinstance", "_law_spots", "_law_refused"] (qj Tq11):=scmk (by kernel_rfl)
def Zu:Rho->Option Out:=(seqO (sSet 1 (evC 1 (aC (vr 0) aN) Q5)) (seqO (sSet 2 (evA (aC (vr 0) aN) QM)) (seqO (sSet 3 (evC 1 (aC (vr 2) aN) zx)) (seqO (sIf (tV (ev2 (vr 1) (kd .none) isD)) (sRet (vA (ev2 (vr 3) (kd .none) isD) (vA (ev1 (evC 1 (aC (vr 2) aN) Qc) (isiD "list")) (ev2 (vr 2) (vr 0) eqD)))) sN) (seqO (sIf (tO (tN (tV (evC 1 (aC (evA (aC (vr 3) aN) lstD) aN) zE))) (tV (ev2 (vr 3) (vr 1) neD))) (sRet (kd (.bool false))) sN) (sRet (vA (evC 2 (aC (vr 2) (aC (vr 1) aN)) QT) (ev2 (vr 2) (vr 0) eqD))))))))
def zN (ds:List Ka):Option Ka:=ob (Zu (rho0 JT.length ds)) outD
theorem qaQ (F:Fun K "_law_right" "_law_right" Tq11 f fd)(m:mg "_law_right" = some (.ref f))(b:Binds K fd ["_law_solid_here"] [])(K__law_due:Known P w K mg base "_law_due" 1 3 Q5)(K_crowded:Known P w K mg base "crowded" 1 5 zx)(K_skin_joins:Known P w K mg base "skin_joins" 1 6 Qc)(K__law_spots:Known P w K mg base "_law_spots" 1 2 zE)(K__law_refused:Known P w K mg base "_law_refused" 2 7 QT)(z_list:mg "list" = none)(z_isinstance:mg "isinstance" = none):Known P w K mg base "_law_right" 1 8 zN:=by
 refine ⟨f,fd,["_law_solid_here"],F.pure (k:=7) (u:=Zu) (M':=[]) qx.fs rfl (fun cdv A outer s H E hr G=>?_),m,F.kp,b⟩
 refine qp (M1:=[]) ?_ ?_
 refine qU 1 ?_ ?_ ?_ ?_ ?_ ?_ ?_
 ·exact qx.fs.nd
 ·exact (qx.loc 1 rfl)
 ·rfl
 ·rfl
 ·exact .inl rfl
 ·decide
 refine qC K__law_due hr (by decide) (qx.gl 0 rfl rfl) ?_ rfl
 refine qb ?_ ?_
 exact qd 0 (qx.vis 0 rfl) (by decide)
 exact qi
 refine qp (M1:=[]) ?_ ?_
 refine qU 2 ?_ ?_ ?_ ?_ ?_ ?_ ?_
 ·exact qx.fs.nd
 ·exact (qx.loc 2 rfl)
 ·rfl
 ·rfl
 ·exact .inl rfl
 ·decide
 refine QQ qjC (qx.gl 1 rfl rfl) z_list rfl ?_
 refine qb ?_ ?_
 exact qd 0 (qx.vis 0 rfl) (by decide)
 exact qi
 refine qp (M1:=[]) ?_ ?_
 refine qU 3 ?_ ?_ ?_ ?_ ?_ ?_ ?_
 ·exact qx.fs.nd
 ·exact (qx.loc 3 rfl)
 ·rfl
 ·rfl
 ·exact .inl rfl
 ·decide
 refine qC K_crowded hr (by decide) (qx.gl 2 rfl rfl) ?_ rfl
 refine qb ?_ ?_
 exact qd 2 (qx.vis 2 rfl) (by decide)
 exact qi
 refine qp (M1:=[]) ?_ ?_
 refine Ql ?_ ?_ ?_
 refine qX d_is ?_ ?_ (zj _)
 exact qd 1 (qx.vis 1 rfl) (by decide)
 exact j5
 refine qu ?_
 refine qJ ?_
 refine j4 ?_ ?_
 refine w6 d_is ?_ ?_ (zj _)
 exact qd 3 (qx.vis 3 rfl) (by decide)
 exact j5
 refine j4 ?_ ?_
 refine Wc (T := "list") (qbO _) (qx.gl 4 rfl rfl) z_isinstance (qx.gl 1 rfl rfl) z_list rfl rfl ?_
 refine qC K_skin_joins hr (by decide) (qx.gl 3 rfl rfl) ?_ rfl
 refine qb ?_ ?_
 exact qd 2 (qx.vis 2 rfl) (by decide)
 exact qi
 refine yX ?_
 refine w6 (d_eq hr) ?_ ?_ (zj _)
 exact qd 2 (qx.vis 2 rfl) (by decide)
 exact qd 0 (qx.vis 0 rfl) (by decide)
 exact zT
 refine qp (M1:=[]) ?_ ?_
 refine Ql ?_ ?_ ?_
 refine PDW.pdt ?_
 refine qgK ?_ ?_
 refine YW ?_
 refine YX ?_
 refine qC K__law_spots hr (by decide) (qx.gl 5 rfl rfl) ?_ rfl
 refine qb ?_ ?_
 refine qgE ?_
 refine qb ?_ ?_
 exact qd 3 (qx.vis 3 rfl) (by decide)
 exact qi
 exact qi
 refine qd4 ?_
 refine qX (d_ne hr) ?_ ?_ (zj _)
 exact qd 3 (qx.vis 3 rfl) (by decide)
 exact qd 1 (qx.vis 1 rfl) (by decide)
 refine qu ?_
 refine qJ ?_
 exact ZK
 exact zT
 refine qu ?_
 refine qJ ?_
 refine j4 ?_ ?_
 refine qC K__law_refused hr (by decide) (qx.gl 6 rfl rfl) ?_ rfl
 refine qb ?_ ?_
 exact qd 2 (qx.vis 2 rfl) (by decide)
 refine qb ?_ ?_
 exact qd 1 (qx.vis 1 rfl) (by decide)
 exact qi
 refine yX ?_
 refine w6 (d_eq hr) ?_ ?_ (zj _)
 exact qd 2 (qx.vis 2 rfl) (by decide)
 exact qd 0 (qx.vis 0 rfl) (by decide)
abbrev Tq28:KY:=top 51
abbrev qfp:List Str:=["_law_script", "_law_base_here", "_law_first", "_law_kind", "_law_solid_here", "_law_other", "_law_edge"]
theorem za:ScOk qfp ["_law_script"] ["_law_base", "_law_cell_at", "_law_solid", "Crowded", "_law_right"] (qj Tq28):=scmk (by kernel_rfl)
def qhj:Rho->Option Out:=(seqO (sSet 1 (evC 1 (aC (Qg 7 (evI (evA (aC (kd (.int 1)) (aC (kd (.int 2)) (aC (kd (.int 3)) aN))) tupD) seqD) tT (evC 2 (aC (vr 0) (aC (vr 7) aN)) zW)) aN) QJ)) (seqO (sSet 2 (evC 2 (aC (vr 0) (aC (kd (.int 0)) aN)) zW)) (seqO (sSet 3 (kd (.int 0))) (seqO (sIf (tV (ev2 (ev2 (vr 2) (kd (.int 3)) modD) (kd (.int 0)) gtD)) (sSet 3 (ev2 (kd (.int 1)) (ev2 (ev2 (vr 2) (kd (.int 3)) QB) (kd (.int 24)) modD) qP)) sN) (seqO (sSet 4 (evC 3 (aC (evS (vr 0) (oS (kd (.int 4))) (oS (kd (.int 9)))) (aC (vr 1) (aC (vr 3) aN))) zB)) (seqO (sSet 5 (evC 3 (aC (evS (vr 0) (oS (kd (.int 9))) (oS (kd (.int 14)))) (aC (vr 1) (aC (ev2 (ev2 (ev2 (vr 2) (kd (.int 72)) QB) (kd (.int 2)) modD) (vr 3) mulD) aN))) zB)) (seqO (sSet 6 (evA (aC (ev2 (kd (.int 2)) (ev2 (vr 1) (kd (.int 0)) ixD) mulD) (aC (ev2 (kd (.int 2)) (ev2 (vr 1) (kd (.int 1)) ixD) mulD) (aC (ev2 (ev2 (kd (.int 2)) (ev2 (vr 1) (kd (.int 2)) ixD) mulD) (kd (.int 1)) qP) aN))) tupD)) (seqO (sIf (tV (ev2 (ev1 (ev1 (vr 6) (mkI "Crowded" "edge")) (exFD XS "edge")) (vr 6) neD)) (sRet (kd (.bool false))) sN) (sRet (vA (evC 1 (aC (vr 4) aN) zN) (vA (evC 1 (aC (vr 5) aN) zN) (evC 1 (aC (vr 4) aN) zN))))))))))))
def qdA (ds:List Ka):Option Ka:=ob (qhj (rho0 qfp.length ds)) outD
theorem qkg (F:Fun K "law" "law" Tq28 f fd)(K__law_base:Known P w K mg base "_law_base" 1 1 QJ)(K__law_cell_at:Known P w K mg base "_law_cell_at" 2 1 zW)(K__law_solid:Known P w K mg base "_law_solid" 3 1 zB)(K__law_right:Known P w K mg base "_law_right" 1 8 zN)(I_Crowded:KnownI P w K mg base "Crowded" "edge" 1)(xf_edge:xfB K XS "edge" = true)(XT:XTab K mg XS):FnOk P w K mg base CX0 9 f fd ["_law_script"] (spF K 1 qdA):=by
 refine F.pure (k:=8) (u:=qhj) (M':=[]) za.fs rfl (fun cdv A outer s H E hr G=>?_)
 refine qp (M1:=[]) ?_ ?_
 refine qU 1 ?_ ?_ ?_ ?_ ?_ ?_ ?_
 ·exact za.fs.nd
 ·exact (za.loc 1 rfl)
 ·rfl
 ·rfl
 ·exact .inl rfl
 ·decide
 refine qC K__law_base hr (by decide) (za.gl 0 rfl rfl) ?_ rfl
 refine qb ?_ ?_
 refine ZX (CompOk.of (k:=1) qfp ["_law_script", "_law_base_here", "_law_first", "_law_kind", "_law_solid_here", "_law_other", "_law_edge", "_law_k"] (qj Tq28) rfl rfl rfl (by decide +kernel)) rfl (by decide +kernel) ?_ (fun _ _ _ _ _ _=>?_) (fun _ _ _ _ _ _=>?_)
 refine zy ?_
 refine zL ?_
 refine qb ?_ ?_
 exact ql
 refine qb ?_ ?_
 exact ql
 refine qb ?_ ?_
 exact ql
 exact qi
 exact je
 refine qC K__law_cell_at hr (by decide) (YS (by decide +kernel)) ?_ rfl
 refine qb ?_ ?_
 exact qd 0 (qK (by decide +kernel)) (by decide)
 refine qb ?_ ?_
 exact qd 7 (qK (by decide +kernel)) (by decide)
 exact qi
 exact qi
 refine qp (M1:=[]) ?_ ?_
 refine qU 2 ?_ ?_ ?_ ?_ ?_ ?_ ?_
 ·exact za.fs.nd
 ·exact (za.loc 2 rfl)
 ·rfl
 ·rfl
 ·exact .inl rfl
 ·decide
 refine qC K__law_cell_at hr (by decide) (za.gl 1 rfl rfl) ?_ rfl
 refine qb ?_ ?_
 exact qd 0 (za.vis 0 rfl) (by decide)
 refine qb ?_ ?_
 exact ql
 exact qi
 refine qp (M1:=[]) ?_ ?_
 refine qU 3 ?_ ?_ ?_ ?_ ?_ ?_ ?_
 ·exact za.fs.nd
 ·exact (za.loc 3 rfl)
 ·rfl
 ·rfl
 ·exact .inl rfl
 ·decide
 exact ql
 refine qp (M1:=[]) ?_ ?_
 refine Ql ?_ ?_ ?_
 refine qX d_gt ?_ ?_ (zj _)
 refine qI Zk ?_ ?_
 exact qd 2 (za.vis 2 rfl) (by decide)
 exact ql
 exact ql
 refine qu ?_
 refine qU 3 ?_ ?_ ?_ ?_ ?_ ?_ ?_
 ·exact za.fs.nd
 ·exact (za.loc 3 rfl)
 ·rfl
 ·rfl
 ·exact .inl rfl
 ·decide
 refine qI Qa ?_ ?_
 exact ql
 refine qI Zk ?_ ?_
 refine qI Z1 ?_ ?_
 exact qd 2 (za.vis 2 rfl) (by decide)
 exact ql
 exact ql
 exact zT
 refine qp (M1:=[]) ?_ ?_
 refine qU 4 ?_ ?_ ?_ ?_ ?_ ?_ ?_
 ·exact za.fs.nd
 ·exact (za.loc 4 rfl)
 ·rfl
 ·rfl
 ·exact .inl rfl
 ·decide
 refine qC K__law_solid hr (by decide) (za.gl 2 rfl rfl) ?_ rfl
 refine qb ?_ ?_
 refine qb3 ?_ ?_ ?_
 exact qd 0 (za.vis 0 rfl) (by decide)
 refine yr ?_
 exact ql
 refine yr ?_
 exact ql
 refine qb ?_ ?_
 exact qd 1 (za.vis 1 rfl) (by decide)
 refine qb ?_ ?_
 exact qd 3 (za.vis 3 rfl) (by decide)
 exact qi
 refine qp (M1:=[]) ?_ ?_
 refine qU 5 ?_ ?_ ?_ ?_ ?_ ?_ ?_
 ·exact za.fs.nd
 ·exact (za.loc 5 rfl)
 ·rfl
 ·rfl
 ·exact .inl rfl
 ·decide
 refine qC K__law_solid hr (by decide) (za.gl 2 rfl rfl) ?_ rfl
 refine qb ?_ ?_
 refine qb3 ?_ ?_ ?_
 exact qd 0 (za.vis 0 rfl) (by decide)
 refine yr ?_
 exact ql
 refine yr ?_
 exact ql
 refine qb ?_ ?_
 exact qd 1 (za.vis 1 rfl) (by decide)
 refine qb ?_ ?_
 refine qI jN ?_ ?_
 refine qI Zk ?_ ?_
 refine qI Z1 ?_ ?_
 exact qd 2 (za.vis 2 rfl) (by decide)
 exact ql
 exact ql
 exact qd 3 (za.vis 3 rfl) (by decide)
 exact qi
 refine qp (M1:=[]) ?_ ?_
 refine qU 6 ?_ ?_ ?_ ?_ ?_ ?_ ?_
 ·exact za.fs.nd
 ·exact (za.loc 6 rfl)
 ·rfl
 ·rfl
 ·exact .inl rfl
 ·decide
 refine zL ?_
 refine qb ?_ ?_
 refine qI jN ?_ ?_
 exact ql
 refine q9 ?_ ?_
 exact qd 1 (za.vis 1 rfl) (by decide)
 exact ql
 refine qb ?_ ?_
 refine qI jN ?_ ?_
 exact ql
 refine q9 ?_ ?_
 exact qd 1 (za.vis 1 rfl) (by decide)
 exact ql
 refine qb ?_ ?_
 refine qI Qa ?_ ?_
 refine qI jN ?_ ?_
 exact ql
 refine q9 ?_ ?_
 exact qd 1 (za.vis 1 rfl) (by decide)
 exact ql
 exact ql
 exact qi
 refine qp (M1:=[]) ?_ ?_
 refine Ql ?_ ?_ ?_
 refine qX (d_ne hr) ?_ ?_ (zj _)
 refine qd1 XT xf_edge ?_
 refine qgF I_Crowded hr (by decide) (za.gl 3 rfl rfl) rfl ?_
 exact qd 6 (za.vis 6 rfl) (by decide)
 exact qd 6 (za.vis 6 rfl) (by decide)
 refine qu ?_
 refine qJ ?_
 exact ZK
 exact zT
 refine qu ?_
 refine qJ ?_
 refine j4 ?_ ?_
 refine qC K__law_right hr (by decide) (za.gl 4 rfl rfl) ?_ rfl
 refine qb ?_ ?_
 exact qd 4 (za.vis 4 rfl) (by decide)
 exact qi
 refine j4 ?_ ?_
 refine qC K__law_right hr (by decide) (za.gl 4 rfl rfl) ?_ rfl
 refine qb ?_ ?_
 exact qd 5 (za.vis 5 rfl) (by decide)
 exact qi
 refine yX ?_
 refine qC K__law_right hr (by decide) (za.gl 4 rfl rfl) ?_ rfl
 refine qb ?_ ?_
 exact qd 4 (za.vis 4 rfl) (by decide)
 exact qi
end SF
local macro_rules
 | `(tactic| simp_arith [$ts,*] $[$loc]?)=>`(tactic| simp only [L2.rho0,Km,Vt,KC,Xs,Nat.reduceAdd,Nat.reduceSub,Xf,Nat.sub_self,List.replicate_succ,List.replicate_zero,List.cons_append,XU,Vl,L2.qg6,L2.qbg,L2.qfB,L2.qfz,L2.qfA,L2.ifO_t,L2.ifO_f,L2.qju,L2.vIf_b,L2.tA_b,L2.tO_b,L2.vA_b,L2.vO_b,L2.vN,L2.qkP,L2.qkU,L2.qkO,L2.qkJ,L2.sN,L2.sBk,L2.sCt,L2.tV,L2.tN,L2.tT,L2.ev2_b,L2.qjF,L2.ev1,L2.vr_z,L2.vr_s,L2.kd,L2.evA,L2.evC_b,L2.qhs,L2.evC0,L2.aC_b,L2.qhC,L2.aN,L2.qj6,L2.qj7,L2.tupD,L2.lstD,L2.qhg,L2.qhh,L2.qig,L2.qih,L2.qjx,L2.qk0,L2.qkb,L2.qfX,L2.qdT,L2.pow_a,L2.pow_b,L2.qhM,L2.qin,L2.qj8,L2.gtD_i,L2.qhr,L2.ixD_l,L2.ixD_t,L2.atI0,L2.atI1,L2.atI2,L2.atI3,L2.atI4,L2.atI5,L2.qkp,L2.qko,L2.ob_s,L2.gNm,L2.gsN_n,L2.gsC_c,L2.qk8,List.set_cons_zero,List.set_cons_succ,List.set_nil,L2.evI,L2.evR,L2.qkR,L2.qkS,L2.qiY,L2.rngL,L2.qhA,L2.qhw,L2.qdo,L2.qhy,L2.qdr,L2.qdq,L2.qii,L2.qg3,L2.qf2,L2.qf1,L2.qjN,L2.qdC,L2.qhX,L2.qhW,L2.qhY,if_true,if_false,VH,E9,Bool.not_false,Nat.reduceLeDiff,and_self,and_true,true_and,Int.reduceToNat,Int.reduceAdd,Int.reduceSub,Int.reduceLE,Int.reduceLT,Int.reduceNeg,reduceIte,L2.isiD,L2.qjW,L2.qjT,L2.qjS,L2.qjR,L2.qjV,L2.qjU,String.reduceBEq,L2.natLit,Int.reduceBEq,EB,Bool.or_true,XH,Bool.or_false,L2.qi1,L2.qk3,L2.qhS,L2.qjK,L2.qhT,L2.qjL,L2.qkL,L2.qjA,L2.qjz,L2.isD_n,L2.qjY,L2.isD_b,L2.qjX,L2.evS_b,L2.qkY,L2.oN,L2.oS_b,L2.qkB,Nat.reduceLT,decide_true,decide_false,L2.qkN,L2.qkF,L2.qkT,L2.qg4,L2.qhl,L2.qhK,L2.qhL,L2.enL_n,L2.enL_c,L2.qdt,L2.qhB,L2.qdn,L2.qdl,L2.qhx,L2.qhz,L2.qhv,L2.qi0,L2.dpO_s,L2.qkf,L2.ev3_b,L2.qk4,$ts,*] $[$loc]?)
namespace SF
open PySem L2
def Qo (ns:List Int)(k:Int):Int:=ns.getD k.toNat 0
theorem cell_bd {ns:List Int}(h:∀ k∈ns,V9 k<=2 ^ 20)(k:Int):Bd 1048576 (Qo ns k):=by
 unfold Qo
 by_cases hk:k.toNat<ns.length
 ·rw [V3,Kq hk]
  exact h _ (Nu hk)
 ·rw [V3,Nz (by omega)]
  show V9 0<=1048576
  decide
theorem cell_eq (ns:List Int)(k:Int)(hk:0<=k):zW [.list (ns.map .int),.int k]=some (.int (Qo ns k)):=by
 simp only [zW,ZQ]
 simp_arith []
 by_cases h:k<((ns.map KU).length:Int)
 ·have h':k.toNat<ns.length:=by rw [Kj] at h;omega
  have e:atI (ns.map KU) k=some (.int (Qo ns k)):=by
   have e1:((k.toNat:Nat):Int)=k:=by omega
   have:=qdg (xs:=ns.map KU) (j:=k.toNat) (v:=.int (Qo ns k)) (by
    rw [Vb,Kq h']
    unfold Qo
    rw [V3,Kq h']
    rfl)
   rw [e1] at this
   exact this
  simp_arith [decide_eq_true h,e]
 ·have h':¬ k.toNat<ns.length:=by rw [Kj] at h;omega
  have e:Qo ns k=0:=by
   unfold Qo
   rw [V3,Nz (by omega)]
   rfl
  simp_arith [decide_eq_false h,e]
abbrev Sp:=Int×Int×Int
def eS (s:Sp):Ka:=.tuple [.int s.1,.int s.2.1,.int s.2.2]
def l3 (s:Sp):List Int:=[s.1,s.2.1,s.2.2]
def b3:List Int->Sp
 | [a,b,c]=>(a,b,c)
 | _=>(0,0,0)
theorem qjd (s:Sp):b3 (l3 s)=s:=rfl
theorem qj5 {a b:Sp}(h:l3 a=l3 b):a=b:=by rw [← qjd a,h,qjd]
theorem qcQ (xs:List Sp):xs.map eS=(xs.map l3).map tI:=by rw [Vf];rfl
theorem Q9 {xs:List Sp}(h:xs.length<64):∃ ys:List Sp,zb [.list (xs.map eS)]=some (.list (ys.map eS))/\ys.Perm xs/\(ys.map l3).Pairwise (fun a b=>HT.lexLt b a=false):=by
 obtain ⟨mss,e,p,o⟩:=qa8 (nss:=xs.map l3) (by rw [Kj];exact h) (by
  intro ns hn
  obtain ⟨x,_,rfl⟩:=KN.mp hn
  exact fun z=>by cases z)
 have back:∀ m∈mss,(l3 ∘ b3) m=id m:=fun m hm=>by
  obtain ⟨x,_,rfl⟩:=KN.mp (p.mem_iff.mp hm)
  rfl
 have hm:(mss.map b3).map l3=mss:=by
  rw [Vf]
  exact (VD back).trans (EZ mss)
 refine ⟨mss.map b3,?_,?_,?_⟩
 ·rw [qcQ,e,qcQ,hm]
 ·have:=p.map b3
  rw [Vf] at this
  have e2:xs.map (b3 ∘ l3)=xs:=(VD (fun x _=>rfl)).trans (EZ xs)
  rwa [e2] at this
 ·rw [hm];exact o
theorem Z0 {as bs:List Sp}(p:as.Perm bs)(h1:(as.map l3).Pairwise (fun a b=>HT.lexLt b a=false))(h2:(bs.map l3).Pairwise (fun a b=>HT.lexLt b a=false)):as=bs:=by
 have:=Jy (p.map l3) h1 h2
 have e:=congrArg (List.map b3) this
 rw [Vf,Vf] at e
 have k:∀ xs:List Sp,xs.map (b3 ∘ l3)=xs:=fun xs=>(VD (fun x _=>rfl)).trans (EZ xs)
 rwa [k,k] at e
theorem jq (a b:Sp):KP (eS a) (eS b)=decide (a=b):=by
 have:KP (eS a) (eS b)=((a.1==b.1)&&((a.2.1==b.2.1)&&((a.2.2==b.2.2)&&true))):=rfl
 rw [this]
 obtain ⟨a1,a2,a3⟩:=a
 obtain ⟨b1,b2,b3⟩:=b
 by_cases h1:a1=b1<;>by_cases h2:a2=b2<;>by_cases h3:a3=b3<;>simp [h1,h2,h3]
theorem qfG (xs:List Sp):Kr (xs.map eS)=true/\KI (xs.map eS)<=1:=by rw [qcQ];exact wy _
theorem qdH (xs:List Sp)(q:Sp):inOk (xs.map eS) (eS q)=true:=by
 unfold inOk
 rw [(qfG xs).1,Bool.true_and,Ks]
 exact ⟨rfl,rfl⟩
theorem qf6 (xs:List Sp)(q:Sp):inL (xs.map eS) (eS q)=decide (q∈xs):=by
 unfold inL
 rw [List.any_map]
 induction xs with
 | nil=>rfl
 | cons x xs ih =>
  rw [Ug,ih]
  show (KP (eS x) (eS q)||_)=_
  rw [jq]
  by_cases h:x=q
  ·subst h;rw [decide_eq_true rfl,EB,decide_eq_true KZ]
  ·rw [decide_eq_false h,XH]
   by_cases h2:q∈xs
   ·rw [decide_eq_true h2,decide_eq_true (K9 _ h2)]
   ·rw [decide_eq_false h2,decide_eq_false (by rw [Kk];rintro (rfl|z);exact h rfl;exact h2 z)]
theorem qjP (xs:List Sp)(q:Sp):inD (eS q) (.list (xs.map eS))=some (.bool (decide (q∈xs))):=by
 show (if inOk (xs.map eS) (eS q)=true then some (Ni (inL (xs.map eS) (eS q))) else none)=_
 rw [qdH,qf6];rfl
theorem qdW (xs:List Sp)(q:Sp):ninD (eS q) (.list (xs.map eS))=some (.bool (!decide (q∈xs))):=by
 show (if inOk (xs.map eS) (eS q)=true then some (Ni (!inL (xs.map eS) (eS q))) else none)=_
 rw [qdH,qf6];rfl
theorem qav (xs:List Sp):VT (.list (xs.map eS))=true:=by
 have h:=qfG xs
 have h2:Uz (.list (xs.map eS))=KI (xs.map eS)+1:=rfl
 unfold VT
 rw [h2,Ks]
 exact ⟨h.1,decide_eq_true (by omega)⟩
theorem qdw:∀ xs ys:List Sp,KP (.list (xs.map eS)) (.list (ys.map eS))=decide (xs=ys)
 | [],[]=>rfl
 | [],_::_=>rfl
 | _::_,[]=>rfl
 | x::xs,y::ys=>by
  have:KP (.list ((x::xs).map eS)) (.list ((y::ys).map eS))=(KP (eS x) (eS y)&&KP (.list (xs.map eS)) (.list (ys.map eS))):=rfl
  rw [this,jq,qdw,Ua]
  simp
theorem qjJ (xs ys:List Sp):eqD (.list (xs.map eS)) (.list (ys.map eS))=some (.bool (decide (xs=ys))):=by
 unfold eqD
 rw [if_pos ⟨qav _,qav _⟩,qdw]
theorem qby {α:Type}(enc:α->Ka){g:Ka->Rho->Option Rho}{u:Rho->Option Out}(I:List α->Rho->Prop)(all:List α)(step:∀ a∈all,∀ done ρ,done.length<all.length->I done ρ->∃ ρ',ob (g (enc a) ρ) u=some (.nx ρ')/\I (done++[a]) ρ') :
  ∀ (as done:List α) (ρ:Rho),(∀ a∈as,a∈all)->done.length+as.length=all.length->I done ρ->∃ ρ',forD g u (as.map enc) ρ=some (.nx ρ')/\I (done++as) ρ'
 | [],done,ρ,_,_,h=>⟨ρ,rfl,by rw [Vl];exact h⟩
 | a::as,done,ρ,hm,hl,h=>by
  rw [KC] at hl
  obtain ⟨ρ1,e1,h1⟩:=step a (hm a (.head _)) done ρ (by omega) h
  obtain ⟨ρ2,e2,h2⟩:=qby enc I all step as (done++[a]) ρ1 (fun x hx=>hm x (.tail _ hx)) (by rw [Kp,Ky];omega) h1
  refine ⟨ρ2,?_,by rw [U2] at h2;exact h2⟩
  rw [Km,qf1,e1,qdC]
  exact e2
theorem Qh {α:Type}(enc:α->Ka){g:Ka->Rho->Option Rho}{u:Rho->Option Out}(I:List α->Rho->Prop)(as:List α)(ρ:Rho)(h:I [] ρ)(step:∀ a∈as,∀ done ρ,done.length<as.length->I done ρ->∃ ρ',ob (g (enc a) ρ) u=some (.nx ρ')/\I (done++[a]) ρ') :
  ∃ ρ',forD g u (as.map enc) ρ=some (.nx ρ')/\I as ρ':=by
 obtain ⟨ρ',e,i⟩:=qby enc I as step as [] ρ (fun _ h=>h) (by simp) h
 exact ⟨ρ',e,by rwa [XU] at i⟩
theorem Zv {α:Type}(enc:α->Ka){tt:Rho->Option Bool}{te:Rho->Option Ka}{ρ:Rho}(p:α->Bool)(f:α->Ka):∀ (as:List α),(∀ a∈as,tt (ρ++[some (enc a)])=some (p a))->(∀ a∈as,p a=true->te (ρ++[some (enc a)])=some (f a))->Qp tt te ρ (as.map enc)=some ((as.filter p).map f)
 | [],_,_=>rfl
 | a::as,h1,h2=>by
  have ih:=Zv enc p f as (fun x hx=>h1 x (.tail _ hx)) (fun x hx=>h2 x (.tail _ hx))
  rw [Km,qdo,h1 a (.head _),Xh]
  cases e:p a with
  | true=>rw [qdr,h2 a (.head _) e,ih];rfl
  | false=>rw [qdq,ih];rfl
def mid (c:Sp):Sp:=(2*c.1+1,2*c.2.1+1,2*c.2.2+1)
def cr (a:Nat)(q s:Sp):Bool:=match a with
 | 0=>decide (s.1 % 2=0/\s.1 > q.1/\s.2.1=q.2.1/\s.2.2=q.2.2)
 | 1=>decide (s.2.1 % 2=0/\s.2.1 > q.2.1/\s.1=q.1/\s.2.2=q.2.2)
 | _=>decide (s.2.2 % 2=0/\s.2.2 > q.2.2/\s.1=q.1/\s.2.1=q.2.1)
def Sq (s:Sp):Prop:=(s.1 % 2=0/\s.2.1 % 2=1/\s.2.2 % 2=1)\/(s.1 % 2=1/\s.2.1 % 2=0/\s.2.2 % 2=1)\/(s.1 % 2=1/\s.2.1 % 2=1/\s.2.2 % 2=0)
theorem YQ (a b:Sp):eqD (eS a) (eS b)=some (.bool (decide (a=b))):=by
 unfold eqD
 rw [if_pos ⟨rfl,rfl⟩,jq]
theorem qdf {α β:Type}{f:α->β}{xs:List α}{k:Int}{x:α}(h0:0<=k)(h:xs[k.toNat]?=some x):atI (xs.map f) k=some (f x):=by
 have e1:((k.toNat:Nat):Int)=k:=by omega
 have:=qdg (xs:=xs.map f) (j:=k.toNat) (v:=f x) (by rw [Vb,h];rfl)
 rwa [e1] at this
theorem qc0 {u w:Rho->Option Out}{ρ ρ':Rho}{r:Option Out}(h:u ρ=some (.nx ρ'))(h2:w ρ'=r):seqO u w ρ=r:=by rw [qg6,h,qbg];exact h2
theorem ixe0 (s:Sp):ixD (eS s) (.int 0)=some (.int s.1):=rfl
theorem ixe1 (s:Sp):ixD (eS s) (.int 1)=some (.int s.2.1):=rfl
theorem ixe2 (s:Sp):ixD (eS s) (.int 2)=some (.int s.2.2):=rfl
theorem qfW (s:Sp):WX (eS s)=some (enL 0 [.int s.1,.int s.2.1,.int s.2.2]):=rfl
theorem ix0:ixN 3 0=some 0:=rfl
theorem ix1:ixN 3 1=some 1:=rfl
theorem ix2:ixN 3 2=some 2:=rfl
theorem Qu (i:Int):flat (.int i)=true:=rfl
theorem QW (a b c:Int):flat (.tuple [.int a,.int b,.int c])=true:=rfl
theorem qhU (s:Sp):flat (eS s)=true:=rfl
theorem wK (a b c:Int):WY (.list [.int a,.int b,.int c])=true:=rfl
theorem qfY:∀ xs:List Sp,WY (.list (xs.map eS))=true
 | []=>rfl
 | _::xs=>qfY xs
def BdS (n:Nat)(c:Sp):Prop:=Bd n c.1/\Bd n c.2.1/\Bd n c.2.2
theorem bd2:Bd 2 2:=Bd.of (by decide)
theorem qg2 (n:Nat):rngL 0 n=(X7 n).map fun k=>KU (k:Nat):=by
 have:∀ (n m:Nat),rngL (m:Nat) n=(List.range' m n).map fun k=>KU (k:Nat):=by
  intro n
  induction n with
  | zero=>intro m;rfl
  | succ n ih =>
   intro m
   rw [rngL,List.range'_succ,Km,← ih (m+1)]
   rfl
 rw [E8]
 exact this n 0
theorem lex3 (x y:Sp):HT.lexLt (l3 x) (l3 y)=decide (x.1<y.1\/(x.1=y.1/\(x.2.1<y.2.1\/(x.2.1=y.2.1/\x.2.2<y.2.2)))):=by
 unfold l3
 rw [HT.zU,HT.zU,HT.zU,HT.Wx]
 by_cases h1:x.1=y.1
 ·rw [if_pos h1]
  by_cases h2:x.2.1=y.2.1
  ·rw [if_pos h2]
   by_cases h3:x.2.2=y.2.2
   ·rw [if_pos h3,decide_eq_false (by omega)]
   ·rw [if_neg h3]
    exact decide_eq_decide.mpr (by omega)
  ·rw [if_neg h2]
   exact decide_eq_decide.mpr (by omega)
 ·rw [if_neg h1]
  exact decide_eq_decide.mpr (by omega)
theorem ris3 (x y:Sp):HT.lexLt (l3 y) (l3 x)=false↔(x.1<y.1\/(x.1=y.1/\(x.2.1<y.2.1\/(x.2.1=y.2.1/\x.2.2<=y.2.2)))):=by
 rw [lex3,decide_eq_false_iff_not]
 omega
theorem qfO (ns:List Int){a b:Nat}:∃ ms:List Int,sliD (.list (ns.map .int)) (some (a:Int)) (some (b:Int))=some (.list (ms.map .int))/\ms.length<=b-a:=by
 refine ⟨(ns.drop (HT.sIx (ns.map KU).length 0 (some (a:Int)))).take (HT.sIx (ns.map KU).length (ns.map KU).length (some (b:Int))-HT.sIx (ns.map KU).length 0 (some (a:Int))),?_,?_⟩
 ·show some (Nj (cutD (ns.map .int) (some (a:Int)) (some (b:Int))))=_
  unfold cutD
  rw [← List.map_drop,← List.map_take]
 ·rw [Nn,Eu,HT.qeh,HT.qeh,Kj]
  omega
def qdU (n:Nat)(c:Sp):Prop:=c.1.natAbs<=n/\c.2.1.natAbs<=n/\c.2.2.natAbs<=n
theorem qdV {n:Nat}{c:Sp}(h:qdU n c)(hn:n<2 ^ 200):BdS 200 c:=⟨Bd.of (by have:=h.1;omega),Bd.of (by have:=h.2.1;omega),Bd.of (by have:=h.2.2;omega)⟩
theorem qjg (x:Int):x % 3=0\/x % 3=1\/x % 3=2:=by omega
theorem qhJ {α:Type}{xs:List α}(x:Int)(h:0<xs.length):∃ y∈xs,xs[(x % (xs.length:Int)).toNat]?=some y:=by
 have a1:=ER x (b:=(xs.length:Int)) (by omega)
 have a2:=Int.emod_lt_of_pos x (b:=(xs.length:Int)) (by omega)
 have hlt:(x % (xs.length:Int)).toNat<xs.length:=by omega
 exact ⟨xs[(x % (xs.length:Int)).toNat],Nu hlt,Kq hlt⟩
theorem qfw {s:Sp}{A:Nat}(hA:A=0/\s.1 % 2=0/\s.2.1 % 2=1/\s.2.2 % 2=1\/A=1/\s.1 % 2=1/\s.2.1 % 2=0/\s.2.2 % 2=1\/A=2/\s.1 % 2=1/\s.2.1 % 2=1/\s.2.2 % 2=0):Qk [eS s]=some (.int (A:Nat)):=by
 have i0:Zi (.list [.int 0,.int 1,.int 1]) (.int 0)=some (.int 0):=rfl
 have i1:Zi (.list [.int 1,.int 0,.int 1]) (.int 0)=some (.int 1):=rfl
 have i2:Zi (.list [.int 1,.int 1,.int 0]) (.int 0)=some (.int 2):=rfl
 rcases hA with ⟨rfl,h1,h2,h3⟩|⟨rfl,h1,h2,h3⟩|⟨rfl,h1,h2,h3⟩<;>simp only [Qk,Yg,eS]
 ·simp_arith [h1,h2,h3,i0]
 ·simp_arith [h1,h2,h3,i1]
 ·simp_arith [h1,h2,h3,i2]
def ed (A:Nat)(s:Sp):List Sp:=match A with
 | 0=>[(s.1,s.2.1 + -1,s.2.2),(s.1,s.2.1+1,s.2.2),(s.1,s.2.1,s.2.2 + -1),(s.1,s.2.1,s.2.2+1)]
 | 1=>[(s.1 + -1,s.2.1,s.2.2),(s.1+1,s.2.1,s.2.2),(s.1,s.2.1,s.2.2 + -1),(s.1,s.2.1,s.2.2+1)]
 | _=>[(s.1 + -1,s.2.1,s.2.2),(s.1+1,s.2.1,s.2.2),(s.1,s.2.1 + -1,s.2.2),(s.1,s.2.1+1,s.2.2)]
def others (A:Nat):List Ka:=match A with
 | 0=>[.int 1,.int 2]
 | 1=>[.int 0,.int 2]
 | _=>[.int 0,.int 1]
theorem qgw {A:Nat}(hA:A=0\/A=1\/A=2)(s:Sp):∃ zs:List Sp,zF [eS s,.list (others A)]=some (.list (zs.map eS))/\zs.Perm (ed A s)/\(zs.map l3).Pairwise (fun a b=>HT.lexLt b a=false):=by
 obtain ⟨zs,e,p,o⟩:=Q9 (xs:=ed A s) (by rcases hA with rfl|rfl|rfl<;>exact (show (4:Nat)<64 by decide))
 refine ⟨zs,?_,p,o⟩
 rcases hA with rfl|rfl|rfl
 ·have e:zb [.list [.tuple [.int s.1,.int (s.2.1 + -1),.int s.2.2],.tuple [.int s.1,.int (s.2.1+1),.int s.2.2],.tuple [.int s.1,.int s.2.1,.int (s.2.2 + -1)],.tuple [.int s.1,.int s.2.1,.int (s.2.2+1)]]]=some (.list (zs.map eS)):=e
  simp only [zF,Zf,eS,others]
  simp_arith [ix0,ix1,ix2,Qu,QW,e]
 ·have e:zb [.list [.tuple [.int (s.1 + -1),.int s.2.1,.int s.2.2],.tuple [.int (s.1+1),.int s.2.1,.int s.2.2],.tuple [.int s.1,.int s.2.1,.int (s.2.2 + -1)],.tuple [.int s.1,.int s.2.1,.int (s.2.2+1)]]]=some (.list (zs.map eS)):=e
  simp only [zF,Zf,eS,others]
  simp_arith [ix0,ix1,ix2,Qu,QW,e]
 ·have e:zb [.list [.tuple [.int (s.1 + -1),.int s.2.1,.int s.2.2],.tuple [.int (s.1+1),.int s.2.1,.int s.2.2],.tuple [.int s.1,.int (s.2.1 + -1),.int s.2.2],.tuple [.int s.1,.int (s.2.1+1),.int s.2.2]]]=some (.list (zs.map eS)):=e
  simp only [zF,Zf,eS,others]
  simp_arith [ix0,ix1,ix2,Qu,QW,e]
def edU (A:Nat)(s:Sp):List Sp:=match A with
 | 0=>[(s.1+0,s.2.1 + -1,s.2.2+0),(s.1+0,s.2.1+0,s.2.2 + -1),(s.1+0,s.2.1+0,s.2.2+1),(s.1+0,s.2.1+1,s.2.2+0)]
 | 1=>[(s.1 + -1,s.2.1+0,s.2.2+0),(s.1+0,s.2.1+0,s.2.2 + -1),(s.1+0,s.2.1+0,s.2.2+1),(s.1+1,s.2.1+0,s.2.2+0)]
 | _=>[(s.1 + -1,s.2.1+0,s.2.2+0),(s.1+0,s.2.1 + -1,s.2.2+0),(s.1+0,s.2.1+1,s.2.2+0),(s.1+1,s.2.1+0,s.2.2+0)]
theorem qjn {α:Type}(a b c d:α):[a,c,d,b].Perm [a,b,c,d]:=.cons a ((List.Perm.cons c (.swap b d [])).trans (.swap b c [d]))
theorem qfV {A:Nat}(hA:A=0\/A=1\/A=2)(s:Sp):(edU A s).Perm (ed A s):=by
 obtain ⟨x,y,z⟩:=s
 rcases hA with rfl|rfl|rfl<;>simp only [edU,ed,ED]<;>exact qjn _ _ _ _
theorem qfu {A:Nat}(hA:A=0\/A=1\/A=2)(s:Sp):∃ zs:List Sp,Qs [eS s,.int (A:Nat)]=some (.list (zs.map eS))/\zF [eS s,.list (others A)]=some (.list (zs.map eS))/\zs.Perm (ed A s):=by
 obtain ⟨zs,en,pn,on⟩:=qgw hA s
 obtain ⟨ys,e,p,o⟩:=Q9 (xs:=edU A s) (by rcases hA with rfl|rfl|rfl<;>exact (show (4:Nat)<64 by decide))
 have same:ys=zs:=Z0 ((p.trans (qfV hA s)).trans pn.symm) o on
 subst same
 refine ⟨ys,?_,en,pn⟩
 rcases hA with rfl|rfl|rfl
 ·have e:zb [.list [.tuple [.int (s.1+0),.int (s.2.1 + -1),.int (s.2.2+0)],.tuple [.int (s.1+0),.int (s.2.1+0),.int (s.2.2 + -1)],.tuple [.int (s.1+0),.int (s.2.1+0),.int (s.2.2+1)],.tuple [.int (s.1+0),.int (s.2.1+1),.int (s.2.2+0)]]]=some (.list (ys.map eS)):=e
  simp only [Qs,Jd,eS,Zb]
  simp_arith [zP,Ju,e,Int.ofNat_eq_natCast,Xi]
 ·have e:zb [.list [.tuple [.int (s.1 + -1),.int (s.2.1+0),.int (s.2.2+0)],.tuple [.int (s.1+0),.int (s.2.1+0),.int (s.2.2 + -1)],.tuple [.int (s.1+0),.int (s.2.1+0),.int (s.2.2+1)],.tuple [.int (s.1+1),.int (s.2.1+0),.int (s.2.2+0)]]]=some (.list (ys.map eS)):=e
  simp only [Qs,Jd,eS,Zb]
  have h1:(((1:Nat):Int))=1:=rfl
  simp_arith [zP,Ju,e,h1]
 ·have e:zb [.list [.tuple [.int (s.1 + -1),.int (s.2.1+0),.int (s.2.2+0)],.tuple [.int (s.1+0),.int (s.2.1 + -1),.int (s.2.2+0)],.tuple [.int (s.1+0),.int (s.2.1+1),.int (s.2.2+0)],.tuple [.int (s.1+1),.int (s.2.1+0),.int (s.2.2+0)]]]=some (.list (ys.map eS)):=e
  simp only [Qs,Jd,eS,Zb]
  have h2:(((2:Nat):Int))=2:=rfl
  simp_arith [zP,Ju,e,h2]
theorem qi8 (n:Int):QV [.int n]=some (.bool true):=rfl
theorem qej (xs:List Sp):zE [.list (xs.map eS)]=some (.bool true):=by
 obtain ⟨ρ',e,o1,o2,rfl⟩:=Qh eS (g:=gNm 1) (u:=(seqO (sIf (tO (tN (tV (ev1 (vr 1) (isiD "tuple")))) (tV (ev2 (evA (aC (vr 1) aN) lenD) (kd (.int 3)) neD))) (sRet (kd (.bool false))) sN) (sFor (evI (vr 1) seqD) (gNm 2) (sIf (tN (tV (evC 1 (aC (vr 2) aN) QV))) (sRet (kd (.bool false))) sN))))
  (fun done ρ=>∃ o1 o2:Option Ka,ρ=[some (.list (xs.map eS)),o1,o2]) xs [some (.list (xs.map eS)),none,none] ⟨none,none,rfl⟩ (by
   rintro a ha done ρ hdl ⟨o1,o2,rfl⟩
   refine ⟨[some (.list (xs.map eS)),some (eS a),some (.int a.2.2)],?_,_,_,rfl⟩
   simp only [eS]
   simp_arith [qi8])
 simp only [zE,jH]
 simp_arith []
 have:=congrArg (fun o=>ob (wu o (sRet (kd (.bool true)))) outD) e
 simp_arith [] at this
 exact this
def sb (a b:Sp):Sp:=(a.1-b.1,a.2.1-b.2.1,a.2.2-b.2.2)
def ar (B:Nat)(e:Sp):List Sp:=match B with
 | 0=>[(e.1,e.2.1-1,e.2.2),(e.1,e.2.1,e.2.2-1),(e.1,e.2.1,e.2.2+1),(e.1,e.2.1+1,e.2.2)]
 | 1=>[(e.1-1,e.2.1,e.2.2),(e.1,e.2.1,e.2.2-1),(e.1,e.2.1,e.2.2+1),(e.1+1,e.2.1,e.2.2)]
 | _=>[(e.1-1,e.2.1,e.2.2),(e.1,e.2.1-1,e.2.2),(e.1,e.2.1+1,e.2.2),(e.1+1,e.2.1,e.2.2)]
def lo (A:Nat)(s:Sp):Sp:=match A with
 | 0=>(s.1-1,s.2.1,s.2.2)
 | 1=>(s.1,s.2.1-1,s.2.2)
 | _=>(s.1,s.2.1,s.2.2-1)
def hi (A:Nat)(s:Sp):Sp:=match A with
 | 0=>(s.1+1,s.2.1,s.2.2)
 | 1=>(s.1,s.2.1+1,s.2.2)
 | _=>(s.1,s.2.1,s.2.2+1)
def axA (s:Sp):Nat:=if s.1 % 2=0 then 0 else if s.2.1 % 2=0 then 1 else 2
def skB (I:Sp->Bool)(s:Sp):Bool:=I (lo (axA s) s) != I (hi (axA s) s)
def Zd (I:Sp->Bool)(s0 e s1:Sp):Int:=if sb s1 e=sb e s0 then 0 else if sb s1 e=sb s0 (if I (lo (axA s0) s0)=true then lo (axA s0) s0 else hi (axA s0) s0) then 1 else -1
def md4 (B:Nat)(e:Sp):List Sp:=match B with
 | 0=>[(e.1,e.2.1-1,e.2.2-1),(e.1,e.2.1-1,e.2.2+1),(e.1,e.2.1+1,e.2.2-1),(e.1,e.2.1+1,e.2.2+1)]
 | 1=>[(e.1-1,e.2.1,e.2.2-1),(e.1-1,e.2.1,e.2.2+1),(e.1+1,e.2.1,e.2.2-1),(e.1+1,e.2.1,e.2.2+1)]
 | _=>[(e.1-1,e.2.1-1,e.2.2),(e.1-1,e.2.1+1,e.2.2),(e.1+1,e.2.1-1,e.2.2),(e.1+1,e.2.1+1,e.2.2)]
theorem jC {α:Type}[DecidableEq α]:∀ {as bs:List α},as.Nodup->bs.Nodup->(∀ x,x∈as↔x∈bs)->as.Perm bs
 | [],[],_,_,_=>.refl _
 | [],b::bs,_,_,h=>absurd ((h b).mpr (.head _)) (by simp)
 | a::as,bs,h1,h2,h=>by
  have ha:a∈bs:=(h a).mp (.head _)
  obtain ⟨n1,n2⟩:=VS.mp h1
  refine List.Perm.trans (List.Perm.cons a (jC n2 (h2.erase a) fun x=>?_)) (List.perm_cons_erase ha).symm
  rw [h2.mem_erase_iff]
  constructor
  ·intro hx
   exact ⟨fun z=>n1 (by rw [← z];exact hx),(h x).mp (.tail _ hx)⟩
  ·rintro ⟨hx,hm⟩
   rcases Kk.mp ((h x).mpr hm) with z|z
   ·exact absurd z hx
   ·exact z
abbrev EdB' (B:Nat)(e:Sp):Prop:=B=0/\e.1 % 2=1/\e.2.1 % 2=0/\e.2.2 % 2=0\/B=1/\e.1 % 2=0/\e.2.1 % 2=1/\e.2.2 % 2=0\/B=2/\e.1 % 2=0/\e.2.1 % 2=0/\e.2.2 % 2=1
theorem QD {s:Sp}(h:Sq s):(axA s=0/\s.1 % 2=0/\s.2.1 % 2=1/\s.2.2 % 2=1)\/(axA s=1/\s.1 % 2=1/\s.2.1 % 2=0/\s.2.2 % 2=1)\/(axA s=2/\s.1 % 2=1/\s.2.1 % 2=1/\s.2.2 % 2=0):=by
 unfold axA
 rcases h with ⟨a,b,c⟩|⟨a,b,c⟩|⟨a,b,c⟩
 ·exact .inl ⟨if_pos a,a,b,c⟩
 ·exact .inr (.inl ⟨by rw [if_neg (by omega),if_pos b],a,b,c⟩)
 ·exact .inr (.inr ⟨by rw [if_neg (by omega),if_neg (by omega)],a,b,c⟩)
theorem ju {e s:Sp}:s∈ar 0 e↔s.1=e.1/\((s.2.2=e.2.2/\(s.2.1=e.2.1-1\/s.2.1=e.2.1+1))\/(s.2.1=e.2.1/\(s.2.2=e.2.2-1\/s.2.2=e.2.2+1))):=by
 obtain ⟨x,y,z⟩:=e
 obtain ⟨u,v,w⟩:=s
 simp only [ar,Kk,K3,or_false,UD]
 constructor
 ·rintro (⟨a,b,c⟩|⟨a,b,c⟩|⟨a,b,c⟩|⟨a,b,c⟩)
  ·exact ⟨a,.inl ⟨c,.inl b⟩⟩
  ·exact ⟨a,.inr ⟨b,.inl c⟩⟩
  ·exact ⟨a,.inr ⟨b,.inr c⟩⟩
  ·exact ⟨a,.inl ⟨c,.inr b⟩⟩
 ·rintro ⟨a,⟨c,b|b⟩|⟨b,c|c⟩⟩
  ·exact .inl ⟨a,b,c⟩
  ·exact .inr (.inr (.inr ⟨a,b,c⟩))
  ·exact .inr (.inl ⟨a,b,c⟩)
  ·exact .inr (.inr (.inl ⟨a,b,c⟩))
theorem jw {e s:Sp}:s∈ar 1 e↔s.2.1=e.2.1/\((s.2.2=e.2.2/\(s.1=e.1-1\/s.1=e.1+1))\/(s.1=e.1/\(s.2.2=e.2.2-1\/s.2.2=e.2.2+1))):=by
 obtain ⟨x,y,z⟩:=e
 obtain ⟨u,v,w⟩:=s
 simp only [ar,Kk,K3,or_false,UD]
 constructor
 ·rintro (⟨a,b,c⟩|⟨a,b,c⟩|⟨a,b,c⟩|⟨a,b,c⟩)
  ·exact ⟨b,.inl ⟨c,.inl a⟩⟩
  ·exact ⟨b,.inr ⟨a,.inl c⟩⟩
  ·exact ⟨b,.inr ⟨a,.inr c⟩⟩
  ·exact ⟨b,.inl ⟨c,.inr a⟩⟩
 ·rintro ⟨b,⟨c,a|a⟩|⟨a,c|c⟩⟩
  ·exact .inl ⟨a,b,c⟩
  ·exact .inr (.inr (.inr ⟨a,b,c⟩))
  ·exact .inr (.inl ⟨a,b,c⟩)
  ·exact .inr (.inr (.inl ⟨a,b,c⟩))
theorem jx {e s:Sp}:s∈ar 2 e↔s.2.2=e.2.2/\((s.2.1=e.2.1/\(s.1=e.1-1\/s.1=e.1+1))\/(s.1=e.1/\(s.2.1=e.2.1-1\/s.2.1=e.2.1+1))):=by
 obtain ⟨x,y,z⟩:=e
 obtain ⟨u,v,w⟩:=s
 simp only [ar,Kk,K3,or_false,UD]
 constructor
 ·rintro (⟨a,b,c⟩|⟨a,b,c⟩|⟨a,b,c⟩|⟨a,b,c⟩)
  ·exact ⟨c,.inl ⟨b,.inl a⟩⟩
  ·exact ⟨c,.inr ⟨a,.inl b⟩⟩
  ·exact ⟨c,.inr ⟨a,.inr b⟩⟩
  ·exact ⟨c,.inl ⟨b,.inr a⟩⟩
 ·rintro ⟨c,⟨b,a|a⟩|⟨a,b|b⟩⟩
  ·exact .inl ⟨a,b,c⟩
  ·exact .inr (.inr (.inr ⟨a,b,c⟩))
  ·exact .inr (.inl ⟨a,b,c⟩)
  ·exact .inr (.inr (.inl ⟨a,b,c⟩))
theorem ax0 {s:Sp}(h:s.1 % 2=0):axA s=0:=if_pos h
theorem ax1 {s:Sp}(h:s.1 % 2=1)(g:s.2.1 % 2=0):axA s=1:=by unfold axA;rw [if_neg (by omega),if_pos g]
theorem ax2 {s:Sp}(h:s.1 % 2=1)(g:s.2.1 % 2=1):axA s=2:=by unfold axA;rw [if_neg (by omega),if_neg (by omega)]
theorem jM {a b:Int}(h:a=b-1\/a=b+1):b=a-1\/b=a+1:=by omega
theorem odd1 {a b:Int}(h:a=b-1\/a=b+1)(g:b % 2=0):a % 2=1:=by omega
theorem jO {a b:Int}(h:a=b-1\/a=b+1)(g:b % 2=1):a % 2=0:=by omega
theorem ne01 {a:Int}(h:a % 2=0)(g:a % 2=1){P:Prop}:P:=by rw [h] at g;cases g
theorem oddm {a:Int}(h:a % 2=0):(a-1) % 2=1:=by omega
theorem oddp {a:Int}(h:a % 2=0):(a+1) % 2=1:=by omega
theorem qek {B:Nat}{e s:Sp}(hB:EdB' B e):s∈ar B e↔Sq s/\e∈ar (axA s) s:=by
 constructor
 ·intro h
  rcases hB with ⟨rfl,h1,h2,h3⟩|⟨rfl,h1,h2,h3⟩|⟨rfl,h1,h2,h3⟩
  ·obtain ⟨p,⟨q,r⟩|⟨q,r⟩⟩:=ju.mp h
   ·have k1:s.1 % 2=1:=p ▸ h1
    have k2:=odd1 r h2
    have k3:s.2.2 % 2=0:=q ▸ h3
    exact ⟨.inr (.inr ⟨k1,k2,k3⟩),by rw [ax2 k1 k2,jx];exact ⟨q.symm,.inr ⟨p.symm,jM r⟩⟩⟩
   ·have k1:s.1 % 2=1:=p ▸ h1
    have k2:s.2.1 % 2=0:=q ▸ h2
    have k3:=odd1 r h3
    exact ⟨.inr (.inl ⟨k1,k2,k3⟩),by rw [ax1 k1 k2,jw];exact ⟨q.symm,.inr ⟨p.symm,jM r⟩⟩⟩
  ·obtain ⟨p,⟨q,r⟩|⟨q,r⟩⟩:=jw.mp h
   ·have k1:=odd1 r h1
    have k2:s.2.1 % 2=1:=p ▸ h2
    have k3:s.2.2 % 2=0:=q ▸ h3
    exact ⟨.inr (.inr ⟨k1,k2,k3⟩),by rw [ax2 k1 k2,jx];exact ⟨q.symm,.inl ⟨p.symm,jM r⟩⟩⟩
   ·have k1:s.1 % 2=0:=q ▸ h1
    have k2:s.2.1 % 2=1:=p ▸ h2
    have k3:=odd1 r h3
    exact ⟨.inl ⟨k1,k2,k3⟩,by rw [ax0 k1,ju];exact ⟨q.symm,.inr ⟨p.symm,jM r⟩⟩⟩
  ·obtain ⟨p,⟨q,r⟩|⟨q,r⟩⟩:=jx.mp h
   ·have k1:=odd1 r h1
    have k2:s.2.1 % 2=0:=q ▸ h2
    have k3:s.2.2 % 2=1:=p ▸ h3
    exact ⟨.inr (.inl ⟨k1,k2,k3⟩),by rw [ax1 k1 k2,jw];exact ⟨q.symm,.inl ⟨p.symm,jM r⟩⟩⟩
   ·have k1:s.1 % 2=0:=q ▸ h1
    have k2:=odd1 r h2
    have k3:s.2.2 % 2=1:=p ▸ h3
    exact ⟨.inl ⟨k1,k2,k3⟩,by rw [ax0 k1,ju];exact ⟨q.symm,.inl ⟨p.symm,jM r⟩⟩⟩
 ·rintro ⟨hs,h⟩
  rcases QD hs with ⟨e1,a,b,c⟩|⟨e1,a,b,c⟩|⟨e1,a,b,c⟩<;>rw [e1] at h
  ·obtain ⟨p,⟨q,r⟩|⟨q,r⟩⟩:=ju.mp h
   ·have k1:e.1 % 2=0:=p ▸ a
    have k2:=jO r b
    rcases hB with ⟨rfl,h1,h2,h3⟩|⟨rfl,h1,h2,h3⟩|⟨rfl,h1,h2,h3⟩
    ·exact ne01 k1 h1
    ·exact ne01 k2 h2
    ·exact jx.mpr ⟨q.symm,.inr ⟨p.symm,jM r⟩⟩
   ·have k1:e.1 % 2=0:=p ▸ a
    have k3:=jO r c
    rcases hB with ⟨rfl,h1,h2,h3⟩|⟨rfl,h1,h2,h3⟩|⟨rfl,h1,h2,h3⟩
    ·exact ne01 k1 h1
    ·exact jw.mpr ⟨q.symm,.inr ⟨p.symm,jM r⟩⟩
    ·exact ne01 k3 h3
  ·obtain ⟨p,⟨q,r⟩|⟨q,r⟩⟩:=jw.mp h
   ·have k1:=jO r a
    have k2:e.2.1 % 2=0:=p ▸ b
    rcases hB with ⟨rfl,h1,h2,h3⟩|⟨rfl,h1,h2,h3⟩|⟨rfl,h1,h2,h3⟩
    ·exact ne01 k1 h1
    ·exact ne01 k2 h2
    ·exact jx.mpr ⟨q.symm,.inl ⟨p.symm,jM r⟩⟩
   ·have k2:e.2.1 % 2=0:=p ▸ b
    have k3:=jO r c
    rcases hB with ⟨rfl,h1,h2,h3⟩|⟨rfl,h1,h2,h3⟩|⟨rfl,h1,h2,h3⟩
    ·exact ju.mpr ⟨q.symm,.inr ⟨p.symm,jM r⟩⟩
    ·exact ne01 k2 h2
    ·exact ne01 k3 h3
  ·obtain ⟨p,⟨q,r⟩|⟨q,r⟩⟩:=jx.mp h
   ·have k1:=jO r a
    have k3:e.2.2 % 2=0:=p ▸ c
    rcases hB with ⟨rfl,h1,h2,h3⟩|⟨rfl,h1,h2,h3⟩|⟨rfl,h1,h2,h3⟩
    ·exact ne01 k1 h1
    ·exact jw.mpr ⟨q.symm,.inl ⟨p.symm,jM r⟩⟩
    ·exact ne01 k3 h3
   ·have k2:=jO r b
    have k3:e.2.2 % 2=0:=p ▸ c
    rcases hB with ⟨rfl,h1,h2,h3⟩|⟨rfl,h1,h2,h3⟩|⟨rfl,h1,h2,h3⟩
    ·exact ju.mpr ⟨q.symm,.inl ⟨p.symm,jM r⟩⟩
    ·exact ne01 k2 h2
    ·exact ne01 k3 h3
theorem qft {B:Nat}(hB:B=0\/B=1\/B=2)(e:Sp):((ar B e).map l3).Pairwise (fun a b=>HT.lexLt b a=false):=by
 obtain ⟨x,y,z⟩:=e
 rcases hB with rfl|rfl|rfl<;>rw [Nb]<;>simp only [ar,N0,Kk,K3,or_false,forall_eq_or_imp,forall_eq,ris3]<;>simp<;>omega
theorem Y9 {B:Nat}(hB:B=0\/B=1\/B=2)(e:Sp):(ar B e).Nodup:=by
 obtain ⟨x,y,z⟩:=e
 rcases hB with rfl|rfl|rfl<;>simp [ar]<;>omega
theorem qdh {I:Sp->Bool}{sk:List Sp}(hr:(sk.map l3).Pairwise (fun a b=>HT.lexLt b a=false))(hn:sk.Nodup)(hm:∀ s,s∈sk↔Sq s/\skB I s=true){B:Nat}{e:Sp}(hB:EdB' B e) :
  sk.filter (fun s=>decide (e∈ar (axA s) s))=(ar B e).filter (skB I):=by
 have hB3:B=0\/B=1\/B=2:=by rcases hB with z|z|z<;>simp [z.1]
 refine Z0 (jC (hn.filter _) ((Y9 hB3 e).filter _) fun s=>?_) ?_ ?_
 ·rw [VC,VC,hm,qek hB,decide_eq_true_eq]
  constructor
  ·rintro ⟨⟨a,b⟩,c⟩;exact ⟨⟨a,c⟩,b⟩
  ·rintro ⟨⟨a,b⟩,c⟩;exact ⟨⟨a,c⟩,b⟩
 ·rw [Nb] at hr ⊢
  exact hr.filter _
 ·have:=qft hB3 e
  rw [Nb] at this ⊢
  exact this.filter _
def ad (a b:Sp):Sp:=(a.1+b.1,a.2.1+b.2.1,a.2.2+b.2.2)
theorem QR {a b:Sp}(h1:a.1=b.1)(h2:a.2.1=b.2.1)(h3:a.2.2=b.2.2):a=b:=Prod.ext h1 (Prod.ext h2 h3)
theorem ar_tr (A:Nat)(s t:Sp):ar A (ad s t)=(ar A s).map fun x=>ad x t:=by
 have h:∀ a b:Int,a+b-1=a-1+b:=fun a b=>by omega
 have g:∀ a b:Int,a+b+1=a+1+b:=fun a b=>by omega
 unfold ar
 split<;>simp only [ad,Km,Vt,h,g]
def evn (t:Sp):Prop:=t.1 % 2=0/\t.2.1 % 2=0/\t.2.2 % 2=0
theorem evn1 {a b:Int}(h:b % 2=0):(a+b) % 2=a % 2:=by omega
theorem qfv {t:Sp}(ht:evn t)(s:Sp):axA (ad s t)=axA s:=by
 unfold axA ad
 dsimp only
 rw [evn1 ht.1,evn1 ht.2.1]
theorem qjl (A:Nat)(s t:Sp):lo A (ad s t)=ad (lo A s) t:=by
 have h:∀ a b:Int,a+b-1=a-1+b:=fun a b=>by omega
 unfold lo
 split<;>simp only [ad,h]
theorem qji (A:Nat)(s t:Sp):hi A (ad s t)=ad (hi A s) t:=by
 have h:∀ a b:Int,a+b+1=a+1+b:=fun a b=>by omega
 unfold hi
 split<;>simp only [ad,h]
theorem qg5 (a b t:Sp):sb (ad a t) (ad b t)=sb a b:=by
 have h:∀ a b c:Int,a+c-(b+c)=a-b:=fun a b c=>by omega
 simp only [sb,ad,h]
theorem qkV (I:Sp->Bool){t:Sp}(ht:evn t)(s:Sp):skB I (ad s t)=skB (fun x=>I (ad x t)) s:=by
 unfold skB
 rw [qfv ht,qjl,qji]
theorem qfy (I:Sp->Bool){t:Sp}(ht:evn t)(a e b:Sp):Zd I (ad a t) (ad e t) (ad b t)=Zd (fun x=>I (ad x t)) a e b:=by
 unfold Zd
 rw [qfv ht,qjl,qji,qg5,qg5]
 have:sb (ad a t) (if I (ad (lo (axA a) a) t)=true then ad (lo (axA a) a) t else ad (hi (axA a) a) t)=sb a (if I (ad (lo (axA a) a) t)=true then lo (axA a) a else hi (axA a) a):=by
  split<;>exact qg5 _ _ _
 rw [this]
theorem qka (B:Nat)(e t:Sp):md4 B (ad e t)=(md4 B e).map fun x=>ad x t:=by
 have h:∀ a b:Int,a+b-1=a-1+b:=fun a b=>by omega
 have g:∀ a b:Int,a+b+1=a+1+b:=fun a b=>by omega
 unfold md4
 split<;>simp only [ad,Km,Vt,h,g]
def jf (l:List Sp)(a b c d:Bool):Sp->Bool:=fun m=>match l with
 | [m1,m2,m3,m4]=>if m==m1 then a else if m==m2 then b else if m==m3 then c else if m==m4 then d else false
 | _=>false
def e0s:List (Nat×Sp):=[(0,1,0,0),(1,0,1,0),(2,0,0,1)]
theorem YH (b:Bool):b∈[false,true]:=by cases b<;>simp
theorem e0_of {B:Nat}{e:Sp}(hB:EdB' B e):∃ t p:Sp,evn t/\(B,p)∈e0s/\e=ad p t:=by
 refine ⟨(e.1 / 2*2,e.2.1 / 2*2,e.2.2 / 2*2),(e.1 % 2,e.2.1 % 2,e.2.2 % 2),⟨by dsimp only;omega,by dsimp only;omega,by dsimp only;omega⟩,?_,QR (by show e.1=e.1 % 2+e.1 / 2*2;omega) (by show e.2.1=e.2.1 % 2+e.2.1 / 2*2;omega) (by show e.2.2=e.2.2 % 2+e.2.2 / 2*2;omega)⟩
 rcases hB with ⟨rfl,a,b,c⟩|⟨rfl,a,b,c⟩|⟨rfl,a,b,c⟩<;>rw [a,b,c]<;>simp [e0s]
theorem J_of (I:Sp->Bool){B:Nat}{p:Sp}(hp:(B,p)∈e0s):∃ a b c d:Bool,(∀ m∈md4 B p,I m=jf (md4 B p) a b c d m)/\(∀ s∈ar B p,skB I s=skB (jf (md4 B p) a b c d) s)/\∀ s∈ar B p,I (lo (axA s) s)=jf (md4 B p) a b c d (lo (axA s) s):=by
 unfold e0s at hp
 simp only [Kk,K3,or_false,UD] at hp
 rcases hp with ⟨rfl,rfl⟩|⟨rfl,rfl⟩|⟨rfl,rfl⟩
 ·refine ⟨I (1,-1,-1),I (1,-1,1),I (1,1,-1),I (1,1,1),fun s hs=>?_,fun s hs=>?_,fun s hs=>?_⟩
  ·simp only [md4,Kk,K3,or_false] at hs;rcases hs with rfl|rfl|rfl|rfl<;>kernel_rfl
  ·simp only [ar,Kk,K3,or_false] at hs;rcases hs with rfl|rfl|rfl|rfl<;>kernel_rfl
  ·simp only [ar,Kk,K3,or_false] at hs;rcases hs with rfl|rfl|rfl|rfl<;>kernel_rfl
 ·refine ⟨I (-1,1,-1),I (-1,1,1),I (1,1,-1),I (1,1,1),fun s hs=>?_,fun s hs=>?_,fun s hs=>?_⟩
  ·simp only [md4,Kk,K3,or_false] at hs;rcases hs with rfl|rfl|rfl|rfl<;>kernel_rfl
  ·simp only [ar,Kk,K3,or_false] at hs;rcases hs with rfl|rfl|rfl|rfl<;>kernel_rfl
  ·simp only [ar,Kk,K3,or_false] at hs;rcases hs with rfl|rfl|rfl|rfl<;>kernel_rfl
 ·refine ⟨I (-1,-1,1),I (-1,1,1),I (1,-1,1),I (1,1,1),fun s hs=>?_,fun s hs=>?_,fun s hs=>?_⟩
  ·simp only [md4,Kk,K3,or_false] at hs;rcases hs with rfl|rfl|rfl|rfl<;>kernel_rfl
  ·simp only [ar,Kk,K3,or_false] at hs;rcases hs with rfl|rfl|rfl|rfl<;>kernel_rfl
  ·simp only [ar,Kk,K3,or_false] at hs;rcases hs with rfl|rfl|rfl|rfl<;>kernel_rfl
theorem qcv {I J:Sp->Bool}{a e b:Sp}(h:I (lo (axA a) a)=J (lo (axA a) a)):Zd I a e b=Zd J a e b:=by unfold Zd;rw [h]
def bndB (J:Sp->Bool)(B:Nat)(p:Sp):Bool:=match (ar B p).filter (skB J) with
 | []=>true
 | [s0,s1]=>Zd J s0 p s1==((md4 B p).countP J:Nat)-2
 | l=>l==ar B p
def qfC:Bool:=e0s.all fun q=>[false,true].all fun a=>[false,true].all fun b=>[false,true].all fun c=>[false,true].all fun d=>bndB (jf (md4 q.1 q.2) a b c d) q.1 q.2
theorem qep:qfC=true:=by decide +kernel
theorem WT (I:Sp->Bool){B:Nat}{e:Sp}(hB:EdB' B e) :
  (ar B e).filter (skB I)=[]\/((ar B e).filter (skB I)=ar B e)\/∃ s0 s1,(ar B e).filter (skB I)=[s0,s1]/\Zd I s0 e s1=((md4 B e).countP I:Nat)-2:=by
 obtain ⟨t,p,ht,hp,rfl⟩:=e0_of hB
 have hf:skB I ∘ (fun x=>ad x t)=skB (fun x=>I (ad x t)):=funext fun s=>qkV I ht s
 rw [ar_tr,ES,hf,qka,List.countP_map]
 have hic:I ∘ (fun x=>ad x t)=fun x=>I (ad x t):=rfl
 rw [hic]
 obtain ⟨a,b,c,d,h1,h2,h3⟩:=J_of (fun x=>I (ad x t)) hp
 have hall:=qep
 unfold qfC at hall
 have k:=Kz.mp (Kz.mp (Kz.mp (Kz.mp (Kz.mp hall (B,p) hp) a (YH a)) b (YH b)) c (YH c)) d (YH d)
 dsimp only at k
 generalize jf (md4 B p) a b c d=J at h1 h2 h3 k
 have hc:(md4 B p).countP (fun x=>I (ad x t))=(md4 B p).countP J:=List.countP_congr fun m hm=>by rw [h1 m hm]
 rw [List.filter_congr h2,hc]
 unfold bndB at k
 cases hq:(ar B p).filter (skB J) with
 | nil=>exact .inl rfl
 | cons x l =>
  rw [hq] at k
  cases l with
  | nil=>exact .inr (.inl (by rw [beq_iff_eq.mp (show ([x]==ar B p)=true from k)]))
  | cons y l =>
   cases l with
   | cons z l=>exact .inr (.inl (by rw [beq_iff_eq.mp (show ((x::y::z::l)==ar B p)=true from k)]))
   | nil =>
    have hx:x∈ar B p:=(VC.mp (show x∈(ar B p).filter (skB J) by rw [hq];exact KZ)).1
    refine .inr (.inr ⟨ad x t,ad y t,rfl,?_⟩)
    rw [qfy I ht]
    have hb:Zd (fun x=>I (ad x t)) x p y=Zd J x p y:=qcv (h3 x hx)
    rw [hb]
    exact beq_iff_eq.mp (show (Zd J x p y==((md4 B p).countP J:Nat)-2)=true from k)
def kS (s:Sp):KX:=.inr [.inl s.1,.inl s.2.1,.inl s.2.2]
theorem yj (s:Sp):kxD (kS s)=eS s:=rfl
theorem Yw (s:Sp):kxOf (eS s)=some (kS s):=rfl
def eD (kvs:List (Sp×Nat)):List (Ka×PyData):=kvs.map fun p=>(eS p.1,.int (p.2:Nat))
def cnt (kvs:List (Sp×Nat))(s:Sp):Nat:=((kvs.find? fun p=>decide (p.1=s)).map (·.2)).getD 0
def bump (kvs:List (Sp×Nat))(s:Sp):List (Sp×Nat):=if s∈kvs.map (·.1) then kvs.map fun p=>if p.1=s then (p.1,cnt kvs s+1) else p else kvs++[(s,1)]
def tally (xs:List Sp):List (Sp×Nat):=xs.foldl bump []
def once (xs:List Sp):List Sp:=xs.foldl (fun ks s=>if s∈ks then ks else ks++[s]) []
theorem qaN (kvs:List (Sp×Nat))(s:Sp):kOk (eD kvs) (kS s)=true:=by
 unfold kOk eD
 rw [NM]
 exact Kz.mpr fun p _=>rfl
theorem ye (s:Sp):∀ kvs:List (Sp×Nat),qZ (eD kvs) (kS s)=(kvs.find? fun p=>decide (p.1=s)).map fun p=>KU (p.2:Nat)
 | []=>rfl
 | p::kvs=>by
  have ih:=ye s kvs
  unfold qZ eD at *
  rw [Km,KJ,KJ,yj,jq]
  rw [yj] at ih
  by_cases h:p.1=s
  ·rw [decide_eq_true h];rfl
  ·rw [decide_eq_false h];exact ih
theorem Y0 (s:Sp)(kvs:List (Sp×Nat)):(qZ (eD kvs) (kS s)).isSome=decide (s∈kvs.map (·.1)):=by
 rw [ye]
 by_cases h:s∈kvs.map (·.1)
 ·obtain ⟨p,hp,rfl⟩:=KN.mp h
  rw [decide_eq_true h]
  cases e:kvs.find? (fun x=>decide (x.1=p.1)) with
  | some x=>rfl
  | none=>exact absurd (Uv.mp e p hp) (by simp)
 ·rw [decide_eq_false h,Uv.mpr fun p hp=>by simpa using fun z=>h (KN.mpr ⟨p,hp,z⟩)];rfl
theorem qf3 (kvs:List (Sp×Nat))(s:Sp):jY (.dict (eD kvs)) (eS s) (.int 0)=some (.int (cnt kvs s:Nat)):=by
 show ob (kxOf (eS s)) (fun ks=>if kOk (eD kvs) ks=true then some ((qZ (eD kvs) ks).getD (.int 0)) else none)=_
 rw [Yw,ob_s,if_pos (qaN _ _),ye]
 unfold cnt
 cases kvs.find? (fun p=>decide (p.1=s))<;>rfl
theorem qgX {kvs:List (Sp×Nat)}{s:Sp}(hl:kvs.length<900):wI (.dict (eD kvs)) (eS s) (.int ((cnt kvs s:Nat)+1))=some (.dict (eD (bump kvs s))):=by
 show ob (kxOf (eS s)) (fun ks=>if kOk (eD kvs) ks=true/\(eD kvs).length<1000 then some (XM (putD (eD kvs) ks _)) else none)=_
 rw [Yw,ob_s,if_pos ⟨qaN _ _,by unfold eD;rw [Kj];omega⟩]
 unfold putD bump
 rw [Y0]
 by_cases h:s∈kvs.map (·.1)
 ·rw [decide_eq_true h,if_pos rfl,if_pos h]
  unfold eD
  rw [Vf,Vf]
  refine congrArg (fun z=>some (XM z)) (VD fun p _=>?_)
  show (if KP (eS p.1) (kxD (kS s))=true then (eS p.1,KU ((cnt kvs s:Nat)+1)) else (eS p.1,.int (p.2:Nat)))=(fun p:Sp×Nat=>(eS p.1,KU (p.2:Nat))) (if p.1=s then (p.1,cnt kvs s+1) else p)
  rw [yj,jq]
  by_cases e:p.1=s
  ·rw [if_pos (decide_eq_true e),if_pos e];rfl
  ·rw [if_neg (by simpa using e),if_neg e]
 ·rw [decide_eq_false h,if_neg (by decide),if_neg h]
  have hc:cnt kvs s=0:=by
   unfold cnt
   rw [Uv.mpr fun p hp=>by simpa using fun z=>h (KN.mpr ⟨p,hp,z⟩)]
   rfl
  unfold eD
  rw [KW,hc,yj]
  rfl
theorem qdJ {kvs:List (Sp×Nat)}{s:Sp}(h:s∈kvs.map (·.1)):ix2D (.dict (eD kvs)) (eS s)=some (.int (cnt kvs s:Nat)):=by
 show ob (kxOf (eS s)) (fun ks=>if kOk (eD kvs) ks=true then qZ (eD kvs) ks else none)=_
 have hs:=Y0 s kvs
 rw [decide_eq_true h,ye] at hs
 rw [Yw,ob_s,if_pos (qaN _ _),ye]
 unfold cnt
 cases e:kvs.find? (fun p=>decide (p.1=s)) with
 | none=>rw [e] at hs;cases hs
 | some p=>rfl
theorem yl (kvs:List (Sp×Nat)):Yu (.dict (eD kvs))=some (kvs.map fun p=>eS p.1):=by
 show (if excK (eD kvs)=true then none else some ((eD kvs).map (·.1)))=_
 rw [if_neg (show ¬ excK (eD kvs)=true by cases kvs<;>exact VG)]
 unfold eD
 rw [Vf]
 rfl
theorem qer (kvs:List (Sp×Nat))(s:Sp):(bump kvs s).map (·.1)=if s∈kvs.map (·.1) then kvs.map (·.1) else kvs.map (·.1)++[s]:=by
 unfold bump
 by_cases h:s∈kvs.map (·.1)
 ·rw [if_pos h,if_pos h,Vf]
  refine VD fun p _=>?_
  show (if p.1=s then (p.1,cnt kvs s+1) else p).1=p.1
  split<;>rfl
 ·rw [if_neg h,if_neg h,KW];rfl
theorem qfD (kvs:List (Sp×Nat))(s t:Sp):cnt (bump kvs s) t=cnt kvs t+if s=t then 1 else 0:=by
 unfold bump
 by_cases h:s∈kvs.map (·.1)
 ·rw [if_pos h]
  generalize hc:cnt kvs s=n
  by_cases e:s=t
  ·subst e
   rw [if_pos rfl,hc]
   obtain ⟨p,hp,hps⟩:=KN.mp h
   clear hc h
   unfold cnt
   induction kvs with
   | nil=>cases hp
   | cons q kvs ih =>
    rw [Km,KJ]
    by_cases hq:q.1=s
    ·rw [if_pos hq];simp [hq]
    ·rw [if_neg hq,decide_eq_false hq]
     rcases Kk.mp hp with rfl|z
     ·exact absurd hps hq
     ·exact ih z
  ·rw [if_neg e,Nat.add_zero]
   clear hc h
   unfold cnt
   induction kvs with
   | nil=>rfl
   | cons q kvs ih =>
    rw [Km,KJ,KJ]
    by_cases hq:q.1=s
    ·rw [if_pos hq]
     have:¬ q.1=t:=fun z=>e (hq.symm.trans z)
     rw [decide_eq_false this]
     exact ih
    ·rw [if_neg hq]
     by_cases ht:q.1=t
     ·rw [decide_eq_true ht];rfl
     ·rw [decide_eq_false ht];exact ih
 ·rw [if_neg h]
  unfold cnt
  rw [List.find?_append]
  by_cases e:s=t
  ·subst e
   rw [Uv.mpr fun p hp=>by simpa using fun z=>h (KN.mpr ⟨p,hp,z⟩)]
   simp
  ·rw [if_neg e]
   have:([(s,1)]:List (Sp×Nat)).find? (fun p=>decide (p.1=t))=none:=by simp [e]
   rw [this,Option.or_none,Nat.add_zero]
theorem qaz (xs:List Sp):∀ kvs:List (Sp×Nat),((xs.foldl bump kvs).map (·.1)=xs.foldl (fun ks s=>if s∈ks then ks else ks++[s]) (kvs.map (·.1)))/\∀ t,cnt (xs.foldl bump kvs) t=cnt kvs t+xs.count t:=by
 induction xs with
 | nil=>exact fun kvs=>⟨rfl,fun t=>rfl⟩
 | cons x xs ih =>
  intro kvs
  obtain ⟨h1,h2⟩:=ih (bump kvs x)
  refine ⟨?_,fun t=>?_⟩
  ·rw [Ur,Ur,h1,qer]
  ·rw [Ur,h2,qfD,ET]
   by_cases e:x=t
   ·rw [if_pos e,if_pos (by simp [e])];omega
   ·rw [if_neg e,if_neg (by simp [e])];omega
theorem jF (xs:List Sp):(tally xs).map (·.1)=once xs:=(qaz xs []).1
theorem Ye (xs:List Sp)(t:Sp):cnt (tally xs) t=xs.count t:=by
 have:=(qaz xs []).2 t
 have h0:cnt [] t=0:=rfl
 rw [h0,Xf] at this
 exact this
theorem qbZ (xs:List Sp):∀ ks:List Sp,ks.Nodup->(xs.foldl (fun ks s=>if s∈ks then ks else ks++[s]) ks).Nodup/\∀ t,t∈xs.foldl (fun ks s=>if s∈ks then ks else ks++[s]) ks↔t∈ks\/t∈xs:=by
 induction xs with
 | nil=>exact fun ks h=>⟨h,fun t=>by simp⟩
 | cons x xs ih =>
  intro ks h
  rw [Ur]
  by_cases hx:x∈ks
  ·rw [if_pos hx]
   obtain ⟨h1,h2⟩:=ih ks h
   refine ⟨h1,fun t=>(h2 t).trans ?_⟩
   rw [Kk]
   constructor
   ·rintro (z|z)
    ·exact .inl z
    ·exact .inr (.inr z)
   ·rintro (z|rfl|z)
    ·exact .inl z
    ·exact .inl hx
    ·exact .inr z
  ·rw [if_neg hx]
   obtain ⟨h1,h2⟩:=ih (ks++[x]) (by
    rw [Ej]
    exact ⟨h,by simp,fun a ha b hb z=>by subst z;exact hx (by have:=KL.mp hb;subst this;exact ha)⟩)
   refine ⟨h1,fun t=>(h2 t).trans ?_⟩
   rw [Vv,KL,Kk]
   exact or_assoc
theorem jA (xs:List Sp):(once xs).Nodup:=(qbZ xs [] U8).1
theorem jb {xs:List Sp}{t:Sp}:t∈once xs↔t∈xs:=by
 have:=(qbZ xs [] U8).2 t
 unfold once
 rw [this]
 simp
theorem wj {A:Nat}(hA:A=0\/A=1\/A=2)(s:Sp):Qs [eS s,.int (A:Nat)]=some (.list ((ar A s).map eS))/\zF [eS s,.list (others A)]=some (.list ((ar A s).map eS)):=by
 obtain ⟨zs,e1,e2,p⟩:=qfu hA s
 obtain ⟨ys,e3,p3,o3⟩:=qgw hA s
 have hz:zs=ys:=by
  have:=e2.symm.trans e3
  have h:=PyData.list.inj (V0 this)
  have inj:∀ (as bs:List Sp),as.map eS=bs.map eS->as=bs:=by
   intro as
   induction as with
   | nil=>intro bs h;cases bs with
    | nil=>rfl
    | cons b bs=>cases h
   | cons a as ih =>
    intro bs h
    cases bs with
    | nil=>cases h
    | cons b bs =>
     obtain ⟨h1,h2⟩:=List.cons.inj h
     have:a=b:=by
      obtain ⟨x,y,z⟩:=a
      obtain ⟨u,v,w⟩:=b
      simp only [eS] at h1
      cases h1
      rfl
     rw [this,ih bs h2]
  exact inj zs ys h
 have har:(ed A s).Perm (ar A s):=by
  obtain ⟨x,y,z⟩:=s
  rcases hA with rfl|rfl|rfl<;>simp only [ed,ar,Int.sub_eq_add_neg]<;>exact (qjn _ _ _ _).symm
 have:zs=ar A s:=by
  subst hz
  exact Z0 (p.trans har) o3 (qft hA s)
 rw [this] at e1 e2
 exact ⟨e1,e2⟩
theorem qhI {s:Sp}(h:Sq s):Q7 [eS s]=some (.list ((ar (axA s) s).map eS)):=by
 have hA:axA s=0\/axA s=1\/axA s=2:=by rcases QD h with z|z|z<;>simp [z.1]
 have e1:=qfw (A:=axA s) (s:=s) (by rcases QD h with ⟨a,b⟩|⟨a,b⟩|⟨a,b⟩;exact .inl ⟨a,b⟩;exact .inr (.inl ⟨a,b⟩);exact .inr (.inr ⟨a,b⟩))
 have e2:=(wj hA s).1
 simp only [Q7,JQ]
 simp_arith [e1,e2]
theorem qfi {B:Nat}{e:Sp}(h:EdB' B e):Qe [eS e]=some (.list ((ar B e).map eS)):=by
 have hB:B=0\/B=1\/B=2:=by rcases h with z|z|z<;>simp [z.1]
 have e2:=(wj hB e).1
 have i0:Zi (.list [.int 1,.int 0,.int 0]) (.int 1)=some (.int 0):=rfl
 have i1:Zi (.list [.int 0,.int 1,.int 0]) (.int 1)=some (.int 1):=rfl
 have i2:Zi (.list [.int 0,.int 0,.int 1]) (.int 1)=some (.int 2):=rfl
 have me:∀ k:Int,∀ (hk:k=(B:Nat)),Qs [eS e,.int k]=some (.list ((ar B e).map eS)):=fun k hk=>by rw [hk];exact e2
 rcases h with ⟨rfl,h1,h2,h3⟩|⟨rfl,h1,h2,h3⟩|⟨rfl,h1,h2,h3⟩<;>simp only [Qe,jL]
 ·have m:=me 0 rfl
  simp only [eS] at m ⊢
  simp_arith [h1,h2,h3,i0,m]
 ·have m:=me 1 rfl
  simp only [eS] at m ⊢
  simp_arith [h1,h2,h3,i1,m]
 ·have m:=me 2 rfl
  simp only [eS] at m ⊢
  simp_arith [h1,h2,h3,i2,m]
theorem qbh (kvs:List (Sp×Nat))(s:Sp):(bump kvs s).length<=kvs.length+1:=by
 unfold bump
 split
 ·rw [Kj];omega
 ·rw [Kp,Ky];omega
theorem wG {sk:List Sp}(hs:∀ s∈sk,Sq s)(hl:sk.length<=60):zr [.list (sk.map eS)]=some (.dict (eD (tally (sk.flatMap fun s=>ar (axA s) s)))):=by
 obtain ⟨ρ',e,o2,o3,rfl,-⟩:=Qh eS (g:=gNm 2) (u:=(sFor (evI (evC 1 (aC (vr 2) aN) Q7) seqD) (gNm 3) (yE 1 (vr 3) (qQ (ev2 (ev3 (vr 1) (vr 3) (kd (.int 0)) jY) (kd (.int 1)) qP)))))
  (fun done ρ=>∃ o2 o3:Option Ka,ρ=[some (.list (sk.map eS)),some (.dict (eD (tally (done.flatMap fun s=>ar (axA s) s)))),o2,o3]/\(tally (done.flatMap fun s=>ar (axA s) s)).length<=4*done.length) sk [some (.list (sk.map eS)),some (.dict []),none,none] ⟨none,none,rfl,Vc _⟩ (by
   rintro s hsm done ρ hdl ⟨o2,o3,rfl,hlen⟩
   have hed:=qhI (hs s hsm)
   have h4:(ar (axA s) s).length=4:=by rcases QD (hs s hsm) with z|z|z<;>rw [z.1]<;>rfl
   generalize hk:tally (done.flatMap fun s=>ar (axA s) s)=kvs at *
   obtain ⟨ρ1,e1,o3',rfl,hlen1⟩:=Qh eS (g:=gNm 3) (u:=(yE 1 (vr 3) (qQ (ev2 (ev3 (vr 1) (vr 3) (kd (.int 0)) jY) (kd (.int 1)) qP))))
    (fun don ρ=>∃ o3:Option Ka,ρ=[some (.list (sk.map eS)),some (.dict (eD (don.foldl bump kvs))),some (eS s),o3]/\(don.foldl bump kvs).length<=kvs.length+don.length) (ar (axA s) s) [some (.list (sk.map eS)),some (.dict (eD kvs)),some (eS s),o3] ⟨o3,rfl,Ko _⟩ (by
     rintro t ht don ρ hd ⟨o3,rfl,hl2⟩
     have hg:=qf3 (don.foldl bump kvs) t
     have hp:=qgX (kvs:=don.foldl bump kvs) (s:=t) (by omega)
     have hb:=qbh (don.foldl bump kvs) t
     refine ⟨_,?_,some (eS t),rfl,?_⟩
     ·simp_arith [hg,Qu,hp]
      rw [V6]
      rfl
     ·rw [V6,Kp,Ky]
      show (bump (don.foldl bump kvs) t).length<=_
      omega)
   have ht:tally ((done++[s]).flatMap fun s=>ar (axA s) s)=(ar (axA s) s).foldl bump kvs:=by
    rw [UJ,← hk]
    unfold tally
    rw [V6]
    simp
   refine ⟨_,?_,some (eS s),o3',rfl,?_⟩
   ·rw [ht]
    simp_arith [hed,e1]
   ·rw [ht,Kp,Ky]
    omega)
 simp only [zr,Z5]
 simp_arith [e]
theorem qgt {c:Sp}(h:BdS 200 c):zQ [eS c]=some (eS (mid c)):=by
 simp only [zQ,Jf,eS,mid]
 simp_arith [Qn (bd2.ok h.1),Qn (bd2.ok h.2.1),Qn (bd2.ok h.2.2)]
theorem JZ (a b:Sp):zP [eS a,eS b]=some (eS (ad a b)):=by
 simp only [zP,Ju]
 simp_arith [ixe0,ixe1,ixe2]
 rfl
def units:List Sp:=[(-1,0,0),(0,-1,0),(0,0,-1),(0,0,1),(0,1,0),(1,0,0)]
theorem qhk:seqD Zb=some (units.map eS):=by kernel_rfl
def usq (c:Sp):List Sp:=units.map (ad (mid c))
theorem qkW {cs:List Sp}(hb:∀ c∈cs,BdS 200 c)(hl:cs.length<=6):∃ sk:List Sp,zG [.list (cs.map eS)]=some (.list (sk.map eS))/\(sk.map l3).Pairwise (fun a b=>HT.lexLt b a=false)/\sk.Nodup/\sk.length<=36/\∀ s,s∈sk↔(cs.flatMap usq).count s=1:=by
 obtain ⟨ρ',e,o2,o3,o4,rfl,hlen⟩:=Qh eS (g:=gNm 2) (u:=(sFor (evI (kd Zb) seqD) (gNm 3) (seqO (sSet 4 (evC 2 (aC (evC 1 (aC (vr 2) aN) zQ) (aC (vr 3) aN)) zP)) (yE 1 (vr 4) (qQ (ev2 (ev3 (vr 1) (vr 4) (kd (.int 0)) jY) (kd (.int 1)) qP))))))
  (fun done ρ=>∃ o2 o3 o4:Option Ka,ρ=[some (.list (cs.map eS)),some (.dict (eD (tally (done.flatMap usq)))),o2,o3,o4]/\(tally (done.flatMap usq)).length<=6*done.length) cs [some (.list (cs.map eS)),some (.dict []),none,none,none] ⟨none,none,none,rfl,Vc _⟩ (by
   rintro c hc done ρ hdl ⟨o2,o3,o4,rfl,hlen⟩
   have hm:=qgt (hb c hc)
   generalize hk:tally (done.flatMap usq)=kvs at *
   obtain ⟨ρ1,e1,o3',o4',rfl,hlen1⟩:=Qh eS (g:=gNm 3) (u:=(seqO (sSet 4 (evC 2 (aC (evC 1 (aC (vr 2) aN) zQ) (aC (vr 3) aN)) zP)) (yE 1 (vr 4) (qQ (ev2 (ev3 (vr 1) (vr 4) (kd (.int 0)) jY) (kd (.int 1)) qP)))))
    (fun don ρ=>∃ o3 o4:Option Ka,ρ=[some (.list (cs.map eS)),some (.dict (eD ((don.map (ad (mid c))).foldl bump kvs))),some (eS c),o3,o4]/\((don.map (ad (mid c))).foldl bump kvs).length<=kvs.length+don.length) units [some (.list (cs.map eS)),some (.dict (eD kvs)),some (eS c),o3,o4] ⟨o3,o4,rfl,Ko _⟩ (by
     rintro u hu don ρ hd ⟨o3,o4,rfl,hl2⟩
     have hu6:units.length=6:=rfl
     have ha:=JZ (mid c) u
     have hg:=qf3 ((don.map (ad (mid c))).foldl bump kvs) (ad (mid c) u)
     have hp:=qgX (kvs:=(don.map (ad (mid c))).foldl bump kvs) (s:=ad (mid c) u) (by omega)
     have hbl:=qbh ((don.map (ad (mid c))).foldl bump kvs) (ad (mid c) u)
     refine ⟨_,?_,some (eS u),some (eS (ad (mid c) u)),rfl,?_⟩
     ·simp_arith [hm,ha,hg,Qu,hp]
      rw [KW,V6]
      rfl
     ·rw [KW,V6,Kp,Ky]
      show (bump ((don.map (ad (mid c))).foldl bump kvs) (ad (mid c) u)).length<=_
      omega)
   have ht:tally ((done++[c]).flatMap usq)=(units.map (ad (mid c))).foldl bump kvs:=by
    rw [UJ,← hk]
    unfold tally
    rw [V6]
    simp [usq]
   have hu6:units.length=6:=rfl
   refine ⟨_,?_,some (eS c),o3',o4',rfl,?_⟩
   ·rw [ht]
    simp_arith [qhk,e1]
   ·rw [ht,Kp,Ky]
    omega)
 generalize hk:tally (cs.flatMap usq)=kvs at *
 have hcnt:∀ t,cnt kvs t=(cs.flatMap usq).count t:=fun t=>by rw [← hk,Ye]
 have hkeys:kvs.map (·.1)=once (cs.flatMap usq):=by rw [← hk,jF]
 have hc:Qp (tV (ev2 (ev2 (vr 1) (vr 5) ix2D) (kd (.int 1)) eqD)) (vr 5) [some (.list (cs.map eS)),some (.dict (eD kvs)),o2,o3,o4] (kvs.map fun p=>eS p.1)=some ((kvs.filter fun p=>decide (cnt kvs p.1=1)).map fun p=>eS p.1):=by
  refine Zv (fun p:Sp×Nat=>eS p.1) (fun p=>decide (cnt kvs p.1=1)) (fun p=>eS p.1) kvs (fun p hp=>?_) fun p hp _=>?_
  ·have hi:=qdJ (s:=p.1) (KN.mpr ⟨p,hp,rfl⟩)
   simp_arith [hi]
   refine congrArg some ?_
   rw [Ua]
   simp
   omega
  ·simp_arith []
 have hlk:kvs.length<=36:=by omega
 have hfl:=List.length_filter_le (fun p:Sp×Nat=>decide (cnt kvs p.1=1)) kvs
 obtain ⟨sk,es,p,r⟩:=Q9 (xs:=(kvs.filter fun p=>decide (cnt kvs p.1=1)).map (·.1)) (by rw [Kj];omega)
 have hz:(kvs.map fun p=>eS p.1).length<=1000:=by rw [Kj];omega
 have es:zb [.list ((kvs.filter fun p=>decide (cnt kvs p.1=1)).map fun p=>eS p.1)]=some (.list (sk.map eS)):=by
  rw [← es,Vf]
  rfl
 have hnk:(kvs.map (·.1)).Nodup:=by rw [hkeys];exact jA _
 refine ⟨sk,?_,r,p.nodup_iff.mpr (List.Nodup.sublist (List.filter_sublist.map _) hnk),by rw [p.length_eq,Kj];omega,fun s=>?_⟩
 ·simp only [zG,Yi]
  simp_arith [e,yl,hz,hc,es]
 ·rw [p.mem_iff]
  constructor
  ·intro h
   obtain ⟨q,hq,rfl⟩:=KN.mp h
   have:=of_decide_eq_true (VC.mp hq).2
   rwa [hcnt] at this
  ·intro h
   have hm:s∈kvs.map (·.1):=by
    rw [hkeys,jb]
    exact X4.mp (by omega)
   obtain ⟨q,hq,rfl⟩:=KN.mp hm
   exact KN.mpr ⟨q,VC.mpr ⟨hq,decide_eq_true (by rw [hcnt];exact h)⟩,rfl⟩
theorem jz {a b:Sp}(h:mid a=mid b):a=b:=by
 obtain ⟨x,y,z⟩:=a
 obtain ⟨u,v,w⟩:=b
 unfold mid at h
 obtain ⟨h1,h2⟩:=Prod.mk.inj h
 obtain ⟨h2,h3⟩:=Prod.mk.inj h2
 dsimp only at h1 h2 h3
 have e1:x=u:=by omega
 have e2:y=v:=by omega
 have e3:z=w:=by omega
 rw [e1,e2,e3]
def inM (cs:List Sp)(m:Sp):Bool:=decide (m∈cs.map mid)
theorem qdR (c:Sp):(mid c).1 % 2=1/\(mid c).2.1 % 2=1/\(mid c).2.2 % 2=1:=⟨by show (2*c.1+1) % 2=1;omega,by show (2*c.2.1+1) % 2=1;omega,by show (2*c.2.2+1) % 2=1;omega⟩
theorem Zc {m s:Sp}:s∈units.map (ad m)↔(s.1=m.1 + -1/\s.2.1=m.2.1+0/\s.2.2=m.2.2+0)\/(s.1=m.1+0/\s.2.1=m.2.1 + -1/\s.2.2=m.2.2+0)\/(s.1=m.1+0/\s.2.1=m.2.1+0/\s.2.2=m.2.2 + -1)\/(s.1=m.1+0/\s.2.1=m.2.1+0/\s.2.2=m.2.2+1)\/(s.1=m.1+0/\s.2.1=m.2.1+1/\s.2.2=m.2.2+0)\/(s.1=m.1+1/\s.2.1=m.2.1+0/\s.2.2=m.2.2+0):=by
 obtain ⟨x,y,z⟩:=m
 obtain ⟨a,b,d⟩:=s
 simp only [units,Km,Vt,Kk,K3,or_false,ad,UD]
theorem zem {a b:Int}(h:a=b + -1)(o:b % 2=1):a % 2=0:=by omega
theorem zep {a b:Int}(h:a=b+1)(o:b % 2=1):a % 2=0:=by omega
theorem ze0 {a b:Int}(h:a=b+0)(o:b % 2=1):a % 2=1:=by omega
theorem z0 {a b:Int}(h:a=b+0):b=a:=by omega
theorem zm {a b:Int}(h:a=b + -1):b=a+1:=by omega
theorem zp {a b:Int}(h:a=b+1):b=a-1:=by omega
theorem w0 {a b:Int}(h:b=a):a=b+0:=by omega
theorem wm {a b:Int}(h:b=a+1):a=b + -1:=by omega
theorem wp {a b:Int}(h:b=a-1):a=b+1:=by omega
theorem qk9 {c s:Sp}(h:s∈usq c):Sq s:=by
 obtain ⟨o1,o2,o3⟩:=qdR c
 rcases Zc.mp h with ⟨p,q,r⟩|⟨p,q,r⟩|⟨p,q,r⟩|⟨p,q,r⟩|⟨p,q,r⟩|⟨p,q,r⟩
 ·exact .inl ⟨zem p o1,ze0 q o2,ze0 r o3⟩
 ·exact .inr (.inl ⟨ze0 p o1,zem q o2,ze0 r o3⟩)
 ·exact .inr (.inr ⟨ze0 p o1,ze0 q o2,zem r o3⟩)
 ·exact .inr (.inr ⟨ze0 p o1,ze0 q o2,zep r o3⟩)
 ·exact .inr (.inl ⟨ze0 p o1,zep q o2,ze0 r o3⟩)
 ·exact .inl ⟨zep p o1,ze0 q o2,ze0 r o3⟩
theorem qi7 {m s:Sp}(hm:m.1 % 2=1/\m.2.1 % 2=1/\m.2.2 % 2=1)(hs:Sq s):s∈units.map (ad m)↔m=lo (axA s) s\/m=hi (axA s) s:=by
 obtain ⟨o1,o2,o3⟩:=hm
 rcases QD hs with ⟨e,h1,h2,h3⟩|⟨e,h1,h2,h3⟩|⟨e,h1,h2,h3⟩<;>rw [e]
 ·constructor
  ·intro h
   rcases Zc.mp h with ⟨p,q,r⟩|⟨p,q,r⟩|⟨p,q,r⟩|⟨p,q,r⟩|⟨p,q,r⟩|⟨p,q,r⟩
   ·exact .inr (QR (zm p) (z0 q) (z0 r))
   ·exact ne01 h1 (ze0 p o1)
   ·exact ne01 h1 (ze0 p o1)
   ·exact ne01 h1 (ze0 p o1)
   ·exact ne01 h1 (ze0 p o1)
   ·exact .inl (QR (zp p) (z0 q) (z0 r))
  ·rintro (h|h)
   ·exact Zc.mpr (.inr (.inr (.inr (.inr (.inr ⟨wp (congrArg (·.1) h),w0 (congrArg (·.2.1) h),w0 (congrArg (·.2.2) h)⟩)))))
   ·exact Zc.mpr (.inl ⟨wm (congrArg (·.1) h),w0 (congrArg (·.2.1) h),w0 (congrArg (·.2.2) h)⟩)
 ·constructor
  ·intro h
   rcases Zc.mp h with ⟨p,q,r⟩|⟨p,q,r⟩|⟨p,q,r⟩|⟨p,q,r⟩|⟨p,q,r⟩|⟨p,q,r⟩
   ·exact ne01 h2 (ze0 q o2)
   ·exact .inr (QR (z0 p) (zm q) (z0 r))
   ·exact ne01 h2 (ze0 q o2)
   ·exact ne01 h2 (ze0 q o2)
   ·exact .inl (QR (z0 p) (zp q) (z0 r))
   ·exact ne01 h2 (ze0 q o2)
  ·rintro (h|h)
   ·exact Zc.mpr (.inr (.inr (.inr (.inr (.inl ⟨w0 (congrArg (·.1) h),wp (congrArg (·.2.1) h),w0 (congrArg (·.2.2) h)⟩)))))
   ·exact Zc.mpr (.inr (.inl ⟨w0 (congrArg (·.1) h),wm (congrArg (·.2.1) h),w0 (congrArg (·.2.2) h)⟩))
 ·constructor
  ·intro h
   rcases Zc.mp h with ⟨p,q,r⟩|⟨p,q,r⟩|⟨p,q,r⟩|⟨p,q,r⟩|⟨p,q,r⟩|⟨p,q,r⟩
   ·exact ne01 h3 (ze0 r o3)
   ·exact ne01 h3 (ze0 r o3)
   ·exact .inr (QR (z0 p) (z0 q) (zm r))
   ·exact .inl (QR (z0 p) (z0 q) (zp r))
   ·exact ne01 h3 (ze0 r o3)
   ·exact ne01 h3 (ze0 r o3)
  ·rintro (h|h)
   ·exact Zc.mpr (.inr (.inr (.inr (.inl ⟨w0 (congrArg (·.1) h),w0 (congrArg (·.2.1) h),wp (congrArg (·.2.2) h)⟩))))
   ·exact Zc.mpr (.inr (.inr (.inl ⟨w0 (congrArg (·.1) h),w0 (congrArg (·.2.1) h),wm (congrArg (·.2.2) h)⟩)))
theorem qah {α β:Type}{f:α->β}(hf:∀ a b,f a=f b->a=b):∀ {l:List α},l.Nodup->(l.map f).Nodup
 | [],_=>U8
 | a::l,h=>by
  obtain ⟨h1,h2⟩:=VS.mp h
  refine Km ▸ VS.mpr ⟨fun z=>?_,qah hf h2⟩
  obtain ⟨x,hx,e⟩:=KN.mp z
  rw [hf x a e] at hx
  exact h1 hx
theorem qjw {m a b:Sp}(h:ad m a=ad m b):a=b:=by
 have h1:m.1+a.1=m.1+b.1:=congrArg (·.1) h
 have h2:m.2.1+a.2.1=m.2.1+b.2.1:=congrArg (·.2.1) h
 have h3:m.2.2+a.2.2=m.2.2+b.2.2:=congrArg (·.2.2) h
 exact QR (by omega) (by omega) (by omega)
theorem qgl (A:Nat)(s:Sp):lo A s≠hi A s:=fun h=>by
 unfold lo hi at h
 split at h
 ·have:=congrArg (·.1) h;dsimp only at this;omega
 ·have:=congrArg (·.2.1) h;dsimp only at this;omega
 ·have:=congrArg (·.2.2) h;dsimp only at this;omega
theorem yO {s:Sp}:∀ {l:List Sp},l.Nodup->s∈l->l.count s=1
 | [],_,h=>by cases h
 | a::l,hn,h=>by
  obtain ⟨h1,h2⟩:=VS.mp hn
  rw [ET]
  by_cases e:a=s
  ·subst e
   rw [X5.mpr h1,beq_self_eq_true]
   rfl
  ·rw [yO h2 ((Kk.mp h).resolve_left (fun z=>e z.symm)),beq_eq_false_iff_ne.mpr e]
   rfl
theorem qi6 {c s:Sp}(hs:Sq s):(usq c).count s=(if mid c=lo (axA s) s then 1 else 0)+(if mid c=hi (axA s) s then 1 else 0):=by
 have hiff:=qi7 (qdR c) hs
 have hnd:(usq c).Nodup:=qah (fun _ _=>qjw) (by decide)
 by_cases h1:mid c=lo (axA s) s
 ·rw [if_pos h1,if_neg (fun z=>qgl _ _ (h1.symm.trans z))]
  exact yO hnd (hiff.mpr (.inl h1))
 ·rw [if_neg h1]
  by_cases h2:mid c=hi (axA s) s
  ·rw [if_pos h2]
   exact yO hnd (hiff.mpr (.inr h2))
  ·rw [if_neg h2]
   exact X5.mpr fun z=>(hiff.mp z).elim h1 h2
theorem qaD {s:Sp}(hs:Sq s):∀ {cs:List Sp},cs.Nodup->(cs.flatMap usq).count s=(if lo (axA s) s∈cs.map mid then 1 else 0)+(if hi (axA s) s∈cs.map mid then 1 else 0)
 | [],_=>rfl
 | c::cs,hn=>by
  obtain ⟨n1,n2⟩:=VS.mp hn
  have ih:=qaD hs n2
  have nm:mid c∉cs.map mid:=fun z=>by
   obtain ⟨c',h1,h2⟩:=KN.mp z
   exact n1 (by rw [← jz h2];exact h1)
  rw [V7,Ek,qi6 hs,ih,Km]
  have one:∀ m:Sp,(if m∈mid c::cs.map mid then 1 else 0)=(if mid c=m then 1 else 0)+(if m∈cs.map mid then 1 else 0):=fun m=>by
   by_cases h:mid c=m
   ·subst h
    rw [if_pos (.head _),if_pos rfl,if_neg nm]
   ·rw [if_neg h,Xf]
    by_cases h2:m∈cs.map mid
    ·rw [if_pos h2,if_pos (.tail _ h2)]
    ·rw [if_neg h2,if_neg (fun z=>by rcases Kk.mp z with y|y;exact h y.symm;exact h2 y)]
  rw [one,one]
  omega
theorem qg7 {cs:List Sp}(hn:cs.Nodup)(s:Sp):(cs.flatMap usq).count s=1↔Sq s/\skB (inM cs) s=true:=by
 constructor
 ·intro h
  have hm:s∈cs.flatMap usq:=X4.mp (by omega)
  obtain ⟨c,_,hc⟩:=Uu.mp hm
  have hs:=qk9 hc
  refine ⟨hs,?_⟩
  rw [qaD hs hn] at h
  unfold skB inM
  by_cases h1:lo (axA s) s∈cs.map mid<;>by_cases h2:hi (axA s) s∈cs.map mid
  ·rw [if_pos h1,if_pos h2] at h;cases h
  ·rw [decide_eq_true h1,decide_eq_false h2];rfl
  ·rw [decide_eq_false h1,decide_eq_true h2];rfl
  ·rw [if_neg h1,if_neg h2] at h;cases h
 ·rintro ⟨hs,h⟩
  rw [qaD hs hn]
  unfold skB inM at h
  by_cases h1:lo (axA s) s∈cs.map mid<;>by_cases h2:hi (axA s) s∈cs.map mid
  ·rw [decide_eq_true h1,decide_eq_true h2] at h;cases h
  ·rw [if_pos h1,if_neg h2]
  ·rw [if_neg h1,if_pos h2]
  ·rw [decide_eq_false h1,decide_eq_false h2] at h;cases h
def oth (a:Nat)(b:Int)(c:Sp):Sp:=match a with
 | 0=>(c.1+b,c.2.1,c.2.2)
 | 1=>(c.1,c.2.1+b,c.2.2)
 | _=>(c.1,c.2.1,c.2.2+b)
theorem qkZ {cs L:List Sp}{c:Sp}(hc:BdS 200 c){a:Nat}(ha:a=0\/a=1\/a=2)(b:Int)(hl:L.length<900)(o5 o6:Option Ka) :
  ∃ o5' o6',(seqO (q8 5 (evA (aC (vr 2) aN) QM)) (seqO (sPut 5 (vr 3) (qQ (ev2 (ev2 (vr 5) (vr 3) ixD) (vr 4) qP))) (sIf (tV (ev2 (evA (aC (vr 5) aN) qY) (vr 0) ninD)) (seqO (q8 6 (Qg 7 (evI (vr 2) seqD) tT (ev2 (ev2 (kd (.int 2)) (vr 7) mulD) (kd (.int 1)) qP))) (seqO (sPut 6 (vr 3) (qQ (ev2 (ev2 (vr 6) (vr 3) ixD) (vr 4) qP))) (sApp 1 (qQ (evA (aC (vr 6) aN) qY))))) sN))) [some (.list (cs.map eS)),some (.list (L.map eS)),some (eS c),some (.int (a:Nat)),some (.int b),o5,o6]=some (.nx [some (.list (cs.map eS)),some (.list ((L++if oth a b c∈cs then [] else [oth a b (mid c)]).map eS)),some (eS c),some (.int (a:Nat)),some (.int b),o5',o6']):=by
 have hz:(L.map eS).length<1000:=by rw [Kj];omega
 have nn:=qdW cs (oth a b c)
 have m1:=Qn (bd2.ok hc.1)
 have m2:=Qn (bd2.ok hc.2.1)
 have m3:=Qn (bd2.ok hc.2.2)
 have n1:(((1:Nat):Int))=1:=rfl
 have n2:(((2:Nat):Int))=2:=rfl
 by_cases h:oth a b c∈cs
 ·rw [if_pos h,Vl]
  rw [decide_eq_true h] at nn
  rcases ha with rfl|rfl|rfl<;>simp only [oth,eS] at nn ⊢
  ·exact ⟨_,_,by simp_arith [ix0,ix1,ix2,Qu,nn,Xi];rfl⟩
  ·exact ⟨_,_,by simp_arith [ix0,ix1,ix2,Qu,nn,n1];rfl⟩
  ·exact ⟨_,_,by simp_arith [ix0,ix1,ix2,Qu,nn,n2];rfl⟩
 ·rw [if_neg h]
  rw [decide_eq_false h] at nn
  rcases ha with rfl|rfl|rfl<;>simp only [oth,eS,mid,KW,Km,Vt] at nn ⊢
  ·exact ⟨_,_,by simp_arith [ix0,ix1,ix2,Qu,QW,nn,m1,m2,m3,hz,Xi];rfl⟩
  ·exact ⟨_,_,by simp_arith [ix0,ix1,ix2,Qu,QW,nn,m1,m2,m3,hz,n1];rfl⟩
  ·exact ⟨_,_,by simp_arith [ix0,ix1,ix2,Qu,QW,nn,m1,m2,m3,hz,n2];rfl⟩
def lsb (cs:List Sp)(c:Sp)(a:Nat)(b:Int):List Sp:=if oth a b c∈cs then [] else [oth a b (mid c)]
def lsa (cs:List Sp)(c:Sp)(a:Nat):List Sp:=[-1,1].flatMap (lsb cs c a)
def lsq (cs:List Sp)(c:Sp):List Sp:=[0,1,2].flatMap (lsa cs c)
theorem qik (cs:List Sp)(c:Sp)(a:Nat)(b:Int):(lsb cs c a b).length<=1:=by
 unfold lsb
 split
 ·exact Vc _
 ·exact Ko _
theorem qil {cs:List Sp}(hb:∀ c∈cs,BdS 200 c)(hl:cs.length<=6):∃ sk:List Sp,zO [.list (cs.map eS)]=some (.list (sk.map eS))/\(sk.map l3).Pairwise (fun a b=>HT.lexLt b a=false)/\sk.Perm (cs.flatMap (lsq cs)):=by
 obtain ⟨ρ',e,o2,o3,o4,o5,o6,rfl,hlen⟩:=Qh eS (g:=gNm 2) (u:=(sFor (evR (aC (kd (.int 3)) aN) ZZ) (gNm 3) (sFor (evI (evA (aC (ev1 (kd (.int 1)) negD) (aC (kd (.int 1)) aN)) tupD) seqD) (gNm 4) (seqO (q8 5 (evA (aC (vr 2) aN) QM)) (seqO (sPut 5 (vr 3) (qQ (ev2 (ev2 (vr 5) (vr 3) ixD) (vr 4) qP))) (sIf (tV (ev2 (evA (aC (vr 5) aN) qY) (vr 0) ninD)) (seqO (q8 6 (Qg 7 (evI (vr 2) seqD) tT (ev2 (ev2 (kd (.int 2)) (vr 7) mulD) (kd (.int 1)) qP))) (seqO (sPut 6 (vr 3) (qQ (ev2 (ev2 (vr 6) (vr 3) ixD) (vr 4) qP))) (sApp 1 (qQ (evA (aC (vr 6) aN) qY))))) sN))))))
  (fun done ρ=>∃ o2 o3 o4 o5 o6:Option Ka,ρ=[some (.list (cs.map eS)),some (.list ((done.flatMap (lsq cs)).map eS)),o2,o3,o4,o5,o6]/\(done.flatMap (lsq cs)).length<=6*done.length) cs [some (.list (cs.map eS)),some (.list []),none,none,none,none,none] ⟨none,none,none,none,none,rfl,Vc _⟩ (by
   rintro c hc done ρ hdl ⟨o2,o3,o4,o5,o6,rfl,hlen⟩
   generalize hL:done.flatMap (lsq cs)=L at *
   obtain ⟨ρ1,e1,o3',o4',o5',o6',rfl,hlen1⟩:=Qh (fun a:Nat=>KU (a:Nat)) (g:=gNm 3) (u:=(sFor (evI (evA (aC (ev1 (kd (.int 1)) negD) (aC (kd (.int 1)) aN)) tupD) seqD) (gNm 4) (seqO (q8 5 (evA (aC (vr 2) aN) QM)) (seqO (sPut 5 (vr 3) (qQ (ev2 (ev2 (vr 5) (vr 3) ixD) (vr 4) qP))) (sIf (tV (ev2 (evA (aC (vr 5) aN) qY) (vr 0) ninD)) (seqO (q8 6 (Qg 7 (evI (vr 2) seqD) tT (ev2 (ev2 (kd (.int 2)) (vr 7) mulD) (kd (.int 1)) qP))) (seqO (sPut 6 (vr 3) (qQ (ev2 (ev2 (vr 6) (vr 3) ixD) (vr 4) qP))) (sApp 1 (qQ (evA (aC (vr 6) aN) qY))))) sN)))))
    (fun don ρ=>∃ o3 o4 o5 o6:Option Ka,ρ=[some (.list (cs.map eS)),some (.list ((L++don.flatMap (lsa cs c)).map eS)),some (eS c),o3,o4,o5,o6]/\(L++don.flatMap (lsa cs c)).length<=L.length+2*don.length) [0,1,2] [some (.list (cs.map eS)),some (.list (L.map eS)),some (eS c),o3,o4,o5,o6] ⟨o3,o4,o5,o6,by simp,by simp⟩ (by
     rintro a ham don ρ hd ⟨o3,o4,o5,o6,rfl,hl2⟩
     have ha:a=0\/a=1\/a=2:=by simpa using ham
     have h3:([0,1,2]:List Nat).length=3:=rfl
     generalize hL2:L++don.flatMap (lsa cs c)=Lh at *
     obtain ⟨ρ2,e2,o4',o5',o6',rfl,hlen2⟩:=Qh KU (g:=gNm 4) (u:=(seqO (q8 5 (evA (aC (vr 2) aN) QM)) (seqO (sPut 5 (vr 3) (qQ (ev2 (ev2 (vr 5) (vr 3) ixD) (vr 4) qP))) (sIf (tV (ev2 (evA (aC (vr 5) aN) qY) (vr 0) ninD)) (seqO (q8 6 (Qg 7 (evI (vr 2) seqD) tT (ev2 (ev2 (kd (.int 2)) (vr 7) mulD) (kd (.int 1)) qP))) (seqO (sPut 6 (vr 3) (qQ (ev2 (ev2 (vr 6) (vr 3) ixD) (vr 4) qP))) (sApp 1 (qQ (evA (aC (vr 6) aN) qY))))) sN))))
      (fun dn ρ=>∃ o4 o5 o6:Option Ka,ρ=[some (.list (cs.map eS)),some (.list ((Lh++dn.flatMap (lsb cs c a)).map eS)),some (eS c),some (.int (a:Nat)),o4,o5,o6]/\(Lh++dn.flatMap (lsb cs c a)).length<=Lh.length+dn.length) [-1,1] [some (.list (cs.map eS)),some (.list (Lh.map eS)),some (eS c),some (.int (a:Nat)),o4,o5,o6] ⟨o4,o5,o6,by simp,by simp⟩ (by
       rintro b hbm dn ρ hd2 ⟨o4,o5,o6,rfl,hl3⟩
       have h2:([-1,1]:List Int).length=2:=rfl
       have hll:=qik cs c a b
       obtain ⟨o5',o6',es⟩:=qkZ (cs:=cs) (L:=Lh++dn.flatMap (lsb cs c a)) (hb c hc) ha b (by omega) o5 o6
       have hn:Lh++(dn++[b]).flatMap (lsb cs c a)=(Lh++dn.flatMap (lsb cs c a))++lsb cs c a b:=by
        rw [UJ,U2]
        simp
       refine ⟨_,es,some (.int b),o5',o6',by rw [hn];rfl,?_⟩
       rw [hn,Kp,Kp (as:=dn),Ky]
       omega)
     have hn:L++(don++[a]).flatMap (lsa cs c)=Lh++[-1,1].flatMap (lsb cs c a):=by
      rw [UJ,← U2,hL2]
      simp [lsa]
     have h2:([-1,1]:List Int).length=2:=rfl
     have e2:forD (gNm 4) (seqO (q8 5 (evA (aC (vr 2) aN) QM)) (seqO (sPut 5 (vr 3) (qQ (ev2 (ev2 (vr 5) (vr 3) ixD) (vr 4) qP))) (sIf (tV (ev2 (evA (aC (vr 5) aN) qY) (vr 0) ninD)) (seqO (q8 6 (Qg 7 (evI (vr 2) seqD) tT (ev2 (ev2 (kd (.int 2)) (vr 7) mulD) (kd (.int 1)) qP))) (seqO (sPut 6 (vr 3) (qQ (ev2 (ev2 (vr 6) (vr 3) ixD) (vr 4) qP))) (sApp 1 (qQ (evA (aC (vr 6) aN) qY))))) sN))) [.int (-1),.int 1] [some (.list (cs.map eS)),some (.list (Lh.map eS)),some (eS c),some (.int (a:Nat)),o4,o5,o6]=some (.nx [some (.list (cs.map eS)),some (.list ((Lh++[-1,1].flatMap (lsb cs c a)).map eS)),some (eS c),some (.int (a:Nat)),o4',o5',o6']):=e2
     refine ⟨_,?_,some (.int (a:Nat)),o4',o5',o6',rfl,?_⟩
     ·rw [hn]
      simp_arith [e2]
     ·rw [hn,Kp (as:=don),Ky]
      omega)
   have hn:(done++[c]).flatMap (lsq cs)=L++[0,1,2].flatMap (lsa cs c):=by
    rw [UJ,hL]
    simp [lsq]
   have h3:([0,1,2]:List Nat).length=3:=rfl
   have e1:forD (gNm 3) (sFor (evI (evA (aC (ev1 (kd (.int 1)) negD) (aC (kd (.int 1)) aN)) tupD) seqD) (gNm 4) (seqO (q8 5 (evA (aC (vr 2) aN) QM)) (seqO (sPut 5 (vr 3) (qQ (ev2 (ev2 (vr 5) (vr 3) ixD) (vr 4) qP))) (sIf (tV (ev2 (evA (aC (vr 5) aN) qY) (vr 0) ninD)) (seqO (q8 6 (Qg 7 (evI (vr 2) seqD) tT (ev2 (ev2 (kd (.int 2)) (vr 7) mulD) (kd (.int 1)) qP))) (seqO (sPut 6 (vr 3) (qQ (ev2 (ev2 (vr 6) (vr 3) ixD) (vr 4) qP))) (sApp 1 (qQ (evA (aC (vr 6) aN) qY))))) sN)))) [.int 0,.int 1,.int 2] [some (.list (cs.map eS)),some (.list (L.map eS)),some (eS c),o3,o4,o5,o6]=some (.nx [some (.list (cs.map eS)),some (.list ((L++[0,1,2].flatMap (lsa cs c)).map eS)),some (eS c),o3',o4',o5',o6']):=e1
   have hr:∀ ρ:Rho,(evR (aC (kd (.int 3)) aN) ZZ) ρ=some [.int 0,.int 1,.int 2]:=fun _=>rfl
   refine ⟨_,?_,some (eS c),o3',o4',o5',o6',rfl,?_⟩
   ·rw [hn]
    show sFor (evR (aC (kd (.int 3)) aN) ZZ) (gNm 3) (sFor (evI (evA (aC (ev1 (kd (.int 1)) negD) (aC (kd (.int 1)) aN)) tupD) seqD) (gNm 4) (seqO (q8 5 (evA (aC (vr 2) aN) QM)) (seqO (sPut 5 (vr 3) (qQ (ev2 (ev2 (vr 5) (vr 3) ixD) (vr 4) qP))) (sIf (tV (ev2 (evA (aC (vr 5) aN) qY) (vr 0) ninD)) (seqO (q8 6 (Qg 7 (evI (vr 2) seqD) tT (ev2 (ev2 (kd (.int 2)) (vr 7) mulD) (kd (.int 1)) qP))) (seqO (sPut 6 (vr 3) (qQ (ev2 (ev2 (vr 6) (vr 3) ixD) (vr 4) qP))) (sApp 1 (qQ (evA (aC (vr 6) aN) qY))))) sN)))) [some (.list (cs.map eS)),some (.list (L.map eS)),some (eS c),o3,o4,o5,o6]=_
    rw [qg3,hr,qf2]
    exact e1
   ·rw [hn,Kp (as:=done),Ky]
    omega)
 obtain ⟨sk,es,p,r⟩:=Q9 (xs:=cs.flatMap (lsq cs)) (by omega)
 refine ⟨sk,?_,r,p⟩
 simp only [zO,Jc]
 simp_arith [e,es]
theorem jy {cs:List Sp}{c s:Sp}:s∈lsq cs c↔∃ a b,(a=0\/a=1\/a=2)/\(b=-1\/b=1)/\oth a b c∉cs/\s=oth a b (mid c):=by
 have hb:∀ a b,s∈lsb cs c a b↔oth a b c∉cs/\s=oth a b (mid c):=fun a b=>by
  unfold lsb
  by_cases h:oth a b c∈cs
  ·rw [if_pos h]
   exact ⟨(fun z=>by cases z),fun z=>absurd h z.1⟩
  ·rw [if_neg h,KL]
   exact ⟨fun z=>⟨h,z⟩,fun z=>z.2⟩
 unfold lsq lsa
 simp only [Uu,hb]
 constructor
 ·rintro ⟨a,ha,b,hb',h1,h2⟩
  exact ⟨a,b,by simpa using ha,by simpa using hb',h1,h2⟩
 ·rintro ⟨a,b,ha,hb',h1,h2⟩
  exact ⟨a,by simpa using ha,b,by simpa using hb',h1,h2⟩
theorem md1 (x:Int):(2*x+1) % 2=1:=by omega
theorem md2 {x b:Int}(h:b=-1\/b=1):(2*x+1+b) % 2=0:=by omega
theorem md3 {x b:Int}(h:b=-1):2*x+1+b+1=2*x+1/\2*x+1+b-1=2*(x+b)+1:=by omega
theorem md5 {x b:Int}(h:b=1):2*x+1+b-1=2*x+1/\2*x+1+b+1=2*(x+b)+1:=by omega
theorem yp (a:Nat)(b:Int)(c:Sp)(ha:a=0\/a=1\/a=2)(hb:b=-1\/b=1):Sq (oth a b (mid c))/\axA (oth a b (mid c))=a/\(b=-1->hi a (oth a b (mid c))=mid c/\lo a (oth a b (mid c))=mid (oth a b c))/\(b=1->lo a (oth a b (mid c))=mid c/\hi a (oth a b (mid c))=mid (oth a b c)):=by
 obtain ⟨x,y,z⟩:=c
 rcases ha with rfl|rfl|rfl
 ·exact ⟨.inl ⟨md2 hb,md1 y,md1 z⟩,ax0 (s:=oth 0 b (mid (x,y,z))) (md2 hb),fun h=>⟨QR (md3 h).1 rfl rfl,QR (md3 h).2 rfl rfl⟩,fun h=>⟨QR (md5 h).1 rfl rfl,QR (md5 h).2 rfl rfl⟩⟩
 ·exact ⟨.inr (.inl ⟨md1 x,md2 hb,md1 z⟩),ax1 (s:=oth 1 b (mid (x,y,z))) (md1 x) (md2 hb),fun h=>⟨QR rfl (md3 h).1 rfl,QR rfl (md3 h).2 rfl⟩,fun h=>⟨QR rfl (md5 h).1 rfl,QR rfl (md5 h).2 rfl⟩⟩
 ·exact ⟨.inr (.inr ⟨md1 x,md1 y,md2 hb⟩),ax2 (s:=oth 2 b (mid (x,y,z))) (md1 x) (md1 y),fun h=>⟨QR rfl rfl (md3 h).1,QR rfl rfl (md3 h).2⟩,fun h=>⟨QR rfl rfl (md5 h).1,QR rfl rfl (md5 h).2⟩⟩
theorem yS {cs:List Sp}{s:Sp}:s∈cs.flatMap (lsq cs)↔Sq s/\skB (inM cs) s=true:=by
 have inm:∀ c,mid c∈cs.map mid↔c∈cs:=fun c=>by
  constructor
  ·intro h
   obtain ⟨c',h1,h2⟩:=KN.mp h
   rw [← jz h2];exact h1
  ·exact fun h=>KN.mpr ⟨c,h,rfl⟩
 rw [Uu]
 constructor
 ·rintro ⟨c,hc,h⟩
  obtain ⟨a,b,ha,hb,h1,rfl⟩:=jy.mp h
  obtain ⟨g1,g2,g3,g4⟩:=yp a b c ha hb
  refine ⟨g1,?_⟩
  unfold skB inM
  rw [g2]
  rcases hb with hb|hb
  ·rw [(g3 hb).1,(g3 hb).2,decide_eq_true ((inm c).mpr hc),decide_eq_false (fun z=>h1 ((inm _).mp z))];rfl
  ·rw [(g4 hb).1,(g4 hb).2,decide_eq_true ((inm c).mpr hc),decide_eq_false (fun z=>h1 ((inm _).mp z))];rfl
 ·rintro ⟨hs,h⟩
  unfold skB inM at h
  have hA:axA s=0\/axA s=1\/axA s=2:=by rcases QD hs with z|z|z<;>simp [z.1]
  have back:∀ (b:Int) (c:Sp),(b=-1/\hi (axA s) s=mid c)\/(b=1/\lo (axA s) s=mid c)->s=oth (axA s) b (mid c):=fun b c hh=>by
   obtain ⟨x,y,z⟩:=s
   rcases hA with e|e|e<;>rw [e] at hh ⊢<;>rcases hh with ⟨rfl,g⟩|⟨rfl,g⟩<;>rw [← g]<;>simp only [oth,lo,hi]<;>(congr 1<;>first|omega|(congr 1<;>omega))
  by_cases h1:lo (axA s) s∈cs.map mid<;>by_cases h2:hi (axA s) s∈cs.map mid
  ·rw [decide_eq_true h1,decide_eq_true h2] at h;cases h
  ·obtain ⟨c,hc,ec⟩:=KN.mp h1
   have es:=back 1 c (.inr ⟨rfl,ec.symm⟩)
   refine ⟨c,hc,jy.mpr ⟨axA s,1,hA,.inr rfl,fun z=>h2 ?_,es⟩⟩
   have:=((yp (axA s) 1 c hA (.inr rfl)).2.2.2 rfl).2
   rw [← es] at this
   rw [this]
   exact (inm _).mpr z
  ·obtain ⟨c,hc,ec⟩:=KN.mp h2
   have es:=back (-1) c (.inl ⟨rfl,ec.symm⟩)
   refine ⟨c,hc,jy.mpr ⟨axA s,-1,hA,.inl rfl,fun z=>h1 ?_,es⟩⟩
   have:=((yp (axA s) (-1) c hA (.inl rfl)).2.2.1 rfl).2
   rw [← es] at this
   rw [this]
   exact (inm _).mpr z
  ·rw [decide_eq_false h1,decide_eq_false h2] at h;cases h
theorem qeY (cs:List Sp)(c:Sp):(lsq cs c).Nodup:=by
 have sub:∀ a b,(lsb cs c a b).Sublist [oth a b (mid c)]:=fun a b=>by
  unfold lsb
  split
  ·exact List.nil_sublist _
  ·exact List.Sublist.refl _
 have e:lsq cs c=(lsb cs c 0 (-1)++lsb cs c 0 1)++((lsb cs c 1 (-1)++lsb cs c 1 1)++(lsb cs c 2 (-1)++lsb cs c 2 1)):=by simp [lsq,lsa]
 rw [e]
 refine List.Nodup.sublist (((sub 0 (-1)).append (sub 0 1)).append (((sub 1 (-1)).append (sub 1 1)).append ((sub 2 (-1)).append (sub 2 1)))) ?_
 obtain ⟨x,y,z⟩:=c
 simp [oth,mid]
 omega
theorem Yy {cs:List Sp}(hn:cs.Nodup):(cs.flatMap (lsq cs)).Nodup:=by
 refine List.pairwise_flatMap.mpr ⟨fun c _=>qeY cs c,?_⟩
 refine List.Pairwise.imp_of_mem (R:=fun a b=>a≠b) ?_ hn
 rintro c1 c2 m1 m2 hne x hx y hy rfl
 obtain ⟨a1,b1,ha1,hb1,n1,e1⟩:=jy.mp hx
 obtain ⟨a2,b2,ha2,hb2,n2,e2⟩:=jy.mp hy
 have g1:=yp a1 b1 c1 ha1 hb1
 have g2:=yp a2 b2 c2 ha2 hb2
 rw [← e1] at g1
 rw [← e2] at g2
 have ea:a1=a2:=g1.2.1.symm.trans g2.2.1
 subst ea
 rcases hb1 with h1|h1<;>rcases hb2 with h2|h2
 ·exact hne (jz ((g1.2.2.1 h1).1.symm.trans (g2.2.2.1 h2).1))
 ·have:=jz ((g1.2.2.1 h1).2.symm.trans (g2.2.2.2 h2).1)
  exact n1 (by rw [this];exact m2)
 ·have:=jz ((g1.2.2.2 h1).2.symm.trans (g2.2.2.1 h2).1)
  exact n1 (by rw [this];exact m2)
 ·exact hne (jz ((g1.2.2.2 h1).1.symm.trans (g2.2.2.2 h2).1))
theorem qi2 {cs:List Sp}(hb:∀ c∈cs,BdS 200 c)(hl:cs.length<=6)(hn:cs.Nodup):∃ sk:List Sp,zG [.list (cs.map eS)]=some (.list (sk.map eS))/\zO [.list (cs.map eS)]=some (.list (sk.map eS))/\(sk.map l3).Pairwise (fun a b=>HT.lexLt b a=false)/\sk.Nodup/\sk.length<=36/\∀ s,s∈sk↔Sq s/\skB (inM cs) s=true:=by
 obtain ⟨sk,e1,r1,n1,l1,m1⟩:=qkW hb hl
 obtain ⟨sk',e2,r2,p2⟩:=qil hb hl
 have hm:∀ s,s∈sk↔Sq s/\skB (inM cs) s=true:=fun s=>(m1 s).trans (qg7 hn s)
 have same:sk'=sk:=Z0 (p2.trans (jC (Yy hn) n1 fun s=>yS.trans (hm s).symm)) r2 r1
 rw [same] at e2
 exact ⟨sk,e1,e2,r1,n1,l1,hm⟩
theorem wC {α:Type}(enc:α->Ka){k:Nat}{g:Ka->Rho->Option Rho}{te:Rho->Option Ka}{ρ:Rho}(f:α->Ka):∀ (as:List α),(∀ a∈as,ob (g (enc a) (ρ++Vn k none)) te=some (f a))->QH k g tT te ρ (as.map enc)=some (as.map f)
 | [],_=>rfl
 | a::as,h=>by
  have ih:=wC enc f as fun x hx=>h x (.tail _ hx)
  obtain ⟨ρ1,e1,e2⟩:=qe (h a (.head _))
  rw [Km,qdt,e1,qdn]
  show qbk (some true) _ _=_
  rw [qdl,e2,ih]
  rfl
theorem qbs {α:Type}(e:α->Ka):∀ (xs:List α) (n:Nat),enL (n:Nat) (xs.map e)=(xs.zipIdx n).map fun p=>.tuple [.int (p.2:Nat),e p.1]
 | [],_=>rfl
 | x::xs,n=>by
  rw [Km,Nv,Km,← qbs e xs (n+1)]
  rfl
theorem qeA {α:Type}(e:α->Ka)(xs:List α):enL 0 (xs.map e)=xs.zipIdx.map fun p=>.tuple [.int (p.2:Nat),e p.1]:=qbs e xs 0
theorem qcb {α:Type}{f:α->Ka}{g:α->KX×PyData}(h:∀ a,prOf (f a)=some (g a)):∀ xs:List α,qar (xs.map f)=some (xs.map g)
 | []=>rfl
 | x::xs=>by
  show ob (prOf (f x)) (fun p=>ob (qar (xs.map f)) fun ps=>some (p::ps))=_
  rw [h,qcb h xs]
  rfl
theorem qed:∀ (zs done:List (Sp×Nat)),((done++zs).map (·.1)).Nodup->YB (eD done) (zs.map fun p=>(kS p.1,.int (p.2:Nat)))=eD (done++zs)
 | [],done,_=>by rw [Vl];rfl
 | z::zs,done,hn=>by
  have hf:(qZ (eD done) (kS z.1)).isSome=false:=by
   rw [Y0,decide_eq_false]
   intro hm
   rw [KW,Ej] at hn
   exact hn.2.2 z.1 hm z.1 (by simp) rfl
  have hp:putD (eD done) (kS z.1) (.int (z.2:Nat))=eD (done++[z]):=by
   unfold putD
   rw [hf,if_neg (by decide),yj]
   unfold eD
   rw [KW]
   rfl
  show YB (putD (eD done) (kS z.1) (.int (z.2:Nat))) _=_
  rw [hp,qed zs (done++[z]) (by rw [U2];exact hn),U2]
  rfl
theorem qdk (s:Sp):∀ (S:List Sp) (n:Nat),s∈S->cnt (S.zipIdx n) s=n+S.idxOf s
 | x::S,n,h=>by
  unfold cnt
  rw [Nv,KJ,List.idxOf_cons]
  by_cases hx:x=s
  ·subst hx;simp
  ·have hc:s∈S:=by rcases Kk.mp h with z|z;exact absurd z.symm hx;exact z
   have e1:(x==s)=false:=beq_eq_false_iff_ne.mpr hx
   have ih:=qdk s S (n+1) hc
   unfold cnt at ih
   rw [decide_eq_false hx,e1]
   refine ih.trans ?_
   show n+1+S.idxOf s=n+(S.idxOf s+1)
   omega
theorem qe3 {S:List Sp}(hn:S.Nodup)(hl:S.length<=900):Qy [.list (S.map eS)]=some (.dict (eD S.zipIdx)):=by
 have hc:QH 2 (unpD 2 (gsC (gNm 1) (gsC (gNm 2) gsN))) tT (evA (aC (vr 2) (aC (vr 1) aN)) tupD) [some (.list (S.map eS))] (S.zipIdx.map fun p:Sp×Nat=>.tuple [.int (p.2:Nat),eS p.1])=some (S.zipIdx.map fun p=>.tuple [eS p.1,.int (p.2:Nat)]) :=
  wC (fun p:Sp×Nat=>.tuple [.int (p.2:Nat),eS p.1]) _ S.zipIdx fun a _=>by simp_arith []
 have hlen:(S.zipIdx.map fun p:Sp×Nat=>VN [.int (p.2:Nat),eS p.1]).length<=1000:=by rw [Kj,N1];omega
 have hd:qaI [.list (S.zipIdx.map fun p:Sp×Nat=>.tuple [eS p.1,.int (p.2:Nat)])]=some (.dict (eD S.zipIdx)):=by
  have e1:=qcb (f:=fun p:Sp×Nat=>VN [eS p.1,.int (p.2:Nat)]) (g:=fun p=>(kS p.1,.int (p.2:Nat))) (fun _=>rfl) S.zipIdx
  show ob (qar _) _=_
  rw [e1,ob_s,if_pos ⟨.inr (by rw [NM];exact Kz.mpr fun p _=>rfl),by rw [Kj,N1];omega⟩]
  have:=qed S.zipIdx [] (by rw [XU,NO];exact hn)
  rw [XU] at this
  exact congrArg (fun z=>some (XM z)) this
 simp only [Qy,jJ]
 simp_arith [qeA,hlen,hc,hd]
theorem in_eD (kvs:List (Sp×Nat))(s:Sp):in2D (eS s) (.dict (eD kvs))=some (.bool (decide (s∈kvs.map (·.1)))):=by
 show ob (kxOf (eS s)) (fun ks=>if kOk (eD kvs) ks=true then some (Ni (qZ (eD kvs) ks).isSome) else none)=_
 rw [Yw,ob_s,if_pos (qaN _ _),Y0]
theorem qbW {S:List Sp}{s:Sp}(h:s∈S):ix2D (.dict (eD S.zipIdx)) (eS s)=some (.int (S.idxOf s:Nat)):=by
 rw [qdJ (by rw [NO];exact h),qdk s S 0 h,Xf]
theorem qey {cs sk:List Sp}(hs:∀ s∈sk,Sq s)(hl:sk.length<=60)(e1:zG [.list (cs.map eS)]=some (.list (sk.map eS)))(h4:∀ e,(sk.flatMap fun s=>ar (axA s) s).count e≠4):zx [.list (cs.map eS)]=some .none:=by
 have e2:=wG hs hl
 generalize hk:tally (sk.flatMap fun s=>ar (axA s) s)=kvs at *
 have hcnt:∀ t,cnt kvs t≠4:=fun t=>by rw [← hk,Ye];exact h4 t
 have hkl:kvs.length<=240:=by
  have h1:(kvs.map (·.1)).length<=(sk.flatMap fun s=>ar (axA s) s).length:=by
   rw [← hk,jF]
   have:∀ (xs ks:List Sp),(xs.foldl (fun ks s=>if s∈ks then ks else ks++[s]) ks).length<=ks.length+xs.length:=by
    intro xs
    induction xs with
    | nil=>exact fun ks=>Ko _
    | cons x xs ih =>
     intro ks
     rw [Ur,KC]
     have:=ih (if x∈ks then ks else ks++[x])
     have h2:(if x∈ks then ks else ks++[x]).length<=ks.length+1:=by
      split
      ·omega
      ·rw [Kp,Ky];omega
     omega
   have:=this (sk.flatMap fun s=>ar (axA s) s) []
   rw [Xs,Xf] at this
   exact this
  have h2:∀ ss:List Sp,(ss.flatMap fun s=>ar (axA s) s).length<=4*ss.length:=by
   intro ss
   induction ss with
   | nil=>exact Ko _
   | cons s ss ih =>
    rw [V7,Kp,KC]
    have:(ar (axA s) s).length=4:=by
     unfold ar
     split<;>rfl
    omega
  have:=h2 sk
  rw [Kj] at h1
  omega
 have hc:Qp (tV (ev2 (ev2 (vr 1) (vr 2) ix2D) (kd jo) eqD)) (vr 2) [some (.list (cs.map eS)),some (.dict (eD kvs))] (kvs.map fun p=>eS p.1)=some ((kvs.filter fun _=>false).map fun p=>eS p.1):=by
  refine Zv (fun p:Sp×Nat=>eS p.1) (fun _=>false) (fun p=>eS p.1) kvs (fun p hp=>?_) fun p hp h=>by cases h
  have hi:=qdJ (s:=p.1) (KN.mpr ⟨p,hp,rfl⟩)
  have cr:jo=.int 4:=rfl
  have hne:(((cnt kvs p.1:Nat):Int)==4)=false:=beq_eq_false_iff_ne.mpr fun z=>hcnt p.1 (by omega)
  simp_arith [hi,cr,hne]
 have hz:(kvs.map fun p=>eS p.1).length<=1000:=by rw [Kj];omega
 rw [List.filter_eq_nil_iff.mpr (fun p _=>by decide),Vt] at hc
 have hm:qae (.list []) .none=some .none:=rfl
 simp only [zx,ji]
 simp_arith [e1,e2,yl,hz,hc,hm]
abbrev Mt:=Sp×List Nat
def eNs (l:List Nat):Ka:=.list (l.map fun k=>.int (k:Nat))
def eM (kvs:List Mt):List (Ka×PyData):=kvs.map fun p=>(eS p.1,eNs p.2)
def setM (s:Sp)(k:Nat):List Mt->List Mt
 | []=>[]
 | p::r=>if p.1=s then (p.1,p.2++[k])::r else p::setM s k r
def addM (kvs:List Mt)(s:Sp)(k:Nat):List Mt:=if s∈kvs.map (·.1) then setM s k kvs else kvs++[(s,[k])]
theorem qaO (kvs:List Mt)(s:Sp):kOk (eM kvs) (kS s)=true:=by
 unfold kOk eM
 rw [NM]
 exact Kz.mpr fun p _=>rfl
theorem Jp (s:Sp):∀ kvs:List Mt,qZ (eM kvs) (kS s)=(kvs.find? fun p=>decide (p.1=s)).map fun p=>eNs p.2
 | []=>rfl
 | p::kvs=>by
  have ih:=Jp s kvs
  unfold qZ eM at *
  rw [Km,KJ,KJ,yj,jq]
  rw [yj] at ih
  by_cases h:p.1=s
  ·rw [decide_eq_true h];rfl
  ·rw [decide_eq_false h];exact ih
theorem Y4 (s:Sp)(kvs:List Mt):(qZ (eM kvs) (kS s)).isSome=decide (s∈kvs.map (·.1)):=by
 rw [Jp]
 by_cases h:s∈kvs.map (·.1)
 ·obtain ⟨p,hp,rfl⟩:=KN.mp h
  rw [decide_eq_true h]
  cases e:kvs.find? (fun x=>decide (x.1=p.1)) with
  | some x=>rfl
  | none=>exact absurd (Uv.mp e p hp) (by simp)
 ·rw [decide_eq_false h,Uv.mpr fun p hp=>by simpa using fun z=>h (KN.mpr ⟨p,hp,z⟩)];rfl
theorem qkd (kvs:List Mt)(s:Sp):qag (eS s) (.dict (eM kvs))=some (.bool (!decide (s∈kvs.map (·.1)))):=by
 show ob (kxOf (eS s)) (fun ks=>if kOk (eM kvs) ks=true then some (Ni (!(qZ (eM kvs) ks).isSome)) else none)=_
 rw [Yw,ob_s,if_pos (qaO _ _),Y4]
theorem qkc {kvs:List Mt}{s:Sp}(hl:kvs.length<900)(h:s∉kvs.map (·.1)):J7 (.dict (eM kvs)) (eS s)=some (.dict (eM (kvs++[(s,[])]))):=by
 show ob (kxOf (eS s)) (fun ks=>if kOk (eM kvs) ks=true/\(eM kvs).length<900/\(qZ (eM kvs) ks).isSome=false then some (XM (eM kvs++[(kxD ks,.list [])])) else none)=_
 rw [Yw,ob_s,if_pos ⟨qaO _ _,by unfold eM;rw [Kj];exact hl,by rw [Y4,decide_eq_false h]⟩,yj]
 unfold eM
 rw [KW]
 rfl
theorem qea (s:Sp)(k:Nat):∀ (kvs:List Mt) (p0:Mt),kvs.find? (fun p=>decide (p.1=s))=some p0->put1 (kS s) (eNs (p0.2++[k])) (eM kvs)=eM (setM s k kvs)
 | [],_,e=>by cases e
 | p::kvs,p0,e=>by
  rw [KJ] at e
  unfold eM
  rw [Km,put1,yj,jq,setM]
  by_cases h:p.1=s
  ·rw [decide_eq_true h] at e ⊢
   cases e
   rw [if_pos rfl,if_pos h]
   rfl
  ·rw [decide_eq_false h] at e ⊢
   rw [if_neg (by decide),if_neg h,Km]
   exact congrArg _ (qea s k kvs p0 e)
theorem qfs {kvs:List Mt}{s:Sp}{k:Nat}(h:s∈kvs.map (·.1))(hl:∀ p∈kvs,p.2.length<900):J4 (.dict (eM kvs)) (eS s) (.int (k:Nat))=some (.dict (eM (setM s k kvs))):=by
 obtain ⟨p0,e0⟩:∃ p0,kvs.find? (fun p=>decide (p.1=s))=some p0:=by
  have:=Y4 s kvs
  rw [decide_eq_true h,Jp] at this
  cases e:kvs.find? (fun p=>decide (p.1=s)) with
  | none=>rw [e] at this;cases this
  | some p=>exact ⟨p,rfl⟩
 have hm:=hl p0 (Em e0)
 have ha:appD (eNs p0.2) (.int (k:Nat))=some (eNs (p0.2++[k])):=by
  show (if (p0.2.map fun k=>KU (k:Nat)).length<1000 then some (Nj ((p0.2.map fun k=>KU (k:Nat))++[.int (k:Nat)])) else none)=_
  rw [if_pos (by rw [Kj];omega)]
  unfold eNs
  rw [KW]
  rfl
 show ob (kxOf (eS s)) (fun ks=>if kOk (eM kvs) ks=true then ob (qZ (eM kvs) ks) fun l=>ob (appD l (.int (k:Nat))) fun l'=>some (XM (put1 ks l' (eM kvs))) else none)=_
 rw [Yw,ob_s,if_pos (qaO _ _),Jp,e0]
 show ob (appD (eNs p0.2) (.int (k:Nat))) _=_
 rw [ha,ob_s,qea s k kvs p0 e0]
def dnwO (c k:Option Ka)(i:Nat)(ρ:Rho):Option Out:=match c,k with
 | some c,some k=>nxdO (J7 c k) i ρ
 | _,_=>none
theorem qjH (c k:Ka)(i:Nat)(ρ:Rho):dnwO (some c) (some k) i ρ=nxdO (J7 c k) i ρ:=rfl
theorem qiZ (i:Nat)(fk:Rho->Option Ka)(ρ:Rho):Wm i fk ρ=dnwO (vr i ρ) (fk ρ) i ρ:=by
 unfold Wm dnwO
 cases vr i ρ with
 | none=>rfl
 | some c =>
  cases fk ρ with
  | none=>rfl
  | some k =>
   show ob (J7 c k) _=nxdO (J7 c k) i ρ
   cases J7 c k<;>rfl
def kadO (c k d:Option Ka)(i:Nat)(ρ:Rho):Option Out:=match c,k,d with
 | some c,some k,some d=>nxdO (J4 c k d) i ρ
 | _,_,_=>none
theorem qge (c k d:Ka)(i:Nat)(ρ:Rho):kadO (some c) (some k) (some d) i ρ=nxdO (J4 c k d) i ρ:=rfl
theorem qcj (i:Nat)(fk f:Rho->Option Ka)(ρ:Rho):JL i fk f ρ=kadO (vr i ρ) (fk ρ) (f ρ) i ρ:=by
 unfold JL kadO
 cases vr i ρ with
 | none=>rfl
 | some c =>
  cases fk ρ with
  | none=>rfl
  | some k =>
   cases f ρ with
   | none=>rfl
   | some d =>
    show ob (J4 c k d) _=nxdO (J4 c k d) i ρ
    cases J4 c k d<;>rfl
def lstM (kvs:List Mt)(s:Sp):List Nat:=((kvs.find? fun p=>decide (p.1=s)).map (·.2)).getD []
theorem qau (s:Sp)(k:Nat):∀ kvs:List Mt,(setM s k kvs).map (·.1)=kvs.map (·.1)
 | []=>rfl
 | p::kvs=>by
  unfold setM
  split
  ·rfl
  ·rw [Km,Km,qau s k kvs]
theorem qck (s t:Sp)(k:Nat):∀ kvs:List Mt,s∈kvs.map (·.1)->lstM (setM s k kvs) t=lstM kvs t++if s=t then [k] else []
 | [],h=>by cases h
 | p::kvs,h=>by
  unfold setM lstM
  by_cases hp:p.1=s
  ·rw [if_pos hp,KJ,KJ]
   by_cases hst:s=t
   ·subst hst
    rw [if_pos rfl]
    simp [hp]
   ·have:¬ p.1=t:=fun z=>hst (hp.symm.trans z)
    rw [if_neg hst,decide_eq_false this,Vl]
  ·have hm:s∈kvs.map (·.1):=by rcases Kk.mp h with z|z;exact absurd z.symm hp;exact z
   have ih:=qck s t k kvs hm
   unfold lstM at ih
   rw [if_neg hp,KJ,KJ]
   by_cases hpt:p.1=t
   ·have hst:¬ s=t:=fun z=>hp (hpt.trans z.symm)
    rw [decide_eq_true hpt,if_neg hst,Vl]
   ·rw [decide_eq_false hpt];exact ih
theorem WL (kvs:List Mt)(s:Sp)(k:Nat):(addM kvs s k).map (·.1)=if s∈kvs.map (·.1) then kvs.map (·.1) else kvs.map (·.1)++[s]:=by
 unfold addM
 by_cases h:s∈kvs.map (·.1)
 ·rw [if_pos h,if_pos h,qau]
 ·rw [if_neg h,if_neg h,KW];rfl
theorem qfr (kvs:List Mt)(s t:Sp)(k:Nat):lstM (addM kvs s k) t=lstM kvs t++if s=t then [k] else []:=by
 unfold addM
 by_cases h:s∈kvs.map (·.1)
 ·rw [if_pos h];exact qck s t k kvs h
 ·rw [if_neg h]
  unfold lstM
  rw [List.find?_append]
  by_cases e:s=t
  ·subst e
   rw [Uv.mpr fun p hp=>by simpa using fun z=>h (KN.mpr ⟨p,hp,z⟩)]
   simp
  ·have:([(s,[k])]:List Mt).find? (fun p=>decide (p.1=t))=none:=by simp [e]
   rw [if_neg e,this,Option.or_none,Vl]
theorem qcl {s:Sp}{k:Nat}:∀ {kvs:List Mt} {p:Mt},p∈setM s k kvs->p∈kvs\/∃ q∈kvs,p.2=q.2++[k]
 | [],_,h=>by cases h
 | q::kvs,p,h=>by
  unfold setM at h
  split at h
  ·rcases Kk.mp h with rfl|z
   ·exact .inr ⟨q,.head _,rfl⟩
   ·exact .inl (.tail _ z)
  ·rcases Kk.mp h with rfl|z
   ·exact .inl (.head _)
   ·rcases qcl z with y|⟨q',m,e⟩
    ·exact .inl (.tail _ y)
    ·exact .inr ⟨q',.tail _ m,e⟩
theorem qfq {kvs:List Mt}{s:Sp}{k n:Nat}(h:∀ p∈kvs,p.2.length<=n):∀ p∈addM kvs s k,p.2.length<=n+1:=fun p hp=>by
 unfold addM at hp
 split at hp
 ·rcases qcl hp with z|⟨q,m,e⟩
  ·exact Xy (h p z)
  ·have:=h q m
   rw [e,Kp,Ky]
   omega
 ·rcases Vv.mp hp with z|z
  ·exact Xy (h p z)
  ·rw [KL.mp z]
   show 1<=n+1
   omega
theorem qen (kvs:List Mt)(s:Sp)(k:Nat):(addM kvs s k).length<=kvs.length+1:=by
 have h:=congrArg Xv (WL kvs s k)
 rw [Kj] at h
 rw [h]
 split
 ·rw [Kj];omega
 ·rw [Kp,Kj,Ky];omega
theorem qhb {kvs:List Mt}{e:Sp}{k n:Nat}(hl:kvs.length<900)(hn:∀ p∈kvs,p.2.length<=n)(hn9:n<900)(o0:Option Ka) :
  (seqO (sIf (tV (ev2 (vr 3) (vr 1) qag)) (Wm 1 (vr 3)) sN) (JL 1 (vr 3) (vr 2))) [o0,some (.dict (eM kvs)),some (.int (k:Nat)),some (eS e)]=some (.nx [o0,some (.dict (eM (addM kvs e k))),some (.int (k:Nat)),some (eS e)]):=by
 have hni:=qkd kvs e
 by_cases h:e∈kvs.map (·.1)
 ·have ha:=qfs (k:=k) h fun p hp=>by have:=hn p hp;omega
  have hadd:addM kvs e k=setM e k kvs:=if_pos h
  rw [decide_eq_true h] at hni
  rw [hadd]
  simp_arith [hni,qcj,qge,ha]
 ·have hw:=qkc hl h
  have ha:=qfs (kvs:=kvs++[(e,[])]) (s:=e) (k:=k) (by simp) fun p hp=>by
   rcases Vv.mp hp with z|z
   ·have:=hn p z;omega
   ·rw [KL.mp z];exact (show 0<900 by decide)
  have hset:∀ ks:List Mt,e∉ks.map (·.1)->setM e k (ks++[(e,[])])=ks++[(e,[k])]:=by
   intro ks
   induction ks with
   | nil=>intro _;simp [setM]
   | cons p ks ih =>
    intro hh
    rw [Km,Kk] at hh
    have h1:¬ p.1=e:=fun z=>hh (.inl z.symm)
    rw [List.cons_append,setM,if_neg h1,ih fun z=>hh (.inr z)]
    rfl
  have hadd:addM kvs e k=kvs++[(e,[k])]:=if_neg h
  rw [hset kvs h] at ha
  rw [decide_eq_false h] at hni
  rw [hadd]
  simp_arith [hni,qiZ,qjH,hw,qcj,qge,ha]
def metE (kvs:List Mt)(p:Sp×Nat)(es:List Sp):List Mt:=es.foldl (fun kvs e=>addM kvs e p.2) kvs
def metF (ps:List (Sp×Nat)):List Mt:=ps.foldl (fun kvs p=>metE kvs p (ar (axA p.1) p.1)) []
theorem qjB {s:Sp}(hs:Sq s)(o0 o1 o3:Option Ka){sk:List Sp}{k:Nat}(hk:atI (sk.map eS) (k:Nat)=some (eS s)):Qp (tV (ev2 (ev2 (ev2 (ev2 (vr 0) (vr 2) ixD) (vr 4) ixD) (kd (.int 2)) modD) (kd (.int 1)) eqD)) (vr 4) [some (.list (sk.map eS)),o1,some (.int (k:Nat)),o3] [.int 0,.int 1,.int 2]=some (others (axA s)):=by
 obtain ⟨x,y,z⟩:=s
 rcases QD hs with ⟨e,h1,h2,h3⟩|⟨e,h1,h2,h3⟩|⟨e,h1,h2,h3⟩<;>rw [e]<;>dsimp only at h1 h2 h3<;>simp only [eS] at hk
 ·simp_arith [hk,ix0,ix1,ix2,h1,h2,h3]
  rfl
 ·simp_arith [hk,ix0,ix1,ix2,h1,h2,h3]
  rfl
 ·simp_arith [hk,ix0,ix1,ix2,h1,h2,h3]
  rfl
theorem met24 {sk:List Sp}(hs:∀ s∈sk,Sq s)(hl:sk.length<=60):ZF [.list (sk.map eS)]=some (.dict (eM (metF sk.zipIdx))):=by
 obtain ⟨ρ',e,o2,o3,rfl,-,-⟩:=Qh (fun p:Sp×Nat=>KU (p.2:Nat)) (g:=gNm 2) (u:=(sFor (evI (evC 2 (aC (ev2 (vr 0) (vr 2) ixD) (aC (Qg 4 (evR (aC (kd (.int 3)) aN) ZZ) (tV (ev2 (ev2 (ev2 (ev2 (vr 0) (vr 2) ixD) (vr 4) ixD) (kd (.int 2)) modD) (kd (.int 1)) eqD)) (vr 4)) aN)) zF) seqD) (gNm 3) (seqO (sIf (tV (ev2 (vr 3) (vr 1) qag)) (Wm 1 (vr 3)) sN) (JL 1 (vr 3) (vr 2)))))
  (fun done ρ=>∃ o2 o3:Option Ka,ρ=[some (.list (sk.map eS)),some (.dict (eM (metF done))),o2,o3]/\(metF done).length<=4*done.length/\∀ p∈metF done,p.2.length<=4*done.length) sk.zipIdx [some (.list (sk.map eS)),some (.dict []),none,none] ⟨none,none,rfl,Vc _,fun p hp=>by cases hp⟩ (by
   rintro ⟨s,k⟩ hm done ρ hdl ⟨o2,o3,rfl,hlen,hlp⟩
   rw [N1] at hdl
   obtain ⟨_,hkl,hks⟩:=List.mem_zipIdx hm
   have hkl:k<sk.length:=by omega
   have hks:s=sk[k]:=by simpa using hks
   have hsq:Sq s:=hs s (by rw [hks];exact Nu hkl)
   have hat:atI (sk.map eS) ((k:Nat):Int)=some (eS s):=qdf (Int.natCast_nonneg _) (by rw [VO,Kq hkl,hks])
   have hax:=qjB hsq none (some (.dict (eM (metF done)))) o3 hat
   have hA:axA s=0\/axA s=1\/axA s=2:=by rcases QD hsq with z|z|z<;>simp [z.1]
   have hnr:=(wj hA s).2
   have h4:(ar (axA s) s).length=4:=by rcases QD hsq with z|z|z<;>rw [z.1]<;>rfl
   have hf:metF (done++[(s,k)])=metE (metF done) (s,k) (ar (axA s) s):=by unfold metF;rw [V6];rfl
   generalize hkv:metF done=kvs at *
   obtain ⟨ρ1,e1,o3',rfl,hlen1,hlp1⟩:=Qh eS (g:=gNm 3) (u:=(seqO (sIf (tV (ev2 (vr 3) (vr 1) qag)) (Wm 1 (vr 3)) sN) (JL 1 (vr 3) (vr 2))))
    (fun don ρ=>∃ o3:Option Ka,ρ=[some (.list (sk.map eS)),some (.dict (eM (metE kvs (s,k) don))),some (.int (k:Nat)),o3]/\(metE kvs (s,k) don).length<=kvs.length+don.length/\∀ p∈metE kvs (s,k) don,p.2.length<=4*done.length+don.length) (ar (axA s) s) [some (.list (sk.map eS)),some (.dict (eM kvs)),some (.int (k:Nat)),o3] ⟨o3,rfl,Ko _,hlp⟩ (by
     rintro e he don ρ hd ⟨o3,rfl,hl2,hp2⟩
     have hst:=qhb (kvs:=metE kvs (s,k) don) (e:=e) (k:=k) (n:=4*done.length+don.length) (by omega) hp2 (by omega) (some (.list (sk.map eS)))
     have hn:metE kvs (s,k) (don++[e])=addM (metE kvs (s,k) don) e k:=by unfold metE;rw [V6];rfl
     refine ⟨_,hst,some (eS e),by rw [hn],?_,?_⟩
     ·have:=qen (metE kvs (s,k) don) e k
      rw [hn,Kp,Ky]
      omega
     ·rw [hn,Kp,Ky,← Nm]
      exact qfq hp2)
   have hr:∀ ρ:Rho,(evR (aC (kd (.int 3)) aN) ZZ) ρ=some [.int 0,.int 1,.int 2]:=fun _=>rfl
   refine ⟨_,?_,some (.int (k:Nat)),o3',by rw [hf],?_,?_⟩
   ·simp_arith [hat,hr,hax,hnr,e1]
   ·rw [hf,Kp,Ky]
    omega
   ·rw [hf,Kp,Ky]
    intro p hp
    have:=hlp1 p hp
    omega)
 have hrng:((X7 (sk.map eS).length).map fun k:Nat=>KU (k:Nat))=sk.zipIdx.map fun p:Sp×Nat=>KU (p.2:Nat):=by
  have h1:sk.zipIdx.map (fun p:Sp×Nat=>KU (p.2:Nat))=(sk.zipIdx.map (·.2)).map fun k:Nat=>KU (k:Nat):=by rw [Vf];rfl
  rw [h1,List.zipIdx_map_snd,Kj,E8]
 have e5:(if (-1000:Int)<=(((sk.map eS).length:Nat):Int)/\(((sk.map eS).length:Nat):Int)<=1000 then some (rngL 0 ((((sk.map eS).length:Nat):Int)).toNat) else none)=some (sk.zipIdx.map fun p:Sp×Nat=>KU (p.2:Nat)):=by
  rw [if_pos (by rw [Kj];omega),VO,qg2,hrng]
 simp only [ZF,JP]
 simp_arith [e5,e]
def prsM (ps:List (Sp×Nat)):List (Sp×Nat):=ps.flatMap fun p=>(ar (axA p.1) p.1).map fun e=>(e,p.2)
theorem qac (p:Sp×Nat):∀ (es:List Sp) (kvs:List Mt),metE kvs p es=(es.map fun e=>(e,p.2)).foldl (fun kvs q=>addM kvs q.1 q.2) kvs
 | [],_=>rfl
 | e::es,kvs=>qac p es (addM kvs e p.2)
theorem qad (ps:List (Sp×Nat)):metF ps=(prsM ps).foldl (fun kvs q=>addM kvs q.1 q.2) []:=by
 have:∀ (ps:List (Sp×Nat)) (kvs:List Mt),ps.foldl (fun kvs p=>metE kvs p (ar (axA p.1) p.1)) kvs=(prsM ps).foldl (fun kvs q=>addM kvs q.1 q.2) kvs:=by
  intro ps
  induction ps with
  | nil=>exact fun _=>rfl
  | cons p ps ih =>
   intro kvs
   rw [Ur,ih,qac]
   unfold prsM
   rw [V7,V6]
 exact this ps []
theorem qbx (Q:List (Sp×Nat)):∀ kvs:List Mt,((Q.foldl (fun kvs q=>addM kvs q.1 q.2) kvs).map (·.1)=(Q.map (·.1)).foldl (fun ks s=>if s∈ks then ks else ks++[s]) (kvs.map (·.1)))/\∀ t,lstM (Q.foldl (fun kvs q=>addM kvs q.1 q.2) kvs) t=lstM kvs t++(Q.filter fun q=>decide (q.1=t)).map (·.2):=by
 induction Q with
 | nil=>exact fun kvs=>⟨rfl,fun t=>by simp⟩
 | cons q Q ih =>
  intro kvs
  obtain ⟨h1,h2⟩:=ih (addM kvs q.1 q.2)
  refine ⟨?_,fun t=>?_⟩
  ·rw [Ur,Km,Ur,h1,WL]
  ·rw [Ur,h2,qfr,Xh,U2]
   by_cases e:q.1=t
   ·rw [if_pos e,decide_eq_true e,if_pos rfl];rfl
   ·rw [if_neg e,decide_eq_false e,if_neg (by decide)];rfl
theorem qe1 (sk:List Sp):(metF sk.zipIdx).map (·.1)=once (sk.flatMap fun s=>ar (axA s) s):=by
 rw [qad,(qbx _ []).1]
 have:∀ (S:List Sp) (n:Nat),(prsM (S.zipIdx n)).map (·.1)=S.flatMap fun s=>ar (axA s) s:=by
  intro S
  induction S with
  | nil=>exact fun _=>rfl
  | cons s S ih =>
   intro n
   have h1:prsM ((s::S).zipIdx n)=((ar (axA s) s).map fun e=>(e,n))++prsM (S.zipIdx (n+1)):=by unfold prsM;rw [Nv,V7]
   rw [h1,KW,ih,V7,Vf]
   refine congrArg (·++_) ((VD fun _ _=>rfl).trans (EZ _))
 rw [this]
 rfl
theorem Wh (t:Sp):∀ (S:List Sp) (n:Nat),S.Nodup->(∀ s∈S,(ar (axA s) s).Nodup)->((prsM (S.zipIdx n)).filter fun q=>decide (q.1=t)).map (·.2)=(S.filter fun s=>decide (t∈ar (axA s) s)).map fun s=>n+S.idxOf s
 | [],_,_,_=>rfl
 | s::S,n,hn,ha=>by
  obtain ⟨n1,n2⟩:=VS.mp hn
  have ih:=Wh t S (n+1) n2 fun x hx=>ha x (.tail _ hx)
  have h1:prsM ((s::S).zipIdx n)=((ar (axA s) s).map fun e=>(e,n))++prsM (S.zipIdx (n+1)):=by unfold prsM;rw [Nv,V7]
  have one:∀ es:List Sp,es.Nodup->((es.map fun e=>(e,n)).filter fun q:Sp×Nat=>decide (q.1=t)).map (·.2)=if t∈es then [n] else []:=by
   intro es
   induction es with
   | nil=>exact fun _=>rfl
   | cons x es ih2 =>
    intro hx
    obtain ⟨x1,x2⟩:=VS.mp hx
    have:=ih2 x2
    rw [Km,Xh]
    by_cases e:x=t
    ·subst e
     rw [if_neg x1] at this
     rw [if_pos (decide_eq_true rfl),Km,this,if_pos (.head _)]
    ·rw [if_neg (by simpa using e),this]
     by_cases h2:t∈es
     ·rw [if_pos h2,if_pos (.tail _ h2)]
     ·rw [if_neg h2,if_neg fun z=>by rcases Kk.mp z with y|y;exact e y.symm;exact h2 y]
  have rest:(S.filter fun s=>decide (t∈ar (axA s) s)).map (fun x=>n+1+S.idxOf x)=(S.filter fun s=>decide (t∈ar (axA s) s)).map fun x=>n+(s::S).idxOf x:=by
   refine VD fun x hx=>?_
   have hxS:=(VC.mp hx).1
   have hne:(s==x)=false:=beq_eq_false_iff_ne.mpr fun z=>n1 (by rw [z];exact hxS)
   rw [List.idxOf_cons,hne]
   show n+1+S.idxOf x=n+(S.idxOf x+1)
   omega
  rw [h1,List.filter_append,KW,one _ (ha s (.head _)),ih,rest,Xh]
  by_cases h2:t∈ar (axA s) s
  ·rw [if_pos h2,if_pos (decide_eq_true h2),Km]
   have:(s::S).idxOf s=0:=by simp
   rw [this]
   rfl
  ·rw [if_neg h2,if_neg (by simpa using h2)]
   rfl
theorem qgs {sk:List Sp}(hn:sk.Nodup)(hs:∀ s∈sk,Sq s)(t:Sp):lstM (metF sk.zipIdx) t=(sk.filter fun s=>decide (t∈ar (axA s) s)).map fun s=>sk.idxOf s:=by
 rw [qad,(qbx _ []).2 t,Wh t sk 0 hn fun s h=>Y9 (by rcases QD (hs s h) with z|z|z<;>simp [z.1]) s]
 show []++_=_
 rw [XU]
 exact VD fun x _=>Xf _
theorem YK {sk:List Sp}(hs:∀ s∈sk,Sq s)(t:Sp):(sk.flatMap fun s=>ar (axA s) s).count t=(sk.filter fun s=>decide (t∈ar (axA s) s)).length:=by
 induction sk with
 | nil=>rfl
 | cons s sk ih =>
  have hn:=Y9 (B:=axA s) (by rcases QD (hs s (.head _)) with z|z|z<;>simp [z.1]) s
  rw [V7,Ek,ih fun x hx=>hs x (.tail _ hx),Xh]
  by_cases h:t∈ar (axA s) s
  ·have:(ar (axA s) s).count t=1:=by
    have h1:=List.nodup_iff_count.mp hn t
    have h2:=X4.mpr h
    omega
   rw [this,if_pos (decide_eq_true h),KC]
   omega
  ·rw [X5.mpr h,if_neg (by simpa using h)]
   omega
def cb (m:Sp):Sp:=(m.1 / 2,m.2.1 / 2,m.2.2 / 2)
def Od (m:Sp):Prop:=m.1 % 2=1/\m.2.1 % 2=1/\m.2.2 % 2=1
theorem qaG {m:Sp}(h:Od m):mid (cb m)=m:=by
 obtain ⟨x,y,z⟩:=m
 obtain ⟨h1,h2,h3⟩:=h
 dsimp only at h1 h2 h3
 unfold mid cb
 exact Prod.ext (by dsimp only;omega) (Prod.ext (by dsimp only;omega) (by dsimp only;omega))
theorem qf7 {cs:List Sp}{m:Sp}(h:Od m):inM cs m=decide (cb m∈cs):=by
 unfold inM
 refine decide_eq_decide.mpr ⟨fun z=>?_,fun z=>KN.mpr ⟨_,z,qaG h⟩⟩
 obtain ⟨c,h1,h2⟩:=KN.mp z
 have:c=cb m:=jz (h2.trans (qaG h).symm)
 rw [← this];exact h1
theorem qgy {s:Sp}(h:Sq s):Od (lo (axA s) s)/\Od (hi (axA s) s):=by
 rcases QD h with ⟨e,h1,h2,h3⟩|⟨e,h1,h2,h3⟩|⟨e,h1,h2,h3⟩<;>rw [e]
 ·exact ⟨⟨oddm h1,h2,h3⟩,⟨oddp h1,h2,h3⟩⟩
 ·exact ⟨⟨h1,oddm h2,h3⟩,⟨h1,oddp h2,h3⟩⟩
 ·exact ⟨⟨h1,h2,oddm h3⟩,⟨h1,h2,oddp h3⟩⟩
theorem qhD {s:Sp}(h:Sq s):QF [eS s]=some (.tuple [eS (cb (lo (axA s) s)),eS (cb (hi (axA s) s))]):=by
 have ha:=qfw (A:=axA s) (s:=s) (by rcases QD h with ⟨a,b⟩|⟨a,b⟩|⟨a,b⟩;exact .inl ⟨a,b⟩;exact .inr (.inl ⟨a,b⟩);exact .inr (.inr ⟨a,b⟩))
 have n1:(((1:Nat):Nat):Int)=1:=rfl
 have n2:(((2:Nat):Nat):Int)=2:=rfl
 obtain ⟨x,y,z⟩:=s
 rcases QD h with ⟨e,h1,h2,h3⟩|⟨e,h1,h2,h3⟩|⟨e,h1,h2,h3⟩<;>rw [e] at ha ⊢<;>dsimp only at h1 h2 h3
 ·have ha:Qk [eS (x,y,z)]=some (.int 0):=ha
  have q:(x+1) / 2=x / 2:=by omega
  simp only [QF,ZR,cb,lo,hi,q]
  simp_arith [ha,qfW,Q6,jj,ixe0,ixe1,ixe2,Xi,n1,n2]
  rfl
 ·have ha:Qk [eS (x,y,z)]=some (.int 1):=ha
  have q:(y+1) / 2=y / 2:=by omega
  simp only [QF,ZR,cb,lo,hi,q]
  simp_arith [ha,qfW,Q6,jj,ixe0,ixe1,ixe2,Xi,n1,n2]
  rfl
 ·have ha:Qk [eS (x,y,z)]=some (.int 2):=ha
  have q:(z+1) / 2=z / 2:=by omega
  simp only [QF,ZR,cb,lo,hi,q]
  simp_arith [ha,qfW,Q6,jj,ixe0,ixe1,ixe2,Xi,n1,n2]
  rfl
theorem Jr (a:Sp):QK [eS a]=some (eS (-a.1,-a.2.1,-a.2.2)):=by
 simp only [QK,Yh]
 simp_arith [ixe0,ixe1,ixe2]
 rfl
theorem qcs (a b:Sp):ad a (-b.1,-b.2.1,-b.2.2)=sb a b:=by
 unfold ad sb
 exact Prod.ext (by dsimp only;omega) (Prod.ext (by dsimp only;omega) (by dsimp only;omega))
theorem qe4 {cs:List Sp}(hb:∀ c∈cs,BdS 200 c){s:Sp}(hs:Sq s)(hk:skB (inM cs) s=true):zX [.list (cs.map eS),eS s]=some (eS (sb s (if inM cs (lo (axA s) s)=true then lo (axA s) s else hi (axA s) s))):=by
 have hc:=qhD hs
 obtain ⟨o1,o2⟩:=qgy hs
 have i1:=qjP cs (cb (lo (axA s) s))
 have m1:=qf7 (cs:=cs) o1
 have m2:=qf7 (cs:=cs) o2
 unfold skB at hk
 by_cases h:cb (lo (axA s) s)∈cs
 ·rw [decide_eq_true h] at i1 m1
  have hm:=qgt (hb _ h)
  rw [qaG o1] at hm
  have hn:=Jr (lo (axA s) s)
  have ha:=JZ s (-(lo (axA s) s).1,-(lo (axA s) s).2.1,-(lo (axA s) s).2.2)
  rw [qcs] at ha
  rw [if_pos m1]
  simp only [zX,Q0]
  simp_arith [hc,i1,hm,hn,ha]
 ·rw [decide_eq_false h] at i1 m1
  have h2:cb (hi (axA s) s)∈cs:=by
   rw [m1,m2] at hk
   by_cases z:cb (hi (axA s) s)∈cs
   ·exact z
   ·rw [decide_eq_false z] at hk;cases hk
  have hm:=qgt (hb _ h2)
  rw [qaG o2] at hm
  have hn:=Jr (hi (axA s) s)
  have ha:=JZ s (-(hi (axA s) s).1,-(hi (axA s) s).2.1,-(hi (axA s) s).2.2)
  rw [qcs] at ha
  rw [if_neg (by rw [m1];decide)]
  simp only [zX,Q0]
  simp_arith [hc,i1,hm,hn,ha]
theorem qjE {cs:List Sp}(hb:∀ c∈cs,BdS 200 c){s0 e s1:Sp}(hs:Sq s0)(hk:skB (inM cs) s0=true):Qt [.list (cs.map eS),eS s0,eS e,eS s1]=some (.int (Zd (inM cs) s0 e s1)):=by
 have ho:=qe4 hb hs hk
 have n1:=Jr e
 have n2:=Jr s0
 have a1:=JZ s1 (-e.1,-e.2.1,-e.2.2)
 have a2:=JZ e (-s0.1,-s0.2.1,-s0.2.2)
 rw [qcs] at a1 a2
 have q1:=YQ (sb s1 e) (sb e s0)
 have q2:=YQ (sb s1 e) (sb s0 (if inM cs (lo (axA s0) s0)=true then lo (axA s0) s0 else hi (axA s0) s0))
 simp only [Qt,Je]
 unfold Zd
 by_cases h1:sb s1 e=sb e s0
 ·rw [decide_eq_true h1] at q1
  rw [if_pos h1]
  simp_arith [n1,n2,a1,a2,q1]
 ·rw [decide_eq_false h1] at q1
  rw [if_neg h1]
  by_cases h2:sb s1 e=sb s0 (if inM cs (lo (axA s0) s0)=true then lo (axA s0) s0 else hi (axA s0) s0)
  ·rw [decide_eq_true h2] at q2
   rw [if_pos h2]
   simp_arith [n1,n2,a1,a2,q1,ho,q2]
  ·rw [decide_eq_false h2] at q2
   rw [if_neg h2]
   simp_arith [n1,n2,a1,a2,q1,ho,q2]
def clS (b:Sp)(n:Nat)(c:Sp):Prop:=(c.1-b.1).natAbs<=n/\(c.2.1-b.2.1).natAbs<=n/\(c.2.2-b.2.2).natAbs<=n
inductive GrC (b:Sp):List Sp->Prop
 | one:GrC b [b]
 | add {cs:List Sp} {c:Sp} {a:Nat} {s:Int}:GrC b cs->c∈cs->(a=0\/a=1\/a=2)->(s=-1\/s=1)->oth a s c∉cs->GrC b (cs++[oth a s c])
theorem GrC.nodup {b:Sp}{cs:List Sp}(h:GrC b cs):cs.Nodup:=by
 induction h with
 | one=>simp
 | add _ _ _ _ hn ih =>
  rw [Ej]
  exact ⟨ih,by simp,fun a ha y hy z=>by subst z;rw [KL.mp hy] at ha;exact hn ha⟩
theorem nr0 (a:Int):(a-a).natAbs<=1:=by omega
theorem nr1 {a b s:Int}{n:Nat}(h:(a-b).natAbs<=n)(hs:s=-1\/s=1):(a+s-b).natAbs<=n+1:=by omega
theorem clS.up {b c:Sp}{n:Nat}(h:clS b n c):clS b (n+1) c:=⟨Xy h.1,Xy h.2.1,Xy h.2.2⟩
theorem GrC.near {b:Sp}{cs:List Sp}(h:GrC b cs):∀ c∈cs,clS b cs.length c:=by
 induction h with
 | one=>intro c hc;rw [KL.mp hc];exact ⟨nr0 _,nr0 _,nr0 _⟩
 | add _ hc ha hs _ ih =>
  intro d hd
  rw [Kp,Ky]
  rcases Vv.mp hd with q|q
  ·exact (ih d q).up
  ·rw [KL.mp q]
   have k:=ih _ hc
   rcases ha with rfl|rfl|rfl
   ·exact ⟨nr1 k.1 hs,k.up.2.1,k.up.2.2⟩
   ·exact ⟨k.up.1,nr1 k.2.1 hs,k.up.2.2⟩
   ·exact ⟨k.up.1,k.up.2.1,nr1 k.2.2 hs⟩
theorem GrC.pos {b:Sp}{cs:List Sp}(h:GrC b cs):cs≠[]:=by
 cases h with
 | one=>simp
 | add _ _ _ _ _=>simp
def frN (cs:List Sp)(c:Sp):Nat:=(lsq cs c).length
theorem Qi {cs cs':List Sp}(h:∀ x∈cs,x∈cs')(c:Sp)(a:Nat)(b:Int):(lsb cs' c a b).length<=(lsb cs c a b).length:=by
 unfold lsb
 by_cases h1:oth a b c∈cs
 ·rw [if_pos h1,if_pos (h _ h1)];exact Ko _
 ·rw [if_neg h1];split<;>simp
theorem wL (cs:List Sp)(c:Sp):frN cs c=(lsb cs c 0 (-1)).length+(lsb cs c 0 1).length+(lsb cs c 1 (-1)).length+(lsb cs c 1 1).length+(lsb cs c 2 (-1)).length+(lsb cs c 2 1).length:=by
 unfold frN lsq lsa
 simp only [V7,List.flatMap_nil,Vl,Kp]
 omega
theorem wM {cs cs':List Sp}(h:∀ x∈cs,x∈cs')(c:Sp):frN cs' c<=frN cs c:=by
 rw [wL,wL]
 have h1:=Qi h c 0 (-1)
 have h2:=Qi h c 0 1
 have h3:=Qi h c 1 (-1)
 have h4:=Qi h c 1 1
 have h5:=Qi h c 2 (-1)
 have h6:=Qi h c 2 1
 omega
theorem ad1 {x x' y y':Nat}(h:x'+1<=x)(g:y'<=y):x'+y'+1<=x+y:=by omega
theorem ad2 {x x' y y':Nat}(h:x'<=x)(g:y'+1<=y):x'+y'+1<=x+y:=by omega
theorem jc {x x':Nat}(h:x=1)(g:x'=0):x'+1<=x:=by omega
theorem qbz {cs cs':List Sp}(h:∀ x∈cs,x∈cs'){c:Sp}{a:Nat}{s:Int}(ha:a=0\/a=1\/a=2)(hs:s=-1\/s=1)(h1:oth a s c∉cs)(h2:oth a s c∈cs'):frN cs' c+1<=frN cs c:=by
 have e1:(lsb cs c a s).length=1:=by unfold lsb;rw [if_neg h1];rfl
 have e2:(lsb cs' c a s).length=0:=by unfold lsb;rw [if_pos h2];rfl
 rw [wL,wL]
 have m1:=Qi h c 0 (-1)
 have m2:=Qi h c 0 1
 have m3:=Qi h c 1 (-1)
 have m4:=Qi h c 1 1
 have m5:=Qi h c 2 (-1)
 have m6:=Qi h c 2 1
 rcases ha with rfl|rfl|rfl<;>rcases hs with rfl|rfl
 ·exact ad1 (ad1 (ad1 (ad1 (ad1 (jc e1 e2) m2) m3) m4) m5) m6
 ·exact ad1 (ad1 (ad1 (ad1 (ad2 m1 (jc e1 e2)) m3) m4) m5) m6
 ·exact ad1 (ad1 (ad1 (ad2 (Uo m1 m2) (jc e1 e2)) m4) m5) m6
 ·exact ad1 (ad1 (ad2 (Uo (Uo m1 m2) m3) (jc e1 e2)) m5) m6
 ·exact ad1 (ad2 (Uo (Uo (Uo m1 m2) m3) m4) (jc e1 e2)) m6
 ·exact ad2 (Uo (Uo (Uo (Uo m1 m2) m3) m4) m5) (jc e1 e2)
theorem qdD (c:Sp):frN [] c=6:=by
 rw [wL]
 simp [lsb]
theorem qgB {a:Nat}{s:Int}(ha:a=0\/a=1\/a=2)(c:Sp):oth a (-s) (oth a s c)=c:=by
 obtain ⟨x,y,z⟩:=c
 rcases ha with rfl|rfl|rfl<;>simp only [oth,UD,and_true,true_and]<;>omega
def frS (cs ds:List Sp):Nat:=(ds.flatMap (lsq cs)).length
theorem Z7 (cs:List Sp)(d:Sp)(ds:List Sp):frS cs (d::ds)=frN cs d+frS cs ds:=by
 unfold frS frN
 rw [V7,Kp]
theorem qbB {cs cs':List Sp}(h:∀ x∈cs,x∈cs'):∀ ds:List Sp,frS cs' ds<=frS cs ds
 | []=>Ko _
 | d::ds=>by
  rw [Z7,Z7]
  have:=wM h d
  have:=qbB h ds
  omega
theorem qbA {cs cs':List Sp}(h:∀ x∈cs,x∈cs'){c:Sp}{a:Nat}{s:Int}(ha:a=0\/a=1\/a=2)(hs:s=-1\/s=1)(h1:oth a s c∉cs)(h2:oth a s c∈cs'):∀ ds:List Sp,c∈ds->frS cs' ds+1<=frS cs ds
 | [],hc=>by cases hc
 | d::ds,hc=>by
  rw [Z7,Z7]
  rcases Kk.mp hc with rfl|q
  ·have:=qbz h ha hs h1 h2
   have:=qbB h ds
   omega
  ·have:=wM h d
   have:=qbA h ha hs h1 h2 ds q
   omega
theorem qhZ (cs ds es:List Sp):frS cs (ds++es)=frS cs ds+frS cs es:=by
 unfold frS
 rw [UJ,Kp]
theorem GrC.free {b:Sp}{cs:List Sp}(h:GrC b cs):frS cs cs<=4*cs.length+2:=by
 induction h with
 | one =>
  have h1:=wM (cs:=[]) (cs':=[b]) (fun x hx=>by cases hx) b
  have h2:=qdD b
  have h3:frS [b] [b]=frN [b] b+0:=Z7 [b] b []
  rw [Ky]
  omega
 | @add cs c a s _ hc ha hs hn ih =>
  have k1:=qbA (cs:=cs) (cs':=cs++[oth a s c]) (fun x hx=>Ui _ hx) ha hs hn (K4 _ KZ) cs hc
  have k2:=qbz (cs:=[]) (cs':=cs++[oth a s c]) (fun x hx=>by cases hx) (c:=oth a s c) (a:=a) (s:=-s) ha (by omega) (by simp) (by rw [qgB ha];exact Ui _ hc)
  have k3:=qdD (oth a s c)
  have k4:frS (cs++[oth a s c]) [oth a s c]=frN (cs++[oth a s c]) (oth a s c)+0:=Z7 _ _ []
  rw [qhZ,Kp,Ky]
  omega
theorem qdB:∀ {cs:List Sp},cs≠[]->∃ c∈cs,∀ d∈cs,d.1<=c.1
 | [],h=>absurd rfl h
 | [c],_=>⟨c,KZ,fun d hd=>by rw [KL.mp hd];exact Int.le_refl _⟩
 | c::e::cs,_=>by
  obtain ⟨m,hm,h⟩:=qdB (cs:=e::cs) (by simp)
  by_cases q:c.1<=m.1
  ·exact ⟨m,K9 _ hm,fun d hd=>by rcases Kk.mp hd with rfl|z;exact q;exact h d z⟩
  ·exact ⟨c,KZ,fun d hd=>by rcases Kk.mp hd with rfl|z;exact Int.le_refl _;have:=h d z;omega⟩
theorem qeG {cs:List Sp}(h:cs≠[]):∃ s,s∈cs.flatMap (lsq cs):=by
 obtain ⟨c,hc,hf⟩:=qdB h
 refine ⟨oth 0 1 (mid c),Uu.mpr ⟨c,hc,jy.mpr ⟨0,1,.inl rfl,.inr rfl,fun z=>?_,rfl⟩⟩⟩
 have:=hf _ z
 simp only [oth] at this
 omega
theorem qf8 {cs gs:List Sp}(h:cs.Perm gs):inM cs=inM gs:=by
 funext m
 unfold inM
 rw [Ua,decide_eq_true_eq,decide_eq_true_eq]
 exact (h.map mid).mem_iff
theorem twice_len:∀ (ks xs:List Sp),ks.Nodup->(∀ t∈ks,2<=xs.count t)->2*ks.length<=xs.length
 | [],_,_,_=>by simp
 | t::ks,xs,hn,h=>by
  obtain ⟨h1,h2⟩:=VS.mp hn
  have ih:=twice_len ks (xs.filter fun x=>!decide (x=t)) h2 fun u hu=>by
   rw [List.count_filter (by
    have:u≠t:=fun z=>h1 (z ▸ hu)
    simp [this])]
   exact h u (K9 _ hu)
  have hl:∀ ys:List Sp,ys.length=ys.count t+(ys.filter fun x=>!decide (x=t)).length:=by
   intro ys
   induction ys with
   | nil=>rfl
   | cons y ys ih =>
    rw [ET,Xh,KC,ih]
    by_cases hy:y=t
    ·subst hy;simp;omega
    ·simp [hy];omega
  have:=hl xs
  have:=h t KZ
  rw [KC]
  omega
theorem qfU {s e:Sp}(hs:Sq s)(he:e∈ar (axA s) s):∃ B,EdB' B e:=by
 rcases QD hs with ⟨h0,h1,h2,h3⟩|⟨h0,h1,h2,h3⟩|⟨h0,h1,h2,h3⟩<;>rw [h0] at he
 ·obtain ⟨p,⟨q,r⟩|⟨q,r⟩⟩:=ju.mp he
  ·exact ⟨2,.inr (.inr ⟨rfl,by rw [p];exact h1,jO r h2,by rw [q];exact h3⟩)⟩
  ·exact ⟨1,.inr (.inl ⟨rfl,by rw [p];exact h1,by rw [q];exact h2,jO r h3⟩)⟩
 ·obtain ⟨p,⟨q,r⟩|⟨q,r⟩⟩:=jw.mp he
  ·exact ⟨2,.inr (.inr ⟨rfl,jO r h1,by rw [p];exact h2,by rw [q];exact h3⟩)⟩
  ·exact ⟨0,.inl ⟨rfl,by rw [q];exact h1,by rw [p];exact h2,jO r h3⟩⟩
 ·obtain ⟨p,⟨q,r⟩|⟨q,r⟩⟩:=jx.mp he
  ·exact ⟨1,.inr (.inl ⟨rfl,jO r h1,by rw [q];exact h2,by rw [p];exact h3⟩)⟩
  ·exact ⟨0,.inl ⟨rfl,by rw [q];exact h1,jO r h2,by rw [p];exact h3⟩⟩
abbrev EG (sk:List Sp):List Sp:=sk.flatMap fun s=>ar (axA s) s
structure Pl (cs sk:List Sp):Prop where
 hb:∀ c∈cs,BdS 200 c
 e1:zG [.list (cs.map eS)]=some (.list (sk.map eS))
 e2:zO [.list (cs.map eS)]=some (.list (sk.map eS))
 hr:(sk.map l3).Pairwise (fun a b=>HT.lexLt b a=false)
 hn:sk.Nodup
 hk:sk.length<=31
 hm:∀ s,s∈sk↔Sq s/\skB (inM cs) s=true
 h2:∀ e,(EG sk).count e<=2
 ne:sk≠[]
theorem qaE (B:Nat)(e:Sp):(ar B e).length=4:=by
 unfold ar
 split<;>rfl
theorem qaB:∀ sk:List Sp,(EG sk).length=4*sk.length
 | []=>rfl
 | s::sk=>by
  have ih:=qaB sk
  show (ar (axA s) s++EG sk).length=_
  rw [Kp,qaE,KC,ih]
  omega
theorem qbr {cs sk:List Sp}(P:Pl cs sk){e:Sp}(he:e∈EG sk):∃ B s0 s1,EdB' B e/\(ar B e).filter (skB (inM cs))=[s0,s1]/\sk.filter (fun s=>decide (e∈ar (axA s) s))=[s0,s1]/\Zd (inM cs) s0 e s1=((md4 B e).countP (inM cs):Nat)-2/\s0∈sk/\s1∈sk:=by
 obtain ⟨s,hs,hes⟩:=Uu.mp he
 obtain ⟨B,hB⟩:=qfU ((P.hm s).mp hs).1 hes
 have hat:=qdh P.hr P.hn P.hm hB
 have hc:=YK (fun s h=>((P.hm s).mp h).1) e
 have hle:=P.h2 e
 have hin:s∈sk.filter (fun s=>decide (e∈ar (axA s) s)):=VC.mpr ⟨hs,decide_eq_true hes⟩
 rcases WT (inM cs) hB with z|z|⟨s0,s1,z,hbd⟩
 ·rw [hat,z] at hin
  cases hin
 ·rw [hat,z,qaE] at hc
  have hle:(sk.flatMap fun s=>ar (axA s) s).count e<=2:=hle
  omega
 ·have hs01:=hat.trans z
  have m0:s0∈sk.filter (fun s=>decide (e∈ar (axA s) s)):=by rw [hs01];exact KZ
  have m1:s1∈sk.filter (fun s=>decide (e∈ar (axA s) s)):=by rw [hs01];exact K9 _ KZ
  exact ⟨B,s0,s1,hB,z,hs01,hbd,(VC.mp m0).1,(VC.mp m1).1⟩
theorem qgz {cs sk:List Sp}(P:Pl cs sk):(once (EG sk)).length<64:=by
 have h1:=twice_len (once (EG sk)) (EG sk) (jA _) fun t ht=>by
  obtain ⟨B,s0,s1,hB,hf,hf2,_⟩:=qbr P (jb.mp ht)
  have h:=YK (fun s h=>((P.hm s).mp h).1) t
  rw [hf2] at h
  exact Nat.le_of_eq h.symm
 have h2:=qaB sk
 have h3:=P.hk
 omega
def jn (I:Sp->Bool)(sk:List Sp)(e:Sp):Sp:=match sk.filter (fun s=>decide (e∈ar (axA s) s)) with
 | s0::s1::_=>((sk.idxOf s0:Nat),(sk.idxOf s1:Nat),Zd I s0 e s1)
 | _=>(0,0,0)
theorem qjZ {I:Sp->Bool}{sk:List Sp}{e s0 s1:Sp}(h:sk.filter (fun s=>decide (e∈ar (axA s) s))=[s0,s1]):jn I sk e=(((sk.idxOf s0:Nat):Int),((sk.idxOf s1:Nat):Int),Zd I s0 e s1):=by
 unfold jn
 rw [h]
theorem qh7 {cs sk:List Sp}(P:Pl cs sk):∃ zs:List Sp,Qc [.list (cs.map eS)]=some (.list (zs.map eS))/\zs.Perm ((once (EG sk)).map (jn (inM cs) sk))/\(zs.map l3).Pairwise (fun a b=>HT.lexLt b a=false):=by
 have hs:∀ s∈sk,Sq s:=fun s h=>((P.hm s).mp h).1
 have hk:=P.hk
 have hol:=qgz P
 have hcr:=qey hs (by omega) P.e1 (fun e z=>by
  have hle:(sk.flatMap fun s=>ar (axA s) s).count e<=2:=P.h2 e
  omega)
 have hsk:=P.e1
 have hnum:=qe3 P.hn (by omega)
 have hcnt:=wG hs (by omega)
 have hkeys:Yu (.dict (eD (tally (sk.flatMap fun s=>ar (axA s) s))))=some ((once (EG sk)).map eS):=by
  rw [yl,← jF,Vf];rfl
 obtain ⟨ρ',e,o5,o6,rfl⟩:=Qh eS (g:=gNm 5) (u:=(seqO (q8 6 (Qg 7 (evI (evC 1 (aC (vr 5) aN) Qe) seqD) (tV (ev2 (vr 7) (vr 3) in2D)) (vr 7))) (sApp 4 (qQ (evA (aC (ev2 (vr 3) (ev2 (vr 6) (kd (.int 0)) ixD) ix2D) (aC (ev2 (vr 3) (ev2 (vr 6) (kd (.int 1)) ixD) ix2D) (aC (evC 4 (aC (vr 0) (aC (ev2 (vr 6) (kd (.int 0)) ixD) (aC (vr 5) (aC (ev2 (vr 6) (kd (.int 1)) ixD) aN)))) Qt) aN))) tupD)))))
  (fun done ρ=>∃ o5 o6:Option Ka,ρ=[some (.list (cs.map eS)),some .none,some (.list (sk.map eS)),some (.dict (eD sk.zipIdx)),some (.list ((done.map (jn (inM cs) sk)).map eS)),o5,o6]) (once (EG sk)) [some (.list (cs.map eS)),some .none,some (.list (sk.map eS)),some (.dict (eD sk.zipIdx)),some (.list []),none,none] ⟨none,none,rfl⟩ (by
   rintro e he done ρ hdl ⟨o5,o6,rfl⟩
   obtain ⟨B,s0,s1,hB,hf,hf2,hbd,m0,m1⟩:=qbr P (jb.mp he)
   have hsq:=qfi hB
   have hcp:∀ o5 o6:Option Ka,Qp (tV (ev2 (vr 7) (vr 3) in2D)) (vr 7) [some (.list (cs.map eS)),some .none,some (.list (sk.map eS)),some (.dict (eD sk.zipIdx)),some (.list ((done.map (jn (inM cs) sk)).map eS)),o5,o6] ((ar B e).map eS)=some [eS s0,eS s1]:=fun o5 o6=>by
    have:=Zv eS (tt:=(tV (ev2 (vr 7) (vr 3) in2D))) (te:=(vr 7)) (ρ:=[some (.list (cs.map eS)),some .none,some (.list (sk.map eS)),some (.dict (eD sk.zipIdx)),some (.list ((done.map (jn (inM cs) sk)).map eS)),o5,o6]) (skB (inM cs)) eS (ar B e) (fun s h=>by
     have hin:=in_eD sk.zipIdx s
     rw [NO] at hin
     have hd:decide (s∈sk)=skB (inM cs) s:=by
      rw [Ua,decide_eq_true_eq,P.hm]
      exact ⟨fun z=>z.2,fun z=>⟨((qek hB).mp h).1,z⟩⟩
     rw [hd] at hin
     simp_arith [hin]) (fun s h _=>by simp_arith [])
    rw [hf] at this
    exact this
   have n0:=qbW m0
   have n1:=qbW m1
   have hbn:=qjE (e:=e) (s1:=s1) P.hb (hs s0 m0) ((P.hm s0).mp m0).2
   have hz:((done.map (jn (inM cs) sk)).map eS).length<1000:=by rw [Kj,Kj];omega
   have hz4:((ar B e).map eS).length<=1000:=by rw [Kj,qaE];omega
   have hj:=qjZ (I:=inM cs) hf2
   have ha:((done++[e]).map (jn (inM cs) sk)).map eS=(done.map (jn (inM cs) sk)).map eS++[.tuple [.int (sk.idxOf s0:Nat),.int (sk.idxOf s1:Nat),.int (Zd (inM cs) s0 e s1)]]:=by
    rw [KW,KW,Km,Vt,Km,Vt,hj];rfl
   refine ⟨[some (.list (cs.map eS)),some .none,some (.list (sk.map eS)),some (.dict (eD sk.zipIdx)),some (.list (((done++[e]).map (jn (inM cs) sk)).map eS)),some (eS e),some (.list [eS s0,eS s1])],?_,some (eS e),some (.list [eS s0,eS s1]),rfl⟩
   rw [ha]
   simp_arith [hsq,hcp,n0,n1,hbn,QW,hz,hz4])
 obtain ⟨zs,es,p,o⟩:=Q9 (xs:=(once (EG sk)).map (jn (inM cs) sk)) (by rw [Kj];exact hol)
 refine ⟨zs,?_,p,o⟩
 simp only [Qc,jK]
 have hno:isNone .none=true:=rfl
 simp_arith [hcr,hno,hsk,hnum,hcnt,hkeys,e,es]
theorem qdi (J:List Sp->Prop)(hne:∀ cs,J cs->cs≠[])(hadd:∀ (cs:List Sp) (c:Sp) (a:Nat) (s:Int),J cs->c∈cs->(a=0\/a=1\/a=2)->(s=-1\/s=1)->oth a s c∉cs->J (cs++[oth a s c]))(ms:List Int)(o0 o1 o2 o4 o5 o6:Option Ka){cs0:List Sp}(hJ:J cs0)(hl0:cs0.length<=6) :
  ∃ (gs:List Sp) (o7 o8 o9:Option Ka),forD (gNm 7) (seqO (q8 8 (Yr (evA (aC (ev2 (vr 3) (ev2 (vr 7) (evA (aC (vr 3) aN) lenD) modD) ixD) aN) QM))) (seqO (sSet 9 (ev2 (ev2 (vr 7) (kd (.int 60)) QB) (kd (.int 3)) modD)) (seqO (sPut 8 (vr 9) (qQ (ev2 (ev2 (ev2 (vr 8) (vr 9) ixD) (ev2 (kd (.int 2)) (ev2 (ev2 (vr 7) (kd (.int 180)) QB) (kd (.int 2)) modD) mulD) qP) (kd (.int 1)) subD))) (sIf (tA (tV (ev2 (evA (aC (vr 3) aN) lenD) (kd (.int 6)) ltD2)) (tV (ev2 (evA (aC (vr 8) aN) qY) (vr 3) ninD))) (sApp 3 (qQ (evA (aC (vr 8) aN) qY))) sN)))) (ms.map .int) [o0,o1,o2,some (.list (cs0.map eS)),o4,o5,o6,none,none,none]=some (.nx [o0,o1,o2,some (.list (gs.map eS)),o4,o5,o6,o7,o8,o9])/\J gs/\gs.length<=6:=by
 obtain ⟨ρ',e,gs,o7,o8,o9,rfl,h1,h2⟩:=Qh KU (g:=gNm 7) (u:=(seqO (q8 8 (Yr (evA (aC (ev2 (vr 3) (ev2 (vr 7) (evA (aC (vr 3) aN) lenD) modD) ixD) aN) QM))) (seqO (sSet 9 (ev2 (ev2 (vr 7) (kd (.int 60)) QB) (kd (.int 3)) modD)) (seqO (sPut 8 (vr 9) (qQ (ev2 (ev2 (ev2 (vr 8) (vr 9) ixD) (ev2 (kd (.int 2)) (ev2 (ev2 (vr 7) (kd (.int 180)) QB) (kd (.int 2)) modD) mulD) qP) (kd (.int 1)) subD))) (sIf (tA (tV (ev2 (evA (aC (vr 3) aN) lenD) (kd (.int 6)) ltD2)) (tV (ev2 (evA (aC (vr 8) aN) qY) (vr 3) ninD))) (sApp 3 (qQ (evA (aC (vr 8) aN) qY))) sN)))))
  (fun done ρ=>∃ (cs:List Sp) (o7 o8 o9:Option Ka),ρ=[o0,o1,o2,some (.list (cs.map eS)),o4,o5,o6,o7,o8,o9]/\J cs/\cs.length<=6) ms [o0,o1,o2,some (.list (cs0.map eS)),o4,o5,o6,none,none,none] ⟨cs0,none,none,none,rfl,hJ,hl0⟩ (by
   rintro x hx done ρ hdl ⟨cs,o7,o8,o9,rfl,h1,h2⟩
   have fin:∀ (d:Sp),(∃ a s c,c∈cs/\(a=0\/a=1\/a=2)/\(s=-1\/s=1)/\d=oth a s c)->∀ o7 o9:Option Ka,∃ ρ',(sIf (tA (tV (ev2 (evA (aC (vr 3) aN) lenD) (kd (.int 6)) ltD2)) (tV (ev2 (evA (aC (vr 8) aN) qY) (vr 3) ninD))) (sApp 3 (qQ (evA (aC (vr 8) aN) qY))) sN) [o0,o1,o2,some (.list (cs.map eS)),o4,o5,o6,o7,some (.list [.int d.1,.int d.2.1,.int d.2.2]),o9]=some (.nx ρ')/\
     ∃ (cs:List Sp) (o7 o8 o9:Option Ka),ρ'=[o0,o1,o2,some (.list (cs.map eS)),o4,o5,o6,o7,o8,o9]/\J cs/\cs.length<=6:=by
    rintro d ⟨a,s,c,hc,ha,hs,hd⟩ o7 o9
    have hn:ninD (.tuple [.int d.1,.int d.2.1,.int d.2.2]) (.list (cs.map eS))=some (.bool (!decide (d∈cs))):=qdW cs d
    by_cases h6:cs.length<6
    ·have e6:decide ((((cs.map eS).length:Nat):Int)<6)=true:=decide_eq_true (by rw [Kj];omega)
     by_cases hm:d∈cs
     ·refine ⟨[o0,o1,o2,some (.list (cs.map eS)),o4,o5,o6,o7,some (.list [.int d.1,.int d.2.1,.int d.2.2]),o9],?_,cs,o7,_,o9,rfl,h1,h2⟩
      simp_arith [hn,decide_eq_true hm,e6]
     ·refine ⟨[o0,o1,o2,some (.list ((cs++[d]).map eS)),o4,o5,o6,o7,some (.list [.int d.1,.int d.2.1,.int d.2.2]),o9],?_,cs++[d],o7,_,o9,rfl,?_,by rw [Kp,Ky];omega⟩
      ·have hz:(cs.map eS).length<1000:=by rw [Kj];omega
       simp_arith [hn,decide_eq_false hm,e6,QW,hz]
       simp only [KW,Km,Vt,eS]
      ·rw [hd] at hm ⊢
       exact hadd cs c a s h1 hc ha hs hm
    ·have e6:decide ((((cs.map eS).length:Nat):Int)<6)=false:=decide_eq_false (by rw [Kj];omega)
     refine ⟨[o0,o1,o2,some (.list (cs.map eS)),o4,o5,o6,o7,some (.list [.int d.1,.int d.2.1,.int d.2.2]),o9],?_,cs,o7,_,o9,rfl,h1,h2⟩
     simp_arith [e6]
   have h0:0<cs.length:=List.length_pos_iff.mpr (hne cs h1)
   obtain ⟨c,hc,ec⟩:=qhJ x h0
   have e3:modD (.int x) (.int (((cs.map eS).length:Nat):Int))=some (.int (x % (cs.length:Int))):=by rw [Kj];exact qdT _ (by omega)
   have e4:atI (cs.map eS) (x % (cs.length:Int))=some (.tuple [.int c.1,.int c.2.1,.int c.2.2]):=qdf (ER _ (by omega)) ec
   have e5:mulD (.int 2) (.int (x / 180 % 2))=some (.int (2*(x / 180 % 2))):=Qn (bd2.ok (Bd.of (n:=2) (by omega)))
   have hs:2*(x / 180 % 2)-1=-1\/2*(x / 180 % 2)-1=1:=by omega
   rcases qjg (x / 60) with h|h|h
   ·obtain ⟨ρ',k1,k2⟩:=fin (c.1+2*(x / 180 % 2)-1,c.2.1,c.2.2) ⟨0,_,c,hc,.inl rfl,hs,by simp only [oth,UD,and_true];omega⟩ (some (.int x)) (some (.int 0))
    refine ⟨ρ',?_,k2⟩
    simp_arith [e3,e4,wK,h,e5,Qu,ix0,ix1,ix2]
    simp_arith [] at k1
    exact k1
   ·obtain ⟨ρ',k1,k2⟩:=fin (c.1,c.2.1+2*(x / 180 % 2)-1,c.2.2) ⟨1,_,c,hc,.inr (.inl rfl),hs,by simp only [oth,UD,and_true,true_and];omega⟩ (some (.int x)) (some (.int 1))
    refine ⟨ρ',?_,k2⟩
    simp_arith [e3,e4,wK,h,e5,Qu,ix0,ix1,ix2]
    simp_arith [] at k1
    exact k1
   ·obtain ⟨ρ',k1,k2⟩:=fin (c.1,c.2.1,c.2.2+2*(x / 180 % 2)-1) ⟨2,_,c,hc,.inr (.inr rfl),hs,by simp only [oth,UD,true_and];omega⟩ (some (.int x)) (some (.int 2))
    refine ⟨ρ',?_,k2⟩
    simp_arith [e3,e4,wK,h,e5,Qu,ix0,ix1,ix2]
    simp_arith [] at k1
    exact k1)
 exact ⟨gs,o7,o8,o9,e,h1,h2⟩
theorem far6 {a b:Int}{n:Nat}(h:(a-b).natAbs<=6)(g:b.natAbs<=n):a.natAbs<=n+6:=by omega
theorem qh0 {b:Sp}{cs gs:List Sp}(hb:qdU (10 ^ 19) b)(h:GrC b gs)(hl:gs.length<=6)(p:cs.Perm gs):(∀ c∈cs,BdS 200 c)/\∃ sk:List Sp,zG [.list (cs.map eS)]=some (.list (sk.map eS))/\zO [.list (cs.map eS)]=some (.list (sk.map eS))/\(sk.map l3).Pairwise (fun a b=>HT.lexLt b a=false)/\sk.Nodup/\sk.length<=31/\(∀ s,s∈sk↔Sq s/\skB (inM cs) s=true)/\sk≠[]:=by
 have hbd:∀ c∈cs,BdS 200 c:=fun c hc=>by
  obtain ⟨a1,a2,a3⟩:=h.near c (p.mem_iff.mp hc)
  obtain ⟨b1,b2,b3⟩:=hb
  exact qdV (n:=10 ^ 19+6) ⟨far6 (Vs a1 hl) b1,far6 (Vs a2 hl) b2,far6 (Vs a3 hl) b3⟩ (by decide)
 obtain ⟨sk,k1,k2,k3,k4,k5,k6⟩:=qi2 hbd (by rw [p.length_eq];exact hl) (p.nodup_iff.mpr h.nodup)
 have hp:sk.Perm (gs.flatMap (lsq gs)):=jC k4 (Yy h.nodup) fun s=>by rw [k6,yS,qf8 p]
 refine ⟨hbd,sk,k1,k2,k3,k4,?_,k6,fun z=>?_⟩
 ·have:=h.free
  have:=hp.length_eq
  unfold frS at *
  omega
 ·obtain ⟨s,hs⟩:=qeG h.pos
  have:=hp.mem_iff.mpr hs
  rw [z] at this
  cases this
theorem ix_eM {kvs:List Mt}{s:Sp}(h:s∈kvs.map (·.1)):ix2D (.dict (eM kvs)) (eS s)=some (eNs (lstM kvs s)):=by
 show ob (kxOf (eS s)) (fun ks=>if kOk (eM kvs) ks=true then qZ (eM kvs) ks else none)=_
 have hs:=Y4 s kvs
 rw [decide_eq_true h,Jp] at hs
 rw [Yw,ob_s,if_pos (qaO _ _),Jp]
 unfold lstM
 cases e:kvs.find? (fun p=>decide (p.1=s)) with
 | none=>rw [e] at hs;cases hs
 | some p=>rfl
theorem qic (kvs:List Mt):Yu (.dict (eM kvs))=some (kvs.map fun p=>eS p.1):=by
 show (if excK (eM kvs)=true then none else some ((eM kvs).map (·.1)))=_
 rw [if_neg (show ¬ excK (eM kvs)=true by cases kvs<;>exact VG)]
 unfold eM
 rw [Vf]
 rfl
theorem qhu {sk:List Sp}(hn:sk.Nodup)(hs:∀ s∈sk,Sq s)(e:Sp):(EG sk).count e=(lstM (metF sk.zipIdx) e).length:=by
 rw [qgs hn hs,Kj]
 exact YK hs e
def bsV (c:Int):Int:=if (c % 5==0)=true then c / 5 % (2*10 ^ 19+1)-10 ^ 19 else c / 5 % 9-4
theorem qcw (c:Int):(bsV c).natAbs<=10 ^ 19:=by
 unfold bsV
 split
 ·have a1:=ER (c / 5) (b:=2*10 ^ 19+1) (by decide)
  have a2:=Int.emod_lt_of_pos (c / 5) (b:=2*10 ^ 19+1) (by decide)
  generalize c / 5 % (2*10 ^ 19+1)=z at a1 a2 ⊢
  omega
 ·omega
theorem qho (a b c:Int):QJ [.list [.int a,.int b,.int c]]=some (.list [.int (bsV a),.int (bsV b),.int (bsV c)]):=by
 have p19:powD (.int 10) (.int 19)=some (.int (10 ^ 19)):=rfl
 have m19:mulD (.int 2) (.int (10 ^ 19))=some (.int (2*10 ^ 19)):=rfl
 have md:∀ x:Int,modD (.int x) (.int (2*10 ^ 19+1))=some (.int (x % (2*10 ^ 19+1))):=fun x=>rfl
 simp only [QJ,Jb,bsV]
 cases ha:a % 5==0<;>cases hb:b % 5==0<;>cases hc:c % 5==0<;>simp_arith [ha,hb,hc,p19,m19,md]
structure Slo {α:Type}(lt:α->α->Bool):Prop where
 irr:∀ a,lt a a=false
 tr:∀ a b c,lt a b=true->lt b c=true->lt a c=true
 tri:∀ a b,lt a b=false->lt b a=false->a=b
theorem Slo.le {α:Type}{lt:α->α->Bool}(S:Slo lt){a b c:α}(h1:lt b a=false)(h2:lt c b=false):lt c a=false:=by
 cases h:lt c a with
 | false=>rfl
 | true =>
  cases k:lt a b with
  | true=>rw [S.tr c a b h k] at h2;cases h2
  | false=>rw [S.tri a b k h1] at h;rw [h] at h2;cases h2
theorem Slo.comap {α β:Type}{lt:α->α->Bool}(S:Slo lt)(f:β->α)(inj:∀ x y,f x=f y->x=y):Slo fun x y=>lt (f x) (f y) :=
 ⟨fun a=>S.irr _,fun a b c=>S.tr _ _ _,fun a b h1 h2=>inj _ _ (S.tri _ _ h1 h2)⟩
def ltI (a b:Int):Bool:=decide (a<b)
theorem qi4:Slo ltI:=by
 refine ⟨fun a=>decide_eq_false (by omega),fun a b c h1 h2=>?_,fun a b h1 h2=>?_⟩
 ·have h1:=of_decide_eq_true h1
  have h2:=of_decide_eq_true h2
  exact decide_eq_true (by omega)
 ·have h1:=of_decide_eq_false h1
  have h2:=of_decide_eq_false h2
  omega
def lexB {α:Type}[DecidableEq α](lt:α->α->Bool):List α->List α->Bool
 | [],[]=>false
 | [],_::_=>true
 | _::_,[]=>false
 | x::xs,y::ys=>if x=y then lexB lt xs ys else lt x y
section
variable {α:Type}[DecidableEq α]{lt:α->α->Bool}
theorem qdP (S:Slo lt):∀ a:List α,lexB lt a a=false
 | []=>rfl
 | x::xs=>by rw [lexB,if_pos rfl];exact qdP S xs
theorem qgk (S:Slo lt):∀ a b c:List α,lexB lt a b=true->lexB lt b c=true->lexB lt a c=true
 | [],[],_,h,_=>by cases h
 | [],_::_,[],_,h=>by cases h
 | [],_::_,_::_,_,_=>rfl
 | _::_,[],_,h,_=>by cases h
 | _::_,_::_,[],_,h=>by cases h
 | x::xs,y::ys,z::zs,h1,h2=>by
  rw [lexB] at h1 h2 ⊢
  by_cases e1:x=y
  ·subst e1
   rw [if_pos rfl] at h1
   by_cases e2:x=z
   ·rw [if_pos e2] at h2 ⊢;exact qgk S xs ys zs h1 h2
   ·rw [if_neg e2] at h2 ⊢;exact h2
  ·rw [if_neg e1] at h1
   by_cases e2:y=z
   ·subst e2
    rw [if_neg e1];exact h1
   ·rw [if_neg e2] at h2
    have:=S.tr x y z h1 h2
    rw [if_neg (fun e=>by subst e;rw [S.irr] at this;cases this)]
    exact this
theorem qdQ (S:Slo lt):∀ a b:List α,lexB lt a b=false->lexB lt b a=false->a=b
 | [],[],_,_=>rfl
 | [],_::_,h,_=>by cases h
 | _::_,[],_,h=>by cases h
 | x::xs,y::ys,h1,h2=>by
  rw [lexB] at h1 h2
  by_cases e:x=y
  ·subst e
   rw [if_pos rfl] at h1 h2
   rw [qdQ S xs ys h1 h2]
  ·rw [if_neg e] at h1
   rw [if_neg (VU e)] at h2
   exact absurd (S.tri x y h1 h2) e
theorem qi5 (S:Slo lt):Slo (lexB lt):=⟨qdP S,qgk S,qdQ S⟩
theorem qbU {e:α->Ka}(he:∀ a b,KP (e a) (e b)=decide (a=b))(hl:∀ a b,ltX (e a) (e b)=some (lt a b)):∀ xs ys:List α,ltXs (xs.map e) (ys.map e)=some (lexB lt xs ys)
 | [],[]=>rfl
 | [],_::_=>rfl
 | _::_,[]=>rfl
 | x::xs,y::ys=>by
  rw [Km,Km,ltXs,lexB,he]
  by_cases h:x=y
  ·rw [if_pos (decide_eq_true h),if_pos h];exact qbU he hl xs ys
  ·rw [if_neg (by rw [decide_eq_false h];decide),if_neg h];exact hl x y
end
theorem qhN (a b:Int):KP (.int a) (.int b)=decide (a=b):=by
 have:KP (.int a) (.int b)=(a==b):=rfl
 rw [this]
 by_cases h:a=b<;>simp [h]
theorem qim (a b:Int):ltX (.int a) (.int b)=some (ltI a b):=by rw [ltX];rfl
def ltS (a b:Sp):Bool:=lexB ltI (l3 a) (l3 b)
theorem qg8:Slo ltS:=(qi5 qi4).comap l3 fun _ _ h=>qj5 h
theorem qj9 (a b:Sp):ltX (eS a) (eS b)=some (ltS a b):=by
 have:ltX (eS a) (eS b)=ltXs ((l3 a).map .int) ((l3 b).map .int):=by unfold eS;rw [ltX];rfl
 rw [this]
 exact qbU qhN qim _ _
def IsL {α:Type}(lt:α->α->Bool)(xs:List α)(m:α):Prop:=m∈xs/\∀ x∈xs,lt x m=false
theorem IsL.uniq {α:Type}{lt:α->α->Bool}(S:Slo lt){xs ys:List α}{m n:α}(h:IsL lt xs m)(k:IsL lt ys n)(h1:∀ x∈xs,x∈ys)(h2:∀ y∈ys,y∈xs):m=n :=
 S.tri m n (k.2 m (h1 m h.1)) (h.2 n (h2 n k.1))
theorem qe2 {α:Type}{e:α->Ka}{lt:α->α->Bool}(S:Slo lt)(hlt:∀ a b,ltX (e a) (e b)=some (lt a b))(hs:∀ a,VT (e a)=true)(hd:∀ a,(e a).depth<=50){xs:List α}(h0:0<xs.length)(hz:xs.length<=900) :
  ∃ m,IsL lt xs m/\qgu [.list (xs.map e)]=some (e m):=by
 have ok:Jj (xs.map e)=true:=by
  unfold Jj
  rw [NM,Kz]
  intro a _
  show (VT (e a)&&decide ((e a).depth<=50)&&(xs.map e).all fun d=>(ltX (e a) d).isSome)=true
  rw [hs,decide_eq_true (hd a),NM]
  exact Kz.mpr fun b _=>by show (ltX (e a) (e b)).isSome=true;rw [hlt];rfl
 have hb:∀ i j:Nat,(hi:i<xs.length)->(hj:j<xs.length)->zu (xs.map e) i j=lt xs[i] xs[j]:=fun i j hi hj=>by
  unfold zu
  rw [Vb,Vb,Kq hi,Kq hj]
  show (ltX (e xs[i]) (e xs[j])).getD false=_
  rw [hlt];rfl
 have key:∀ k,k<xs.length->∀ j,j<=k->(hj:j<xs.length)->(hi:bestOf (zu (xs.map e)) k<xs.length)->lt xs[j] xs[bestOf (zu (xs.map e)) k]=false:=by
  intro k
  induction k with
  | zero =>
   intro _ j hj hj' hi
   have:j=0:=by omega
   subst this
   exact S.irr _
  | succ k ih =>
   intro hk j hj hj' hi
   have hle:=Ji (zu (xs.map e)) k
   have hkk:bestOf (zu (xs.map e)) k<xs.length:=by omega
   have ih:=fun j hj hj'=>ih (by omega) j hj hj' hkk
   by_cases hc:zu (xs.map e) (k+1) (bestOf (zu (xs.map e)) k)=true
   ·have e1:bestOf (zu (xs.map e)) (k+1)=k+1:=by rw [bestOf,if_pos hc]
    rw [hb _ _ hk hkk] at hc
    simp only [e1]
    by_cases hj2:j=k+1
    ·subst hj2;exact S.irr _
    ·refine S.le ?_ (ih j (by omega) hj')
     cases q:lt xs[bestOf (zu (xs.map e)) k] xs[k+1] with
     | false=>rfl
     | true=>rw [← S.irr xs[k+1]];exact (S.tr _ _ _ hc q).symm
   ·have e1:bestOf (zu (xs.map e)) (k+1)=bestOf (zu (xs.map e)) k:=by rw [bestOf,if_neg hc]
    rw [hb _ _ hk hkk] at hc
    simp only [e1]
    by_cases hj2:j=k+1
    ·subst hj2;exact X9.mpr hc
    ·exact ih j (by omega) hj'
 have hle:=Ji (zu (xs.map e)) (xs.length-1)
 have hi:bestOf (zu (xs.map e)) (xs.length-1)<xs.length:=by omega
 refine ⟨xs[bestOf (zu (xs.map e)) (xs.length-1)],⟨Nu hi,fun x hx=>?_⟩,?_⟩
 ·obtain ⟨j,hj,rfl⟩:=List.getElem_of_mem hx
  exact key _ (by omega) j (by omega) hj hi
 ·show (if Jj (xs.map e)=true/\(xs.map e).length<=1000 then (xs.map e)[bestOf (zu (xs.map e)) ((xs.map e).length-1)]? else none)=_
  rw [if_pos ⟨ok,by rw [Kj];omega⟩,Kj,Vb,Kq hi]
  rfl
def rot3 (r:Nat)(p:Sp):Sp:=match r with
 | 0=>p
 | 1=>(p.2.1,p.2.2,p.1)
 | _=>(p.2.2,p.1,p.2.1)
def Za:List Sp:=[(0,0,0),(0,0,1),(1,0,1),(1,1,1),(1,1,0)]
def sgn (k d:Int):Int:=1-2*(k / d % 2)
theorem jE (k d:Int):sgn k d=1\/sgn k d=-1:=by unfold sgn;omega
def plc (b:Sp)(k:Int)(p:Sp):Sp:=(b.1+p.1*sgn k 3,b.2.1+p.2.1*sgn k 6,b.2.2+p.2.2*sgn k 12)
theorem GrC.path {b c1 c2 c3 c4:Sp}{a1 a2 a3 a4:Nat}{s1 s2 s3 s4:Int}(h1:c1=oth a1 s1 b)(h2:c2=oth a2 s2 c1)(h3:c3=oth a3 s3 c2)(h4:c4=oth a4 s4 c3)(ha1:a1=0\/a1=1\/a1=2)(ha2:a2=0\/a2=1\/a2=2)(ha3:a3=0\/a3=1\/a3=2)(ha4:a4=0\/a4=1\/a4=2)
  (hs1:s1=-1\/s1=1) (hs2:s2=-1\/s2=1) (hs3:s3=-1\/s3=1) (hs4:s4=-1\/s4=1) (hn:[b,c1,c2,c3,c4].Nodup):GrC b [b,c1,c2,c3,c4]:=by
 have n1:c1∉[b]:=fun z=>by rw [KL] at z;subst z;simp at hn
 have n2:c2∉[b,c1]:=fun z=>by simp at z hn;rcases z with rfl|rfl<;>simp at hn
 have n3:c3∉[b,c1,c2]:=fun z=>by simp at z hn;rcases z with rfl|rfl|rfl<;>simp at hn
 have n4:c4∉[b,c1,c2,c3]:=fun z=>by simp at z hn;rcases z with rfl|rfl|rfl|rfl<;>simp at hn
 subst h1
 have g1:GrC b [b,oth a1 s1 b]:=.add .one (.head _) ha1 hs1 n1
 subst h2
 have g2:GrC b [b,oth a1 s1 b,oth a2 s2 (oth a1 s1 b)]:=.add g1 (by simp) ha2 hs2 n2
 subst h3
 have g3:GrC b [b,oth a1 s1 b,oth a2 s2 (oth a1 s1 b),oth a3 s3 (oth a2 s2 (oth a1 s1 b))]:=.add g2 (by simp) ha3 hs3 n3
 subst h4
 exact .add g3 (by simp) ha4 hs4 n4
theorem GrC.five (b:Sp)(k:Int)(r:Nat):GrC b ((Za.map (rot3 r)).map (plc b k)):=by
 have hx:=jE k 3
 have hy:=jE k 6
 have hz:=jE k 12
 obtain ⟨b1,b2,b3⟩:=b
 have fl:∀ {s:Int},s=1\/s=-1->s=-1\/s=1:=fun h=>h.symm
 have ng:∀ {s:Int},s=1\/s=-1->-s=-1\/-s=1:=fun h=>by omega
 have e0:∀ x y z:Int,(b1+0*x,b2+0*y,b3+0*z)=(b1,b2,b3):=fun x y z=>by simp
 rcases r with _|_|r
 ·simp only [Za,rot3,plc,Km,Vt,e0]
  refine GrC.path (a1:=2) (a2:=0) (a3:=1) (a4:=2) (s1:=sgn k 12) (s2:=sgn k 3) (s3:=sgn k 6) (s4:=-sgn k 12) ?_ ?_ ?_ ?_ (by decide) (by decide) (by decide) (by decide) (fl hz) (fl hx) (fl hy) (ng hz) ?_
  all_goals (first|(simp only [oth,Int.one_mul,Fk,ED];done)|skip)
  all_goals (generalize sgn k 3=x at *;generalize sgn k 6=y at *;generalize sgn k 12=z at *)
  ·simp [oth];omega
  ·simp;omega
 ·simp only [Za,rot3,plc,Km,Vt,e0]
  refine GrC.path (a1:=1) (a2:=2) (a3:=0) (a4:=1) (s1:=sgn k 6) (s2:=sgn k 12) (s3:=sgn k 3) (s4:=-sgn k 6) ?_ ?_ ?_ ?_ (by decide) (by decide) (by decide) (by decide) (fl hy) (fl hz) (fl hx) (ng hy) ?_
  all_goals (first|(simp only [oth,Int.one_mul,Fk,ED];done)|skip)
  all_goals (generalize sgn k 3=x at *;generalize sgn k 6=y at *;generalize sgn k 12=z at *)
  ·simp [oth];omega
  ·simp;omega
 ·simp only [Za,rot3,plc,Km,Vt,e0]
  refine GrC.path (a1:=0) (a2:=1) (a3:=2) (a4:=0) (s1:=sgn k 3) (s2:=sgn k 6) (s3:=sgn k 12) (s4:=-sgn k 3) ?_ ?_ ?_ ?_ (by decide) (by decide) (by decide) (by decide) (fl hx) (fl hy) (fl hz) (ng hx) ?_
  all_goals (first|(simp only [oth,Int.one_mul,Fk,ED];done)|skip)
  all_goals (generalize sgn k 3=x at *;generalize sgn k 6=y at *;generalize sgn k 12=z at *)
  ·simp [oth];omega
  ·simp;omega
theorem qaf {a s:Int}(ha:a=0\/a=1)(hs:s=1\/s=-1):mulD (.int a) (.int s)=some (.int (a*s)):=by
 rcases ha with rfl|rfl<;>rcases hs with rfl|rfl<;>rfl
theorem qei (ms:List Int)(b:Sp){k:Int}(hk:0<=k):∃ cs gs:List Sp,zB [.list (ms.map .int),.list [.int b.1,.int b.2.1,.int b.2.2],.int k]=some (.list (cs.map eS))/\GrC b gs/\gs.length<=6/\cs.Perm gs:=by
 have fin:∀ gs:List Sp,gs.length<=6->∃ cs:List Sp,zb [.list (gs.map eS)]=some (.list (cs.map eS))/\cs.Perm gs:=fun gs h1=>by
  obtain ⟨cs,es,p,_⟩:=Q9 (xs:=gs) (by omega)
  exact ⟨cs,es,p⟩
 by_cases h0:k=0
 ·subst h0
  obtain ⟨gs,o7,o8,o9,e,h1,h2⟩:=qdi (GrC b) (fun cs h=>h.pos) (fun cs c a s h hc ha hs hn=>.add h hc ha hs hn) ms (some (.list (ms.map .int))) (some (.list [.int b.1,.int b.2.1,.int b.2.2])) (some (.int 0)) none none none (cs0:=[b]) .one (by simp)
  obtain ⟨cs,es,p⟩:=fin gs h2
  refine ⟨cs,gs,?_,h1,h2,p⟩
  have e:forD (gNm 7) (seqO (q8 8 (Yr (evA (aC (ev2 (vr 3) (ev2 (vr 7) (evA (aC (vr 3) aN) lenD) modD) ixD) aN) QM))) (seqO (sSet 9 (ev2 (ev2 (vr 7) (kd (.int 60)) QB) (kd (.int 3)) modD)) (seqO (sPut 8 (vr 9) (qQ (ev2 (ev2 (ev2 (vr 8) (vr 9) ixD) (ev2 (kd (.int 2)) (ev2 (ev2 (vr 7) (kd (.int 180)) QB) (kd (.int 2)) modD) mulD) qP) (kd (.int 1)) subD))) (sIf (tA (tV (ev2 (evA (aC (vr 3) aN) lenD) (kd (.int 6)) ltD2)) (tV (ev2 (evA (aC (vr 8) aN) qY) (vr 3) ninD))) (sApp 3 (qQ (evA (aC (vr 8) aN) qY))) sN)))) (ms.map .int) [some (.list (ms.map .int)),some (.list [.int b.1,.int b.2.1,.int b.2.2]),some (.int 0),some (.list [.tuple [.int b.1,.int b.2.1,.int b.2.2]]),none,none,none,none,none,none]=some (.nx [some (.list (ms.map .int)),some (.list [.int b.1,.int b.2.1,.int b.2.2]),some (.int 0),some (.list (gs.map eS)),none,none,none,o7,o8,o9]):=e
  simp only [zB,Qz]
  simp_arith [e,es]
 ·have hg:decide (k > 0)=true:=decide_eq_true (by omega)
  have a1:mulD (.int 2) (.int (k / 3 % 2))=some (.int (2*(k / 3 % 2))):=Qn (bd2.ok (Bd.of (n:=2) (by omega)))
  have a2:mulD (.int 2) (.int (k / 6 % 2))=some (.int (2*(k / 6 % 2))):=Qn (bd2.ok (Bd.of (n:=2) (by omega)))
  have a3:mulD (.int 2) (.int (k / 12 % 2))=some (.int (2*(k / 12 % 2))):=Qn (bd2.ok (Bd.of (n:=2) (by omega)))
  have b1:mulD (.int 0) (.int (1-2*(k / 3 % 2)))=some (.int (0*sgn k 3)):=qaf (.inl rfl) (jE k 3)
  have b2:mulD (.int 0) (.int (1-2*(k / 6 % 2)))=some (.int (0*sgn k 6)):=qaf (.inl rfl) (jE k 6)
  have b3:mulD (.int 0) (.int (1-2*(k / 12 % 2)))=some (.int (0*sgn k 12)):=qaf (.inl rfl) (jE k 12)
  have c1:mulD (.int 1) (.int (1-2*(k / 3 % 2)))=some (.int (1*sgn k 3)):=qaf (.inr rfl) (jE k 3)
  have c2:mulD (.int 1) (.int (1-2*(k / 6 % 2)))=some (.int (1*sgn k 6)):=qaf (.inr rfl) (jE k 6)
  have c3:mulD (.int 1) (.int (1-2*(k / 12 % 2)))=some (.int (1*sgn k 12)):=qaf (.inr rfl) (jE k 12)
  have r3:rngL 0 3=[.int 0,.int 1,.int 2]:=rfl
  have fin2:∀ (r:Nat) (o4 o5 o6:Option Ka),∃ (cs gs:List Sp) (o7 o8 o9:Option Ka),forD (gNm 7) (seqO (q8 8 (Yr (evA (aC (ev2 (vr 3) (ev2 (vr 7) (evA (aC (vr 3) aN) lenD) modD) ixD) aN) QM))) (seqO (sSet 9 (ev2 (ev2 (vr 7) (kd (.int 60)) QB) (kd (.int 3)) modD)) (seqO (sPut 8 (vr 9) (qQ (ev2 (ev2 (ev2 (vr 8) (vr 9) ixD) (ev2 (kd (.int 2)) (ev2 (ev2 (vr 7) (kd (.int 180)) QB) (kd (.int 2)) modD) mulD) qP) (kd (.int 1)) subD))) (sIf (tA (tV (ev2 (evA (aC (vr 3) aN) lenD) (kd (.int 6)) ltD2)) (tV (ev2 (evA (aC (vr 8) aN) qY) (vr 3) ninD))) (sApp 3 (qQ (evA (aC (vr 8) aN) qY))) sN)))) (ms.map .int) [some (.list (ms.map .int)),some (.list [.int b.1,.int b.2.1,.int b.2.2]),some (.int k),some (.list (((Za.map (rot3 r)).map (plc b k)).map eS)),o4,o5,o6,none,none,none]=some (.nx [some (.list (ms.map .int)),some (.list [.int b.1,.int b.2.1,.int b.2.2]),some (.int k),some (.list (gs.map eS)),o4,o5,o6,o7,o8,o9])/\
    zb [.list (gs.map eS)]=some (.list (cs.map eS))/\GrC b gs/\gs.length<=6/\cs.Perm gs:=fun r o4 o5 o6=>by
   obtain ⟨gs,o7,o8,o9,e,h1,h2⟩:=qdi (GrC b) (fun cs h=>h.pos) (fun cs c a s h hc ha hs hn=>.add h hc ha hs hn) ms (some (.list (ms.map .int))) (some (.list [.int b.1,.int b.2.1,.int b.2.2])) (some (.int k)) o4 o5 o6 (cs0:=(Za.map (rot3 r)).map (plc b k)) (GrC.five b k r) (by simp [Za])
   obtain ⟨cs,es,p⟩:=fin gs h2
   exact ⟨cs,gs,o7,o8,o9,e,es,h1,h2,p⟩
  rcases qjg k with g|g|g
  ·obtain ⟨cs,gs,o7,o8,o9,e,es,h1,h2,p⟩:=fin2 0 (some (.tuple [.int 1,.int 1,.int 0])) (some (.list [.int (b.1+1*sgn k 3),.int (b.2.1+1*sgn k 6),.int (b.2.2+0*sgn k 12)])) (some (.int 2))
   refine ⟨cs,gs,?_,h1,h2,p⟩
   have g1:(k+1) % 3=1:=by omega
   have g2:(k+2) % 3=2:=by omega
   simp only [Za,rot3,plc,Km,Vt,eS] at e
   simp only [zB,Qz]
   simp_arith [hg,g,g1,g2,a1,a2,a3,b1,b2,b3,c1,c2,c3,r3,ix0,ix1,ix2,Qu,QW,e,es]
  ·obtain ⟨cs,gs,o7,o8,o9,e,es,h1,h2,p⟩:=fin2 1 (some (.tuple [.int 1,.int 1,.int 0])) (some (.list [.int (b.1+1*sgn k 3),.int (b.2.1+0*sgn k 6),.int (b.2.2+1*sgn k 12)])) (some (.int 2))
   refine ⟨cs,gs,?_,h1,h2,p⟩
   have g1:(k+1) % 3=2:=by omega
   have g2:(k+2) % 3=0:=by omega
   simp only [Za,rot3,plc,Km,Vt,eS] at e
   simp only [zB,Qz]
   simp_arith [hg,g,g1,g2,a1,a2,a3,b1,b2,b3,c1,c2,c3,r3,ix0,ix1,ix2,Qu,QW,e,es]
  ·obtain ⟨cs,gs,o7,o8,o9,e,es,h1,h2,p⟩:=fin2 2 (some (.tuple [.int 1,.int 1,.int 0])) (some (.list [.int (b.1+0*sgn k 3),.int (b.2.1+1*sgn k 6),.int (b.2.2+1*sgn k 12)])) (some (.int 2))
   refine ⟨cs,gs,?_,h1,h2,p⟩
   have g1:(k+1) % 3=0:=by omega
   have g2:(k+2) % 3=1:=by omega
   simp only [Za,rot3,plc,Km,Vt,eS] at e
   simp only [zB,Qz]
   simp_arith [hg,g,g1,g2,a1,a2,a3,b1,b2,b3,c1,c2,c3,r3,ix0,ix1,ix2,Qu,QW,e,es]
theorem qdO:∀ xs ys:List Int,HT.lexLt xs ys=lexB ltI xs ys
 | [],[]=>rfl
 | [],_::_=>rfl
 | _::_,[]=>rfl
 | x::xs,y::ys=>by
  rw [HT.zU,lexB,qdO xs ys]
  rfl
def full (sk:List Sp):List Sp:=(once (EG sk)).filter fun e=>decide ((EG sk).count e=4)
theorem qbC {sk:List Sp}(hk:sk.length<=31):(full sk).length<64:=by
 have h:=twice_len (full sk) (EG sk) (List.filter_sublist.nodup (jA _)) fun t ht=>by
  have:=of_decide_eq_true (VC.mp ht).2
  omega
 have:=qaB sk
 omega
theorem qa9 {xs zs:List Sp}{z:Sp}(p:(z::zs).Perm xs)(o:((z::zs).map l3).Pairwise (fun a b=>HT.lexLt b a=false)):IsL ltS xs z:=by
 refine ⟨p.mem_iff.mp (.head _),fun x hx=>?_⟩
 rcases Kk.mp (p.mem_iff.mpr hx) with rfl|h
 ·exact qg8.irr _
 ·rw [Km,N0] at o
  have:=o.1 (l3 x) (KN.mpr ⟨x,h,rfl⟩)
  rw [qdO] at this
  exact this
theorem qdY (sk:List Sp):(once (EG sk)).length<=4*sk.length:=by
 have h:=twice_len (once (EG sk)) (EG sk++EG sk) (jA _) fun t ht=>by
  have:=X4.mpr (jb.mp ht)
  rw [Ek]
  omega
 rw [Kp] at h
 have:=qaB sk
 omega
theorem due23 {cs sk:List Sp}(hs:∀ s∈sk,Sq s)(hn:sk.Nodup)(hk:sk.length<=31)(e2:zO [.list (cs.map eS)]=some (.list (sk.map eS))):∃ d,Q5 [.list (cs.map eS)]=some d/\((full sk=[]/\d=.none)\/∃ z,d=eS z/\IsL ltS (full sk) z):=by
 have hmet:=met24 hs (by omega)
 have hcl:=qhu hn hs
 have hky:(metF sk.zipIdx).map (·.1)=once (EG sk):=qe1 sk
 generalize metF sk.zipIdx=kvs at hmet hcl hky
 have hkeys:=qic kvs
 have hcp:∀ o2:Option Ka,Qp (tV (ev2 (evA (aC (ev2 (vr 1) (vr 3) ix2D) aN) lenD) (kd (.int 4)) eqD)) (vr 3) [some (.list (cs.map eS)),some (.dict (eM kvs)),o2] (kvs.map fun p=>eS p.1)=some ((kvs.filter fun p=>((((lstM kvs p.1).length:Nat):Int)==4)).map fun p=>eS p.1):=fun o2=>by
  refine Zv (fun p:Mt=>eS p.1) (fun p=>((((lstM kvs p.1).length:Nat):Int)==4)) (fun p=>eS p.1) kvs (fun p hp=>?_) fun p hp _=>by simp_arith []
  have hi:=ix_eM (KN.mpr ⟨p,hp,rfl⟩)
  have hle:lenD [eNs (lstM kvs p.1)]=some (.int ((lstM kvs p.1).length:Nat)):=by
   show some (KU ((((lstM kvs p.1).map fun k=>KU (k:Nat)).length:Nat):Int))=_
   rw [Kj]
  simp_arith [hi,hle]
 have hfl:(kvs.filter fun p=>((((lstM kvs p.1).length:Nat):Int)==4)).map (fun p=>eS p.1)=(full sk).map eS:=by
  have h1:(fun p:Mt=>((((lstM kvs p.1).length:Nat):Int)==4))=(fun e=>decide ((EG sk).count e=4)) ∘ (fun p:Mt=>p.1):=funext fun p=>by
   show _=decide ((EG sk).count p.1=4)
   rw [hcl]
   by_cases h:(lstM kvs p.1).length=4
   ·rw [h];rfl
   ·rw [decide_eq_false h]
    exact beq_eq_false_iff_ne.mpr (by omega)
  unfold full
  rw [← hky,ES,Vf,h1]
  rfl
 have hz:(kvs.map fun p=>eS p.1).length<=1000:=by
  have h1:=congrArg Xv hky
  have h3:=qdY sk
  rw [Kj] at h1 ⊢
  omega
 rw [hfl] at hcp
 obtain ⟨zs,es,p,o⟩:=Q9 (xs:=full sk) (qbC hk)
 cases zs with
 | nil =>
  refine ⟨.none,?_,.inl ⟨List.nil_perm.mp p,rfl⟩⟩
  have es:zb [.list ((full sk).map eS)]=some (.list []):=es
  simp only [Q5,jG]
  simp_arith [e2,hmet,hkeys,hcp,hz,es]
 | cons z zs =>
  refine ⟨eS z,?_,.inr ⟨z,rfl,qa9 p o⟩⟩
  have es:zb [.list ((full sk).map eS)]=some (.list (eS z::zs.map eS)):=es
  have hl:((((eS z::zs.map eS).length:Nat):Int)==0)=false:=beq_eq_false_iff_ne.mpr (by rw [KC];omega)
  simp only [Q5,jG]
  simp_arith [e2,hmet,hkeys,hcp,hz,es]
  simp only [KC] at hl
  simp_arith [hl]
theorem qex {cs sk:List Sp}(hs:∀ s∈sk,Sq s)(hk:sk.length<=31)(e1:zG [.list (cs.map eS)]=some (.list (sk.map eS))):∃ d,zx [.list (cs.map eS)]=some d/\((full sk=[]/\d=.none)\/∃ z,d=eS z/\IsL ltS (full sk) z):=by
 have e2:=wG hs (by omega)
 have hky:(tally (EG sk)).map (·.1)=once (EG sk):=jF _
 have hcn:∀ t,cnt (tally (EG sk)) t=(EG sk).count t:=Ye _
 have e2:zr [.list (sk.map eS)]=some (.dict (eD (tally (EG sk)))):=e2
 generalize tally (EG sk)=kvs at *
 have hc:Qp (tV (ev2 (ev2 (vr 1) (vr 2) ix2D) (kd jo) eqD)) (vr 2) [some (.list (cs.map eS)),some (.dict (eD kvs))] (kvs.map fun p=>eS p.1)=some ((kvs.filter fun p=>(((cnt kvs p.1:Nat):Int)==4)).map fun p=>eS p.1):=by
  refine Zv (fun p:Sp×Nat=>eS p.1) (fun p=>(((cnt kvs p.1:Nat):Int)==4)) (fun p=>eS p.1) kvs (fun p hp=>?_) fun p hp h=>by simp_arith []
  have hi:=qdJ (s:=p.1) (KN.mpr ⟨p,hp,rfl⟩)
  have cr:jo=.int 4:=rfl
  simp_arith [hi,cr]
 have hfl:(kvs.filter fun p=>(((cnt kvs p.1:Nat):Int)==4)).map (fun p=>eS p.1)=(full sk).map eS:=by
  have h1:(fun p:Sp×Nat=>(((cnt kvs p.1:Nat):Int)==4))=(fun e=>decide ((EG sk).count e=4)) ∘ (fun p:Sp×Nat=>p.1):=funext fun p=>by
   show _=decide ((EG sk).count p.1=4)
   rw [← hcn]
   by_cases h:cnt kvs p.1=4
   ·rw [h];rfl
   ·rw [decide_eq_false h]
    exact beq_eq_false_iff_ne.mpr (by omega)
  unfold full
  rw [← hky,ES,Vf,h1]
  rfl
 have hz:(kvs.map fun p=>eS p.1).length<=1000:=by
  have h1:=congrArg Xv hky
  have h3:=qdY sk
  rw [Kj] at h1 ⊢
  omega
 rw [hfl] at hc
 have hlen:=qbC hk
 cases hf:full sk with
 | nil =>
  refine ⟨.none,?_,.inl ⟨rfl,rfl⟩⟩
  have hm:qae (.list ((full sk).map eS)) .none=some .none:=by rw [hf];rfl
  simp only [zx,ji]
  simp_arith [e1,e2,yl,hz,hc,hm]
 | cons y ys =>
  obtain ⟨m,hm,e⟩:=qe2 qg8 qj9 (fun a=>rfl) (fun a=>by show (VN [.int a.1,.int a.2.1,.int a.2.2]).depth<=50;simp only [Uz,KI];decide) (xs:=y::ys) (by simp) (by rw [← hf];omega)
  refine ⟨eS m,?_,.inr ⟨m,rfl,hm⟩⟩
  have hm:qae (.list ((full sk).map eS)) .none=some (eS m):=by rw [hf];exact e
  simp only [zx,ji]
  simp_arith [e1,e2,yl,hz,hc,hm]
theorem two23 {cs sk:List Sp}(k3:(sk.map l3).Pairwise (fun a b=>HT.lexLt b a=false))(k4:sk.Nodup)(k6:∀ s,s∈sk↔Sq s/\skB (inM cs) s=true)(hf:full sk=[])(e:Sp):(EG sk).count e<=2:=by
 by_cases he:e∈EG sk
 ·obtain ⟨s,hs,hes⟩:=Uu.mp he
  obtain ⟨B,hB⟩:=qfU ((k6 s).mp hs).1 hes
  have hat:=qdh k3 k4 k6 hB
  have hc:(EG sk).count e=_:=YK (fun s h=>((k6 s).mp h).1) e
  have h4:(EG sk).count e≠4:=fun z=>by
   have:e∈full sk:=VC.mpr ⟨jb.mpr he,decide_eq_true z⟩
   rw [hf] at this
   cases this
  rw [hc,hat] at h4 ⊢
  rcases WT (inM cs) hB with z|z|⟨s0,s1,z,_⟩
  ·rw [z];exact Vc _
  ·rw [z,qaE] at h4;exact absurd rfl h4
  ·rw [z];exact Ko 2
 ·rw [X5.mpr he]
  exact Vc _
theorem yR {x:Int}(h:x.natAbs<2 ^ 1900):x.natAbs.log2<1920:=by
 by_cases h0:x.natAbs=0
 ·rw [h0];decide
 ·exact (Nat.log2_lt h0).mpr (KB h (Nat.pow_le_pow_right (by decide) (by decide)))
def nrS (N:Nat)(s:Sp):Prop:=s.1.natAbs<N/\s.2.1.natAbs<N/\s.2.2.natAbs<N
theorem qke {N:Nat}{c:Sp}(h:nrS N c){a:Nat}{b:Int}(hb:b=-1\/b=1):nrS (2*N+4) (oth a b (mid c)):=by
 obtain ⟨h1,h2,h3⟩:=h
 unfold oth mid
 split<;>exact ⟨by dsimp only;omega,by dsimp only;omega,by dsimp only;omega⟩
theorem nr_ar {N A:Nat}{s z:Sp}(h:nrS N s)(hz:z∈ar A s):nrS (N+2) z:=by
 obtain ⟨h1,h2,h3⟩:=h
 unfold ar at hz
 split at hz<;>simp only [Kk,K3,or_false] at hz<;>rcases hz with rfl|rfl|rfl|rfl<;>exact ⟨by dsimp only;omega,by dsimp only;omega,by dsimp only;omega⟩
theorem qhH {cs sk:List Sp}(hb:∀ c∈cs,BdS 200 c)(k6:∀ s,s∈sk↔Sq s/\skB (inM cs) s=true){z:Sp}(hz:z∈EG sk):shOk (eS z)=true:=by
 obtain ⟨s,hs,hes⟩:=Uu.mp hz
 obtain ⟨c,hc,h2⟩:=Uu.mp (yS.mpr ((k6 s).mp hs))
 obtain ⟨a,b,_,hb',_,rfl⟩:=jy.mp h2
 have q:nrS (2 ^ 200) c:=⟨Xa.mp (hb c hc).1,Xa.mp (hb c hc).2.1,Xa.mp (hb c hc).2.2⟩
 obtain ⟨h1,h2,h3⟩:=nr_ar (qke q hb') hes
 have big:2*2 ^ 200+4+2<=2 ^ 1900:=by decide +kernel
 exact sh3 (yR (KB h1 big)) (yR (KB h2 big)) (yR (KB h3 big))
theorem qgZ {cs:List Sp}{z:Sp}(h:zx [.list (cs.map eS)]=some (eS z))(hs:shOk (eS z)=true):Q4 [.list (cs.map eS)]=some (excD "Crowded" (.tuple [.str "edge", eS z])):=by
 have hi:isnD (eS z) .none=some (.bool true):=rfl
 have hx:Q3 [some (.list (cs.map eS)),none,none,none,none,none,none]=some (excD "Crowded" (.tuple [.str "edge", eS z]),[some (.list (cs.map eS)),some (eS z),none,none,none,none,none]):=by
  unfold Q3 xSeq xIf qbd xNo
  simp_arith [h,hi,hs,qhU,Fc]
 show ob (Q3 [some (.list (cs.map eS)),none,none,none,none,none,none]) _=_
 rw [hx]
 rfl
theorem qid (z:Sp):Zr [excD "Crowded" (.tuple [.str "edge", eS z])]=some (.tuple [.bool true,.bool true,.bool false]):=by kernel_rfl
theorem qhf (z:Sp):exFD XS "edge" (excD "Crowded" (.tuple [.str "edge", eS z]))=some (eS z):=by kernel_rfl
theorem qff {cs:List Sp}{z:Sp}(h:zx [.list (cs.map eS)]=some (eS z))(hs:shOk (eS z)=true):QT [.list (cs.map eS),eS z]=some (.bool true):=by
 have hx:=qgZ h hs
 have hw:qcp 1 (aC (vr 0) aN) Q4 [some (.list (cs.map eS)),some (eS z),some (.tuple [.bool false,.bool false,.bool true]),some .none,none]=some (excD "Crowded" (.tuple [.str "edge", eS z]),[some (.list (cs.map eS)),some (eS z),some (.tuple [.bool false,.bool false,.bool true]),some .none,none]):=by
  unfold qcp
  simp_arith [hx]
 have hc:=qid z
 have ht:=qhf z
 have hp:zE [.list [eS z]]=some (.bool true):=qej [z]
 have hq:=YQ z z
 rw [decide_eq_true rfl] at hq
 have he:eqD (.tuple [.bool true,.bool true,.bool false]) (.tuple [.bool true,.bool true,.bool false])=some (.bool true):=rfl
 have key:Qx [some (.list (cs.map eS)),some (eS z),none,none,none]=some (.rt (.bool true)):=by
  unfold Qx
  refine qc0 (ρ':=[some (.list (cs.map eS)),some (eS z),some (.tuple [.bool false,.bool false,.bool true]),none,none]) (by simp_arith []) (qc0 (ρ':=[some (.list (cs.map eS)),some (eS z),some (.tuple [.bool false,.bool false,.bool true]),some .none,none]) (by simp_arith []) (qc0 (ρ':=[some (.list (cs.map eS)),some (eS z),some (.tuple [.bool true,.bool true,.bool false]),some (eS z),none]) ?_ ?_))
  ·rw [qkQ hw (by decide +kernel)]
   simp_arith [hc,he,ht]
   rfl
  ·simp_arith [he,hp,hq]
 show ob (Qx [some (.list (cs.map eS)),some (eS z),none,none,none]) outD=_
 rw [key]
 rfl
theorem qef {b:Sp}{cs gs:List Sp}(hb:qdU (10 ^ 19) b)(h:GrC b gs)(hl:gs.length<=6)(p:cs.Perm gs):zN [.list (cs.map eS)]=some (.bool true):=by
 obtain ⟨hbd,sk,k1,k2,k3,k4,k5,k6,k7⟩:=qh0 hb h hl p
 have hs:∀ s∈sk,Sq s:=fun s h=>((k6 s).mp h).1
 obtain ⟨d,ed,hd⟩:=due23 hs k4 (by omega) k2
 obtain ⟨c,ec,hc⟩:=qex hs (by omega) k1
 have hq:=qjJ cs cs
 rw [decide_eq_true rfl] at hq
 have hli:QM [.list (cs.map eS)]=some (.list (cs.map eS)):=rfl
 rcases hd with ⟨hf,rfl⟩|⟨z,rfl,hz⟩
 ·rcases hc with ⟨_,rfl⟩|⟨y,rfl,hy⟩
  ·obtain ⟨zs,ej,_⟩:=qh7 (cs:=cs) (sk:=sk) ⟨hbd,k1,k2,k3,k4,by omega,k6,two23 k3 k4 k6 hf,k7⟩
   have hi:isD .none .none=some (.bool true):=rfl
   have hil:isiT "list" (.list (zs.map eS))=true:=rfl
   simp only [zN,Zu]
   simp_arith [ed,hli,ec,hi,ej,hil,hq]
  ·rw [hf] at hy
   cases hy.1
 ·rcases hc with ⟨hf,rfl⟩|⟨y,rfl,hy⟩
  ·rw [hf] at hz
   cases hz.1
  ·obtain rfl:z=y:=hz.uniq qg8 hy (fun _ h=>h) fun _ h=>h
   have hsh:=qhH hbd k6 (jb.mp (VC.mp hz.1).1)
   have hr:=qff ec hsh
   have hi:isD (eS z) .none=some (.bool false):=rfl
   have hp:zE [.list [eS z]]=some (.bool true):=qej [z]
   have hn:neD (eS z) (eS z)=some (.bool false):=by
    have hh:=YQ z z
    rw [decide_eq_true rfl] at hh
    have:neD (eS z) (eS z)=some (.bool (!PyData.eqv (eS z) (eS z))):=rfl
    rw [this,jq,decide_eq_true rfl];rfl
   simp only [zN,Zu]
   simp_arith [ed,hli,ec,hi,hp,hn,hr,hq]
theorem qeV (ns:List Int)(_:ns.length<=63)(_:∀ k∈ns,V9 k<=2 ^ 20):qdA [.list (ns.map .int)]=some (.bool true):=by
 let b:Sp:=(bsV (Qo ns 1),bsV (Qo ns 2),bsV (Qo ns 3))
 have hbd:qdU (10 ^ 19) b:=⟨qcw _,qcw _,qcw _⟩
 have hbase:QJ [.list [.int (Qo ns 1),.int (Qo ns 2),.int (Qo ns 3)]]=some (.list [.int b.1,.int b.2.1,.int b.2.2]):=qho _ _ _
 obtain ⟨ms,em,_⟩:=qfO ns (a:=4) (b:=9)
 obtain ⟨xs,ex,_⟩:=qfO ns (a:=9) (b:=14)
 have em:sliD (.list (ns.map .int)) (some 4) (some 9)=some (.list (ms.map .int)):=em
 have ex:sliD (.list (ns.map .int)) (some 9) (some 14)=some (.list (xs.map .int)):=ex
 have c0:=cell_eq ns 0 (by decide)
 have c1:=cell_eq ns 1 (by decide)
 have c2:=cell_eq ns 2 (by decide)
 have c3:=cell_eq ns 3 (by decide)
 have fin:∀ kd:Int,0<=kd->kd<=24->(sIf (tV (ev2 (ev2 (vr 2) (L2.kd (.int 3)) modD) (L2.kd (.int 0)) gtD)) (sSet 3 (ev2 (L2.kd (.int 1)) (ev2 (ev2 (vr 2) (L2.kd (.int 3)) QB) (L2.kd (.int 24)) modD) qP)) sN) [some (.list (ns.map .int)),some (.list [.int b.1,.int b.2.1,.int b.2.2]),some (.int (Qo ns 0)),some (.int 0),none,none,none]=some (.nx [some (.list (ns.map .int)),some (.list [.int b.1,.int b.2.1,.int b.2.2]),some (.int (Qo ns 0)),some (.int kd),none,none,none])->qdA [.list (ns.map .int)]=some (.bool true):=fun kd h0 h1 hk=>by
  obtain ⟨cs,gs,e1,g1,l1,p1⟩:=qei ms b h0
  have hm:0<=Qo ns 0 / 72 % 2*kd:=by
   have:Qo ns 0 / 72 % 2=0\/Qo ns 0 / 72 % 2=1:=by omega
   rcases this with h|h<;>rw [h]<;>omega
  have hmul:mulD (.int (Qo ns 0 / 72 % 2)) (.int kd)=some (.int (Qo ns 0 / 72 % 2*kd)):=Qn ((Bd.of (n:=8) (by omega)).ok (Bd.of (n:=8) (by omega)))
  obtain ⟨ds,hs,e2,g2,l2,p2⟩:=qei xs b hm
  have r1:=qef hbd g1 l1 p1
  have r2:=qef hbd g2 l2 p2
  have bb:BdS 200 b:=qdV (n:=10 ^ 19) hbd (by decide)
  have m1:=Qn (bd2.ok bb.1)
  have m2:=Qn (bd2.ok bb.2.1)
  have m3:=Qn (bd2.ok bb.2.2)
  have hsh:shOk (.tuple [.int (2*b.1),.int (2*b.2.1),.int (2*b.2.2+1)])=true:=by
   have q1:=Xa.mp bb.1
   have q2:=Xa.mp bb.2.1
   have q3:=Xa.mp bb.2.2
   have big:2*2 ^ 200+4<=2 ^ 1900:=by decide +kernel
   have w:∀ {x:Int},x.natAbs<2 ^ 200->(2*x).natAbs<2*2 ^ 200+4/\(2*x+1).natAbs<2*2 ^ 200+4:=fun {x} h=>by
    generalize (2 ^ 200:Nat)=N at h ⊢
    omega
   exact sh3 (yR (KB (w q1).1 big)) (yR (KB (w q2).1 big)) (yR (KB (w q3).2 big))
  have hmk:mkI "Crowded" "edge" (.tuple [.int (2*b.1),.int (2*b.2.1),.int (2*b.2.2+1)])=some (excD "Crowded" (.tuple [.str "edge", .tuple [.int (2*b.1),.int (2*b.2.1),.int (2*b.2.2+1)]])):=by
   unfold mkI
   rw [hsh]
   rfl
  have hto:exFD XS "edge" (excD "Crowded" (.tuple [.str "edge", .tuple [.int (2*b.1),.int (2*b.2.1),.int (2*b.2.2+1)]]))=some (.tuple [.int (2*b.1),.int (2*b.2.1),.int (2*b.2.2+1)]):=qhf (2*b.1,2*b.2.1,2*b.2.2+1)
  have hne:neD (.tuple [.int (2*b.1),.int (2*b.2.1),.int (2*b.2.2+1)]) (.tuple [.int (2*b.1),.int (2*b.2.1),.int (2*b.2.2+1)])=some (.bool false):=by
   have hh:neD (eS (2*b.1,2*b.2.1,2*b.2.2+1)) (eS (2*b.1,2*b.2.1,2*b.2.2+1))=some (.bool (!PyData.eqv (eS (2*b.1,2*b.2.1,2*b.2.2+1)) (eS (2*b.1,2*b.2.1,2*b.2.2+1)))):=rfl
   rw [jq,decide_eq_true rfl] at hh
   exact hh
  simp only [qdA,qhj]
  simp_arith [-L2.qju,c0,c1,c2,c3,hbase]
  rw [hk]
  simp_arith [em,e1,ex,hmul,e2,m1,m2,m3,hmk,hto,hne,r1,r2]
 by_cases h:0<Qo ns 0 % 3
 ·refine fin (1+Qo ns 0 / 3 % 24) (by omega) (by omega) ?_
  simp_arith [decide_eq_true h]
 ·refine fin 0 (by decide) (by decide) ?_
  simp_arith [decide_eq_false h]
theorem qjy {l:Ee}{w:KF}{K:Kd}{h:Kx}{mg:Str->Option Kb}{fa f28:Ke}(X:K.In h)(G:h.Ns mainGlobals mg)(hfa:mg "law" = some (.ref fa))
  {od28 an28:Option Ke} {sl28:Array (Option Kb)} {oc28 kV28 dc28 pm28 cd28 ct28:Kb}
  (h0:FnK K "numbers_of" Tq4)
  (h1:FnK K "added" Tq27)
  (h2:FnK K "negated" Tq21)
  (h3:FnK K "axis_of" Tq22)
  (h4:FnK K "around" Tq26)
  (h5:FnK K "edges_of" Tq17)
  (h6:FnK K "squares_at" Tq5)
  (h7:FnK K "middle_of" Tq12)
  (h8:FnK K "cube_of" Tq23)
  (h9:FnK K "cubes_at" Tq18)
  (h10:FnK K "skin_of" Tq24)
  (h11:FnK K "edge_counts" Tq3)
  (h12:FnK K "outward_from" Tq0)
  (h13:FnK K "crowded" Tq25)
  (h14:FnK K "bend_over" Tq13)
  (h15:FnK K "_law_cell_at" Tq1)
  (h16:FnK K "_law_whole" Tq6)
  (h17:FnK K "_law_spots" Tq7)
  (h18:FnK K "_law_base" Tq14)
  (h19:FnK K "_law_solid" Tq8)
  (h20:FnK K "_law_skin" Tq15)
  (h21:FnK K "_law_near" Tq16)
  (h22:FnK K "_law_met" Tq19)
  (h23:FnK K "_law_kinds" Tq9)
  (h24:FnK K "_law_due" Tq20)
  (h25:FnK K "skin_joins" Tq10)
  (h26:FnK K "_law_refused" Tq2)
  (h27:FnK K "_law_right" Tq11)
  (a28:KM K mainGlobals "law" = some (some (.ref f28))) (l28:K.lookup f28=some ⟨oc28,od28,.func (Us "law" "law" (Zq Tq28) (zK Tq28) (qj Tq28) .none kV28 dc28 pm28 an28 cd28 ct28),sl28⟩) (c28:U7 K cd28 "law" = true) (k28:VQ K (.ref f28)=true)
  (z0:KM K mainGlobals "dict" = some none)
  (z1:KM K mainGlobals "enumerate" = some none)
  (z2:KM K mainGlobals "sorted" = some none)
  (z3:KM K mainGlobals "min" = some none)
  (z4:KM K mainGlobals "len" = some none)
  (z5:KM K mainGlobals "isinstance" = some none)
  (z6:KM K mainGlobals "int" = some none)
  (z7:KM K mainGlobals "bool" = some none)
  (z8:KM K mainGlobals "list" = some none)
  (z9:KM K mainGlobals "tuple" = some none)
  (z10:KM K mainGlobals "range" = some none)
  (z11:KM K mainGlobals "ValueError" = some none)
  (xf_edge:xfB K XS "edge" = true)
  (hi_Crowded:IniF K "Crowded" "edge" "SheetError" "Crowded.__init__" JM)
  (xt:xtB K XS=true)
  {kc0_a0:Ke}
  {kc0_d0:Option Ke}
  {kc0_n0:Nat}
  {kc0_s0:Array (Option Kb)}
  {kc0_a4:Ke}
  {kc0_d4:Option Ke}
  {kc0_n4:Nat}
  {kc0_s4:Array (Option Kb)}
  {kc0_t8:Tok}
  {kc0_t9:Tok}
  {kc0_t10:Tok}
  {kc0_a11:Ke}
  {kc0_d11:Option Ke}
  {kc0_n11:Nat}
  {kc0_s11:Array (Option Kb)}
  {kc0_t15:Tok}
  {kc0_t16:Tok}
  {kc0_t17:Tok}
  {kc0_a18:Ke}
  {kc0_d18:Option Ke}
  {kc0_n18:Nat}
  {kc0_s18:Array (Option Kb)}
  {kc0_t22:Tok}
  {kc0_t23:Tok}
  {kc0_t24:Tok}
  {kc0_a25:Ke}
  {kc0_d25:Option Ke}
  {kc0_n25:Nat}
  {kc0_s25:Array (Option Kb)}
  {kc0_t29:Tok}
  {kc0_t30:Tok}
  {kc0_t31:Tok}
  {kc0_a32:Ke}
  {kc0_d32:Option Ke}
  {kc0_n32:Nat}
  {kc0_s32:Array (Option Kb)}
  {kc0_t36:Tok}
  {kc0_t37:Tok}
  {kc0_t38:Tok}
  {kc0_a39:Ke}
  {kc0_d39:Option Ke}
  {kc0_n39:Nat}
  {kc0_s39:Array (Option Kb)}
  {kc0_t43:Tok}
  {kc0_t44:Tok}
  {kc0_t45:Tok}
  (kc0:KM K mainGlobals "UNITS" = some (some (.ref kc0_a0)))
  (kc0_h0:K.lookup kc0_a0=some ⟨.type "tuple", kc0_d0,.seq #[(.ref kc0_a4),(.ref kc0_a11),(.ref kc0_a18),(.ref kc0_a25),(.ref kc0_a32),(.ref kc0_a39)] kc0_n0,kc0_s0⟩)
  (kc0_h4:K.lookup kc0_a4=some ⟨.type "tuple", kc0_d4,.seq #[(.int (-1) kc0_t8),(.int (0) kc0_t9),(.int (0) kc0_t10)] kc0_n4,kc0_s4⟩)
  (kc0_h11:K.lookup kc0_a11=some ⟨.type "tuple", kc0_d11,.seq #[(.int (0) kc0_t15),(.int (-1) kc0_t16),(.int (0) kc0_t17)] kc0_n11,kc0_s11⟩)
  (kc0_h18:K.lookup kc0_a18=some ⟨.type "tuple", kc0_d18,.seq #[(.int (0) kc0_t22),(.int (0) kc0_t23),(.int (-1) kc0_t24)] kc0_n18,kc0_s18⟩)
  (kc0_h25:K.lookup kc0_a25=some ⟨.type "tuple", kc0_d25,.seq #[(.int (0) kc0_t29),(.int (0) kc0_t30),(.int (1) kc0_t31)] kc0_n25,kc0_s25⟩)
  (kc0_h32:K.lookup kc0_a32=some ⟨.type "tuple", kc0_d32,.seq #[(.int (0) kc0_t36),(.int (1) kc0_t37),(.int (0) kc0_t38)] kc0_n32,kc0_s32⟩)
  (kc0_h39:K.lookup kc0_a39=some ⟨.type "tuple", kc0_d39,.seq #[(.int (1) kc0_t43),(.int (0) kc0_t44),(.int (0) kc0_t45)] kc0_n39,kc0_s39⟩)
  {kc1_t0:Tok}
  (kc1:KM K mainGlobals "CROWD" = some (some (.int (4) kc1_t0)))
  : ∃ fd:Vo,(∀ (s:Kf) (v:Kb),BindsTo s fd ⟨[v],[]⟩ [("_law_script", v)])/\∀ base:Kx,K.In base->base.Ns mainGlobals mg->FnOk l.prog w K mg base CX0 9 fa fd ["_law_script"] (qc3 K 63):=by
 have g {n:Str} {v:Kb} (e:KM K mainGlobals n=some (some v)):mg n=some v:=XI X G e
 have e:=hfa.symm.trans (g a28)
 cases e
 obtain ⟨f0,d0,a0,F0⟩:=h0
 have b0:=F0.binds (ps:=["things"]) fun _ _ _ _ _ _ us hl=>match us,hl with | [_],_=>rfl
 obtain ⟨f1,d1,a1,F1⟩:=h1
 have b1:=F1.binds (ps:=["one", "other"]) fun _ _ _ _ _ _ us hl=>match us,hl with | [_,_],_=>rfl
 obtain ⟨f2,d2,a2,F2⟩:=h2
 have b2:=F2.binds (ps:=["spot"]) fun _ _ _ _ _ _ us hl=>match us,hl with | [_],_=>rfl
 obtain ⟨f3,d3,a3,F3⟩:=h3
 have b3:=F3.binds (ps:=["square"]) fun _ _ _ _ _ _ us hl=>match us,hl with | [_],_=>rfl
 obtain ⟨f4,d4,a4,F4⟩:=h4
 have b4:=F4.binds (ps:=["spot", "axis"]) fun _ _ _ _ _ _ us hl=>match us,hl with | [_,_],_=>rfl
 obtain ⟨f5,d5,a5,F5⟩:=h5
 have b5:=F5.binds (ps:=["square"]) fun _ _ _ _ _ _ us hl=>match us,hl with | [_],_=>rfl
 obtain ⟨f6,d6,a6,F6⟩:=h6
 have b6:=F6.binds (ps:=["edge"]) fun _ _ _ _ _ _ us hl=>match us,hl with | [_],_=>rfl
 obtain ⟨f7,d7,a7,F7⟩:=h7
 have b7:=F7.binds (ps:=["cube"]) fun _ _ _ _ _ _ us hl=>match us,hl with | [_],_=>rfl
 obtain ⟨f8,d8,a8,F8⟩:=h8
 have b8:=F8.binds (ps:=["spot"]) fun _ _ _ _ _ _ us hl=>match us,hl with | [_],_=>rfl
 obtain ⟨f9,d9,a9,F9⟩:=h9
 have b9:=F9.binds (ps:=["square"]) fun _ _ _ _ _ _ us hl=>match us,hl with | [_],_=>rfl
 obtain ⟨f10,d10,a10,F10⟩:=h10
 have b10:=F10.binds (ps:=["cubes"]) fun _ _ _ _ _ _ us hl=>match us,hl with | [_],_=>rfl
 obtain ⟨f11,d11,a11,F11⟩:=h11
 have b11:=F11.binds (ps:=["squares"]) fun _ _ _ _ _ _ us hl=>match us,hl with | [_],_=>rfl
 obtain ⟨f12,d12,a12,F12⟩:=h12
 have b12:=F12.binds (ps:=["solid", "square"]) fun _ _ _ _ _ _ us hl=>match us,hl with | [_,_],_=>rfl
 obtain ⟨f13,d13,a13,F13⟩:=h13
 have b13:=F13.binds (ps:=["solid"]) fun _ _ _ _ _ _ us hl=>match us,hl with | [_],_=>rfl
 obtain ⟨f14,d14,a14,F14⟩:=h14
 have b14:=F14.binds (ps:=["solid", "square", "edge", "other"]) fun _ _ _ _ _ _ us hl=>match us,hl with | [_,_,_,_],_=>rfl
 obtain ⟨f15,d15,a15,F15⟩:=h15
 have b15:=F15.binds (ps:=["_law_script", "_law_k"]) fun _ _ _ _ _ _ us hl=>match us,hl with | [_,_],_=>rfl
 obtain ⟨f16,d16,a16,F16⟩:=h16
 have b16:=F16.binds (ps:=["_law_found"]) fun _ _ _ _ _ _ us hl=>match us,hl with | [_],_=>rfl
 obtain ⟨f17,d17,a17,F17⟩:=h17
 have b17:=F17.binds (ps:=["_law_found"]) fun _ _ _ _ _ _ us hl=>match us,hl with | [_],_=>rfl
 obtain ⟨f18,d18,a18,F18⟩:=h18
 have b18:=F18.binds (ps:=["_law_cells"]) fun _ _ _ _ _ _ us hl=>match us,hl with | [_],_=>rfl
 obtain ⟨f19,d19,a19,F19⟩:=h19
 have b19:=F19.binds (ps:=["_law_cells", "_law_base_here", "_law_kind"]) fun _ _ _ _ _ _ us hl=>match us,hl with | [_,_,_],_=>rfl
 obtain ⟨f20,d20,a20,F20⟩:=h20
 have b20:=F20.binds (ps:=["_law_cubes"]) fun _ _ _ _ _ _ us hl=>match us,hl with | [_],_=>rfl
 obtain ⟨f21,d21,a21,F21⟩:=h21
 have b21:=F21.binds (ps:=["_law_spot", "_law_axes"]) fun _ _ _ _ _ _ us hl=>match us,hl with | [_,_],_=>rfl
 obtain ⟨f22,d22,a22,F22⟩:=h22
 have b22:=F22.binds (ps:=["_law_squares"]) fun _ _ _ _ _ _ us hl=>match us,hl with | [_],_=>rfl
 obtain ⟨f23,d23,a23,F23⟩:=h23
 have b23:=F23.binds (ps:=["_law_e"]) fun _ _ _ _ _ _ us hl=>match us,hl with | [_],_=>rfl
 obtain ⟨f24,d24,a24,F24⟩:=h24
 have b24:=F24.binds (ps:=["_law_solid_here"]) fun _ _ _ _ _ _ us hl=>match us,hl with | [_],_=>rfl
 obtain ⟨f25,d25,a25,F25⟩:=h25
 have b25:=F25.binds (ps:=["solid"]) fun _ _ _ _ _ _ us hl=>match us,hl with | [_],_=>rfl
 obtain ⟨f26,d26,a26,F26⟩:=h26
 have b26:=F26.binds (ps:=["_law_solid_here", "_law_due_here"]) fun _ _ _ _ _ _ us hl=>match us,hl with | [_,_],_=>rfl
 obtain ⟨f27,d27,a27,F27⟩:=h27
 have b27:=F27.binds (ps:=["_law_solid_here"]) fun _ _ _ _ _ _ us hl=>match us,hl with | [_],_=>rfl
 have F28:=qcC (st:=Tq28) l28 c28 k28
 have z_dict:=VB X G z0
 have z_enumerate:=VB X G z1
 have z_sorted:=VB X G z2
 have z_min:=VB X G z3
 have z_len:=VB X G z4
 have z_isinstance:=VB X G z5
 have z_int:=VB X G z6
 have z_bool:=VB X G z7
 have z_list:=VB X G z8
 have z_tuple:=VB X G z9
 have z_range:=VB X G z10
 have z_ValueError:=VB X G z11
 have XT:=qi9 X G xt
 have C_UNITS:yH K mg "UNITS" Zb:=⟨(.ref kc0_a0),(.ref kc0_a0),XI X G kc0,rfl,fun H S=>(.tuple (xs:=[(.ref kc0_a4),(.ref kc0_a11),(.ref kc0_a18),(.ref kc0_a25),(.ref kc0_a32),(.ref kc0_a39)]) (.inr ⟨_,_,_,kc0_h0,rfl,rfl,(show 6<=sizeLine by decide),(.cons rfl (.cons rfl (.cons rfl (.cons rfl (.cons rfl (.cons rfl .nil))))))⟩) (.cons (.tuple (xs:=[(.int (-1)),(.int (0)),(.int (0))]) (.inr ⟨_,_,_,kc0_h4,rfl,rfl,(show 3<=sizeLine by decide),(.cons ⟨_,rfl⟩ (.cons ⟨_,rfl⟩ (.cons ⟨_,rfl⟩ .nil)))⟩) (.cons (.int (-1)) (.cons (.int (0)) (.cons (.int (0)) .nil)))) (.cons (.tuple (xs:=[(.int (0)),(.int (-1)),(.int (0))]) (.inr ⟨_,_,_,kc0_h11,rfl,rfl,(show 3<=sizeLine by decide),(.cons ⟨_,rfl⟩ (.cons ⟨_,rfl⟩ (.cons ⟨_,rfl⟩ .nil)))⟩) (.cons (.int (0)) (.cons (.int (-1)) (.cons (.int (0)) .nil)))) (.cons (.tuple (xs:=[(.int (0)),(.int (0)),(.int (-1))]) (.inr ⟨_,_,_,kc0_h18,rfl,rfl,(show 3<=sizeLine by decide),(.cons ⟨_,rfl⟩ (.cons ⟨_,rfl⟩ (.cons ⟨_,rfl⟩ .nil)))⟩) (.cons (.int (0)) (.cons (.int (0)) (.cons (.int (-1)) .nil)))) (.cons (.tuple (xs:=[(.int (0)),(.int (0)),(.int (1))]) (.inr ⟨_,_,_,kc0_h25,rfl,rfl,(show 3<=sizeLine by decide),(.cons ⟨_,rfl⟩ (.cons ⟨_,rfl⟩ (.cons ⟨_,rfl⟩ .nil)))⟩) (.cons (.int (0)) (.cons (.int (0)) (.cons (.int (1)) .nil)))) (.cons (.tuple (xs:=[(.int (0)),(.int (1)),(.int (0))]) (.inr ⟨_,_,_,kc0_h32,rfl,rfl,(show 3<=sizeLine by decide),(.cons ⟨_,rfl⟩ (.cons ⟨_,rfl⟩ (.cons ⟨_,rfl⟩ .nil)))⟩) (.cons (.int (0)) (.cons (.int (1)) (.cons (.int (0)) .nil)))) (.cons (.tuple (xs:=[(.int (1)),(.int (0)),(.int (0))]) (.inr ⟨_,_,_,kc0_h39,rfl,rfl,(show 3<=sizeLine by decide),(.cons ⟨_,rfl⟩ (.cons ⟨_,rfl⟩ (.cons ⟨_,rfl⟩ .nil)))⟩) (.cons (.int (1)) (.cons (.int (0)) (.cons (.int (0)) .nil)))) .nil)))))))⟩
 have C_CROWD:yH K mg "CROWD" jo:=⟨(.int (4)),(.int (4) kc1_t0),XI X G kc1,⟨_,rfl⟩,fun H S=>(.int (4))⟩
 refine ⟨Us "law" "law" (Zq Tq28) (zK Tq28) (qj Tq28) .none kV28 dc28 pm28 an28 cd28 ct28,fun s v=>.of_eq rfl,fun base _ _=>?_⟩
 have b28:=F28.binds (ps:=["_law_script"]) fun _ _ _ _ _ _ us hl=>match us,hl with | [_],_=>rfl
 have I_Crowded:=qeK l.prog w base X G hi_Crowded
 have K_numbers_of:=qaU l.prog w base F0 (g a0) b0 z_dict z_enumerate
 have K_added:=qib l.prog w base F1 (g a1) b1
 have K_negated:=qeT l.prog w base F2 (g a2) b2
 have K_axis_of:=qeQ l.prog w base F3 (g a3) b3
 have K_around:=qgd l.prog w base F4 (g a4) b4 K_added z_sorted C_UNITS
 have K_edges_of:=qcI l.prog w base F5 (g a5) b5 K_around K_axis_of
 have K_squares_at:=qaW l.prog w base F6 (g a6) b6 K_around
 have K_middle_of:=qbN l.prog w base F7 (g a7) b7
 have K_cube_of:=qeS l.prog w base F8 (g a8) b8
 have K_cubes_at:=qcH l.prog w base F9 (g a9) b9 K_axis_of K_cube_of z_enumerate
 have K_skin_of:=qeU l.prog w base F10 (g a10) b10 K_added K_middle_of z_sorted C_UNITS
 have K_edge_counts:=Ww l.prog w base F11 (g a11) b11 K_edges_of
 have K_outward_from:=wV l.prog w base F12 (g a12) b12 K_cubes_at K_added K_negated K_middle_of
 have K_crowded:=qeR l.prog w base F13 (g a13) b13 K_edge_counts K_skin_of z_min C_CROWD
 have K_bend_over:=qbM l.prog w base F14 (g a14) b14 K_added K_negated K_outward_from
 have K__law_cell_at:=wR l.prog w base F15 (g a15) b15 z_len
 have K__law_whole:=qaT l.prog w base F16 (g a16) b16 z_isinstance z_int z_bool
 have K__law_spots:=qaS l.prog w base F17 (g a17) b17 K__law_whole z_isinstance z_list z_tuple z_len
 have K__law_base:=qbJ l.prog w base F18 (g a18) b18
 have K__law_solid:=qaR l.prog w base F19 (g a19) b19 z_tuple z_range z_list z_len z_sorted
 have K__law_skin:=qbL l.prog w base F20 (g a20) b20 z_list z_tuple z_range z_sorted
 have K__law_near:=qbK l.prog w base F21 (g a21) b21 z_list z_tuple z_sorted
 have K__law_met:=qcG l.prog w base F22 (g a22) b22 K__law_near z_range z_len
 have K__law_kinds:=qaP l.prog w base F23 (g a23) b23 z_isinstance z_ValueError XT
 have K__law_due:=qcF l.prog w base F24 (g a24) b24 K__law_met K__law_skin z_sorted z_len
 have K_skin_joins:=qaV l.prog w base F25 (g a25) b25 K_crowded K_skin_of K_numbers_of K_squares_at K_bend_over K_edge_counts z_sorted I_Crowded
 have R_skin_joins:=qa5 l.prog w base F25 (g a25) b25 K_crowded K_skin_of K_numbers_of K_squares_at K_bend_over K_edge_counts z_sorted I_Crowded
 have K__law_refused:=wU l.prog w base F26 (g a26) b26 K_skin_joins K__law_kinds K__law_spots xf_edge XT R_skin_joins
 have K__law_right:=qaQ l.prog w base F27 (g a27) b27 K__law_due K_crowded K_skin_joins K__law_spots K__law_refused z_list z_isinstance
 exact qgi (qkg l.prog w base F28 K__law_base K__law_cell_at K__law_solid K__law_right I_Crowded xf_edge XT) qeV
end SF
open PySem PySem.W PyProof.Rows
set_option maxRecDepth 100000 in
set_option maxHeartbeats 0 in
theorem PySem.Challenge.cw_sheetfold_k23_crowded_edges_holds : PySem.Challenge.rw_sheetfold_k23_crowded_edges.Holds := by
 w_on;o_law
 refine PySem.W.holds_open (q:=HD.vw) (YP:=(PySem.W.kHook HD.KH HD.kA HD.kE).says) HD.left (PySem.W.Hook.of _) (PySem.W.Hook.keeps _) (fun s e=>PySem.W.xl_of s (NK.mp e).1) PySem.W.XL.keeps (by rfl) (by rfl) (by rfl) (fun s e=>PySem.W.recFacts_of (NK.mp e).2) (by rfl) (by first|assumption|decide +kernel) (by decide +kernel) ⟨rfl,rfl,rfl,rfl,rfl,by decide +kernel⟩ ?hw ?hc
 case hw=>w_witness2
 k_fill
 refine L2.qfn (l:=PySem.Challenge.rw_sheetfold_k23_crowded_edges) (n:=63) (k:=9) (x := "_law_script") rfl (by decide) rfl ⟨rfl,by decide,by decide,rfl⟩ (fun w h Y=>PySem.W.kIn_of Y) ?F
 case F =>
  intro w mg fa h KX G hmg
  refine' SF.qjy KX G hmg ?_ ?_ ?_ ?_ ?_ ?_ ?_ ?_ ?_ ?_ ?_ ?_ ?_ ?_ ?_ ?_ ?_ ?_ ?_ ?_ ?_ ?_ ?_ ?_ ?_ ?_ ?_ ?_ ?_ ?_ ?_ ?_ ?_ ?_ ?_ ?_ ?_ ?_ ?_ ?_ ?_ ?_ ?_ ?_ ?_ ?_ ?_ ?_ ?_ ?_ ?_ ?_ ?_ ?_ ?_ ?_
  all_goals try first|k_is|exact L2.FnK.of (by k_is) (by k_is) (by k_is) (by k_is)|exact L2.IniF.of (by k_is) (by k_is) (by k_is) (by k_is) (by k_is) (by k_is) (by kernel_rfl)|kernel_rfl
