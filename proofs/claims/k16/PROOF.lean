import PyProof.Rows.All
import KE.IntBitsLaws
import KE.KIsAll
import KE.KSortTup
import KE.KRevIter
import KE.LcSums
import Lean
import PyProof.EqAt
import PyProof.EqKinds
import PyProof.TupleCall
import PySem.Challenge.RW_sheetfold_k16_folded_from_elsewhere
set_option Elab.async false
set_option linter.all false
set_option maxRecDepth 100000
open PySem renaming starEach→af,wpAny→ai,mainGlobals→aj,sizeLine→ak,wpAny_loadPart'→aq,compareOp→au,bootBuiltins→aw,foldedSetIterable→az,backTo→aA,assignEach→aB,NameKind→aE,binaryOp→aF,attributeBase→aG,cellsFrom→aH,cLine→aI,swapsWith→aK,pushCells→aO,richCompare→aP,keywordEach→aQ,codeAny→aT,sysModules→aV,behindInMarks→aW,sliceBounds→aX,seqItems?→aY,backToKw→aZ,rawInt→be,pyNext→bh,letOwnedTupleGo→bj,seqIndex?→bu,firstArgMember→bw,hashInt→bz,intKind→bA,swapsWithSole→bB,swappedStores→bC,wpAny_comprehension_free→bD,eqIsQuiet→bF,standAt→bG,reduceHash→bI
open PyProof.Rows renaming seqObj→aJ,envOfC→bg,IsTup→bE,subscriptTail_builtinR→bH
abbrev ab:=@decide_eq_false
abbrev ae:=@decide_eq_true
abbrev ag:=@if_pos
abbrev ah:=@if_neg
abbrev ao:=@of_decide_eq_true
abbrev ar:=@beq_eq_false_iff_ne
abbrev aD:=@decide_eq_true_eq
abbrev aL:=@beq_self_eq_true
abbrev aM:=@if_false
abbrev aR:=@if_true
abbrev aS:=@beq_iff_eq
abbrev aU:=@or_false
open PySem renaming PyData→Ka,wpAny_bind→Kc,Value→Kd,Addr→Ke,Shared→Kh,wpAny_pure→Kn,Expr→KD,Program→KJ,Stmt→KS,Heap→KU,Around→KY,World→K1,boot_len→Vc,wpAny_newObj_type→Vv,FuncData→VD,Paired→VO,wpAny_holding→V2,wpAny_call_entry→V6,Scope→Ua,wpAny_truthy_bool→Ub,mem_of_lookup→Uj,ReadsAll→Uk,plainId_quiet→Ur,wpAny_seqItems→Ut,codeAny_builtin→Uy,wpAny_mono→UE,Keyword→UJ,wpAny_field→UM,wpAny_typeNameOfWhole_itemiter→UO,Builtin→UP,wpAny_callSpecial?_slot→US,wpAny_tryCatch→UV,Reads→UY,wpAny_letGo→U0,IsItemIter→U1,wpAny_Call_Name_kw→U3,wpAny_passesOwn→U7,wpAny_updateSeq→U8,wpAny_typeNameOf_itemiter→Xf,sizeLine_eq→Xh,DictEntry→Xn,wpAny_specialOf→Xr,wpAny_pyIter_tuple→Xt,wpAny_setField_rec→Xv,wpAny_ite_split→Xw,wpAny_isOneOf_itemiter→Xz,wpAny_forIn_list→XJ,intKind_is→X8,richCompare_meets_room→Nf,wpAny_execs_nil→Ny,codeAny_call_builtin→NB,IntMulOk→NR,wpAny_fieldsOf→NT,wpAny_newList→N9,wpAny_dictEntries→Ei,call_meets→Ek,NameKind→En,concat_meets→Eo,noFill_tuple_add→Ep,wpAny_isInstance→Et,PassesOwn→EE,pushCells_keeps→EH,wpAny_dictEpoch→EI,wpAny_of_eq→EL,wpAny_newTuple→EU,intBits_le_iff→EV,wpAny_setField→EX,evalArgs_none→Fc
open PySem.W renaming Frag→Kb,nsIn→KO,kia_one→Vn,findIn→Vw,keepIn→Vx,mg_none_of→Vy,kitOne→VC,emptyDict→VQ,instObj→V4,fnOf→Ue,codeIn→UI,mroIn→Xl,kas_rev→Xm,mg_of→Ni,plainGet→Nj,kas_desc→Nq,makesIn→Nz,kas_descPart→NL,lookIn→NP,looks_findIn→NQ,methodObj→Eb,specialIn→Ec,kitx_list→Ed,kitx_dict→Ee,OpenLaw→Ef,Looks→Em,kas_sort→Eu,takesIn→EF,cellsFrom_some→EJ,plainGet_of→Fb,isFn→Fd,kitx_tuple→Fe,callWith_K→Ff,hasDictIn→Fk,plainOver→Fl,kitx_none→Fm,kitx_bool→Fn
open List renaming length_map→Kf,getElem?_eq_some_iff→Kk,getElem?_eq_getElem→Kl,length_append→Km,mem_cons→Kr,map_cons→Kt,length_singleton→Ku,getElem?_map→Kw,map_append→Kx,mem_singleton→Ky,length_cons→Kz,size_toArray→KA,range→KG,getElem?_append_left→KL,mem_of_getElem?→KN,mem_append_right→KP,mem_map→KQ,all_eq_true→K4,map_map→K6,mem_append→K8,mem_append_left→Va,getElem?_append_right→Vb,getElem?_set_self→Vd,replicate→Vf,length_range→Vh,lookup_cons→Vr,mem_cons_of_mem→Vu,find?_cons→VB,length_replicate→VE,mem_cons_self→VH,append_nil→VL,length_set→VM,not_mem_nil→VN,map_nil→VR,getElem?_set_ne→VS,drop_eq_getElem_cons→VT,getElem?_of_mem→VV,getElem?_eq_none→V0,getD_eq_getElem?_getD→V3,length_nil→V5,filterMap_cons→V8,map_congr_left→V9,length_take→Uq,getElem?_replicate→Uu,reverse_cons→Uw,append_assoc→Ux,mem_filterMap→UH,mem_of_find?_eq_some→UL,nodup_append→UQ,any_cons→UR,mem_range→UT,filterMap_nil→U6,pairwise_map→Xb,length_filterMap_le→Xj,getElem?_range→Xk,nodup_cons→Xo,zip_cons_cons→Xu,find?_eq_none→Xx,length→Xy,length_drop→XI,getElem_mem→XM,length_reverse→XS,getElem?_zip_eq_some→XU,nil_append→XW,getElem?_take_of_lt→XZ,all_map→X6,nodup_nil→X7,drop_eq_nil_of_le→Ng,findIdx?_eq_some_iff_getElem→Nh,drop_length→Nl,eraseIdxIfInBounds_toArray→Nu,mem_filter→Nx,length_zip→NI,find?_some→NK,Nodup→NM,replicate_succ→NO,lookup→NV,zip_nil_right→NZ,zip_nil_left→Eh,ext_getElem?→Ej,getElem?_eq_none_iff→El,idxOf_lt_length_iff→EB,getLast?_cons_cons→ED,of_mem_zip→EG,map_id→EN,take_of_length_le→EO,set_append_right→ET,filterMap_append→EY,countP_le_length→EZ,mem_of_mem_take→E3,map_take→E9
open PySem.Str renaming ofString→Kg
open PySem.Heap renaming get?_push_of_some→Ki,get?_push_size→Kv,lt_size→KF,get?_update_other→K3,size_push→Vp,SameBut→UA,get?_update_self→UK
open PySem.PyData renaming int→Kj,canLayAll0→Kp,eqv→Ks,depthAll→KC,canLay0→KM,tuple→Vi,list→Vk,bool→UC,depth→UD,dict→ER
open Option renaming none→Ko,some→K9,map_eq_some_iff→XA,isSome_some→Fg
open Nat renaming le_refl→Kq,ne_of_lt→KW,lt_of_lt_of_le→KZ,le_trans→Vg,zero_le→Vj,lt_succ_of_lt→Vm,le_of_lt→VP,lt_irrefl→Ud,ne_of_gt→UB,lt_succ_self→UF,le_succ→UN,not_lt_zero→U9,sub_self→XE,le_succ_of_le→Nc,le_max_right→Nn,min_le_left→NA,le_max_left→NG,add_assoc→N7,succ_le_succ→Er,lt_trans→Es,succ_ne_self→Ey,add_comm→Fh,zero_add→Fi,lt_or_ge→Fj
open PySem.Pos renaming mk→KB
open Bool renaming and_eq_true→KI,false→VA,false_ne_true→VI,false_eq_true→VJ,true→Ug,eq_iff_iff→Xs,false_or→XO,or_eq_true→NC,true_or→NH,eq_false_iff→Eg,and_eq_true_iff→E4,not_true→E5
open Array renaming length_toList→KR,getElem?_eq_getElem→VU,getElem?_toList→Um,getElem?_eq_none→UZ,mem_toList_iff→XH,getElem_toList→NF,getElem?_eq_some_iff→Ea
open PySem.Expr renaming Name→K0,Call→U2,Constant→XN,Subscript→ES
open PySem.SeqAt renaming canLay_of_shaped→K5,shaped→K7,readOf→X5,eqAt_reads→Nk
open PySem.Value renaming ref→Ve,type→Vs,bool→Vt,none→VF,builtin→VX,str→Nr,notImplemented→ND,int→NW
open Int renaming toNat_natCast→Vl,emod_nonneg→XX,emod_lt_of_pos→N2,natCast_nonneg→N3,reduceSub→E7,reduceBEq→E8
open PySem.PassesOwn renaming never→Vo
open PySem.NameKind renaming free→Vq,cell→VZ,globalImplicit→V1
open PySem.Builtin.Int renaming intBits→Vz
open PySem.Builtin.Tuple renaming tupleHashOf→VG,tupleExact→Xi,tupleCompareSizes→Nv,tupleItemsOf→N6
open PySem.Obj renaming mk→VW,mapSeq→Uc
open Option.some renaming inj→VY
open PySem.F renaming slot_dict_itemiterator_next→V7,plainAttrs_list→Uv,plain_min_loop→UU,plain_max_loop→UW,slot_tuple_iterator_next→Xa,slot_list_append→Xp,slot_tuple_hash→XB,args_tuple_add_2→X2,slot_list_pop→X3,type_list_append→X4,entry_tuple_add→Nb,slot_tuple_add→Nd,typeOf_object_class→Nt,args_dict_itemiterator_next_1→Nw,entry_dict_itemiterator_next→NJ,slot_dict_itemiterator_iter→NN,args_tuple_iterator_next_1→NS,entry_tuple_iterator_next→N0,slot_tuple_index→Ew,entry_min_loop→Ex,entry_max_loop→Ez,slot_list_index→EC,type_list_pop→EW,slot_dict_items→E2,slot_gs_get→E6
open PyProof.Rows renaming callWith_type1→Uh,slot_tuple_getitem→UX,AllBare→XR,listUpdate_at→N8,seqEpoch_at→EK
open PySem.Around renaming under_plainId→Ui
open Ne renaming symm→Ul
open PySem.ScopeKind renaming function→Uo
open True renaming intro→Us
open PySem.Data renaming fields→Uz,func→XF,dict→XY,cls→E1
open PySem.FuncBody renaming stmts→UG
open PySem.Builtin.Builtins renaming bindParams→U4
open PySem.Builtin.List renaming listExtendWith→U5,listLengthHint→N1,listSameRef→EA,listItems→EM
open False renaming elim→Xc
open PySem.Builtin.Slice renaming slicePlaces→Xd,sliceAdjust→XT,sliceApplied→N5
open PySem.Builtin.SmallTypes renaming nextOf→Xe
open PySem.FuncData renaming mk→Xg
open ForInStep renaming yield→Xq
open PySem.Arguments renaming mk→XC
open PySem.Builtin.Dict_items renaming ownsTuple→XD,ownedTupleFields→X9,ownedTupleIsFree→Na,pairFromOwner→Np
open PySem.W.Fast renaming tw14364793385576792824→XG,tw14082659384304107361→NX,te14364793385576792824→NY,tw1435165496053646825→N4
open PySem.Stmt renaming Return→XQ,Assign→NU
set_option hygiene false in
local macro_rules
|`('#')=>`((by decide))
|`('$')=>`((by omega))
|`('%')=>`((by decide +kernel))
|`('&')=>`(Rho->Option Ka)
|`('(')=>`(List Ka)
|`(')')=>`((kd (.int 0)))
namespace HD
open PySem PySem.W PySem.Calls PyProof.Rows
noncomputable def vw:KJ:=view PySem.Challenge.pw_sheetfold_k16_folded_from_elsewhere [1,2,4,5,6,7,8,10,11,12,13,14,15,16,18,20,21,22,23,24,25,26,28,29,30,32,33,34,36,37,39,40,41,42,43,44,45,46,47,48,49,50,51,52,53,54,55,56,57,58,59]
noncomputable def tp (i:Nat):KS:=PySem.Challenge.pw_sheetfold_k16_folded_from_elsewhere.main.body.getD i (.Pass ⟨0,0,0,0⟩)
noncomputable def dA:KS->Arguments
 | .FunctionDef _ a _ _ _ _ _ _ _ _=>a
 | _=>default
noncomputable def dB:KS->List KS
 | .FunctionDef _ _ b _ _ _ _ _ _ _=>b
 | _=>[]
noncomputable def dS:KS->Ua
 | .FunctionDef _ _ _ _ _ _ s _ _ _=>s
 | _=>default
noncomputable abbrev de (P:Params)(x:String)(t:Nat)(v:Kd):Xn:=DictEntry.mk (PyData.keyHash P (Kg x)) (Nr (Kg x) t) v
noncomputable abbrev S (x:String)(t:Nat):Kd:=Nr (Kg x) t
noncomputable abbrev I (n:Int)(t:Nat):Kd:=NW n t
noncomputable abbrev R (a:Ke):Kd:=Ve a
noncomputable abbrev Y (x:String):Kd:=Vs x
noncomputable abbrev N:Kd:=VF
noncomputable abbrev tu (a:Array Kd):Obj:=VW (Vs "tuple") Ko (Data.seq a) #[]
noncomputable abbrev cc (x:String)(t1 t2 t3:Nat)(l n:Int)(a1:Ke)(k:Int)(a2:Ke)(u v:Kd)(a3:Ke)(t4:Int)(t5:Nat):Obj:=VW (Vs "code") Ko (Uz #[S x t1,S x t2,S "/claim/cut.py" t3,I l 0,I n 0,I 0 0,I 0 0,I 3 0,R a1,Vt Ug,I k 0,R a2,N,u,v,R a3,I t4 0,I l 0,S "/claim/cut.py" t5]) #[]
noncomputable abbrev xc (x:String)(e a d b:Ke)(t u:Nat):Obj:=VW (Y "type") Ko (E1 (ClassData.mk (Kg x) [R e] [R a,R e,Y "ValueError", Y "Exception", Y "BaseException", Y "object"] d (Kg x) Ug [] [] VA Ko VA)) #[K9 (R b),Ko,K9 (S x t),K9 (S x u),K9 (VX "ValueError.__new__"),K9 (Vt Ug)]
noncomputable abbrev xd (P:Params)(t1 t2 t3:Nat)(l:Int)(t4 t5:Nat)(a:Ke)(t6:Nat):Obj:=VW (Y "dict") Ko (XY #[de P "__module__" t1 (S "sheetfold.errors" t2),de P "__firstlineno__" t3 (I l t4),de P "__static_attributes__" t5 (R a),de P "__doc__" t6 N] 2) #[]
noncomputable abbrev fu (x:String)(i:Nat)(m:String)(t:Nat)(c:Ke):Obj:=VW (Vs "function") Ko (XF (Xg (Kg x) (Kg x) (dA (tp i)) (UG (dB (tp i))) (dS (tp i)) 3 [] N N N (S m t) Ko (R c) N 0)) #[]
set_option maxHeartbeats 0 in
noncomputable def KH:Params->Kb:=λP =>
(nat_lit 2,VW N Ko (XY #[]) #[]) ::
(nat_lit 3,VW (Y "dict") Ko (XY #[de P "__name__" 165 (S "law_sheetfold_k16_folded_from_elsewhere" 569),de P "__doc__" 166 N,de P "__package__" 167 N,de P "__loader__" 168 (VX "__main__.__loader__#opaque"),de P "__spec__" 169 N,de P "__annotations__" 170 (R 6),de P "__builtins__" 171 (R 4),de P "__file__" 173 (S "/claim/cut.py" 172),de P "__cached__" 174 N,de P "SheetError" 206 (R 24),de P "NoBend" 222 (R 37),de P "links_of" 230 (R 44),de P "reached_from" 242 (R 51),de P "first_meeting" 252 (R 58),de P "path_back" 261 (R 65),de P "path_between" 272 (R 72),de P "is_whole" 281 (R 79),de P "added" 289 (R 86),de P "negated" 296 (R 93),de P "cross" 304 (R 100),de P "turned" 310 (R 105),de P "joined_turns" 318 (R 112),de P "turn_back" 324 (R 117),de P "out_of" 333 (R 124),de P "BENDS" 340 (R 125),de P "unit_of" 348 (R 132),de P "Join" 398 (R 163),de P "Up" 430 (R 191),de P "Down" 462 (R 217),de P "is_bend" 469 (R 226),de P "join_of" 476 (R 233),de P "STEPS" 489 (R 238),de P "step_between" 497 (R 245),de P "neighbours" 511 (R 252),de P "START" 523 (R 256),de P "steps_of" 535 (R 263),de P "led_by" 543 (R 270),de P "folded" 550 (R 276),de P "poses_along" 562 (R 283),de P "clash_or_folded" 568 (R 288),de P "_law_cell" 578 (R 295),de P "_law_whole" 585 (R 302),de P "_law_cross" 599 (R 309),de P "_law_dot" 607 (R 316),de P "_law_sum" 616 (R 323),de P "_law_unit" 624 (R 330),de P "_law_led" 639 (R 337),de P "_law_pose" 645 (R 342),de P "_law_is_spot" 651 (R 347),de P "_law_is_pose" 657 (R 352),de P "_law_neighbour" 665 (R 359),de P "_law_joined" 671 (R 364),de P "_law_grown" 689 (R 371),de P "_law_sheet" 695 (R 376),de P "_law_near" 701 (R 381),de P "_law_walked" 707 (R 386),de P "_law_seen_from" 713 (R 391),de P "_law_ring" 724 (R 398),de P "_law_all_poses" 730 (R 403),de P "_law_moved_well" 742 (R 410),de P "law" 748 (R 415)] 61) #[]) ::
(nat_lit 15,tu #[Y "ValueError"]) ::
(nat_lit 22,tu #[]) ::
(nat_lit 23,VW (Y "dict") Ko (XY #[de P "__module__" 196 (S "sheetfold.errors" 187),de P "__firstlineno__" 200 (I 2 199),de P "__static_attributes__" 201 (R 22),de P "__weakref__" 203 (R 25),de P "__doc__" 204 N] 3) #[]) ::
(nat_lit 24,VW (Y "type") Ko (E1 (ClassData.mk (Kg "SheetError") [Y "ValueError"] [R 24,Y "ValueError", Y "Exception", Y "BaseException", Y "object"] 23 (Kg "SheetError") Ug [] [R 37] VA Ko VA)) #[K9 (R 15),Ko,K9 (S "SheetError" 189),K9 (S "SheetError" 197),K9 (VX "ValueError.__new__"),K9 (Vt Ug)]) ::
(nat_lit 25,VW (Y "getset_descriptor") Ko (Uz #[S "__weakref__" 202,R 24,VX "ExceptionGroup.__weakref__", N]) #[]) ::
(nat_lit 28,tu #[R 24]) ::
(nat_lit 35,tu #[]) ::
(nat_lit 36,xd P 214 187 218 4 217 219 35 220) ::
(nat_lit 37,xc "NoBend" 24 37 36 28 207 215) ::
(nat_lit 40,tu #[]) ::
(nat_lit 43,cc "links_of" 225 226 227 7 2 40 181 41 N N 42 228 229) ::
(nat_lit 44,fu "links_of" 4 "sheetfold.hanging" 223 43) ::
(nat_lit 45,tu #[]) ::
(nat_lit 47,tu #[S "start" 234,S "links" 235,S "origins" 236,S "waiting" 237,S "k" 238,S "j" 239]) ::
(nat_lit 48,tu #[]) ::
(nat_lit 50,cc "reached_from" 231 232 233 13 2 45 181 46 (R 47) (R 48) 49 240 241) ::
(nat_lit 51,fu "reached_from" 5 "sheetfold.hanging" 223 50) ::
(nat_lit 52,tu #[]) ::
(nat_lit 54,tu #[S "things" 246,S "numbers" 247,S "j" 248,S "thing" 249]) ::
(nat_lit 55,tu #[]) ::
(nat_lit 57,cc "first_meeting" 243 244 245 23 1 52 181 53 (R 54) (R 55) 56 250 251) ::
(nat_lit 58,fu "first_meeting" 6 "sheetfold.hanging" 223 57) ::
(nat_lit 59,tu #[]) ::
(nat_lit 61,tu #[S "origins" 256,S "k" 257,S "path" 258]) ::
(nat_lit 62,tu #[]) ::
(nat_lit 64,cc "path_back" 253 254 255 30 2 59 181 60 (R 61) (R 62) 63 259 260) ::
(nat_lit 65,fu "path_back" 7 "sheetfold.hanging" 223 64) ::
(nat_lit 66,tu #[]) ::
(nat_lit 68,tu #[S "origins" 265,S "i" 266,S "j" 267,S "there" 268,S "back" 269]) ::
(nat_lit 69,tu #[]) ::
(nat_lit 71,cc "path_between" 262 263 264 36 3 66 181 67 (R 68) (R 69) 70 270 271) ::
(nat_lit 72,fu "path_between" 8 "sheetfold.hanging" 223 71) ::
(nat_lit 73,tu #[]) ::
(nat_lit 75,tu #[S "thing" 278]) ::
(nat_lit 76,tu #[]) ::
(nat_lit 78,cc "is_whole" 275 276 277 44 1 73 181 74 (R 75) (R 76) 77 279 280) ::
(nat_lit 79,fu "is_whole" 10 "sheetfold.turns" 273 78) ::
(nat_lit 80,tu #[]) ::
(nat_lit 82,tu #[S "one" 285,S "other" 286]) ::
(nat_lit 83,tu #[]) ::
(nat_lit 85,cc "added" 282 283 284 46 2 80 181 81 (R 82) (R 83) 84 287 288) ::
(nat_lit 86,fu "added" 11 "sheetfold.turns" 273 85) ::
(nat_lit 87,tu #[]) ::
(nat_lit 89,tu #[S "spot" 293]) ::
(nat_lit 90,tu #[]) ::
(nat_lit 92,cc "negated" 290 291 292 48 1 87 181 88 (R 89) (R 90) 91 294 295) ::
(nat_lit 93,fu "negated" 12 "sheetfold.turns" 273 92) ::
(nat_lit 94,tu #[]) ::
(nat_lit 96,tu #[S "one" 300,S "other" 301]) ::
(nat_lit 97,tu #[]) ::
(nat_lit 99,cc "cross" 297 298 299 50 2 94 181 95 (R 96) (R 97) 98 302 303) ::
(nat_lit 100,fu "cross" 13 "sheetfold.turns" 273 99) ::
(nat_lit 101,tu #[]) ::
(nat_lit 104,cc "turned" 305 306 307 52 2 101 181 102 N N 103 308 309) ::
(nat_lit 105,fu "turned" 14 "sheetfold.turns" 273 104) ::
(nat_lit 106,tu #[]) ::
(nat_lit 108,tu #[S "first" 314,S "second" 315]) ::
(nat_lit 109,tu #[]) ::
(nat_lit 111,cc "joined_turns" 311 312 313 54 2 106 181 107 (R 108) (R 109) 110 316 317) ::
(nat_lit 112,fu "joined_turns" 15 "sheetfold.turns" 273 111) ::
(nat_lit 113,tu #[]) ::
(nat_lit 116,cc "turn_back" 319 320 321 56 1 113 181 114 N N 115 322 323) ::
(nat_lit 117,fu "turn_back" 16 "sheetfold.turns" 273 116) ::
(nat_lit 118,tu #[]) ::
(nat_lit 120,tu #[S "pose" 330]) ::
(nat_lit 121,tu #[]) ::
(nat_lit 123,cc "out_of" 327 328 329 59 1 118 181 119 (R 120) (R 121) 122 331 332) ::
(nat_lit 124,fu "out_of" 18 "sheetfold.moves" 325 123) ::
(nat_lit 125,tu #[I (-1) 337,I 0 338,I 1 339]) ::
(nat_lit 126,tu #[]) ::
(nat_lit 128,tu #[S "pose" 344,S "way" 345]) ::
(nat_lit 129,tu #[]) ::
(nat_lit 131,cc "unit_of" 341 342 343 63 2 126 181 127 (R 128) (R 129) 130 346 347) ::
(nat_lit 132,fu "unit_of" 21 "sheetfold.joins" 334 131) ::
(nat_lit 140,tu #[]) ::
(nat_lit 142,tu #[S "self" 364]) ::
(nat_lit 143,tu #[]) ::
(nat_lit 145,VW (Y "code") Ko (Uz #[S "bend" 361,S "Join.bend" 362,S "/claim/cut.py" 363,I 67 0,I 1 0,I 0 0,I 0 0,I 3 0,R 140,Vt Ug,I 181 0,R 141,N,R 142,R 143,R 144,I 365 0,I 67 0,S "/claim/cut.py" 366]) #[]) ::
(nat_lit 146,VW (Y "function") Ko (XF (Xg (Kg "bend") (Kg "Join.bend") (XC [] [Arg.mk (Kg "self") Ko (KB 67 13 67 17)] Ko [] [] Ko []) (UG [XQ (K9 (XN (Const.int 0) 0 (KB 68 15 68 16))) (KB 68 8 68 16)]) (Scope.mk Uo [(Kg "self", aE.local)] VA VA []) 3 [] N N N (S "sheetfold.joins" 334) Ko (R 145) N 0)) #[]) ::
(nat_lit 147,tu #[]) ::
(nat_lit 149,tu #[S "self" 371,S "unit" 372,S "out" 373]) ::
(nat_lit 150,tu #[]) ::
(nat_lit 152,VW (Y "code") Ko (Uz #[S "goes_on" 368,S "Join.goes_on" 369,S "/claim/cut.py" 370,I 70 0,I 3 0,I 0 0,I 0 0,I 3 0,R 147,Vt Ug,I 181 0,R 148,N,R 149,R 150,R 151,I 374 0,I 70 0,S "/claim/cut.py" 375]) #[]) ::
(nat_lit 153,VW (Y "function") Ko (XF (Xg (Kg "goes_on") (Kg "Join.goes_on") (XC [] [Arg.mk (Kg "self") Ko (KB 70 16 70 20),Arg.mk (Kg "unit") Ko (KB 70 22 70 26),Arg.mk (Kg "out") Ko (KB 70 28 70 31)] Ko [] [] Ko []) (UG [XQ (K9 (K0 (Kg "unit") (KB 71 15 71 19))) (KB 71 8 71 19)]) (Scope.mk Uo [(Kg "self", aE.local),(Kg "unit", aE.local),(Kg "out", aE.local)] VA VA []) 3 [] N N N (S "sheetfold.joins" 334) Ko (R 152) N 0)) #[]) ::
(nat_lit 154,tu #[]) ::
(nat_lit 156,tu #[S "self" 380,S "pose" 381,S "way" 382,S "unit" 383,S "out" 384,S "edge" 385,S "beyond" 386,S "turn" 387]) ::
(nat_lit 157,tu #[]) ::
(nat_lit 159,VW (Y "code") Ko (Uz #[S "led" 377,S "Join.led" 378,S "/claim/cut.py" 379,I 73 0,I 3 0,I 0 0,I 0 0,I 3 0,R 154,Vt Ug,I 181 0,R 155,N,R 156,R 157,R 158,I 388 0,I 73 0,S "/claim/cut.py" 389]) #[]) ::
(nat_lit 160,VW (Y "function") Ko (XF (Xg (Kg "led") (Kg "Join.led") (XC [] [Arg.mk (Kg "self") Ko (KB 73 12 73 16),Arg.mk (Kg "pose") Ko (KB 73 18 73 22),Arg.mk (Kg "way") Ko (KB 73 24 73 27)] Ko [] [] Ko []) (UG [NU [K0 (Kg "unit") (KB 74 8 74 12)] (U2 (K0 (Kg "unit_of") (KB 74 15 74 22)) [K0 (Kg "pose") (KB 74 23 74 27),K0 (Kg "way") (KB 74 29 74 32)] [] (KB 74 15 74 33)) (KB 74 8 74 33),NU [K0 (Kg "out") (KB 75 8 75 11)] (U2 (K0 (Kg "out_of") (KB 75 14 75 20)) [K0 (Kg "pose") (KB 75 21 75 25)] [] (KB 75 14 75 26)) (KB 75 8 75 26),NU [K0 (Kg "edge") (KB 76 8 76 12)] (U2 (K0 (Kg "cross") (KB 76 15 76 20)) [K0 (Kg "unit") (KB 76 21 76 25),K0 (Kg "out") (KB 76 27 76 30)] [] (KB 76 15 76 31)) (KB 76 8 76 31),NU [K0 (Kg "beyond") (KB 77 8 77 14)] (U2 (Expr.Attribute (K0 (Kg "self") (KB 77 17 77 21)) (Kg "goes_on") (KB 77 17 77 29)) [K0 (Kg "unit") (KB 77 30 77 34),K0 (Kg "out") (KB 77 36 77 39)] [] (KB 77 17 77 40)) (KB 77 8 77 40),NU [K0 (Kg "turn") (KB 78 8 78 12)] (U2 (K0 (Kg "joined_turns") (KB 78 15 78 27)) [U2 (K0 (Kg "turn_back") (KB 78 28 78 37)) [Expr.Tuple [K0 (Kg "unit") (KB 78 39 78 43),K0 (Kg "out") (KB 78 45 78 48),K0 (Kg "edge") (KB 78 50 78 54)] 0 (KB 78 38 78 55)] [] (KB 78 28 78 56),Expr.Tuple [K0 (Kg "beyond") (KB 78 59 78 65),U2 (K0 (Kg "cross") (KB 78 67 78 72)) [K0 (Kg "edge") (KB 78 73 78 77),K0 (Kg "beyond") (KB 78 79 78 85)] [] (KB 78 67 78 86),K0 (Kg "edge") (KB 78 88 78 92)] 0 (KB 78 58 78 93)] [] (KB 78 15 78 94)) (KB 78 8 78 94),XQ (K9 (Expr.Tuple [U2 (K0 (Kg "added") (KB 79 16 79 21)) [U2 (K0 (Kg "added") (KB 79 22 79 27)) [ES (K0 (Kg "pose") (KB 79 28 79 32)) (XN (Const.int 0) 0 (KB 79 33 79 34)) (KB 79 28 79 35),K0 (Kg "unit") (KB 79 37 79 41)] [] (KB 79 22 79 42),K0 (Kg "beyond") (KB 79 44 79 50)] [] (KB 79 16 79 51),U2 (K0 (Kg "turned") (KB 79 53 79 59)) [K0 (Kg "turn") (KB 79 60 79 64),ES (K0 (Kg "pose") (KB 79 66 79 70)) (XN (Const.int 1) 0 (KB 79 71 79 72)) (KB 79 66 79 73)] [] (KB 79 53 79 74),U2 (K0 (Kg "turned") (KB 79 76 79 82)) [K0 (Kg "turn") (KB 79 83 79 87),ES (K0 (Kg "pose") (KB 79 89 79 93)) (XN (Const.int 2) 0 (KB 79 94 79 95)) (KB 79 89 79 96)] [] (KB 79 76 79 97)] 0 (KB 79 15 79 98))) (KB 79 8 79 98)]) (Scope.mk Uo [(Kg "self", aE.local),(Kg "pose", aE.local),(Kg "way", aE.local),(Kg "unit", aE.local),(Kg "out", aE.local),(Kg "edge", aE.local),(Kg "beyond", aE.local),(Kg "turn", aE.local),(Kg "unit_of", V1),(Kg "out_of", V1),(Kg "cross", V1),(Kg "joined_turns", V1),(Kg "turn_back", V1),(Kg "added", V1),(Kg "turned", V1)] VA VA []) 3 [] N N N (S "sheetfold.joins" 334) Ko (R 159) N 0)) #[]) ::
(nat_lit 161,tu #[]) ::
(nat_lit 162,VW (Y "dict") Ko (XY #[de P "__module__" 356 (S "sheetfold.joins" 334),de P "__firstlineno__" 360 (I 65 359),de P "bend" 367 (R 146),de P "goes_on" 376 (R 153),de P "led" 390 (R 160),de P "__static_attributes__" 391 (R 161),de P "__dict__" 393 (R 164),de P "__weakref__" 395 (R 165),de P "__doc__" 396 N] 4) #[]) ::
(nat_lit 163,VW (Y "type") Ko (E1 (ClassData.mk (Kg "Join") [Y "object"] [R 163,Y "object"] 162 (Kg "Join") Ug [] [R 191,R 217] VA Ko VA)) #[Ko,Ko,K9 (S "Join" 349),K9 (S "Join" 357),K9 (VX "object.__new__"),K9 (Vt Ug)]) ::
(nat_lit 164,VW (Y "getset_descriptor") Ko (Uz #[S "__dict__" 392,R 163,VX "function.__dict__", VX "function.__dict__#set"]) #[]) ::
(nat_lit 165,VW (Y "getset_descriptor") Ko (Uz #[S "__weakref__" 394,R 163,VX "ExceptionGroup.__weakref__", N]) #[]) ::
(nat_lit 168,tu #[R 163]) ::
(nat_lit 175,tu #[]) ::
(nat_lit 177,tu #[S "self" 414]) ::
(nat_lit 178,tu #[]) ::
(nat_lit 180,VW (Y "code") Ko (Uz #[S "bend" 411,S "Up.bend" 412,S "/claim/cut.py" 413,I 82 0,I 1 0,I 0 0,I 0 0,I 3 0,R 175,Vt Ug,I 181 0,R 176,N,R 177,R 178,R 179,I 415 0,I 82 0,S "/claim/cut.py" 416]) #[]) ::
(nat_lit 181,VW (Y "function") Ko (XF (Xg (Kg "bend") (Kg "Up.bend") (XC [] [Arg.mk (Kg "self") Ko (KB 82 13 82 17)] Ko [] [] Ko []) (UG [XQ (K9 (XN (Const.int 1) 0 (KB 83 15 83 16))) (KB 83 8 83 16)]) (Scope.mk Uo [(Kg "self", aE.local)] VA VA []) 3 [] N N N (S "sheetfold.joins" 334) Ko (R 180) N 0)) #[]) ::
(nat_lit 182,tu #[]) ::
(nat_lit 184,tu #[S "self" 421,S "unit" 422,S "out" 423]) ::
(nat_lit 185,tu #[]) ::
(nat_lit 187,VW (Y "code") Ko (Uz #[S "goes_on" 418,S "Up.goes_on" 419,S "/claim/cut.py" 420,I 85 0,I 3 0,I 0 0,I 0 0,I 3 0,R 182,Vt Ug,I 181 0,R 183,N,R 184,R 185,R 186,I 424 0,I 85 0,S "/claim/cut.py" 425]) #[]) ::
(nat_lit 188,VW (Y "function") Ko (XF (Xg (Kg "goes_on") (Kg "Up.goes_on") (XC [] [Arg.mk (Kg "self") Ko (KB 85 16 85 20),Arg.mk (Kg "unit") Ko (KB 85 22 85 26),Arg.mk (Kg "out") Ko (KB 85 28 85 31)] Ko [] [] Ko []) (UG [XQ (K9 (K0 (Kg "out") (KB 86 15 86 18))) (KB 86 8 86 18)]) (Scope.mk Uo [(Kg "self", aE.local),(Kg "unit", aE.local),(Kg "out", aE.local)] VA VA []) 3 [] N N N (S "sheetfold.joins" 334) Ko (R 187) N 0)) #[]) ::
(nat_lit 189,tu #[]) ::
(nat_lit 190,VW (Y "dict") Ko (XY #[de P "__module__" 406 (S "sheetfold.joins" 334),de P "__firstlineno__" 410 (I 80 409),de P "bend" 417 (R 181),de P "goes_on" 426 (R 188),de P "__static_attributes__" 427 (R 189),de P "__doc__" 428 N] 2) #[]) ::
(nat_lit 191,VW (Y "type") Ko (E1 (ClassData.mk (Kg "Up") [R 163] [R 191,R 163,Y "object"] 190 (Kg "Up") Ug [] [] VA Ko VA)) #[K9 (R 168),Ko,K9 (S "Up" 399),K9 (S "Up" 407),K9 (VX "object.__new__"),K9 (Vt Ug)]) ::
(nat_lit 194,tu #[R 163]) ::
(nat_lit 201,tu #[]) ::
(nat_lit 203,tu #[S "self" 446]) ::
(nat_lit 204,tu #[]) ::
(nat_lit 206,VW (Y "code") Ko (Uz #[S "bend" 443,S "Down.bend" 444,S "/claim/cut.py" 445,I 89 0,I 1 0,I 0 0,I 0 0,I 3 0,R 201,Vt Ug,I 181 0,R 202,N,R 203,R 204,R 205,I 447 0,I 89 0,S "/claim/cut.py" 448]) #[]) ::
(nat_lit 207,VW (Y "function") Ko (XF (Xg (Kg "bend") (Kg "Down.bend") (XC [] [Arg.mk (Kg "self") Ko (KB 89 13 89 17)] Ko [] [] Ko []) (UG [XQ (K9 (Expr.UnaryOp UnaryOp.USub (XN (Const.int 1) 0 (KB 90 16 90 17)) (KB 90 15 90 17))) (KB 90 8 90 17)]) (Scope.mk Uo [(Kg "self", aE.local)] VA VA []) 3 [] N N N (S "sheetfold.joins" 334) Ko (R 206) N 0)) #[]) ::
(nat_lit 208,tu #[]) ::
(nat_lit 210,tu #[S "self" 453,S "unit" 454,S "out" 455]) ::
(nat_lit 211,tu #[]) ::
(nat_lit 213,VW (Y "code") Ko (Uz #[S "goes_on" 450,S "Down.goes_on" 451,S "/claim/cut.py" 452,I 92 0,I 3 0,I 0 0,I 0 0,I 3 0,R 208,Vt Ug,I 181 0,R 209,N,R 210,R 211,R 212,I 456 0,I 92 0,S "/claim/cut.py" 457]) #[]) ::
(nat_lit 214,VW (Y "function") Ko (XF (Xg (Kg "goes_on") (Kg "Down.goes_on") (XC [] [Arg.mk (Kg "self") Ko (KB 92 16 92 20),Arg.mk (Kg "unit") Ko (KB 92 22 92 26),Arg.mk (Kg "out") Ko (KB 92 28 92 31)] Ko [] [] Ko []) (UG [XQ (K9 (U2 (K0 (Kg "negated") (KB 93 15 93 22)) [K0 (Kg "out") (KB 93 23 93 26)] [] (KB 93 15 93 27))) (KB 93 8 93 27)]) (Scope.mk Uo [(Kg "self", aE.local),(Kg "unit", aE.local),(Kg "out", aE.local),(Kg "negated", V1)] VA VA []) 3 [] N N N (S "sheetfold.joins" 334) Ko (R 213) N 0)) #[]) ::
(nat_lit 215,tu #[]) ::
(nat_lit 216,VW (Y "dict") Ko (XY #[de P "__module__" 438 (S "sheetfold.joins" 334),de P "__firstlineno__" 442 (I 87 441),de P "bend" 449 (R 207),de P "goes_on" 458 (R 214),de P "__static_attributes__" 459 (R 215),de P "__doc__" 460 N] 2) #[]) ::
(nat_lit 217,VW (Y "type") Ko (E1 (ClassData.mk (Kg "Down") [R 163] [R 217,R 163,Y "object"] 216 (Kg "Down") Ug [] [] VA Ko VA)) #[K9 (R 194),Ko,K9 (S "Down" 431),K9 (S "Down" 439),K9 (VX "object.__new__"),K9 (Vt Ug)]) ::
(nat_lit 220,tu #[]) ::
(nat_lit 222,tu #[S "thing" 466]) ::
(nat_lit 223,tu #[]) ::
(nat_lit 225,cc "is_bend" 463 464 465 94 1 220 181 221 (R 222) (R 223) 224 467 468) ::
(nat_lit 226,fu "is_bend" 25 "sheetfold.joins" 334 225) ::
(nat_lit 227,tu #[]) ::
(nat_lit 229,tu #[S "bend" 473]) ::
(nat_lit 230,tu #[]) ::
(nat_lit 232,cc "join_of" 470 471 472 96 1 227 181 228 (R 229) (R 230) 231 474 475) ::
(nat_lit 233,fu "join_of" 26 "sheetfold.joins" 334 232) ::
(nat_lit 234,tu #[I 1 479,I 0 480]) ::
(nat_lit 235,tu #[I 0 481,I 1 482]) ::
(nat_lit 236,tu #[I (-1) 484,I 0 485]) ::
(nat_lit 237,tu #[I 0 486,I (-1) 488]) ::
(nat_lit 238,tu #[R 234,R 235,R 236,R 237]) ::
(nat_lit 239,tu #[]) ::
(nat_lit 241,tu #[S "cell" 493,S "other" 494]) ::
(nat_lit 242,tu #[]) ::
(nat_lit 244,cc "step_between" 490 491 492 106 2 239 181 240 (R 241) (R 242) 243 495 496) ::
(nat_lit 245,fu "step_between" 29 "sheetfold.sheets" 477 244) ::
(nat_lit 246,tu #[]) ::
(nat_lit 248,tu #[S "sheet" 501,S "k" 502,S "cells" 503,S "found" 504,S "i" 505,S "j" 506,S "bend" 507,S "other" 508]) ::
(nat_lit 249,tu #[]) ::
(nat_lit 251,cc "neighbours" 498 499 500 108 2 246 181 247 (R 248) (R 249) 250 509 510) ::
(nat_lit 252,fu "neighbours" 30 "sheetfold.sheets" 477 251) ::
(nat_lit 253,tu #[I 1 514,I 1 515,I 0 516]) ::
(nat_lit 254,tu #[I 1 517,I 0 518,I 0 519]) ::
(nat_lit 255,tu #[I 0 520,I 1 521,I 0 522]) ::
(nat_lit 256,tu #[R 253,R 254,R 255]) ::
(nat_lit 257,tu #[]) ::
(nat_lit 259,tu #[S "sheet" 527,S "steps" 528,S "k" 529,S "way" 530,S "j" 531,S "bend" 532]) ::
(nat_lit 260,tu #[]) ::
(nat_lit 262,cc "steps_of" 524 525 526 118 1 257 181 258 (R 259) (R 260) 261 533 534) ::
(nat_lit 263,fu "steps_of" 33 "sheetfold.folding" 512 262) ::
(nat_lit 264,tu #[]) ::
(nat_lit 266,tu #[S "step" 539,S "pose" 540]) ::
(nat_lit 267,tu #[]) ::
(nat_lit 269,cc "led_by" 536 537 538 124 2 264 181 265 (R 266) (R 267) 268 541 542) ::
(nat_lit 270,fu "led_by" 34 "sheetfold.folding" 512 269) ::
(nat_lit 271,tu #[I 0 544,N]) ::
(nat_lit 272,tu #[]) ::
(nat_lit 275,cc "folded" 545 546 547 126 3 272 181 273 N N 274 548 549) ::
(nat_lit 276,VW (Y "function") Ko (XF (Xg (Kg "folded") (Kg "folded") (dA (tp 35)) (UG (dB (tp 35))) (dS (tp 35)) 3 [] (R 271) N N (S "sheetfold.folding" 512) Ko (R 275) N 0)) #[]) ::
(nat_lit 277,tu #[]) ::
(nat_lit 279,tu #[S "steps" 554,S "origins" 555,S "pose" 556,S "poses" 557,S "k" 558,S "origin" 559]) ::
(nat_lit 280,tu #[]) ::
(nat_lit 282,cc "poses_along" 551 552 553 134 3 277 181 278 (R 279) (R 280) 281 560 561) ::
(nat_lit 283,fu "poses_along" 36 "sheetfold.folding" 512 282) ::
(nat_lit 284,tu #[]) ::
(nat_lit 287,cc "clash_or_folded" 563 564 565 139 1 284 181 285 N N 286 566 567) ::
(nat_lit 288,fu "clash_or_folded" 37 "sheetfold.folding" 512 287) ::
(nat_lit 289,tu #[]) ::
(nat_lit 291,tu #[S "_law_script" 574,S "_law_k" 575]) ::
(nat_lit 292,tu #[]) ::
(nat_lit 294,cc "_law_cell" 571 572 573 145 2 289 181 290 (R 291) (R 292) 293 576 577) ::
(nat_lit 295,fu "_law_cell" 39 "law_sheetfold_k16_folded_from_elsewhere" 569 294) ::
(nat_lit 296,tu #[]) ::
(nat_lit 298,tu #[S "_law_found" 582]) ::
(nat_lit 299,tu #[]) ::
(nat_lit 301,cc "_law_whole" 579 580 581 149 1 296 181 297 (R 298) (R 299) 300 583 584) ::
(nat_lit 302,fu "_law_whole" 40 "law_sheetfold_k16_folded_from_elsewhere" 569 301) ::
(nat_lit 303,tu #[]) ::
(nat_lit 305,tu #[S "_law_one" 589,S "_law_other" 590,S "_law_a" 591,S "_law_b" 592,S "_law_c" 593,S "_law_d" 594,S "_law_e" 595,S "_law_f" 596]) ::
(nat_lit 306,tu #[]) ::
(nat_lit 308,cc "_law_cross" 586 587 588 151 2 303 181 304 (R 305) (R 306) 307 597 598) ::
(nat_lit 309,fu "_law_cross" 41 "law_sheetfold_k16_folded_from_elsewhere" 569 308) ::
(nat_lit 310,tu #[]) ::
(nat_lit 312,tu #[S "_law_one" 603,S "_law_other" 604]) ::
(nat_lit 313,tu #[]) ::
(nat_lit 315,cc "_law_dot" 600 601 602 155 2 310 181 311 (R 312) (R 313) 314 605 606) ::
(nat_lit 316,fu "_law_dot" 42 "law_sheetfold_k16_folded_from_elsewhere" 569 315) ::
(nat_lit 317,tu #[]) ::
(nat_lit 319,tu #[S "_law_one" 611,S "_law_many" 612,S "_law_other" 613]) ::
(nat_lit 320,tu #[]) ::
(nat_lit 322,cc "_law_sum" 608 609 610 157 3 317 181 318 (R 319) (R 320) 321 614 615) ::
(nat_lit 323,fu "_law_sum" 43 "law_sheetfold_k16_folded_from_elsewhere" 569 322) ::
(nat_lit 324,tu #[]) ::
(nat_lit 326,tu #[S "_law_pose_here" 620,S "_law_way" 621]) ::
(nat_lit 327,tu #[]) ::
(nat_lit 329,cc "_law_unit" 617 618 619 159 2 324 181 325 (R 326) (R 327) 328 622 623) ::
(nat_lit 330,fu "_law_unit" 44 "law_sheetfold_k16_folded_from_elsewhere" 569 329) ::
(nat_lit 331,tu #[]) ::
(nat_lit 333,tu #[S "_law_pose_here" 628,S "_law_way" 629,S "_law_bend" 630,S "_law_along" 631,S "_law_out" 632,S "_law_on" 633,S "_law_edge" 634,S "_law_told" 635,S "_law_unit_here" 636]) ::
(nat_lit 334,tu #[]) ::
(nat_lit 336,cc "_law_led" 625 626 627 161 3 331 181 332 (R 333) (R 334) 335 637 638) ::
(nat_lit 337,fu "_law_led" 45 "law_sheetfold_k16_folded_from_elsewhere" 569 336) ::
(nat_lit 338,tu #[]) ::
(nat_lit 341,cc "_law_pose" 640 641 642 172 2 338 181 339 N N 340 643 644) ::
(nat_lit 342,fu "_law_pose" 46 "law_sheetfold_k16_folded_from_elsewhere" 569 341) ::
(nat_lit 343,tu #[]) ::
(nat_lit 346,cc "_law_is_spot" 646 647 648 184 1 343 181 344 N N 345 649 650) ::
(nat_lit 347,fu "_law_is_spot" 47 "law_sheetfold_k16_folded_from_elsewhere" 569 346) ::
(nat_lit 348,tu #[]) ::
(nat_lit 351,cc "_law_is_pose" 652 653 654 188 1 348 181 349 N N 350 655 656) ::
(nat_lit 352,fu "_law_is_pose" 48 "law_sheetfold_k16_folded_from_elsewhere" 569 351) ::
(nat_lit 353,tu #[]) ::
(nat_lit 355,tu #[S "_law_cell_here" 661,S "_law_way" 662]) ::
(nat_lit 356,tu #[]) ::
(nat_lit 358,cc "_law_neighbour" 658 659 660 192 2 353 181 354 (R 355) (R 356) 357 663 664) ::
(nat_lit 359,fu "_law_neighbour" 49 "law_sheetfold_k16_folded_from_elsewhere" 569 358) ::
(nat_lit 360,tu #[]) ::
(nat_lit 363,cc "_law_joined" 666 667 668 194 5 360 181 361 N N 362 669 670) ::
(nat_lit 364,fu "_law_joined" 50 "law_sheetfold_k16_folded_from_elsewhere" 569 363) ::
(nat_lit 365,tu #[]) ::
(nat_lit 367,tu #[S "_law_script" 675,S "_law_first" 676,S "_law_last" 677,S "_law_most" 678,S "_law_bends" 679,S "_law_start" 680,S "_law_cells" 681,S "_law_joins" 682,S "_law_number" 683,S "_law_mixed" 684,S "_law_one" 685,S "_law_other" 686]) ::
(nat_lit 368,tu #[]) ::
(nat_lit 370,cc "_law_grown" 672 673 674 198 5 365 181 366 (R 367) (R 368) 369 687 688) ::
(nat_lit 371,fu "_law_grown" 51 "law_sheetfold_k16_folded_from_elsewhere" 569 370) ::
(nat_lit 372,tu #[]) ::
(nat_lit 375,cc "_law_sheet" 690 691 692 213 2 372 181 373 N N 374 693 694) ::
(nat_lit 376,fu "_law_sheet" 52 "law_sheetfold_k16_folded_from_elsewhere" 569 375) ::
(nat_lit 377,tu #[]) ::
(nat_lit 380,cc "_law_near" 696 697 698 216 1 377 181 378 N N 379 699 700) ::
(nat_lit 381,fu "_law_near" 53 "law_sheetfold_k16_folded_from_elsewhere" 569 380) ::
(nat_lit 382,tu #[]) ::
(nat_lit 385,cc "_law_walked" 702 703 704 223 3 382 181 383 N N 384 705 706) ::
(nat_lit 386,fu "_law_walked" 54 "law_sheetfold_k16_folded_from_elsewhere" 569 385) ::
(nat_lit 387,tu #[]) ::
(nat_lit 390,cc "_law_seen_from" 708 709 710 230 2 387 181 388 N N 389 711 712) ::
(nat_lit 391,fu "_law_seen_from" 55 "law_sheetfold_k16_folded_from_elsewhere" 569 390) ::
(nat_lit 392,tu #[]) ::
(nat_lit 394,tu #[S "_law_near_here" 717,S "_law_numbers" 718,S "_law_pose_here" 719,S "_law_k" 720,S "_law_found" 721]) ::
(nat_lit 395,tu #[]) ::
(nat_lit 397,cc "_law_ring" 714 715 716 234 3 392 181 393 (R 394) (R 395) 396 722 723) ::
(nat_lit 398,fu "_law_ring" 56 "law_sheetfold_k16_folded_from_elsewhere" 569 397) ::
(nat_lit 399,tu #[]) ::
(nat_lit 402,cc "_law_all_poses" 725 726 727 242 2 399 181 400 N N 401 728 729) ::
(nat_lit 403,fu "_law_all_poses" 57 "law_sheetfold_k16_folded_from_elsewhere" 569 402) ::
(nat_lit 404,tu #[]) ::
(nat_lit 406,tu #[S "_law_near_here" 734,S "_law_base" 735,S "_law_found" 736,S "_law_first" 737,S "_law_pose_here" 738,S "_law_k" 739]) ::
(nat_lit 407,tu #[]) ::
(nat_lit 409,cc "_law_moved_well" 731 732 733 246 5 404 181 405 (R 406) (R 407) 408 740 741) ::
(nat_lit 410,fu "_law_moved_well" 58 "law_sheetfold_k16_folded_from_elsewhere" 569 409) ::
(nat_lit 411,tu #[]) ::
(nat_lit 414,cc "law" 743 744 745 259 1 411 181 412 N N 413 746 747) ::
(nat_lit 415,fu "law" 59 "law_sheetfold_k16_folded_from_elsewhere" 569 414)::[]
noncomputable def kA:List Ke:=[2,3,15,22,23,24,25,28,35,36,37,40,43,44,45,47,48,50,51,52,54,55,57,58,59,61,62,64,65,66,68,69,71,72,73,75,76,78,79,80,82,83,85,86,87,89,90,92,93,94,96,97,99,100,101,104,105,106,108,109,111,112,113,116,117,118,120,121,123,124,125,126,128,129,131,132,140,142,143,145,146,147,149,150,152,153,154,156,157,159,160,161,162,163,164,165,168,175,177,178,180,181,182,184,185,187,188,189,190,191,194,201,203,204,206,207,208,210,211,213,214,215,216,217,220,222,223,225,226,227,229,230,232,233,234,235,236,237,238,239,241,242,244,245,246,248,249,251,252,253,254,255,256,257,259,260,262,263,264,266,267,269,270,271,272,275,276,277,279,280,282,283,284,287,288,289,291,292,294,295,296,298,299,301,302,303,305,306,308,309,310,312,313,315,316,317,319,320,322,323,324,326,327,329,330,331,333,334,336,337,338,341,342,343,346,347,348,351,352,353,355,356,358,359,360,363,364,365,367,368,370,371,372,375,376,377,380,381,382,385,386,387,390,391,392,394,395,397,398,399,402,403,404,406,407,409,410,411,414,415]
theorem kE (P:Params):kA=(KH P).map (·.1):=by kernel_rfl
noncomputable abbrev hk:Hook:=kHook KH kA kE
noncomputable def tfQ (tr:(String->Option UP)->KJ->K1->Nat->Option Kd->Nat->Kh->Thread->Option Kh)(tb:String->Option UP)(p:KJ)(w:K1)(N:Nat)(s:Kh):Option Kh :=
 match s.heap.isNs aj&&s.gens.size==0 with
 | true=>(tr tb p w s.heap.objs.size (s.heap.nsMap aj "__annotations__") N s (topStub p)).bind λu =>
   match staticsOk (importedModules p.main.body) s.heap u.heap&&namesBound p u.heap&&gensDone u&&laidKept s.heap u.heap with
   | true=>some u
   | false=>none
 | false=>none
theorem tf_q (p:KJ)(w:K1)(N:Nat):topFrom treeTable p w N=tfQ NX XG p w N:=by
 rw [← Fast.te14082659384304107361,← NY]
 rfl
noncomputable def opQ (p:KJ)(w:K1)(N:Nat):Option Kh :=
 (Fast.tw10274390034422433532 XG (opening p) w N (N4 (opening p)).1 (N4 (opening p)).2).bind (Fast.tw14289696077712309145 p)
theorem op_q (p:KJ)(w:K1)(N:Nat):fencedOpening treeTable p w N=opQ p w N:=by
 unfold opQ
 rw [← Fast.te10274390034422433532,← NY,← Fast.te1435165496053646825,← Fast.te14289696077712309145]
 rfl
noncomputable def endsQ (p:KJ)(w:K1)(N:Nat):Option Kh:=(opQ p w N).bind (tfQ NX XG p w N)
theorem qlr (p:KJ)(w:K1)(N:Nat):openEnds treeTable p w N=endsQ p w N:=by
 unfold openEnds endsQ
 rw [op_q,tf_q]
set_option maxHeartbeats 0 in
theorem left:LeftO PySem.Challenge.pw_sheetfold_k16_folded_from_elsewhere vw [(Kg "folded")] (λs=>xlAt vw [] s&&recOk (RowW.records (OpenRow.toRowW (OpenLaw.row PySem.Challenge.rw_sheetfold_k16_folded_from_elsewhere))) s) (Hook.obs hk) (Hook.val hk) 5534:=by
 intro w
 rw [qlr,Fast.te4187177175401517315]
 kernel_rfl
end HD
namespace L2
open PySem PySem.Spec PyProof.Rows
noncomputable abbrev Key:=Sum Int Str
noncomputable def qkW:Key->Kd->Bool
 | .inl k,v=>Value.isInt k v
 | .inr x,v=>Value.isStrOf x v
noncomputable def keyH (w:K1):Key->Int
 | .inl k=>bz k
 | .inr x=>hashStr w x
theorem Qi:∀ {k:Key} {v:Kd},qkW k v=true->(∃ i t,k=Sum.inl i/\v=NW i t)\/(∃ x t,k=Sum.inr x/\v=Nr x t)
 | .inl i,v,h=>by
  obtain ⟨t,e⟩:=Value.isInt_shape (k:=i) (v:=v) h
  exact .inl ⟨i,t,rfl,e⟩
 | .inr x,v,h=>by
  obtain ⟨t,e⟩:=Value.isStrOf_shape (x:=x) (v:=v) h
  exact .inr ⟨x,t,rfl,e⟩
theorem qlO (a b:Int):decide ((Sum.inl a:Key)=Sum.inl b)=(a==b):=by
 by_cases e:a=b
 ·subst e;simp
 ·have h:¬ (Sum.inl a:Key)=Sum.inl b:=λq=>e (Sum.inl.inj q)
  rw [ab h]
  exact (ar.mpr e).symm
theorem qlR (a b:Str):decide ((Sum.inr a:Key)=Sum.inr b)=decide (a=b):=by
 by_cases e:a=b
 ·subst e;simp
 ·have h:¬ (Sum.inr a:Key)=Sum.inr b:=λq=>e (Sum.inr.inj q)
  rw [ab h,ab e]
theorem qlP (a:Int)(b:Str):decide ((Sum.inl a:Key)=Sum.inr b)=false:=ab (λq=>nomatch q)
theorem qlQ (a:Str)(b:Int):decide ((Sum.inr a:Key)=Sum.inl b)=false:=ab (λq=>nomatch q)
noncomputable def qcw (prog:KJ)(w:K1):PySem.KeyKind prog w Key where
 is:=qkW
 hash:=keyH w
 inj:=λv a b ha hb=>by
  rcases Qi ha with ⟨i,t,rfl,rfl⟩|⟨x,t,rfl,rfl⟩
  ·rcases Qi hb with ⟨j,u,rfl,e⟩|⟨y,u,rfl,e⟩
   ·injection e with e1 _;rw [e1]
   ·exact nomatch e
  ·rcases Qi hb with ⟨j,u,rfl,e⟩|⟨y,u,rfl,e⟩
   ·exact nomatch e
   ·injection e with e1 _;rw [e1]
 byValue:=λk v h=>by
  rcases Qi h with ⟨i,t,rfl,rfl⟩|⟨x,t,rfl,rfl⟩<;>rfl
 pyHash:=λhv h=>by
  rcases Qi hv with ⟨i,t,rfl,rfl⟩|⟨x,t,rfl,rfl⟩
  ·exact wpAny_pyHash_int h
  ·exact wpAny_pyHash_str h
 eqBool:=λhu hv h=>by
  rcases Qi hu with ⟨i,t,rfl,rfl⟩|⟨x,t,rfl,rfl⟩
  ·rcases Qi hv with ⟨j,u,rfl,rfl⟩|⟨y,u,rfl,rfl⟩
   ·rw [qlO] at h;exact wpAny_eqBool_int h
   ·rw [qlP] at h;exact SeqAt.EqAt.int_str i t y u _ _ _ _ h
  ·rcases Qi hv with ⟨j,u,rfl,rfl⟩|⟨y,u,rfl,rfl⟩
   ·rw [qlQ] at h;exact SeqAt.EqAt.str_int x t j u _ _ _ _ h
   ·rw [qlR] at h;exact wpAny_eqBool_str h
 «strs»:=λk x t v h=>by
  rcases Qi h with ⟨i,u,rfl,e⟩|⟨y,u,rfl,e⟩
  ·exact nomatch e
  ·injection e with e1 _
   subst e1
   cases v<;>rfl
inductive V where
 | non|bl (b:Bool)|int (i:Int)|str (x:Str)|byt (b:Array UInt8)|flt (b:UInt64)|ref (a:Ke)|ty (n:String)
 deriving DecidableEq
noncomputable def RelV:V->Kd->Prop
 | .non,u=>u=VF
 | .bl b,u=>u=Vt b
 | .int i,u=>∃ t,u=NW i t
 | .str x,u=>∃ t,u=Nr x t
 | .byt b,u=>∃ t,u=Value.bytes b t
 | .flt b,u=>∃ t,u=Value.float b t
 | .ref a,u=>u=Ve a
 | .ty n,u=>u=Vs n
noncomputable abbrev Vals:List V->List Kd->Prop:=VO RelV
theorem Vals.length {xs:List V}{us:List Kd}(r:Vals xs us):xs.length=us.length:=Paired.length r
theorem Vals.get:∀ {xs:List V} {us:List Kd} {i:Nat} {x:V},Vals xs us->xs[i]?=some x->∃ u,us[i]?=some u/\RelV x u
 | _,_,_,_,.nil,e=>by simp at e
 | _,_,0,_,.cons r _,e=>by simp at e;subst e;exact ⟨_,rfl,r⟩
 | _,_,i+1,x,.cons _ t,e=>by
  obtain ⟨u,h1,h2⟩:=Vals.get (i:=i) (x:=x) t (by simpa using e)
  exact ⟨u,by simpa using h1,h2⟩
theorem Vals.set {x:V}{u:Kd}(r:RelV x u):∀ {xs:List V} {us:List Kd} (i:Nat),Vals xs us->Vals (xs.set i x) (us.set i u)
 | _,_,_,.nil=>.nil
 | _,_,0,.cons _ t=>.cons r t
 | _,_,i+1,.cons q t=>.cons q (Vals.set r i t)
theorem Vals.append:∀ {xs ys:List V} {us ws:List Kd},Vals xs us->Vals ys ws->Vals (xs++ys) (us++ws)
 | _,_,_,_,.nil,s=>s
 | _,_,_,_,.cons r t,s=>.cons r (Vals.append t s)
theorem Vals.take:∀ {xs:List V} {us:List Kd} (n:Nat),Vals xs us->Vals (xs.take n) (us.take n)
 | _,_,0,_=>.nil
 | _,_,_+1,.nil=>.nil
 | _,_,n+1,.cons r t=>.cons r (Vals.take n t)
theorem Vals.drop:∀ {xs:List V} {us:List Kd} (n:Nat),Vals xs us->Vals (xs.drop n) (us.drop n)
 | _,_,0,r=>r
 | _,_,_+1,.nil=>.nil
 | _,_,n+1,.cons _ t=>Vals.drop n t
noncomputable def RelO:Option V->Option Kd->Prop
 | some v,some u=>RelV v u
 | none,none=>True
 | _,_=>False
noncomputable def KV {κ:Type}:List (κ×V)->List (κ×Value)->Prop:=VO λ(p:κ×V) (q:κ×Value)=>p.1=q.1/\RelV p.2 q.2
noncomputable def kV:Key->V
 | .inl i=>.int i
 | .inr x=>.str x
inductive HO where
 | lst (xs:List V)
 | tup (xs:List V)
 | dK (kvs:List (Key×V))|dT (kvs:List (List Key×V))
 | set (S:Int->Bool) (n:Nat)
 | ins (C dx:Ke) (fs:List (Str×V))
 | own (x:Ke)
 | xd (fs:List (Str×V))
 | met (f x:Ke)
 | rng (lo hi:Int)
 | frz (o:Obj) (u:HO)
 | tbl (ps:Array Kd)
 | ext (φ:KU->Prop)
noncomputable abbrev Hp:=Ke->Option HO
noncomputable def upd (H:Hp)(a:Ke)(o:HO):Hp:=λb=>if b=a then some o else H b
theorem qY {H:Hp}{a:Ke}{o:HO}:upd H a o a=some o:=by unfold upd;rw [ag rfl]
theorem qW {H:Hp}{a b:Ke}{o:HO}(h:b≠a):upd H a o b=H b:=by unfold upd;rw [ah h]
theorem Qp {H:Hp}{a b:Ke}{o:HO}(h:H a=some o)(h':H b=none):a≠b:=by
 intro e;subst e;rw [h] at h';cases h'
section
variable (P:KJ)(w:K1)
noncomputable def Qt (H:Hp)(h:KU)(a:Ke):HO->Prop
 | .lst xs=>xs.length<=ak/\∃ (its:List Kd) (n:Nat),Vals xs its/\h.get? a=some { cls:=.type "list", data:=.seq its.toArray n }
 | .tup xs=>xs.length<=ak/\∃ its:List Kd,Vals xs its/\bE h a its.toArray
 | .dK kvs=>kvs.length<=ak/\(a==aV)=false/\∃ vs,KV kvs vs/\h.DictOf (qcw P w) a vs
 | .dT kvs=>kvs.length<=ak/\(a==aV)=false/\∃ xs:List (List Key×Addr×Value),
   VO (λ(p:List Key×V) (q:List Key×Addr×Value)=>p.1=q.1/\H q.2.1=some (.tup (p.1.map kV))/\RelV p.2 q.2.2) kvs xs/\
   ∃ o es ep,h.get? a=some o/\o.ExactDict/\o.data=.dict es ep/\es.toList=xs.map (entryOfKey (tupleKind (qcw P w)))/\(xs.map (·.1)).Nodup
 | .set S n=>h.SetOf (bA P w) a S n
 | .ins C dx fs=>H dx=some (.own a)/\fs.length<=1000/\dx≠a/\h.get? a=some (V4 C dx)/\
   ∃ mA,h.Ns1 dx mA/\(∀ f,RelO (fs.lookup f) (mA f))/\PySem.Within mA (fs.map (·.1))
 | .own _=>∃ o,h.get? a=some o
 | .xd fs=>∃ mA,h.Ns1 a mA/\∀ f,RelO (fs.lookup f) (mA f)
 | .rng lo hi=>∃ t u v,h.get? a=some { cls:=.type "range", data:=.fields #[.int lo t,.int hi u,.int 1 v] }
 | .frz o u=>h.get? a=some o/\Qt H h a u
 | .tbl ps=>h.get? a=some { cls:=.none,data:=.fields ps }
 | .met f x=>h.get? a=some (Eb (.ref f) (.ref x))
 | .ext φ=>φ h/\(∃ o,h.get? a=some o)/\∀ h1 h2:KU,φ h1->(∀ o,h1.get? a=some o->h2.get? a=some o)->φ h2
def HOk (H:Hp)(h:KU):Prop:=∀ a o,H a=some o->Qt P w H h a o
end
section
variable {P:KJ}{w:K1}{H H':Hp}{h h':KU}{a:Ke}{o:HO}
theorem Qt.lt (x:Qt P w H h a o):a<h.objs.size:=by
 cases o with
 | lst xs=>obtain ⟨_,_,_,_,e⟩:=x;exact KF e
 | tup xs=>obtain ⟨_,_,_,p⟩:=x;exact p.lt
 | dK kvs=>obtain ⟨_,_,_,_,o,_,_,e,_⟩:=x;exact KF e
 | dT kvs=>obtain ⟨_,_,_,_,o,_,_,e,_⟩:=x;exact KF e
 | set S n=>obtain ⟨o,_,_,_,e,_⟩:=x;exact KF e
 | ins C dx fs=>obtain ⟨_,_,_,e,_⟩:=x;exact KF e
 | own y=>obtain ⟨_,e⟩:=x;exact KF e
 | xd fs=>obtain ⟨_,⟨_,_,_,e,_⟩,_⟩:=x;exact KF e
 | rng lo hi=>obtain ⟨_,_,_,e⟩:=x;exact KF e
 | frz ob u=>obtain ⟨e,_⟩:=x;exact KF e
 | tbl ps=>exact KF (show h.get? a=some _ from x)
 | met f y=>exact KF (show h.get? a=some _ from x)
 | ext φ=>obtain ⟨_,⟨_,e⟩,_⟩:=x;exact KF e
theorem Paired.mapP {α β:Type}{F G:α->β->Prop}:∀ {l₁:List α} {l₂:List β},VO F l₁ l₂->(∀ a b,F a b->G a b)->VO G l₁ l₂
 | _,_,.nil,_=>.nil
 | _,_,.cons r t,f=>.cons (f _ _ r) (Paired.mapP t f)
theorem Qt.stay (x:Qt P w H h a o)(k:∀ b u,(b=a\/H b=some (.own a))->h.get? b=some u->h'.get? b=some u)
  (ho:∀ b,H b=some (.own a)->H' b=some (.own a)) (ht:∀ b xs,H b=some (.tup xs)->H' b=some (.tup xs)):Qt P w H' h' a o:=by
 induction o with
 | lst xs=>obtain ⟨z,its,n,r,e⟩:=x;exact ⟨z,its,n,r,k _ _ (.inl rfl) e⟩
 | tup xs=>obtain ⟨z,its,r,ob,e,c⟩:=x;exact ⟨z,its,r,ob,k _ _ (.inl rfl) e,c⟩
 | dK kvs=>obtain ⟨z,y,vs,r,ob,es,ep,e,c⟩:=x;exact ⟨z,y,vs,r,ob,es,ep,k _ _ (.inl rfl) e,c⟩
 | dT kvs =>
  obtain ⟨z,y,xs,r,ob,es,ep,e,c⟩:=x
  exact ⟨z,y,xs,Paired.mapP r λp q z=>⟨z.1,ht _ _ z.2.1,z.2.2⟩,ob,es,ep,k _ _ (.inl rfl) e,c⟩
 | set S n=>obtain ⟨ob,es,ep,t,e,c⟩:=x;exact ⟨ob,es,ep,t,k _ _ (.inl rfl) e,c⟩
 | ins C dx fs =>
  obtain ⟨d,z,ne,e,mA,⟨od,es,ep,e2,c⟩,r⟩:=x
  exact ⟨ho _ d,z,ne,k _ _ (.inl rfl) e,mA,⟨od,es,ep,k _ _ (.inr d) e2,c⟩,r⟩
 | own y=>obtain ⟨ob,e⟩:=x;exact ⟨ob,k _ _ (.inl rfl) e⟩
 | xd fs=>obtain ⟨mA,⟨od,es,ep,e,c⟩,r⟩:=x;exact ⟨mA,⟨od,es,ep,k _ _ (.inl rfl) e,c⟩,r⟩
 | rng lo hi=>obtain ⟨t,u,v,e⟩:=x;exact ⟨t,u,v,k _ _ (.inl rfl) e⟩
 | frz ob u ih=>obtain ⟨e,q⟩:=x;exact ⟨k _ _ (.inl rfl) e,ih q⟩
 | tbl ps =>
  have e:h.get? a=some { cls:=.none,data:=.fields ps }:=x
  show h'.get? a=some { cls:=.none,data:=.fields ps }
  exact k a _ (.inl rfl) e
 | met f y =>
  have e:h.get? a=some (Eb (.ref f) (.ref y)):=x
  show h'.get? a=some (Eb (.ref f) (.ref y))
  exact k a _ (.inl rfl) e
 | ext φ=>obtain ⟨p,⟨o,e⟩,st⟩:=x;exact ⟨st _ _ p λo q=>k _ _ (.inl rfl) q,⟨o,k _ _ (.inl rfl) e⟩,st⟩
theorem HOk.lt (x:HOk P w H h)(e:H a=some o):a<h.objs.size:=(x a o e).lt
theorem HOk.fresh (x:HOk P w H h)(e:h.objs.size<=a):H a=none:=by
 cases q:H a with
 | none=>rfl
 | some u=>exact absurd (KZ (x.lt q) e) (Ud _)
theorem HOk.kept (x:HOk P w H h)(k:∀ b u,h.get? b=some u->h'.get? b=some u):HOk P w H h':=λa o e =>
 (x a o e).stay (λb u _ q=>k b u q) (λ_ q=>q) λ_ _ q=>q
theorem HOk.laid (x:HOk P w H h)(k:∀ b u,h.get? b=some u->h'.get? b=some u)(hp:h.objs.size<=a)(new:Qt P w (upd H a o) h' a o):HOk P w (upd H a o) h':=λb u e=>by
 have hn:=x.fresh hp
 by_cases hb:b=a
 ·subst hb;rw [qY] at e;cases e;exact new
 ·rw [qW hb] at e
  exact (x b u e).stay (λc v _ q=>k c v q) (λc q=>by rw [qW (Qp q hn)];exact q) λc xs q=>by rw [qW (Qp q hn)];exact q
end
def Rd (H:Hp)(a:Ke)(u:HO):Prop:=H a=some u\/∃ o,H a=some (.frz o u)
theorem Rd.ok {P:KJ}{w:K1}{H:Hp}{h:KU}{a:Ke}{u:HO}(r:Rd H a u)(x:HOk P w H h):Qt P w H h a u:=by
 rcases r with r|⟨o,r⟩
 ·exact x a u r
 ·obtain ⟨_,q⟩:=x a _ r
  exact q
noncomputable def Mut:Option HO->Prop
 | some (.lst _)=>True
 | some (.dK _)=>True
 | some (.dT _)=>True
 | some (.set _ _)=>True
 | some (.ins _ _ _)=>True
 | some (.ext _)=>True
 | _=>False
section
variable {P:KJ}{w:K1}{H:Hp}{h h':KU}{x e:Ke}{o':HO}
theorem HOk.write (ok:HOk P w H h)(mu:Mut (H x))(he:e=x\/H e=some (.own x))(k:∀ b u,b≠e->h.get? b=some u->h'.get? b=some u)(heo:∃ u,h'.get? e=some u)
  (new:Qt P w (upd H x o') h' x o'):HOk P w (upd H x o') h':=λb u q=>by
 have nown:∀ c y,H c=some (.own y)->c≠x:=λc y r z=>by subst z;rw [r] at mu;exact mu
 have ntup:∀ c xs,H c=some (.tup xs)->c≠x:=λc xs r z=>by subst z;rw [r] at mu;exact mu
 by_cases hb:b=x
 ·subst hb;rw [qY] at q;cases q;exact new
 ·rw [qW hb] at q
  by_cases hbe:b=e
  ·have q':H b=some (.own x):=by
    rcases he with z|z
    ·exact absurd (hbe.trans z) hb
    ·rw [hbe];exact z
   rw [q] at q';cases q'
   obtain ⟨v,hv⟩:=heo
   exact ⟨v,by rw [hbe];exact hv⟩
  ·refine (ok b u q).stay (λc v hc r=>k c v ?_ r) (λc r=>by rw [qW (nown c b r)];exact r) λc xs r=>by rw [qW (ntup c xs r)];exact r
   rcases hc with rfl|hc
   ·exact hbe
   ·rintro rfl
    rcases he with z|z
    ·exact nown c b hc z
    ·rw [hc] at z;cases z;exact hb rfl
end
structure Un (fs ex:List Ke)(H H':Hp)(h h':KU):Prop where
 keep:∀ b o,h.get? b=some o->H b=none->b∉fs->b∉ex->h'.get? b=some o
 slot:∀ b o,h.get? b=some o->H b=none->b∈fs->b∉ex->∃ sl,h'.get? b=some { o with slots:=sl }
 free:∀ b o,h.get? b=some o->H b=none->b∉ex->H' b=none
 there:∀ b o,h.get? b=some o->b∉ex->∃ o',h'.get? b=some o'
 tups:∀ b xs,H b=some (.tup xs)->H' b=some (.tup xs)
 frzs:∀ b o u,H b=some (.frz o u)->H' b=some (.frz o u)
 tbls:∀ b ps,H b=some (.tbl ps)->∃ more,H' b=some (.tbl (ps++more))
section
variable {fs fs' ex ex':List Ke}{H H1 H2:Hp}{h h1 h2 h':KU}{a x e:Ke}{o:HO}
theorem Un.any (u:Un fs ex H H1 h h1){b:Ke}{ob:Obj}(q:h.get? b=some ob)(n:H b=none)(hx:b∉ex):∃ sl,h1.get? b=some { ob with slots:=sl }:=by
 by_cases hb:b∈fs
 ·exact u.slot b ob q n hb hx
 ·exact ⟨ob.slots,u.keep b ob q n hb hx⟩
theorem Un.kept (k:∀ b u,h.get? b=some u->h'.get? b=some u):Un fs ex H H h h' :=
 ⟨λb ob q _ _ _=>k b ob q,λb ob q _ _ _=>⟨ob.slots,k b ob q⟩,λ_ _ _ n _=>n,λb ob q _=>⟨ob,k b ob q⟩,λ_ _ q=>q,λ_ _ _ q=>q,λ_ ps q=>⟨#[],by rw [q];simp⟩⟩
theorem Un.refl:Un fs ex H H h h:=Un.kept λ_ _ q=>q
theorem Un.laid (k:∀ b u,h.get? b=some u->h'.get? b=some u)(hp:h.objs.size<=a)(hn:H a=none):Un fs ex H (upd H a o) h h' where
 keep:=λb u q _ _ _=>k b u q
 slot:=λb u q _ _ _=>⟨u.slots,k b u q⟩
 free:=λb u q n _=>by rw [qW (KW (KZ (KF q) hp))];exact n
 there:=λb u q _=>⟨u,k b u q⟩
 tups:=λb xs q=>by rw [qW (Qp q hn)];exact q
 frzs:=λb u xs q=>by rw [qW (Qp q hn)];exact q
 tbls:=λb ps q=>⟨#[],by rw [qW (Qp q hn),q];simp⟩
theorem Un.write (mu:Mut (H x))(he:e=x\/H e=some (.own x))(k:∀ b u,b≠e->h.get? b=some u->h'.get? b=some u)(heo:∃ u,h'.get? e=some u):Un fs ex H (upd H x o) h h':=by
 have hx:∀ b,H b=none->b≠x:=λb n z=>by subst z;rw [n] at mu;exact mu
 have hb:∀ b,H b=none->b≠e:=λb n z=>by
  subst z
  rcases he with r|r
  ·exact hx b n r
  ·rw [n] at r;cases r
 have hm:∀ b u,H b=some u->¬ Mut (some u)->b≠x:=λb u q nm z=>by subst z;rw [q] at mu;exact nm mu
 refine ⟨λb u q n _ _=>k b u (hb b n) q,λb u q n _ _=>⟨u.slots,k b u (hb b n) q⟩,λb u q n _=>by rw [qW (hx b n)];exact n,λb u q _=>?_,
  λb xs q=>by rw [qW (hm b _ q λz=>z)];exact q,λb u xs q=>by rw [qW (hm b _ q λz=>z)];exact q,λb ps q=>⟨#[],by rw [qW (hm b _ q λz=>z),q];simp⟩⟩
 by_cases hbe:b=e
 ·subst hbe;exact heo
 ·exact ⟨u,k b u hbe q⟩
end
noncomputable def trk (h:KU)(H:Hp):List Ke:=(KG h.objs.size).filter λa=>(H a).isSome
noncomputable def hidT (h:KU)(H:Hp):KU:=PySem.W.hideAll h (trk h H)
theorem qgd (h:KU)(H:Hp):(hidT h H).objs.size=h.objs.size:=PySem.W.hideAll_size _ _
theorem qhE {h:KU}{H:Hp}{b:Ke}{o:Obj}(e:h.get? b=some o)(n:H b=none):(hidT h H).get? b=some o :=
 PySem.W.hideAll_get _ e λhm=>by
  have q:(H b).isSome=true:=(Nx.mp hm).2
  rw [n] at q;simp at q
theorem qj2 {h:KU}{H:Hp}{b:Ke}{o:Obj}(e:(hidT h H).get? b=some o):h.get? b=some o/\H b=none:=by
 have e':h.get? b=some o:=PySem.W.of_hideAll (trk h H) e
 refine ⟨e',?_⟩
 cases q:H b with
 | none=>rfl
 | some x =>
  have hm:b∈trk h H:=Nx.mpr ⟨UT.mpr (KF e'),by simp [q]⟩
  have z:(hidT h H).get? b=none:=PySem.W.hideAll_none (trk h H) hm
  rw [z] at e;cases e
structure Mod (K:Kb)(mg:Str->Option Kd)(base:KU):Prop where
 kin:K.In base
 glob:base.Ns aj mg
 blt:∃ mb,base.Ns builtinsNs mb/\∀ x:Str,x ≠ "__name__"->mb x=aw x
 nolimit:base.NoLimit
structure Cx where
 prog:KJ
 w:K1
 K:Kb
 mg:Str->Option Kd
 base:KU
 A:KY
 N:List Str
 s₀:Kh
 H₀:Hp
 env:Env
 outer:List Env
 stack:List Env
 ex:List Ke
 fn:Str->Bool
 calm:Bool
 pn:List (Ke×Obj)
 xe:Kd->Kh->Prop
noncomputable def frs (l:List Env):List Ke:=l.filterMap (·.frame)
noncomputable abbrev Cx.fs (X:Cx):List Ke:=frs X.outer
def Vis (sc:Ua)(x:Str):Prop:=sc.names.lookup x=some .local\/sc.names.lookup x=some .cell\/sc.names.lookup x=some .free
def Loc (sc:Ua)(x:Str):Prop:=sc.names.lookup x=some .local\/sc.names.lookup x=some .cell
def Look (env:Env)(h:KU)(m:Str->Option Kd)(x:Str)(u:Kd):Prop :=
 (env.kindOf x=some .local/\m x=some u)\/((env.kindOf x=some .cell\/env.kindOf x=some .free)/\∃ c,env.cells.lookup x=some c/\h.IsCell c (some u))
structure Cx.Ok (X:Cx):Prop where
 mod:Mod X.K X.mg X.base
 kind:X.env.scope.kind=.function
 glob:X.env.globals=aj
 blt:X.env.builtins=builtinsNs
 above:X.s₀.heap.objs.size<=X.env.locals
 inj:∀ x y c,X.env.cells.lookup x=some c->X.env.cells.lookup y=some c->x=y
 has:∀ x,(X.env.kindOf x=some .cell\/X.env.kindOf x=some .free)->∃ c,X.env.cells.lookup x=some c
 cab:∀ x c,X.fn x=true->X.env.cells.lookup x=some c->X.s₀.heap.objs.size<=c
 hd:X.calm=true->X.A.handled=none
 frames:X.A.frames=some X.stack
 stk:X.stack=X.outer\/(X.stack=X.env::X.outer/\X.env.frame=some X.env.locals)
 exf:∀ b∈X.ex,b≠X.env.locals/\∀ x c,X.env.cells.lookup x=some c->c≠b
 bs:∀ b o,X.base.get? b=some o->X.s₀.heap.get? b=some o/\X.H₀ b=none
 bsz:X.base.objs.size<=X.s₀.heap.objs.size
 noex:∀ b o,X.base.get? b=some o->b∉X.ex
 exfs:∀ b∈X.ex,b∉X.fs
 funs:X.s₀.heap.FunFrames X.base X.outer
 frf:∀ b∈X.fs,X.H₀ b=none
structure Inv (X:Cx)(aa:List (Ke×Obj))(σ:List (Option V))(H:Hp)(s:Kh):Prop where
 ok:X.Ok
 os:s.os=X.s₀.os
 bare:XR s.gens
 base:Un X.fs X.ex X.H₀ H X.s₀.heap s.heap
 loc:∃ m,s.heap.Ns X.env.locals m/\∀ (i:Nat) (x:Str) (v:V),X.N[i]?=some x->σ[i]?=some (some v)->Vis X.env.scope x->∃ u,RelV v u/\Look X.env s.heap m x u
 cell:∀ x c,X.env.cells.lookup x=some c->∃ v,s.heap.IsCell c v
 free:H X.env.locals=none
 freeC:∀ x c,X.env.cells.lookup x=some c->H c=none
 pin:∀ p∈X.pn++aa,s.heap.get? p.1=some p.2/\H p.1=none/\p.1≠X.env.locals/\p.1∉X.fs/\∀ v,p.2.data≠.cell v
 hok:HOk X.prog X.w H s.heap
 len:σ.length=X.N.length
section
variable {X:Cx}{aa:List (Ke×Obj)}{σ:List (Option V)}{H H':Hp}{s:Kh}{h':KU}
theorem Cx.Ok.nofr (ok:X.Ok){b:Ke}{o:Obj}(e:X.base.get? b=some o):b∉X.fs:=λhb=>by
 have:=(ok.funs.mem hb).1
 rw [e] at this;cases this
theorem Inv.bs (I:Inv X aa σ H s):∀ b o,X.base.get? b=some o->s.heap.get? b=some o/\H b=none:=λb o e =>
 ⟨I.base.keep b o (I.ok.bs b o e).1 (I.ok.bs b o e).2 (I.ok.nofr e) (I.ok.noex b o e),I.base.free b o (I.ok.bs b o e).1 (I.ok.bs b o e).2 (I.ok.noex b o e)⟩
theorem Inv.bk (I:Inv X aa σ H s):∀ b o,X.base.get? b=some o->s.heap.get? b=some o:=λb o e=>(I.bs b o e).1
theorem Inv.mod (I:Inv X aa σ H s):Mod X.K X.mg X.base:=I.ok.mod
theorem Inv.kIn (I:Inv X aa σ H s):X.K.In s.heap:=I.ok.mod.kin.keeps I.bk
theorem Inv.lt (I:Inv X aa σ H s):X.env.locals<s.heap.objs.size:=let ⟨_,hn,_⟩:=I.loc;hn.lt
theorem Inv.sz (I:Inv X aa σ H s):X.s₀.heap.objs.size<=s.heap.objs.size:=Vg I.ok.above (VP I.lt)
theorem Inv.nofs (I:Inv X aa σ H s){a:Ke}(h:s.heap.objs.size<=a):a∉X.fs:=λhb=>by
 obtain ⟨_,o,ho,_⟩:=I.ok.funs.mem hb
 exact absurd (KZ (KF ho) (Vg I.sz h)) (Ud _)
theorem Inv.cne (I:Inv X aa σ H s):∀ x c,X.env.cells.lookup x=some c->c≠X.env.locals:=λx c e z=>by
 obtain ⟨v,o,ho,hd⟩:=I.cell x c e
 obtain ⟨m,⟨o',es,ep,ho',hd',_⟩,_⟩:=I.loc
 rw [z,ho'] at ho;cases ho;rw [hd'] at hd;cases hd
theorem Inv.funs (I:Inv X aa σ H s):s.heap.FunFrames X.base X.outer:=by
 have all:∀ (l:List Env),(∀ b∈frs l,b∈X.fs)->X.s₀.heap.FunFrames X.base l->s.heap.FunFrames X.base l:=by
  intro l
  induction l with
  | nil=>intro _ _;trivial
  | cons env r ih =>
   intro hs hl
   obtain ⟨hk,⟨L,o,hf,hn,ho,hd⟩,hr⟩:=hl
   have hL:L∈X.fs:=hs L (by unfold frs;rw [V8,hf];exact VH)
   obtain ⟨sl,e⟩:=I.base.slot L o ho (I.ok.frf L hL) hL λz=>I.ok.exfs L z hL
   exact ⟨hk,⟨L,_,hf,hn,e,hd⟩,ih (λb hb=>hs b (by unfold frs;rw [V8,hf];exact Vu _ hb)) hr⟩
 exact all X.outer (λ_ hb=>hb) I.ok.funs
theorem Inv.stack (I:Inv X aa σ H s):s.heap.FunFrames X.base X.stack:=by
 rcases I.ok.stk with e|⟨e,hf⟩
 ·rw [e];exact I.funs
 ·rw [e]
  obtain ⟨m,hn,_⟩:=I.loc
  refine .cons (by rw [I.ok.kind];decide) hf hn ?_ I.funs
  exact Heap.get?_none_of_le (Vg I.ok.bsz I.ok.above)
theorem Inv.stkSub (I:Inv X aa σ H s):∀ b∈frs X.stack,b∈X.env.locals::X.fs:=λb hb=>by
 rcases I.ok.stk with e|⟨e,hf⟩
 ·rw [e] at hb;exact Vu _ hb
 ·rw [e] at hb
  unfold frs at hb
  rw [V8,hf] at hb
  exact hb
theorem Inv.stkFree (I:Inv X aa σ H s):∀ b∈frs X.stack,H b=none:=λb hb=>by
 rcases Kr.mp (I.stkSub b hb) with e|hb
 ·rw [e];exact I.free
 ·obtain ⟨_,o,ho,_⟩:=I.ok.funs.mem hb
  exact I.base.free b o ho (I.ok.frf b hb) λz=>I.ok.exfs b z hb
theorem Inv.step {g':Array GenState}{t':Nat}{d':Drawn}{ch:List Ke}(I:Inv X aa σ H s)
  (hch:∀ b∈ch,(b∈X.ex\/X.s₀.heap.objs.size<=b)/\b≠X.env.locals/\(∀ x c,X.env.cells.lookup x=some c->c≠b)/\∀ p∈X.pn++aa,p.1≠b)
  (keep:∀ b o,b≠X.env.locals->b∉X.fs->b∉ch->s.heap.get? b=some o->H b=none->h'.get? b=some o)
  (slot:∀ b o,b≠X.env.locals->b∈X.fs->b∉ch->s.heap.get? b=some o->H b=none->∃ sl,h'.get? b=some { o with slots:=sl }) (free:∀ b o,b∉ch->s.heap.get? b=some o->H b=none->H' b=none)
  (there:∀ b o,b∉ch->s.heap.get? b=some o->∃ o',h'.get? b=some o')
  (tups:∀ b xs,H b=some (.tup xs)->H' b=some (.tup xs)) (frzs:∀ b o u,H b=some (.frz o u)->H' b=some (.frz o u)) (tbls:∀ b ps,H b=some (.tbl ps)->∃ more,H' b=some (.tbl (ps++more)))
  (ns:∀ m,s.heap.Ns X.env.locals m->h'.Ns X.env.locals m) (hok:HOk X.prog X.w H' h') (hg:XR g') :
  Inv X aa σ H' { s with heap:=h',gens:=g',drawn:=d',toks:=t' }:=by
 have neL:∀ b o,X.s₀.heap.get? b=some o->b≠X.env.locals:=λb o e=>KW (KZ (KF e) I.ok.above)
 have neC:∀ b o,X.s₀.heap.get? b=some o->b∉X.ex->b∉ch:=λb o e hx hb=>by
  rcases (hch b hb).1 with z|z
  ·exact hx z
  ·exact absurd (KZ (KF e) z) (Ud _)
 have cellK:∀ x c,X.env.cells.lookup x=some c->∀ v,s.heap.IsCell c v->h'.IsCell c v:=λx c e v ⟨o,ho,hd⟩=>by
  have nch:c∉ch:=λz=>(hch c z).2.2.1 x c e rfl
  by_cases hc:c∈X.fs
  ·obtain ⟨sl,q⟩:=slot c o (I.cne x c e) hc nch ho (I.freeC x c e)
   exact ⟨_,q,hd⟩
  ·exact ⟨o,keep c o (I.cne x c e) hc nch ho (I.freeC x c e),hd⟩
 refine ⟨I.ok,I.os,hg,⟨λb o e n hb hx=>?_,λb o e n hb hx=>?_,λb o e n hx=>?_,λb o e hx=>?_,λb xs e=>tups b xs (I.base.tups b xs e),λb o xs e=>frzs b o xs (I.base.frzs b o xs e),λb ps e=>?_⟩,?_,λx c e=>?_,?_,λx c e=>?_,λp hp=>?_,hok,I.len⟩
 ·exact keep b o (neL b o e) hb (neC b o e hx) (I.base.keep b o e n hb hx) (I.base.free b o e n hx)
 ·obtain ⟨sl,e1⟩:=I.base.slot b o e n hb hx
  obtain ⟨sl',e2⟩:=slot b _ (neL b o e) hb (neC b o e hx) e1 (I.base.free b o e n hx)
  exact ⟨sl',e2⟩
 ·obtain ⟨o',e1⟩:=I.base.there b o e hx
  exact free b o' (neC b o e hx) e1 (I.base.free b o e n hx)
 ·obtain ⟨o',e1⟩:=I.base.there b o e hx
  exact there b o' (neC b o e hx) e1
 ·obtain ⟨m1,e1⟩:=I.base.tbls b ps e
  obtain ⟨m2,e2⟩:=tbls b _ e1
  exact ⟨m1++m2,by rw [e2,Array.append_assoc]⟩
 ·obtain ⟨m,hn,hl⟩:=I.loc
  refine ⟨m,ns m hn,λi x v e1 e2 e3=>?_⟩
  obtain ⟨u,r,l⟩:=hl i x v e1 e2 e3
  refine ⟨u,r,?_⟩
  rcases l with l|⟨k,c,e,z⟩
  ·exact .inl l
  ·exact .inr ⟨k,c,e,cellK x c e _ z⟩
 ·obtain ⟨v,z⟩:=I.cell x c e
  exact ⟨v,cellK x c e v z⟩
 ·obtain ⟨m,⟨o,_,_,ho,_⟩,_⟩:=I.loc
  exact free _ o (λz=>(hch _ z).2.1 rfl) ho I.free
 ·obtain ⟨v,o,ho,hd⟩:=I.cell x c e
  exact free c o (λz=>(hch c z).2.2.1 x c e rfl) ho (I.freeC x c e)
 ·obtain ⟨e,n,ne,nf,d⟩:=I.pin p hp
  have nch:p.1∉ch:=λz=>(hch p.1 z).2.2.2 p hp rfl
  exact ⟨keep p.1 p.2 ne nf nch e n,free p.1 p.2 nch e n,ne,nf,d⟩
theorem Inv.un {t':Nat}(I:Inv X aa σ H s)(u:Un X.fs [] H H' s.heap h')(hok:HOk X.prog X.w H' h'):Inv X aa σ H' { s with heap:=h',toks:=t' }:=by
 obtain ⟨m,⟨o,es,ep,ho,r⟩,_⟩:=id I.loc
 obtain ⟨sl,hL⟩:=u.any ho I.free (by simp)
 exact I.step (g':=s.gens) (d':=s.drawn) (ch:=[]) (λ_ z=>nomatch z) (λb o _ hb _ e n=>u.keep b o e n hb (by simp)) (λb o _ hb _ e n=>u.slot b o e n hb (by simp)) (λb o _ e n=>u.free b o e n (by simp)) (λb o _ e=>u.there b o e (by simp)) u.tups u.frzs u.tbls (λm' hm=>by
  obtain ⟨o',es',ep',ho',r'⟩:=hm
  rw [ho] at ho';cases ho'
  exact ⟨_,es',ep',hL,r'⟩) hok I.bare
theorem Inv.call {g':Array GenState}{t':Nat}{d':Drawn}{ch:List Ke}(I:Inv X aa σ H s)(u:Un (frs X.stack) ch H H' s.heap h')(hok:HOk X.prog X.w H' h')(hg:XR g')
  (hch:∀ b∈ch,(b∈X.ex\/X.s₀.heap.objs.size<=b)/\b≠X.env.locals/\(∀ x c,X.env.cells.lookup x=some c->c≠b)/\∀ p∈X.pn++aa,p.1≠b) :
  Inv X aa σ H' { s with heap:=h',gens:=g',drawn:=d',toks:=t' }:=by
 obtain ⟨m,⟨o,es,ep,ho,r⟩,_⟩:=id I.loc
 obtain ⟨sl,hL⟩:=u.any ho I.free λz=>(hch _ z).2.1 rfl
 exact I.step (ch:=ch) hch (λb o hL hb hc e n=>u.keep b o e n (λz=>(Kr.mp (I.stkSub b z)).elim hL hb) hc) (λb o _ _ hc e n=>u.any e n hc) (λb o hc e n=>u.free b o e n hc) (λb o hc e=>u.there b o e hc) u.tups u.frzs u.tbls (λm' hm=>by
  obtain ⟨o',es',ep',ho',r'⟩:=hm
  rw [ho] at ho';cases ho'
  exact ⟨_,es',ep',hL,r'⟩) hok hg
theorem Inv.turned {t':Nat}{it:Ke}(I:Inv X aa σ H s)(k:∀ b o,b≠it->s.heap.get? b=some o->h'.get? b=some o)(hn:H it=none)(hL:it≠X.env.locals)
  (h1:it∈X.ex\/X.s₀.heap.objs.size<=it) (h2:∀ x c,X.env.cells.lookup x=some c->c≠it) (h3:∀ p∈X.pn++aa,p.1≠it):Inv X aa σ H { s with heap:=h',toks:=t' }:=by
 have nit:∀ b u,H b=some u->b≠it:=λb u e z=>by rw [z,hn] at e;cases e
 refine I.step (g':=s.gens) (d':=s.drawn) (ch:=[it]) (λb hb=>?_) (λb o _ _ hc e _=>k b o (λz=>hc (by simp [z])) e) (λb o _ _ hc e _=>⟨o.slots,k b o (λz=>hc (by simp [z])) e⟩) (λ_ _ _ _ n=>n)
  (λb o hc e=>⟨o,k b o (λz=>hc (by simp [z])) e⟩) (λ_ _ e=>e) (λ_ _ _ e=>e) (λb ps e=>⟨#[],by rw [e];simp⟩) (λm hm=>?_) (λb u e=>?_) I.bare
 ·have e:b=it:=by simpa using hb
  subst e
  exact ⟨h1,hL,h2,h3⟩
 ·obtain ⟨o,es,ep,ho,r⟩:=hm
  exact ⟨o,es,ep,k _ o (Ul hL) ho,r⟩
 ·refine (I.hok b u e).stay (λc v hc q=>k c v ?_ q) (λ_ q=>q) λ_ _ q=>q
  rcases hc with z|z
  ·rw [z];exact nit b u e
  ·exact nit c _ z
theorem Inv.tok (I:Inv X aa σ H s)(t:Nat):Inv X aa σ H { s with toks:=t }:=I.un (h':=s.heap) (t':=t) Un.refl I.hok
theorem Inv.kept {t':Nat}(I:Inv X aa σ H s)(k:∀ b u,s.heap.get? b=some u->h'.get? b=some u):Inv X aa σ H { s with heap:=h',toks:=t' }:=I.un (Un.kept k) (I.hok.kept k)
theorem Inv.laid {a:Ke}{o:HO}{t':Nat}(I:Inv X aa σ H s)(k:∀ b u,s.heap.get? b=some u->h'.get? b=some u)(hp:s.heap.objs.size<=a)(new:Qt X.prog X.w (upd H a o) h' a o) :
  Inv X aa σ (upd H a o) { s with heap:=h',toks:=t' }:=I.un (Un.laid k hp (I.hok.fresh hp)) (I.hok.laid k hp new)
theorem Inv.write {x e:Ke}{o:HO}{t':Nat}(I:Inv X aa σ H s)(mu:Mut (H x))(he:e=x\/H e=some (.own x))(k:∀ b u,b≠e->s.heap.get? b=some u->h'.get? b=some u)(heo:∃ u,h'.get? e=some u)
  (new:Qt X.prog X.w (upd H x o) h' x o):Inv X aa σ (upd H x o) { s with heap:=h',toks:=t' }:=I.un (Un.write mu he k heo) (I.hok.write mu he k heo new)
theorem Inv.pins_of {pins':List (Ke×Obj)}(I:Inv X aa σ H s)(h:∀ p∈pins',s.heap.get? p.1=some p.2/\H p.1=none/\p.1≠X.env.locals/\p.1∉X.fs/\∀ v,p.2.data≠.cell v):Inv X pins' σ H s :=
 ⟨I.ok,I.os,I.bare,I.base,I.loc,I.cell,I.free,I.freeC,λp hp=>(K8.mp hp).elim (λz=>I.pin p (Va _ z)) (h p),I.hok,I.len⟩
theorem qdy {N:List Str}(hN:N.Nodup){i j:Nat}{x:Str}(a:N[i]?=some x)(b:N[j]?=some x):i=j:=by
 obtain ⟨h1,e1⟩:=Kk.mp a
 obtain ⟨h2,e2⟩:=Kk.mp b
 exact (List.getElem_inj hN).mp (e1.trans e2.symm)
theorem qbP {M:Model}{A:KY}{E:Kd->Kh->Prop}{i:Nat}{x:Str}{v:V}{u:Kd}{Q:Unit->Kh->Prop}(I:Inv X aa σ H s)(hN:X.N.Nodup)(hi:X.N[i]?=some x)(hx:Loc X.env.scope x)(r:RelV v u)
  (h:∀ s',Inv X aa (σ.set i (some v)) H s'->(∃ a,UA a s.heap s'.heap/\(a=X.env.locals\/X.env.cells.lookup x=some a))->Q () s') (hf:X.fn x=true\/X.env.scope.names.lookup x=some .local:=by first|exact .inl rfl|exact .inr rfl|assumption):ai M A (storeName X.env x u) Q E s:=by
 obtain ⟨m,hn,hl⟩:=id I.loc
 have hcls:(X.env.scope.kind==.class||(X.env.scope.kind==.module&&X.env.locals != X.env.globals))=false:=by rw [I.ok.kind];rfl
 have hiσ:i<σ.length:=by rw [I.len];exact (Kk.mp hi).1
 have cne:=I.cne
 have tracked:∀ {a:Ke} {h':KU},(∃ o,s.heap.get? a=some o/\H a=none)->UA a s.heap h'->HOk X.prog X.w H h':=λ{a h'} ha hs b ob e=>by
  obtain ⟨_,_,hfree⟩:=ha
  refine (I.hok b ob e).stay (λc w' hc q=>(hs.2 c ?_).trans q) (λ_ q=>q) λ_ _ q=>q
  rintro rfl
  rcases hc with rfl|hc
  ·rw [hfree] at e;cases e
  ·rw [hfree] at hc;cases hc
 rcases hx with hk|hk
 ·refine wpAny_storeName_local hk hn (λh' hn' hs=>?_) hcls
  obtain ⟨oL,_,_,hoL,_⟩:=id hn
  refine h _ ⟨I.ok,I.os,I.bare,⟨λb o e n hb hx=>?_,λb o e n hb hx=>?_,I.base.free,λb o e hx=>?_,I.base.tups,I.base.frzs,I.base.tbls⟩,⟨_,hn',λj y v' e1 e2 e3=>?_⟩,λy c e=>?_,I.free,I.freeC,λp hp=>?_,tracked ⟨oL,hoL,I.free⟩ hs,by simpa using I.len⟩ ⟨_,hs,.inl rfl⟩
  ·exact (hs.2 b (KW (KZ (KF e) I.ok.above))).trans (I.base.keep b o e n hb hx)
  ·obtain ⟨sl,e1⟩:=I.base.slot b o e n hb hx
   exact ⟨sl,(hs.2 b (KW (KZ (KF e) I.ok.above))).trans e1⟩
  ·obtain ⟨o',e1⟩:=I.base.there b o e hx
   exact ⟨o',(hs.2 b (KW (KZ (KF e) I.ok.above))).trans e1⟩
  ·by_cases hj:j=i
   ·subst hj
    rw [hi] at e1;cases e1
    rw [Vd hiσ] at e2
    cases e2
    exact ⟨u,r,.inl ⟨hk,by simp⟩⟩
   ·rw [VS (Ul hj)] at e2
    obtain ⟨u',r',q⟩:=hl j y v' e1 e2 e3
    refine ⟨u',r',?_⟩
    rcases q with ⟨k,e⟩|⟨k,c,e,z⟩
    ·refine .inl ⟨k,?_⟩
     have:y≠x:=λe=>hj (qdy hN e1 (e ▸ hi))
     simp [this,e]
    ·exact .inr ⟨k,c,e,z.sameBut hs (cne y c e)⟩
  ·obtain ⟨w',z⟩:=I.cell y c e
   exact ⟨w',z.sameBut hs (cne y c e)⟩
  ·obtain ⟨e,n,ne,nf,d⟩:=I.pin p hp
   exact ⟨(hs.2 p.1 ne).trans e,n,ne,nf,d⟩
 ·have hfn:X.fn x=true:=by
   rcases hf with z|z
   ·exact z
   ·rw [z] at hk;cases hk
  obtain ⟨c,hc⟩:=I.ok.has x (.inl hk)
  obtain ⟨w',z⟩:=I.cell x c hc
  refine wpAny_storeName_cell I.ok.kind hk hc z (λh' hc' hs=>?_)
  obtain ⟨oc,hoc,hocd⟩:=id z
  refine h { s with heap:=h' } ⟨I.ok,I.os,I.bare,⟨λb o e n hb hx=>?_,λb o e n hb hx=>?_,I.base.free,λb o e hx=>?_,I.base.tups,I.base.frzs,I.base.tbls⟩,⟨m,hn.sameBut hs (Ul (cne x c hc)),λj y v' e1 e2 e3=>?_⟩,λy c' e=>?_,I.free,I.freeC,λp hp=>?_,tracked ⟨oc,hoc,I.freeC x c hc⟩ hs,by simpa using I.len⟩ ⟨c,hs,.inr hc⟩
  ·exact (hs.2 b (KW (KZ (KF e) (I.ok.cab x c hfn hc)))).trans (I.base.keep b o e n hb hx)
  ·obtain ⟨sl,e1⟩:=I.base.slot b o e n hb hx
   exact ⟨sl,(hs.2 b (KW (KZ (KF e) (I.ok.cab x c hfn hc)))).trans e1⟩
  ·obtain ⟨o',e1⟩:=I.base.there b o e hx
   exact ⟨o',(hs.2 b (KW (KZ (KF e) (I.ok.cab x c hfn hc)))).trans e1⟩
  ·by_cases hj:j=i
   ·subst hj
    rw [hi] at e1;cases e1
    rw [Vd hiσ] at e2
    cases e2
    exact ⟨u,r,.inr ⟨.inl hk,c,hc,hc'⟩⟩
   ·rw [VS (Ul hj)] at e2
    obtain ⟨u',r',q⟩:=hl j y v' e1 e2 e3
    refine ⟨u',r',?_⟩
    rcases q with q|⟨k,c',e,z'⟩
    ·exact .inl q
    ·refine .inr ⟨k,c',e,z'.sameBut hs ?_⟩
     rintro rfl
     exact hj (qdy hN e1 (I.ok.inj _ _ _ e hc ▸ hi))
  ·by_cases hcc:c'=c
   ·subst hcc;exact ⟨_,hc'⟩
   ·obtain ⟨w2,z2⟩:=I.cell y c' e
    exact ⟨w2,z2.sameBut hs hcc⟩
  ·obtain ⟨e,n,ne,nf,d⟩:=I.pin p hp
   refine ⟨(hs.2 p.1 ?_).trans e,n,ne,nf,d⟩
   intro q
   rw [q,hoc] at e
   have q':oc=p.2:=VY e
   exact d w' (by rw [← q'];exact hocd)
theorem qd1 {M:Model}{A:KY}{E:Kd->Kh->Prop}{i:Nat}{x:Str}{v:V}{u:Kd}{Q:Unit->Kh->Prop}(I:Inv X aa σ H s)(hN:X.N.Nodup)(hi:X.N[i]?=some x)(hx:Loc X.env.scope x)(r:RelV v u)
  (h:∀ s',Inv X aa (σ.set i (some v)) H s'->Q () s') (hf:X.fn x=true\/X.env.scope.names.lookup x=some .local:=by first|exact .inl rfl|exact .inr rfl|assumption):ai M A (storeName X.env x u) Q E s :=
 qbP I hN hi hx r (λs' I' _=>h s' I') hf
theorem Inv.call' {s':Kh}{ch:List Ke}(I:Inv X aa σ H s)(ho:s'.os=s.os)(u:Un (frs X.stack) ch H H' s.heap s'.heap)(hok:HOk X.prog X.w H' s'.heap)(hg:XR s'.gens)
  (hch:∀ b∈ch,(b∈X.ex\/X.s₀.heap.objs.size<=b)/\b≠X.env.locals/\(∀ x c,X.env.cells.lookup x=some c->c≠b)/\∀ p∈X.pn++aa,p.1≠b):Inv X aa σ H' s':=by
 obtain ⟨h',g',d',t',o'⟩:=s'
 have e:o'=s.os:=ho
 subst e
 exact I.call (g':=g') (t':=t') (d':=d') u hok hg hch
end
noncomputable abbrev XK:=Kd->Option Ke->Hp->Prop
noncomputable abbrev St:=List (Option V)
noncomputable abbrev VK:=V->Hp->Prop
noncomputable abbrev TE:=St->Hp->VK->Prop
noncomputable abbrev TT:=St->Hp->(Bool->Hp->Prop)->Prop
noncomputable abbrev TA:=St->Hp->(List V->Hp->Prop)->Prop
structure Ends where
 nx:St->Hp->Prop
 rt:VK
 bk:St->Hp->Prop:=λ_ _=>False
 ct:St->Hp->Prop:=λ_ _=>False
noncomputable abbrev TS:=Ends->St->Hp->Prop
def EP (X:Cx)(aa:List (Ke×Obj))(σ:St)(Q:VK)(u:Kd)(s':Kh):Prop:=∃ v H',Inv X aa σ H' s'/\RelV v u/\Q v H'
def TP (X:Cx)(aa:List (Ke×Obj))(σ:St)(Q:Bool->Hp->Prop)(b:Bool)(s':Kh):Prop:=∃ H',Inv X aa σ H' s'/\Q b H'
def AP (X:Cx)(aa:List (Ke×Obj))(σ:St)(Q:List V->Hp->Prop)(us:List Kd)(s':Kh):Prop:=∃ vs H',Inv X aa σ H' s'/\Vals vs us/\Q vs H'
def SP (X:Cx)(aa:List (Ke×Obj))(D:Ends)(f:Flow)(s':Kh):Prop :=
 match f with
 | .next=>∃ σ' H',Inv X aa σ' H' s'/\D.nx σ' H'
 | .brk=>∃ σ' H',Inv X aa σ' H' s'/\D.bk σ' H'
 | .cont=>∃ σ' H',Inv X aa σ' H' s'/\D.ct σ' H'
 | .ret u=>∃ v σ' H',Inv X aa σ' H' s'/\RelV v u/\D.rt v H'
def PE (X:Cx)(e:KD)(t:TE):Prop :=
 ∀ (aa:List (Ke×Obj)) (s:Kh) (σ:St) (H:Hp) (Q:VK),Inv X aa σ H s->t σ H Q->ai (model X.prog X.w) X.A (eval e X.env) (EP X aa σ Q) X.xe s
def PT (X:Cx)(e:KD)(t:TT):Prop :=
 ∀ (aa:List (Ke×Obj)) (s:Kh) (σ:St) (H:Hp) (Q:Bool->Hp->Prop),Inv X aa σ H s->t σ H Q->ai (model X.prog X.w) X.A (isTrue e X.env (eval e X.env)) (TP X aa σ Q) X.xe s
def PW (X:Cx)(e:KD)(t:TT):Prop :=
 ∀ (whole:Sem Kd) (aa:List (Ke×Obj)) (s:Kh) (σ:St) (H:Hp) (Q:Bool->Hp->Prop),Inv X aa σ H s->t σ H Q->ai (model X.prog X.w) X.A (isTrue e X.env whole) (TP X aa σ Q) X.xe s
theorem PW.pt {X:Cx}{e:KD}{t:TT}(h:PW X e t):PT X e t:=h _
def PA (X:Cx)(es:List KD)(t:TA):Prop :=
 ∀ (pos:Pos) (aa:List (Ke×Obj)) (s:Kh) (σ:St) (H:Hp) (Q:List V->Hp->Prop),Inv X aa σ H s->t σ H Q->ai (model X.prog X.w) X.A (spliced (aA pos (af es X.env))) (AP X aa σ Q) X.xe s
def PS (X:Cx)(st:KS)(t:TS):Prop :=
 ∀ (aa:List (Ke×Obj)) (s:Kh) (σ:St) (H:Hp) (D:Ends),Inv X aa σ H s->t D σ H->ai (model X.prog X.w) X.A (exec st X.env) (SP X aa D) X.xe s
def PSs (X:Cx)(st:List KS)(t:TS):Prop :=
 ∀ (aa:List (Ke×Obj)) (s:Kh) (σ:St) (H:Hp) (D:Ends),Inv X aa σ H s->t D σ H->ai (model X.prog X.w) X.A (execs st X.env) (SP X aa D) X.xe s
theorem thn {α:Type}{t:Sem α}{Q Q':α->Kh->Prop}{M:Model}{A:KY}{E:Kd->Kh->Prop}{s:Kh}(h:ai M A t Q E s)(hQ:∀ a s,Q a s->Q' a s):ai M A t Q' E s:=UE h hQ λ_ _ x=>x
section
variable {X:Cx}
noncomputable def tVar (i:Nat):TE:=λσ H Q=>∃ v,σ[i]?=some (some v)/\Q v H
noncomputable def tC (v:V):TE:=λ_ H Q=>Q v H
theorem qip {i:Nat}{x:Str}{pos:Pos}(hN:X.N[i]?=some x)(hv:Vis X.env.scope x)(hd:(x==("__debug__" : Str))=false:=by decide)(hcd:(x==("__classdict__" : Str))=false:=by decide):PE X (.Name x pos) (tVar i):=by
 intro aa s σ H Q I h
 obtain ⟨v,e,h⟩:=h
 obtain ⟨m,hn,hl⟩:=I.loc
 obtain ⟨u,r,l⟩:=hl i x v hN e hv
 have fin:EP X aa σ Q u s:=⟨v,H,I,r,h⟩
 rcases l with ⟨hk,hm⟩|⟨hk,c,hc,hcell⟩
 ·exact wpAny_Name (wpAny_loadName_local I.ok.kind hk hn hm fin) hd
 ·rcases hk with hk|hk
  ·exact wpAny_Name (wpAny_loadName_cell I.ok.kind hk hc hcell fin) hd
  ·exact wpAny_Name (wpAny_loadName_free I.ok.kind hk hc hcell fin hcd) hd
theorem qmi {i j pos}:PE X (.Constant (.int i) j pos) (tC (.int i)):=λ_ _ _ H _ I h=>wpAny_Constant_int ⟨.int i,H,I.tok _,⟨_,rfl⟩,h⟩
theorem pe_bl {b j pos}:PE X (.Constant (.bool b) j pos) (tC (.bl b)):=λ_ _ _ H _ I h=>Constant_bool ⟨.bl b,H,I,rfl,h⟩
theorem qmj {j pos}:PE X (.Constant .none j pos) (tC .non):=λ_ _ _ H _ I h=>Constant_none ⟨.non,H,I,rfl,h⟩
theorem qmm {x j pos}:PE X (.Constant (.str x) j pos) (tC (.str x)):=λ_ _ _ H _ I h=>Calls.Constant_str ⟨.str x,H,I.tok _,⟨_,rfl⟩,h⟩
def Gl (X:Cx)(x:Str):Prop:=X.env.kindOf x=some .globalImplicit
theorem qco {E:Kd->Kh->Prop}{aa:List (Ke×Obj)}{s:Kh}{σ:St}{H:Hp}{x:Str}{u:Kd}{pos:Pos}{Q:Kd->Kh->Prop}(I:Inv X aa σ H s)(hg:Gl X x)(hm:X.mg x=some u)(h:Q u s)
  (hd:(x==("__debug__" : Str))=false:=by decide):ai (model X.prog X.w) X.A (eval (.Name x pos) X.env) Q E s :=
 Calls.Name_function_global I.ok.kind hg (Calls.loadGlobal_global (by rw [I.ok.glob];exact I.mod.glob.keeps I.bk) hm h) hd
theorem yj {E:Kd->Kh->Prop}{aa:List (Ke×Obj)}{s:Kh}{σ:St}{H:Hp}{x:Str}{u:Kd}{pos:Pos}{Q:Kd->Kh->Prop}(I:Inv X aa σ H s)(hg:Gl X x)(hm:X.mg x=none)(hv:aw x=some u)(h:Q u s)
  (hn:x ≠ "__name__" := by decide) (hd:(x==("__debug__" : Str))=false:=by decide):ai (model X.prog X.w) X.A (eval (.Name x pos) X.env) Q E s:=by
 obtain ⟨mb,h1,h2⟩:=I.mod.blt
 exact Calls.Name_function_global I.ok.kind hg (Calls.loadGlobal_builtin (by rw [I.ok.glob];exact I.mod.glob.keeps I.bk) hm (by rw [I.ok.blt];exact h1.keeps I.bk) ((h2 x hn).trans hv) h) hd
theorem qfG {x:Str}{v:V}{u:Kd}{pos:Pos}(hg:Gl X x)(hm:X.mg x=some u)(r:RelV v u)(hd:(x==("__debug__" : Str))=false:=by decide):PE X (.Name x pos) (tC v) :=
 λ_ _ _ H _ I h=>qco I hg hm ⟨v,H,I,r,h⟩ hd
theorem qkh {x:Str}{v:V}{u:Kd}{pos:Pos}(hg:Gl X x)(hm:X.mg x=none)(hv:aw x=some u)(r:RelV v u)(hn:x ≠ "__name__" := by decide)(hd:(x==("__debug__" : Str))=false:=by decide):PE X (.Name x pos) (tC v) :=
 λ_ _ _ H _ I h=>yj I hg hm hv ⟨v,H,I,r,h⟩ hn hd
variable {a b:KD}{ta tb:TE}{pos:Pos}
noncomputable def tB (t:TE):TT:=λσ H Q=>t σ H λx H1=>∃ c,x=.bl c/\Q c H1
theorem qmv {e:KD}{t:TE}(h:PE X e t)(he:∀ whole,isTrue e X.env whole=(do let v ← whole;bG e.pos;holding [v] (truthy v)):=by intro _;rfl):PT X e (tB t):=by
 intro aa s σ H Q I hw
 refine isTrue_plain (thn (h aa s σ H _ I hw) λv s1 ⟨x,H1,I1,r1,q1⟩=>?_) (he _)
 obtain ⟨d,rfl,q⟩:=q1
 cases r1
 exact Ub ⟨H1,I1,q⟩
variable {tA tB':TT}{rest:List KD}
noncomputable def tAnd (t u:TT):TT:=λσ H Q=>t σ H λc H1=>if c=true then u σ H1 Q else Q false H1
noncomputable def tOr (t u:TT):TT:=λσ H Q=>t σ H λc H1=>if c=true then Q true H1 else u σ H1 Q
noncomputable def tNot (t:TT):TT:=λσ H Q=>t σ H λc H1=>Q (!c) H1
theorem qks (ha:PT X a tA):PW X (.BoolOp .And [a] pos) tA:=by
 intro wh aa s σ H Q I h
 refine isTrue_and (thn (ha aa s σ H Q I h) λc s1 e=>?_)
 cases c with
 | true=>exact isTrue_and_nil e
 | false=>exact e
theorem qmx (ha:PT X a tA):PW X (.BoolOp .Or [a] pos) tA:=by
 intro wh aa s σ H Q I h
 refine isTrue_or (thn (ha aa s σ H Q I h) λc s1 e=>?_)
 cases c with
 | false=>exact isTrue_or_nil e
 | true=>exact e
theorem qmw (ha:PT X a tA)(hb:PW X (.BoolOp .And (b::rest) pos) tB'):PW X (.BoolOp .And (a::b::rest) pos) (tAnd tA tB'):=by
 intro wh aa s σ H Q I h
 refine isTrue_and (thn (ha aa s σ H _ I h) λc s1 ⟨H1,I1,q1⟩=>?_)
 cases c with
 | true=>exact hb wh aa s1 σ H1 Q I1 q1
 | false=>exact ⟨H1,I1,q1⟩
theorem pw_or (ha:PT X a tA)(hb:PW X (.BoolOp .Or (b::rest) pos) tB'):PW X (.BoolOp .Or (a::b::rest) pos) (tOr tA tB'):=by
 intro wh aa s σ H Q I h
 refine isTrue_or (thn (ha aa s σ H _ I h) λc s1 ⟨H1,I1,q1⟩=>?_)
 cases c with
 | true=>exact ⟨H1,I1,q1⟩
 | false=>exact hb wh aa s1 σ H1 Q I1 q1
theorem qmu (ha:PT X a tA):PT X (.UnaryOp .Not a pos) (tNot tA):=by
 intro aa s σ H Q I h
 exact isTrue_not (ha aa s σ H (λc H1=>Q (!c) H1) I h)
noncomputable def tAndV (ta tb:TE):TE:=λσ H Q=>ta σ H λx H1=>∃ c,x=.bl c/\if c=true then tb σ H1 Q else Q (.bl false) H1
noncomputable def tNotV (ta:TE):TE:=λσ H Q=>ta σ H λx H1=>∃ c,x=.bl c/\Q (.bl (!c)) H1
theorem qml {op}{t:TE}(h:PE X a t):PE X (.BoolOp op [a] pos) t:=λaa s σ H Q I hw=>BoolOp_one (h aa s σ H Q I hw)
theorem qmg (ha:PE X a ta)(hb:PE X (.BoolOp .And (b::rest) pos) tb):PE X (.BoolOp .And (a::b::rest) pos) (tAndV ta tb):=by
 intro aa s σ H Q I h
 refine BoolOp_and (thn (ha aa s σ H _ I h) λv s1 ⟨x,H1,I1,r1,q1⟩=>?_)
 obtain ⟨c,rfl,q1⟩:=q1
 cases r1
 refine Ub ?_
 cases c with
 | true=>exact hb aa s1 σ H1 Q I1 q1
 | false=>exact ⟨.bl false,H1,I1,rfl,q1⟩
theorem qmk (ha:PE X a ta):PE X (.UnaryOp .Not a pos) (tNotV ta):=by
 intro aa s σ H Q I h
 refine UnaryOp_ (thn (ha aa s σ H _ I h) λv s1 ⟨x,H1,I1,r1,q1⟩=>?_)
 obtain ⟨c,rfl,q1⟩:=q1
 cases r1
 exact not_of (Ub ⟨.bl (!c),H1,I1,rfl,q1⟩)
noncomputable def tIf (t:TT)(ta tb:TE):TE:=λσ H Q=>t σ H λc H1=>if c=true then ta σ H1 Q else tb σ H1 Q
theorem qim {c:KD}(hc:PT X c tA)(ha:PE X a ta)(hb:PE X b tb):PE X (.IfExp c a b pos) (tIf tA ta tb):=by
 intro aa s σ H Q I h
 refine wpAny_IfExp (thn (hc aa s σ H _ I h) λd s1 ⟨H1,I1,q1⟩=>?_)
 cases d with
 | true=>exact ha aa s1 σ H1 Q I1 q1
 | false=>exact hb aa s1 σ H1 Q I1 q1
end
def SqL (K:Kb)(H:Hp)(a:Ke)(xs:List V):Prop :=
 Rd H a (.lst xs)\/
  ∃ (o:Obj) (its:Array Kd) (n:Nat),K.lookup a=some o/\o.cls=.type "list"/\o.dict=none/\o.data=.seq its n/\its.size<=ak/\Vals xs its.toList
def SqT (K:Kb)(H:Hp)(a:Ke)(xs:List V):Prop :=
 Rd H a (.tup xs)\/
  ∃ (o:Obj) (its:Array Kd) (n:Nat),K.lookup a=some o/\o.cls=.type "tuple"/\o.data=.seq its n/\its.size<=ak/\Vals xs its.toList
noncomputable def absV:Kd->Option V
 | .none=>some .non
 | .bool b=>some (.bl b)
 | .int i _=>some (.int i)
 | .str x _=>some (.str x)
 | .bytes b _=>some (.byt b)
 | .float b _=>some (.flt b)
 | .ref a=>some (.ref a)
 | .type n=>some (.ty n)
 | _=>none
theorem RelV.abs {x:V}{u:Kd}(r:RelV x u):absV u=some x:=by
 cases x with
 | non=>cases r;rfl
 | bl _=>cases r;rfl
 | int _=>obtain ⟨t,rfl⟩:=r;rfl
 | str _=>obtain ⟨t,rfl⟩:=r;rfl
 | byt _=>obtain ⟨t,rfl⟩:=r;rfl
 | flt _=>obtain ⟨t,rfl⟩:=r;rfl
 | ref _=>cases r;rfl
 | ty _=>cases r;rfl
theorem RelV.inj {x y:V}{u:Kd}(r:RelV x u)(q:RelV y u):x=y:=VY (r.abs.symm.trans q.abs)
theorem Vals.inj:∀ {xs ys:List V} {us:List Kd},Vals xs us->Vals ys us->xs=ys
 | _,_,_,.nil,.nil=>rfl
 | _,_,_,.cons r t,.cons r' t'=>by rw [r.inj r',Vals.inj t t']
section
variable {X:Cx}{aa:List (Ke×Obj)}{σ:St}{H:Hp}{s:Kh}{a:Ke}{xs ys:List V}
theorem SqL.of {K:Kb}(h:H a=some (.lst xs)):SqL K H a xs:=.inl (.inl h)
theorem SqT.of {K:Kb}(h:H a=some (.tup xs)):SqT K H a xs:=.inl (.inl h)
theorem Inv.list (I:Inv X aa σ H s)(h:SqL X.K H a xs):∃ its:List Kd,Vals xs its/\PlainL s.heap a its.toArray/\xs.length<=ak:=by
 rcases h with h|⟨o,its,n,hk,hc,hd,hs,hz,r⟩
 ·obtain ⟨z,its,n,r,e⟩:=h.ok I.hok
  exact ⟨its,r,⟨_,n,e,rfl,rfl,rfl⟩,z⟩
 ·refine ⟨its.toList,r,⟨o,n,I.kIn a o hk,hc,hd,by simpa using hs⟩,?_⟩
  have e:=r.length
  simp only [KR] at e
  omega
theorem Inv.tuple (I:Inv X aa σ H s)(h:SqT X.K H a xs):∃ its:List Kd,Vals xs its/\bE s.heap a its.toArray/\xs.length<=ak:=by
 rcases h with h|⟨o,its,n,hk,hc,hs,hz,r⟩
 ·obtain ⟨z,its,r,p⟩:=h.ok I.hok
  exact ⟨its,r,p,z⟩
 ·refine ⟨its.toList,r,⟨o,I.kIn a o hk,hc,n,by simpa using hs⟩,?_⟩
  have e:=r.length
  simp only [KR] at e
  omega
theorem Inv.list_inj (I:Inv X aa σ H s)(h:SqL X.K H a xs)(h':SqL X.K H a ys):xs=ys:=by
 obtain ⟨its,r,⟨o,n,e,_,_,d⟩,_⟩:=I.list h
 obtain ⟨its',r',⟨o',n',e',_,_,d'⟩,_⟩:=I.list h'
 rw [e] at e';cases e'
 rw [d] at d'
 injection d' with d1 _
 have:its=its':=by simpa using congrArg Array.toList d1
 subst this
 exact r.inj r'
theorem Inv.tuple_inj (I:Inv X aa σ H s)(h:SqT X.K H a xs)(h':SqT X.K H a ys):xs=ys:=by
 obtain ⟨its,r,⟨o,e,_,n,d⟩,_⟩:=I.tuple h
 obtain ⟨its',r',⟨o',e',_,n',d'⟩,_⟩:=I.tuple h'
 rw [e] at e';cases e'
 rw [d] at d'
 injection d' with d1 _
 have:its=its':=by simpa using congrArg Array.toList d1
 subst this
 exact r.inj r'
end
noncomputable abbrev Cx.wish (X:Cx)(E:Kd->Kh->Prop):Cx:={ X with xe:=E }
noncomputable abbrev Cx.nox (X:Cx):Cx:=X.wish λ_ _=>False
theorem Cx.Ok.wish {X:Cx}(ok:X.Ok)(E:Kd->Kh->Prop):(X.wish E).Ok :=
 ⟨ok.mod,ok.kind,ok.glob,ok.blt,ok.above,ok.inj,ok.has,ok.cab,ok.hd,ok.frames,ok.stk,ok.exf,ok.bs,ok.bsz,ok.noex,ok.exfs,ok.funs,ok.frf⟩
theorem Cx.Ok.unwish {X:Cx}{E:Kd->Kh->Prop}(ok:(X.wish E).Ok):X.Ok :=
 ⟨ok.mod,ok.kind,ok.glob,ok.blt,ok.above,ok.inj,ok.has,ok.cab,ok.hd,ok.frames,ok.stk,ok.exf,ok.bs,ok.bsz,ok.noex,ok.exfs,ok.funs,ok.frf⟩
section
variable {X:Cx}{aa:List (Ke×Obj)}{σ:St}{H:Hp}{s:Kh}{E:Kd->Kh->Prop}
theorem Inv.wish (I:Inv X aa σ H s)(E:Kd->Kh->Prop):Inv (X.wish E) aa σ H s:=⟨I.ok.wish E,I.os,I.bare,I.base,I.loc,I.cell,I.free,I.freeC,I.pin,I.hok,I.len⟩
theorem Inv.unwish (I:Inv (X.wish E) aa σ H s):Inv X aa σ H s:=⟨I.ok.unwish,I.os,I.bare,I.base,I.loc,I.cell,I.free,I.freeC,I.pin,I.hok,I.len⟩
theorem SP.unwish {D:Ends}{f:Flow}{s':Kh}(h:SP (X.wish E) aa D f s'):SP X aa D f s':=by
 cases f with
 | next=>obtain ⟨σ',H',I,q⟩:=h;exact ⟨σ',H',I.unwish,q⟩
 | brk=>obtain ⟨σ',H',I,q⟩:=h;exact ⟨σ',H',I.unwish,q⟩
 | cont=>obtain ⟨σ',H',I,q⟩:=h;exact ⟨σ',H',I.unwish,q⟩
 | ret u=>obtain ⟨v,σ',H',I,r,q⟩:=h;exact ⟨v,σ',H',I.unwish,r,q⟩
theorem PSs.nox {st:List KS}{t:TS}(h:PSs X.nox st t):PSs X st t:=λaa s σ H D I hw =>
 UE (h aa s σ H D (I.wish _) hw) (λ_ _ q=>q.unwish) λ_ _ z=>Xc z
end
section
variable {X:Cx}{st:KS}{rest:List KS}{t u:TS}{e:KD}{te:TE}{pos:Pos}
noncomputable def tNext:TS:=λD σ H=>D.nx σ H
noncomputable def tSeq (t u:TS):TS:=λD σ H=>t { D with nx:=u D } σ H
theorem qfK:PSs X [] tNext:=λ_ _ σ H _ I h=>Ny ⟨σ,H,I,h⟩
theorem qdT (h1:PS X st t)(h2:PSs X rest u):PSs X (st::rest) (tSeq t u):=by
 intro aa s σ H D I h
 refine wpAny_execs_cons (thn (h1 aa s σ H { D with nx:=u D } I h) λf s1 q=>?_)
 cases f with
 | next =>
  obtain ⟨σ',H',I',q⟩:=q
  exact h2 aa s1 σ' H' D I' q
 | ret v=>exact q
 | brk=>exact q
 | cont=>exact q
theorem qfL (h1:PS X st t):PSs X [st] t:=by
 intro aa s σ H D I h
 refine wpAny_execs_cons (thn (h1 aa s σ H D I h) λf s1 q=>?_)
 cases f with
 | next=>exact Ny q
 | ret v=>exact q
 | brk=>exact q
 | cont=>exact q
theorem Inv.quiet {aa:List (Ke×Obj)}{σ:St}{H:Hp}{s:Kh}(I:Inv X aa σ H s):interactive X.env=false:=by simp [interactive,I.ok.kind]
noncomputable def tDrop (te:TE):TS:=λD σ H=>te σ H λ_ H1=>D.nx σ H1
theorem wz (he:PE X e te)(hs:aK e none pos.line X.env=pure false:=by rfl):PS X (.Expr e pos) (tDrop te):=by
 intro aa s σ H D I h
 exact wpAny_Expr_any (thn (he aa s σ H _ I h) λv s1 ⟨x,H1,I1,r1,q1⟩=>⟨σ,H1,I1,q1⟩) I.quiet hs
noncomputable def tRet (te:TE):TS:=λD σ H=>te σ H D.rt
theorem qiy (he:PE X e te):PS X (.Return (some e) pos) (tRet te):=by
 intro aa s σ H D I h
 exact wpAny_Return_some (thn (he aa s σ H _ I h) λv s1 ⟨x,H1,I1,r1,q1⟩=>⟨x,σ,H1,I1,r1,q1⟩)
noncomputable def tIfS (c:TT)(t u:TS):TS:=λD σ H=>c σ H λb H1=>if b=true then t D σ H1 else u D σ H1
theorem qk2 {c:KD}{a b:List KS}{tc:TT}(hc:PT X c tc)(ha:PSs X a t)(hb:PSs X b u):PS X (.If c a b pos) (tIfS tc t u):=by
 intro aa s σ H D I h
 refine wpAny_If (thn (hc aa s σ H _ I h) λd s1 ⟨H1,I1,q1⟩=>?_)
 cases d with
 | true=>exact ha aa s1 σ H1 D I1 q1
 | false=>exact hb aa s1 σ H1 D I1 q1
end
noncomputable abbrev TG:=V->St->Hp->(St->Hp->Prop)->Prop
noncomputable abbrev TGs:=List V->St->Hp->(St->Hp->Prop)->Prop
def PG (X:Cx)(target:KD)(t:TG):Prop :=
 ∀ (aa:List (Ke×Obj)) (s:Kh) (σ:St) (H:Hp) (v:V) (u:Kd) (Q:St->Hp->Prop),Inv X aa σ H s->RelV v u->t v σ H Q->
  ai (model X.prog X.w) X.A (assign target X.env u) (λ_ s'=>∃ σ' H',Inv X aa σ' H' s'/\Q σ' H') X.xe s
def PGs (X:Cx)(ts:List KD)(t:TGs):Prop :=
 ∀ (aa:List (Ke×Obj)) (s:Kh) (σ:St) (H:Hp) (vs:List V) (us:List Kd) (Q:St->Hp->Prop),Inv X aa σ H s->Vals vs us->t vs σ H Q->
  ai (model X.prog X.w) X.A (assignInOrder ((aB ts X.env).map (·.2)) us) (λ_ s'=>∃ σ' H',Inv X aa σ' H' s'/\Q σ' H') X.xe s
noncomputable abbrev TSet:=V->V->V->Hp->(Hp->Prop)->Prop
def PSet (X:Cx)(t:TSet):Prop :=
 ∀ (aa:List (Ke×Obj)) (s:Kh) (σ:St) (H:Hp) (o i v:V) (ov iv u:Kd) (Q:Hp->Prop),Inv X aa σ H s->RelV o ov->RelV i iv->RelV v u->t o i v H Q->
  ai (model X.prog X.w) X.A (setItem ov iv u) (λ_ s'=>∃ H',Inv X aa σ H' s'/\Q H') X.xe s
section
variable {X:Cx}{pos:Pos}
noncomputable def qfl (i:Nat):TG:=λv σ H Q=>Q (σ.set i (some v)) H
theorem qfH {i:Nat}{x:Str}(hN:X.N.Nodup)(hi:X.N[i]?=some x)(hx:Loc X.env.scope x)(hf:X.fn x=true\/X.env.scope.names.lookup x=some .local:=by first|exact .inl rfl|exact .inr rfl|assumption):PG X (.Name x pos) (qfl i):=by
 intro aa s σ H v u Q I r h
 exact wpAny_assign_Name (qd1 I hN hi hx r (λs' I'=>⟨_,H,I',h⟩) hf)
noncomputable def gNil:TGs:=λvs σ H Q=>vs=[]/\Q σ H
noncomputable def gCons (t:TG)(u:TGs):TGs:=λvs σ H Q=>∃ v r,vs=v::r/\t v σ H λσ' H'=>u r σ' H' Q
theorem qfI:PGs X [] gNil:=by
 intro aa s σ H vs us Q I r h
 obtain ⟨e,h⟩:=h
 subst e
 cases r
 exact assignInOrder_nil ⟨σ,H,I,h⟩
theorem qdP {e:KD}{es:List KD}{t:TG}{u:TGs}(h1:PG X e t)(h2:PGs X es u)
  (hs:(aB (e::es) X.env).map (·.2)=assign e X.env::(aB es X.env).map (·.2):=by rfl):PGs X (e::es) (gCons t u):=by
 intro aa s σ H vs us Q I r h
 obtain ⟨v,vr,e1,h⟩:=h
 subst e1
 cases r with
 | cons r rr =>
  rw [hs]
  refine assignInOrder_cons (thn (h1 aa s σ H _ _ _ I r h) λ_ s1 ⟨σ1,H1,I1,q1⟩=>?_)
  exact h2 aa s1 σ1 H1 _ _ Q I1 rr q1
noncomputable def gTup (K:Kb)(n:Nat)(t:TGs):TG:=λv σ H Q=>∃ a xs,v=.ref a/\SqT K H a xs/\xs.length=n/\t xs σ H Q
theorem qit {es:List KD}{k:Nat}{t:TGs}{n:Nat}(hc:X.calm=true)(h:PGs X es t)
  (hn:(aB es X.env).length=n:=by rfl) (hst:(aB es X.env).findIdx? (·.1)=none:=by rfl):PG X (.Tuple es k pos) (gTup X.K n t):=by
 intro aa s σ H v u Q I r hw
 obtain ⟨a,xs,e1,hq,hl,hw⟩:=hw
 subst e1
 cases r
 obtain ⟨its,rv,ht,hz⟩:=I.tuple hq
 refine assign_Tuple_tuple (I.ok.hd hc) ht (by simp [hn,← hl,rv.length]) hst λh' hx=>?_
 have I1:Inv X aa σ H { s with heap:=h' }:=I.kept (t':=s.toks) λb o e=>hx b o (KW (KF e)) e
 exact h aa _ σ H xs _ Q I1 (by simpa using rv) hw
noncomputable def gSub (to ti:TE)(t:TSet):TG:=λv σ H Q=>to σ H λo H1=>ti σ H1 λi H2=>t o i v H2 λH3=>Q σ H3
theorem qis {o i:KD}{to ti:TE}{t:TSet}(ho:PE X o to)(hi:PE X i ti)(hs:PSet X t)
  (ha:∀ v,assign (.Subscript o i pos) X.env v=(do
   let ov ← holding [v] (eval o X.env)
   let iv ← holding [v,ov] (eval i X.env)
   bG pos
   holding [v,ov,iv] (setItem ov iv v)
   release [v,ov,iv] []):=by intro _;rfl):PG X (.Subscript o i pos) (gSub to ti t):=by
 intro aa s σ H v u Q I r h
 rw [ha]
 refine Kc (V2 (thn (ho aa s σ H _ I h) λov s1 ⟨x,H1,I1,r1,q1⟩=>?_))
 refine Kc (V2 (thn (hi aa s1 σ H1 _ I1 q1) λiv s2 ⟨y,H2,I2,r2,q2⟩=>?_))
 refine Kc (wpAny_standAt (Kc (V2 (thn (hs aa s2 σ H2 x y v ov iv u _ I2 r1 r2 r q2) λ_ s3 ⟨H3,I3,q3⟩=>?_))))
 exact wpAny_release ⟨σ,H3,I3,q3⟩
noncomputable def tAsg (te:TE)(g:TG):TS:=λD σ H=>te σ H λx H1=>g x σ H1 D.nx
theorem qeF {tg e:KD}{te:TE}{g:TG}(he:PE X e te)(hg:PG X tg g)(hs:bB [tg] e pos.line X.env=pure false:=by rfl)(hw:bC [tg] e X.env=pure none:=by rfl)
  (h1:(aB [tg] X.env).map (·.2)=[assign tg X.env]:=by rfl):PS X (.Assign [tg] e pos) (tAsg te g):=by
 intro aa s σ H D I h
 refine wpAny_Assign_stores (thn (he aa s σ H _ I h) λv s1 ⟨x,H1,I1,r1,q1⟩=>?_) hs hw
 rw [h1]
 exact thn (hg aa s1 σ H1 x v _ I1 r1 q1) λ_ s2 q=>q
theorem qaX {i:Nat}{x:Str}{e:KD}{te:TE}{pos':Pos}(hN:X.N.Nodup)(hi:X.N[i]?=some x)(hx:Loc X.env.scope x)(he:PE X e te)(hs:aK e (some (.Name x pos')) pos.line X.env=pure false:=by rfl)(hf:X.fn x=true\/X.env.scope.names.lookup x=some .local:=by first|exact .inl rfl|exact .inr rfl|assumption) :
  PS X (.Assign [.Name x pos'] e pos) (tAsg te (qfl i)):=by
 intro aa s σ H D I h
 refine wpAny_Assign_Name (thn (he aa s σ H _ I h) λv s1 ⟨y,H1,I1,r1,q1⟩=>?_) hs
 exact qd1 I1 hN hi hx r1 (λs2 I2=>⟨_,H1,I2,q1⟩) hf
end
section
variable {X:Cx}{pos:Pos}
noncomputable def qmS (c:TT)(tb:TS):TS:=λD σ H=>∃ W:Nat->St->Hp->Prop,(∃ m,W m σ H)/\∀ m σ H,W m σ H->
 c σ H λb H1=>if b=true then ∃ N:St->Hp->Prop,(∀ σ' H',N σ' H'->∃ m',m'<m/\W m' σ' H')/\tb { D with nx:=N,ct:=N,bk:=D.nx } σ H1 else D.nx σ H1
theorem qiz {c:KD}{body:List KS}{tc:TT}{tb:TS}(hp:EE (model X.prog X.w) X.A X.env X.xe)(hc:PT X c tc)(hb:PSs X body tb):PS X (.While c body [] pos) (qmS tc tb):=by
 intro aa s σ H D I h
 obtain ⟨W,⟨m0,w0⟩,turn⟩:=h
 refine wpAny_While (codeAny_whileLoop (λn s'=>∃ σ' H',Inv X aa σ' H' s'/\W n σ' H') ?_ m0 ⟨σ,H,I,w0⟩)
 rintro n s1 ⟨σ1,H1,I1,w1⟩
 refine U7 hp (thn (hc aa s1 σ1 H1 _ I1 (turn n σ1 H1 w1)) λb s2 ⟨H2,I2,q2⟩=>?_)
 cases b with
 | true =>
  obtain ⟨N,hN,q2⟩:=q2
  rw [ag rfl]
  refine U7 hp (thn (hb aa s2 σ1 H2 _ I2 q2) λf s3 q3=>?_)
  cases f with
  | next =>
   obtain ⟨σ3,H3,I3,n3⟩:=q3
   obtain ⟨m',hm,w3⟩:=hN σ3 H3 n3
   exact ⟨m',hm,σ3,H3,I3,w3⟩
  | cont =>
   obtain ⟨σ3,H3,I3,n3⟩:=q3
   obtain ⟨m',hm,w3⟩:=hN σ3 H3 n3
   exact ⟨m',hm,σ3,H3,I3,w3⟩
  | brk=>exact q3
  | ret v=>exact q3
 | false =>
  rw [ah VI]
  exact Ny ⟨σ1,H2,I2,q2⟩
end
structure It where
 go:Nat->Hp->Prop
 yld:Nat->Hp->V->Hp->Prop
 stop:Nat->Hp->Prop
def FpOk (X:Cx)(aa:List (Ke×Obj))(H:Hp)(b:Ke):Prop :=
 H b=none/\b≠X.env.locals/\b∉X.fs/\(b∈X.ex\/X.s₀.heap.objs.size<=b)/\(∀ x c,X.env.cells.lookup x=some c->c≠b)/\∀ p∈X.pn++aa,p.1≠b
theorem Inv.fpOk {X:Cx}{aa:List (Ke×Obj)}{σ:St}{H H':Hp}{s:Kh}{b:Ke}(I:Inv X aa σ H s)(hb:s.heap.objs.size<=b)(hn:H' b=none):FpOk X aa H' b:=by
 refine ⟨hn,UB (KZ I.lt hb),I.nofs hb,.inr (Vg I.sz hb),λx c e z=>?_,λp hp z=>?_⟩
 ·obtain ⟨v,q⟩:=I.cell x c e
  exact absurd (KZ q.lt (by rw [z];exact hb)) (Ud _)
 ·exact absurd (KZ (KF (I.pin p hp).1) (by rw [z];exact hb)) (Ud _)
structure Turn (P:KJ)(w:K1)(K:Kb)(tg:KD)(J:It)(fp:List Ke)(it:Ke)(tn:Nat->KU->Prop):Prop where
 mem:it∈fp
 obj:∀ i h,tn i h->∀ b∈fp,∃ o,h.get? b=some o/\∀ v,o.data≠.cell v
 keep:∀ i h h',tn i h->(∀ b∈fp,∀ o,h.get? b=some o->h'.get? b=some o)->tn i h'
 item:∀ (X:Cx),X.prog=P->X.w=w->X.K=K->X.calm=true->∀ (i:Nat) (aa:List (Ke×Obj)) (s:Kh) (σ:St) (H:Hp) (E:Kd->Kh->Prop),Inv X aa σ H s->(∀ b∈fp,FpOk X aa H b)->tn i s.heap->J.go i H->
  ai (model P w) X.A (bh (.ref it)) (λr s1=>∃ u,r=some u/\
   ai (model P w) X.A (bj tg (.ref it) u) (λ_ s2=>∃ x H',Inv X aa σ H' s2/\RelV x u/\J.yld i H x H'/\tn (i+1) s2.heap/\∀ b∈fp,H' b=none) E s1) E s
 done:∀ (X:Cx),X.prog=P->X.w=w->X.K=K->X.calm=true->∀ (i:Nat) (aa:List (Ke×Obj)) (s:Kh) (σ:St) (H:Hp) (E:Kd->Kh->Prop),Inv X aa σ H s->(∀ b∈fp,FpOk X aa H b)->tn i s.heap->J.stop i H->
  ai (model P w) X.A (bh (.ref it)) (λr s1=>r=none/\Inv X aa σ H s1) E s
 self:∀ (A:KY) (i:Nat) (s:Kh) (Q:Kd->Kh->Prop) (E:Kd->Kh->Prop),tn i s.heap->Q (.ref it) s->ai (model P w) A (pyIter (.ref it)) Q E s
noncomputable abbrev TI:=St->Hp->(It->Hp->Prop)->Prop
def PIE (X:Cx)(aa:List (Ke×Obj))(σ:St)(tg:KD)(R:It->Hp->Prop)(itv:Kd)(s2:Kh):Prop :=
 ∃ (it:Ke) (fp:List Ke) (tn:Nat->KU->Prop) (J:It) (H':Hp),itv=.ref it/\Inv X aa σ H' s2/\Turn X.prog X.w X.K tg J fp it tn/\tn 0 s2.heap/\(∀ b∈fp,FpOk X aa H' b)/\R J H'
def PI (X:Cx)(tg iter:KD)(wi:TI):Prop :=
 ∀ (aa:List (Ke×Obj)) (s:Kh) (σ:St) (H:Hp) (R:It->Hp->Prop),Inv X aa σ H s->wi σ H R->
  ai (model X.prog X.w) X.A (eval iter X.env) (λv s1=>ai (model X.prog X.w) X.A (pyIter v) (PIE X aa σ tg R) X.xe s1) X.xe s
theorem qhA {M:Model}{A:KY}{E:Kd->Kh->Prop}{s:Kh}{tg:KD}{it:Ke}{u:Kd}{o:Obj}{n:String}{vs:Array Kd}{Q:Unit->Kh->Prop}(ho:s.heap.get? it=some o)(hc:o.cls=.type n)(hd:o.data=.fields vs)
  (hn:["enumerate", "zip", "dict_itemiterator", "dict_reverseitemiterator", "odict_iterator", "itertools.zip_longest", "itertools.pairwise"].contains n=false) (hQ:Q () s):ai M A (bj tg (.ref it) u) Q E s:=by
 unfold bj
 cases tg<;>first
  | exact Kn hQ
  | (cases u<;>first
    | exact Kn hQ
    | (
      refine Kc (wpAny_load ho ?_)
      rw [hc,hd]
      show ai M A (if (["enumerate", "zip", "dict_itemiterator", "dict_reverseitemiterator", "odict_iterator", "itertools.zip_longest", "itertools.pairwise"].contains n&&vs[0]?==some (be _))=true then _ else _) Q E s
      rw [ah (by intro h;rw [hn,Bool.false_and] at h;cases h)]
      exact Kn hQ))
noncomputable def Itl (K:Kb)(a:Ke):It :=
 ⟨λi H=>∃ xs x,SqL K H a xs/\xs[i]?=some x,λi H x H'=>H'=H/\∀ xs,SqL K H a xs->xs[i]?=some x,λi H=>∃ xs,SqL K H a xs/\xs.length<=i⟩
noncomputable def Itt (K:Kb)(a:Ke):It :=
 ⟨λi H=>∃ xs x,SqT K H a xs/\xs[i]?=some x,λi H x H'=>H'=H/\∀ xs,SqT K H a xs->xs[i]?=some x,λi H=>∃ xs,SqT K H a xs/\xs.length<=i⟩
noncomputable def Itr (lo:Int)(n:Nat):It:=⟨λi _=>i<n,λi H x H'=>H'=H/\x=.int (lo+i),λi _=>n<=i⟩
theorem qgT {P:KJ}{w:K1}{K:Kb}{tg:KD}(a it:Ke):Turn P w K tg (Itl K a) [it] it (λi h=>h.IsListIter it a i) where
 mem:=by simp
 obj:=λi h st b hb=>by
  have e:b=it:=by simpa using hb
  subst e
  obtain ⟨o,e,c,d⟩:=st
  exact ⟨o,e,λv z=>by rw [d] at z;cases z⟩
 keep:=λi h h' st k=>st.at λo e=>k it (by simp) o e
 item:=by
  intro X hP hw hK hc i aa s σ H E I hf st hg
  subst hP hw hK
  obtain ⟨xs,x,hq,hx⟩:=hg
  obtain ⟨its,rv,p,hz⟩:=I.list hq
  obtain ⟨u,hu,ru⟩:=rv.get hx
  obtain ⟨f0,f1,f2,f3,f4,f5⟩:=hf it (by simp)
  refine wpAny_pyNext_list_item st p.isList (x:=u) (by simpa using hu) λh' st' sb=>?_
  have I1:Inv X aa σ H { s with heap:=h' }:=I.turned (t':=s.toks) (λb o hb e=>(sb.2 b hb).trans e) f0 f1 f3 f4 f5
  obtain ⟨o,e,c,d⟩:=id st'
  exact ⟨u,rfl,qhA (s:={ s with heap:=h' }) e c d '#' ⟨x,H,I1,ru,⟨rfl,λys hy=>by rw [I.list_inj hy hq];exact hx⟩,st',λb hb=>(hf b hb).1⟩⟩
 done:=by
  intro X hP hw hK hc i aa s σ H E I hf st hg
  subst hP hw hK
  obtain ⟨xs,hq,hx⟩:=hg
  obtain ⟨its,rv,p,hz⟩:=I.list hq
  obtain ⟨f0,f1,f2,f3,f4,f5⟩:=hf it (by simp)
  have hl:=rv.length
  exact wpAny_pyNext_list_end (I.ok.hd hc) st p.isList (by simp;omega) λh' eb=>⟨rfl,I.turned (t':=s.toks) (λb o hb e=>eb b o hb e) f0 f1 f3 f4 f5⟩
 self:=λ_ _ _ _ _ st h=>wpAny_pyIter_listiter st h
theorem qeQ {P:KJ}{w:K1}{K:Kb}{tg:KD}(a it:Ke):Turn P w K tg (Itt K a) [it] it (λi h=>h.IsTupleIter it a i) where
 mem:=by simp
 obj:=λi h st b hb=>by
  have e:b=it:=by simpa using hb
  subst e
  obtain ⟨o,e,c,d⟩:=st
  exact ⟨o,e,λv z=>by rw [d] at z;cases z⟩
 keep:=λi h h' st k=>st.at λo e=>k it (by simp) o e
 item:=by
  intro X hP hw hK hc i aa s σ H E I hf st hg
  subst hP hw hK
  obtain ⟨xs,x,hq,hx⟩:=hg
  obtain ⟨its,rv,p,hz⟩:=I.tuple hq
  obtain ⟨u,hu,ru⟩:=rv.get hx
  obtain ⟨f0,f1,f2,f3,f4,f5⟩:=hf it (by simp)
  refine wpAny_pyNext_tuple_item st (show s.heap.IsTuple a its.toArray from p) (x:=u) (by simpa using hu) λh' st' sb=>?_
  have I1:Inv X aa σ H { s with heap:=h' }:=I.turned (t':=s.toks) (λb o hb e=>(sb.2 b hb).trans e) f0 f1 f3 f4 f5
  obtain ⟨o,e,c,d⟩:=id st'
  exact ⟨u,rfl,qhA (s:={ s with heap:=h' }) e c d '#' ⟨x,H,I1,ru,⟨rfl,λys hy=>by rw [I.tuple_inj hy hq];exact hx⟩,st',λb hb=>(hf b hb).1⟩⟩
 done:=by
  intro X hP hw hK hc i aa s σ H E I hf st hg
  subst hP hw hK
  obtain ⟨xs,hq,hx⟩:=hg
  obtain ⟨its,rv,p,hz⟩:=I.tuple hq
  obtain ⟨f0,f1,f2,f3,f4,f5⟩:=hf it (by simp)
  have hl:=rv.length
  exact wpAny_pyNext_tuple_end (I.ok.hd hc) st (show s.heap.IsTuple a its.toArray from p) (by simp;omega) λh' eb=>⟨rfl,I.turned (t':=s.toks) (λb o hb e=>eb b o hb e) f0 f1 f3 f4 f5⟩
 self:=λ_ _ _ _ _ st h=>wpAny_pyIter_tupleiter st h
theorem qeP {P:KJ}{w:K1}{K:Kb}{tg:KD}(it:Ke)(lo:Int)(n:Nat):Turn P w K tg (Itr lo n) [it] it (λi h=>IsRangeIter h it (lo+(i:Nat)*1) ((n:Int)-(i:Nat)) 1) where
 mem:=by simp
 obj:=λi h st b hb=>by
  have e:b=it:=by simpa using hb
  subst e
  exact ⟨_,st,λv z=>by
   have z':Uz _=Data.cell v:=z
   cases z'⟩
 keep:=λi h h' st k=>k it (by simp) _ st
 item:=by
  intro X hP hw hK hc i aa s σ H E I hf st hg
  subst hP hw hK
  obtain ⟨f0,f1,f2,f3,f4,f5⟩:=hf it (by simp)
  have W:=Walks.range (prog:=X.prog) (w:=X.w) (I.ok.hd hc) it lo 1 n
  refine W.item i s _ _ hg st λv h' tk hv st' kk=>?_
  obtain ⟨t,rfl⟩:=hv
  have I1:Inv X aa σ H { s with heap:=h',toks:=tk }:=I.turned (λb o hb e=>kk b o (by simpa using hb) e) f0 f1 f3 f4 f5
  refine ⟨_,rfl,qhA (s:={ s with heap:=h',toks:=tk }) (n := "range_iterator") st' rfl rfl '#' ⟨.int (lo+i),H,I1,⟨t,?_⟩,⟨rfl,rfl⟩,st',λb hb=>(hf b hb).1⟩⟩
  rw [Int.mul_one]
 done:=by
  intro X hP hw hK hc i aa s σ H E I hf st hg
  subst hP hw hK
  obtain ⟨f0,f1,f2,f3,f4,f5⟩:=hf it (by simp)
  exact wpAny_pyNext_range_end (I.ok.hd hc) st (by have:n<=i:=hg;omega) λh' eb=>⟨rfl,I.turned (t':=s.toks) (λb o hb e=>eb b o hb e) f0 f1 f3 f4 f5⟩
 self:=λ_ _ _ _ _ st h=>wpAny_pyIter_rangeiter st h
section
variable {X:Cx}{tg:KD}
theorem qdV {aa:List (Ke×Obj)}{σ:St}{H:Hp}{s:Kh}{R:It->Hp->Prop}{E:Kd->Kh->Prop}{lo hi:Int}{t u v:Tok}{tk:Nat}(I:Inv X aa σ H s)(h1:-(2 ^ 62)<=lo)(h2:lo<2 ^ 62)(h3:-(2 ^ 62)<=hi)(h4:hi<2 ^ 62)
  (q:R (Itr lo (hi-lo).toNat) H):ai (model X.prog X.w) X.A (pyIter (.ref s.heap.objs.size)) (PIE X aa σ tg R) E { s with heap:=s.heap.push { cls:=.type "range", data:=.fields #[.int lo t,.int hi u,.int 1 v] },toks:=tk }:=by
 refine wpAny_pyIter_range (IsRange.new ..) (small_one h1 h2 h3 h4) ?_
 have I1:Inv X aa σ H { s with heap:=s.heap.push { cls:=.type "range", data:=.fields #[.int lo t,.int hi u,.int 1 v] },toks:=tk }:=I.kept λb o e=>Ki _ e
 refine ⟨(s.heap.push { cls:=.type "range", data:=.fields #[.int lo t,.int hi u,.int 1 v] }).objs.size,[(s.heap.push { cls:=.type "range", data:=.fields #[.int lo t,.int hi u,.int 1 v] }).objs.size],_,_,H,rfl,
  I1.kept (t':=tk) λb o e=>Ki _ e,qeP _ lo (hi-lo).toNat,?_,λb hb=>?_,q⟩
 ·have e1:lo+((0:Nat):Int)*1=lo:=by simp
  have e2:(((hi-lo).toNat:Nat):Int)-((0:Nat):Int)=Builtin.Range.rangeSize lo hi 1:=by rw [rangeSize_one];split<;>omega
  show IsRangeIter _ _ (lo+((0:Nat):Int)*1) ((((hi-lo).toNat:Nat):Int)-((0:Nat):Int)) 1
  rw [e1,e2]
  exact Kv _ rfl
 ·have e:b=(s.heap.push { cls:=.type "range", data:=.fields #[.int lo t,.int hi u,.int 1 v] }).objs.size:=by simpa using hb
  subst e
  exact I1.fpOk (Kq _) (I1.hok.fresh (Kq _))
noncomputable def iRng1 (ta:TA):TI:=λσ H R=>ta σ H λvs H1=>∃ j:Int,vs=[.int j]/\-(2 ^ 62)<=j/\j<2 ^ 62/\R (Itr 0 j.toNat) H1
noncomputable def iRng2 (ta:TA):TI:=λσ H R=>ta σ H λvs H1=>∃ i j:Int,vs=[.int i,.int j]/\(-(2 ^ 62)<=i/\i<2 ^ 62/\-(2 ^ 62)<=j/\j<2 ^ 62)/\R (Itr i (j-i).toNat) H1
theorem qbL {a:KD}{ta:TA}{p pos:Pos}(hg:Gl X "range")(hm:X.mg "range" = none)(ha:PA X [a] ta)(hs:af [a] X.env=[(false,eval a X.env)]:=by rfl):PI X tg (.Call (.Name "range" p) [a] [] pos) (iRng1 ta):=by
 intro aa s σ H R I h
 refine Call_ (yj I hg hm boot_range (Uh (thn (ha pos aa s σ H _ I h) λus s1 ⟨vs,H1,I1,r1,q1⟩=>?_) hs rfl))
 obtain ⟨j,e,q1,q2,q⟩:=q1
 subst e
 cases r1 with
 | cons r rr =>
  cases rr
  obtain ⟨t,rfl⟩:=r
  exact call_range_1 (qdV I1 '$' '$' q1 q2 (by simpa using q))
theorem qgJ {a b:KD}{ta:TA}{p pos:Pos}(hg:Gl X "range")(hm:X.mg "range" = none)(ha:PA X [a,b] ta)(hs:af [a,b] X.env=[(false,eval a X.env),(false,eval b X.env)]:=by rfl)(hs2:af [b] X.env=[(false,eval b X.env)]:=by rfl) :
  PI X tg (.Call (.Name "range" p) [a,b] [] pos) (iRng2 ta):=by
 intro aa s σ H R I h
 refine Call_ (yj I hg hm boot_range (Uh (thn (ha pos aa s σ H _ I h) λus s1 ⟨vs,H1,I1,r1,q1⟩=>?_) (by rw [hs,hs2]) (by rw [hs2];rfl)))
 obtain ⟨i,j,e,⟨q1,q2,q3,q4⟩,q⟩:=q1
 subst e
 cases r1 with
 | cons r rr =>
  cases rr with
  | cons r' rr =>
   cases rr
   obtain ⟨t,rfl⟩:=r
   obtain ⟨t',rfl⟩:=r'
   exact call_range_2 (qdV I1 q1 q2 q3 q4 q)
noncomputable def tFor (wi:TI)(g:TG)(tb:TS):TS:=λD σ H=>wi σ H λJ H1=>∃ W:Nat->Nat->St->Hp->Prop,(∃ m,W 0 m σ H1)/\∀ i m σ H,W i m σ H->
 (J.stop i H/\D.nx σ H)\/(J.go i H/\∃ N:St->Hp->Prop,(∀ σ' H',N σ' H'->∃ m',m'<m/\W (i+1) m' σ' H')/\∀ x H',J.yld i H x H'->g x σ H' λσ2 H2=>tb { D with nx:=N,ct:=N,bk:=D.nx } σ2 H2)
noncomputable def jf (fp:List Ke)(h:KU):List (Ke×Obj):=fp.filterMap λb=>(h.get? b).map λo=>(b,o)
theorem ZW {fp:List Ke}{h:KU}{b:Ke}{o:Obj}(hb:b∈fp)(e:h.get? b=some o):(b,o)∈jf fp h:=UH.mpr ⟨b,hb,by rw [e];rfl⟩
theorem Wb {fp:List Ke}{h:KU}{p:Ke×Obj}(hp:p∈jf fp h):p.1∈fp/\h.get? p.1=some p.2:=by
 obtain ⟨b,hb,e⟩:=UH.mp hp
 cases q:h.get? b with
 | none=>rw [q] at e;cases e
 | some o =>
  rw [q] at e
  have e':(b,o)=p:=VY e
  subst e'
  exact ⟨hb,q⟩
theorem Inv.pinned {aa:List (Ke×Obj)}{σ:St}{H:Hp}{s:Kh}{fp:List Ke}(I:Inv X aa σ H s)(hf:∀ b∈fp,FpOk X aa H b)(ho:∀ b∈fp,∃ o,s.heap.get? b=some o/\∀ v,o.data≠.cell v):Inv X (aa++jf fp s.heap) σ H s :=
 I.pins_of λp hp=>(K8.mp hp).elim (λz=>I.pin p (KP _ z)) λz=>by
  obtain ⟨hb,e⟩:=Wb z
  obtain ⟨f0,f1,f2,_⟩:=hf p.1 hb
  obtain ⟨o,e',d⟩:=ho p.1 hb
  rw [e] at e';cases e'
  exact ⟨e,f0,f1,f2,d⟩
theorem Inv.unpinned {aa pl:List (Ke×Obj)}{σ:St}{H:Hp}{s:Kh}(I:Inv X (aa++pl) σ H s):Inv X aa σ H s:=I.pins_of λp hp=>I.pin p (KP _ (Va _ hp))
theorem qix {iter:KD}{body:List KS}{wi:TI}{g:TG}{tb:TS}{pos:Pos}(hp:EE (model X.prog X.w) X.A X.env X.xe)(hc:X.calm=true)(hi:PI X tg iter wi)(hg:PG X tg g)(hb:PSs X body tb)
  (hs:∀ x,az iter X.env x=pure x:=by intro _;rfl):PS X (.For tg iter body [] pos) (tFor wi g tb):=by
 intro aa s σ H D I h
 refine wpAny_For (thn (hi aa s σ H _ I h) λv s1 h1=>thn h1 λitv s2 h2=>?_) hs
 obtain ⟨it,fp,tn,J,H2,e,I2,T,st2,f2,W,⟨m0,w0⟩,turn⟩:=h2
 subst e
 have stat:∀ {H':Hp},(∀ b∈fp,H' b=none)->∀ b∈fp,FpOk X aa H' b:=λhn b hb=>⟨hn b hb,(f2 b hb).2⟩
 refine codeAny_forLoop_any (λn s'=>∃ i σ' H',Inv X aa σ' H' s'/\tn i s'.heap/\(∀ b∈fp,H' b=none)/\W i n σ' H') ?_ m0 ⟨0,σ,H2,I2,st2,λb hb=>(f2 b hb).1,w0⟩
 rintro n s3 ⟨i,σ3,H3,I3,st3,fr3,w3⟩
 rcases turn i n σ3 H3 w3 with ⟨stop,qn⟩|⟨go,N,hN,step⟩
 ·refine U7 hp (thn (T.done X rfl rfl rfl hc i aa s3 σ3 H3 X.xe I3 (stat fr3) st3 stop) λr s4 ⟨hr,I4⟩=>?_)
  subst hr
  exact Ny ⟨σ3,H3,I4,qn⟩
 ·refine U7 hp (thn (T.item X rfl rfl rfl hc i aa s3 σ3 H3 X.xe I3 (stat fr3) st3 go) λr s4 ⟨u,hr,h4⟩=>?_)
  subst hr
  refine U7 hp (thn h4 λ_ s5 ⟨x,H5,I5,r5,y5,st5,fr5⟩=>?_)
  have I5':=I5.pinned (stat fr5) (T.obj _ _ st5)
  refine U7 hp (thn (hg _ s5 σ3 H5 x u _ I5' r5 (step x H5 y5)) λ_ s6 ⟨σ6,H6,I6,q6⟩=>?_)
  refine U7 hp (thn (hb _ s6 σ6 H6 _ I6 q6) λf s7 q7=>?_)
  have again:∀ {σ7:St} {H7:Hp},Inv X (aa++jf fp s5.heap) σ7 H7 s7->N σ7 H7->∃ m,m<n/\∃ i σ' H',Inv X aa σ' H' s7/\tn i s7.heap/\(∀ b∈fp,H' b=none)/\W i m σ' H':=λ{σ7 H7} I7 n7=>by
   obtain ⟨m',hm,w7⟩:=hN σ7 H7 n7
   refine ⟨m',hm,i+1,σ7,H7,I7.unpinned,T.keep _ _ _ st5 λb hb o e=>(I7.pin (b,o) (KP _ (KP _ (ZW hb e)))).1,λb hb=>?_,w7⟩
   obtain ⟨o,e,d⟩:=T.obj _ _ st5 b hb
   exact (I7.pin (b,o) (KP _ (KP _ (ZW hb e)))).2.1
  cases f with
  | next=>obtain ⟨σ7,H7,I7,n7⟩:=q7;exact again I7 n7
  | cont=>obtain ⟨σ7,H7,I7,n7⟩:=q7;exact again I7 n7
  | brk=>obtain ⟨σ7,H7,I7,q7⟩:=q7;exact ⟨σ7,H7,I7.unpinned,q7⟩
  | ret v=>obtain ⟨x7,σ7,H7,I7,r7,q7⟩:=q7;exact ⟨x7,σ7,H7,I7.unpinned,r7,q7⟩
end
noncomputable abbrev R2:=V->V->Hp->VK->Prop
def OpR (X:Cx)(f:Kd->Kd->Sem Kd)(r:R2):Prop :=
 ∀ (aa:List (Ke×Obj)) (s:Kh) (σ:St) (H:Hp) (x y:V) (v u:Kd) (Q:VK),Inv X aa σ H s->RelV x v->RelV y u->r x y H Q->
  ai (model X.prog X.w) X.A (f v u) (EP X aa σ Q) X.xe s
def UnR (X:Cx)(f:Kd->Sem Kd)(r:V->Hp->VK->Prop):Prop :=
 ∀ (aa:List (Ke×Obj)) (s:Kh) (σ:St) (H:Hp) (x:V) (v:Kd) (Q:VK),Inv X aa σ H s->RelV x v->r x H Q->
  ai (model X.prog X.w) X.A (f v) (EP X aa σ Q) X.xe s
def jg (X:Cx)(f:Kd)(r:List V->Hp->VK->Prop):Prop :=
 ∀ (aa:List (Ke×Obj)) (s:Kh) (σ:St) (H:Hp) (xs:List V) (us:List Kd) (Q:VK),Inv X aa σ H s->Vals xs us->r xs H Q->
  ai (model X.prog X.w) X.A (call f us) (EP X aa σ Q) X.xe s
def TruR (X:Cx)(r:V->Hp->(Bool->Hp->Prop)->Prop):Prop :=
 ∀ (aa:List (Ke×Obj)) (s:Kh) (σ:St) (H:Hp) (x:V) (v:Kd) (Q:Bool->Hp->Prop),Inv X aa σ H s->RelV x v->r x H Q->
  ai (model X.prog X.w) X.A (truthy v) (TP X aa σ Q) X.xe s
noncomputable def tOp (r:R2)(ta tb:TE):TE:=λσ H Q=>ta σ H λx H1=>tb σ H1 λy H2=>r x y H2 Q
noncomputable def tUn (r:V->Hp->VK->Prop)(ta:TE):TE:=λσ H Q=>ta σ H λx H1=>r x H1 Q
noncomputable def rI (C:Int->Int->Prop)(g:Int->Int->V):R2:=λx y H Q=>∃ i j,x=.int i/\y=.int j/\C i j/\Q (g i j) H
noncomputable def rI0 (g:Int->Int->V):R2:=λx y H Q=>∃ i j,x=.int i/\y=.int j/\Q (g i j) H
noncomputable def rU (g:Int->V):V->Hp->VK->Prop:=λx H Q=>∃ i,x=.int i/\Q (g i) H
section
variable {X:Cx}{a b c:KD}{ta tb tc:TE}{pos:Pos}
theorem binT (ha:PE X a ta)(hb:PE X b tb){aa:List (Ke×Obj)}{s:Kh}{σ:St}{H:Hp}{R:V->V->Hp->Prop}(I:Inv X aa σ H s)
  (h:ta σ H λx H1=>tb σ H1 λy H2=>R x y H2) {Q:Kd->Kh->Prop} {f:Kd->Kd->Sem Kd}
  (hf:∀ v u s2 x y H2,Inv X aa σ H2 s2->RelV x v->RelV y u->R x y H2->ai (model X.prog X.w) X.A (f v u) Q X.xe s2) :
  ai (model X.prog X.w) X.A (eval a X.env) (λv s₁=>ai (model X.prog X.w) X.A (eval b X.env) (λu s₂=>ai (model X.prog X.w) X.A (f v u) Q X.xe s₂) X.xe s₁) X.xe s:=by
 refine thn (ha aa s σ H _ I h) λv s1 ⟨x,H1,I1,r1,q1⟩=>?_
 refine thn (hb aa s1 σ H1 _ I1 q1) λu s2 ⟨y,H2,I2,r2,q2⟩=>?_
 exact hf v u s2 x y H2 I2 r1 r2 q2
theorem pe_op {op:Operator}{r:R2}(ho:OpR X (aF op) r)(ha:PE X a ta)(hb:PE X b tb):PE X (.BinOp a op b pos) (tOp r ta tb):=by
 intro aa s σ H Q I h
 exact wpAny_BinOp (binT ha hb I h λv u s2 x y H2 I2 rx ry q=>ho aa s2 σ H2 x y v u Q I2 rx ry q)
theorem pe_un {op:UnaryOp}{r:V->Hp->VK->Prop}(ho:UnR X (unaryOp op) r)(ha:PE X a ta):PE X (.UnaryOp op a pos) (tUn r ta):=by
 intro aa s σ H Q I h
 exact UnaryOp_ (thn (ha aa s σ H _ I h) λv s1 ⟨x,H1,I1,r1,q1⟩=>ho aa s1 σ H1 x v Q I1 r1 q1)
theorem opI {f:Kd->Kd->Sem Kd}{C:Int->Int->Prop}{g:Int->Int->Int}
  (rule:∀ (i j:Int) (t u:Tok) (s:Kh) (Q:Kd->Kh->Prop) (E:Kd->Kh->Prop),C i j->Q (.int (g i j) s.toks) { s with toks:=s.toks+1 }->ai (model X.prog X.w) X.A (f (.int i t) (.int j u)) Q E s) :
  OpR X f (rI C λi j=>.int (g i j)):=by
 intro aa s σ H x y v u Q I rx ry h
 obtain ⟨i,j,rfl,rfl,hc,q⟩:=h
 obtain ⟨t,rfl⟩:=rx
 obtain ⟨t',rfl⟩:=ry
 exact rule i j t t' s _ _ hc ⟨.int (g i j),H,I.tok _,⟨_,rfl⟩,q⟩
theorem opI0 {f:Kd->Kd->Sem Kd}{g:Int->Int->Int}
  (rule:∀ (i j:Int) (t u:Tok) (s:Kh) (Q:Kd->Kh->Prop) (E:Kd->Kh->Prop),Q (.int (g i j) s.toks) { s with toks:=s.toks+1 }->ai (model X.prog X.w) X.A (f (.int i t) (.int j u)) Q E s) :
  OpR X f (rI0 λi j=>.int (g i j)):=by
 intro aa s σ H x y v u Q I rx ry h
 obtain ⟨i,j,rfl,rfl,q⟩:=h
 obtain ⟨t,rfl⟩:=rx
 obtain ⟨t',rfl⟩:=ry
 exact rule i j t t' s _ _ ⟨.int (g i j),H,I.tok _,⟨_,rfl⟩,q⟩
theorem opB0 {f:Kd->Kd->Sem Kd}{g:Int->Int->Bool}
  (rule:∀ (i j:Int) (t u:Tok) (s:Kh) (Q:Kd->Kh->Prop) (E:Kd->Kh->Prop),Q (.bool (g i j)) s->ai (model X.prog X.w) X.A (f (.int i t) (.int j u)) Q E s) :
  OpR X f (rI0 λi j=>.bl (g i j)):=by
 intro aa s σ H x y v u Q I rx ry h
 obtain ⟨i,j,rfl,rfl,q⟩:=h
 obtain ⟨t,rfl⟩:=rx
 obtain ⟨t',rfl⟩:=ry
 exact rule i j t t' s _ _ ⟨.bl (g i j),H,I,rfl,q⟩
def CDiv (i j:Int):Prop:=0<j/\j<1073741824
def CPow (i j:Int):Prop:=0<=j/\j<=1000000/\i.natAbs<2 ^ 64
theorem ql5:OpR X (aF .Add) (rI0 λi j=>.int (i+j)):=opI0 λ_ _ _ _ _ _ _ q=>add_int q
theorem qmb:OpR X (aF .Sub) (rI0 λi j=>.int (i-j)):=opI0 λ_ _ _ _ _ _ _ q=>sub_int q
theorem qj7:OpR X (aF .FloorDiv) (rI CDiv λi j=>.int (i / j)):=opI λi j _ _ _ _ _ hc q=>by
 have h1:(0:Int)<j:=hc.1
 have h2:j<1073741824:=hc.2
 exact floordiv_int '$' (by rw [Int.fdiv_eq_ediv_of_nonneg i '$'];exact q) (.inl (PyProof.noPylong_small '$'))
theorem ql8:OpR X (aF .Mod) (rI (λ_ j=>0<j) λi j=>.int (i % j)):=opI λi j _ _ _ _ _ hc q=>by
 have h1:(0:Int)<j:=hc
 exact mod_int' '$' (by rw [Int.fmod_eq_emod_of_nonneg i '$'];exact q)
theorem qma:OpR X (aF .Pow) (rI CPow λi j=>.int (i ^ j.toNat)):=opI λ_ _ _ _ _ _ _ hc q=>pow_int_small hc.1 hc.2.1 hc.2.2 q
theorem unI {f:Kd->Sem Kd}{g:Int->Int}
  (rule:∀ (i:Int) (t:Tok) (s:Kh) (Q:Kd->Kh->Prop) (E:Kd->Kh->Prop),Q (.int (g i) s.toks) { s with toks:=s.toks+1 }->ai (model X.prog X.w) X.A (f (.int i t)) Q E s) :
  UnR X f (rU λi=>.int (g i)):=by
 intro aa s σ H x v Q I rx h
 obtain ⟨i,rfl,q⟩:=h
 obtain ⟨t,rfl⟩:=rx
 exact rule i t s _ _ ⟨.int (g i),H,I.tok _,⟨_,rfl⟩,q⟩
theorem qmY:UnR X (unaryOp .USub) (rU λi=>.int (-i)):=unI λ_ _ _ _ _ q=>neg_int q
end
section
variable {X:Cx}{a b c:KD}{ta tb tc:TE}{pos:Pos}
theorem jE {aa:List (Ke×Obj)}{σ:St}{H:Hp}{s:Kh}{Q:VK}{k k':Bool}(I:Inv X aa σ H s)(q:Q (.bl k) H)(e:k=k'):EP X aa σ Q (.bool k') s:=by
 subst e
 exact ⟨.bl k,H,I,rfl,q⟩
theorem op_le:OpR X (au .LtE) (rI0 λi j=>.bl (decide (i<=j))):=opB0 λ_ _ _ _ _ _ _ q=>le_int q
theorem op_gt:OpR X (au .Gt) (rI0 λi j=>.bl (decide (j<i))):=opB0 λ_ _ _ _ _ _ _ q=>gt_int q
theorem ql7:OpR X (au .Is) (λx y H Q=>y=.non/\Q (.bl (decide (x=.non))) H):=by
 intro aa s σ H x y v u Q I rx ry h
 obtain ⟨rfl,q⟩:=h
 cases ry
 refine is_none_gen (jE I q ?_)
 cases x<;>first
  | (cases rx;rfl)
  | (obtain ⟨t,rfl⟩:=rx;rfl)
theorem qj9:OpR X (au .IsNot) (λx y H Q=>y=.non/\Q (.bl (!decide (x=.non))) H):=by
 intro aa s σ H x y v u Q I rx ry h
 obtain ⟨rfl,q⟩:=h
 cases ry
 refine isnot_none_gen (jE I q ?_)
 cases x<;>first
  | (cases rx;rfl)
  | (obtain ⟨t,rfl⟩:=rx;rfl)
theorem OpR.or {f:Kd->Kd->Sem Kd}{r r':R2}(h:OpR X f r)(h':OpR X f r'):OpR X f (λx y H Q=>r x y H Q\/r' x y H Q):=by
 intro aa s σ H x y v u Q I rx ry q
 rcases q with q|q
 ·exact h aa s σ H x y v u Q I rx ry q
 ·exact h' aa s σ H x y v u Q I rx ry q
theorem zp (b:KD){op:CmpOp}(h:op≠.In:=by decide)(h2:op≠.NotIn:=by decide):aW op b=false:=by
 have e1:(op==CmpOp.In)=false:=by cases op<;>first|rfl|exact absurd rfl h
 have e2:(op==CmpOp.NotIn)=false:=by cases op<;>first|rfl|exact absurd rfl h2
 cases b<;>simp [aW,e1,e2]
theorem qki {op:CmpOp}{r:R2}(ho:OpR X (au op) r)(ha:PE X a ta)(hb:PE X b tb)(hm:aW op b=false):PE X (.Compare a [op] [b] pos) (tOp r ta tb):=by
 intro aa s σ H Q I h
 exact wpAny_Compare1 (binT ha hb I h λv u s2 x y H2 I2 rx ry q=>ho aa s2 σ H2 x y v u Q I2 rx ry q) hm
noncomputable def qk8 (t:TE):TT:=λσ H Q=>t σ H λx H'=>∃ k,x=.bl k/\Q k H'
theorem qko {op:CmpOp}{r:R2}(ho:OpR X (au op) r)(ha:PE X a ta)(hb:PE X b tb)(hm:aW op b=false):PT X (.Compare a [op] [b] pos) (qk8 (tOp r ta tb)):=by
 intro aa s σ H Q I h
 refine wpAny_isTrue_Compare1 (thn (ha aa s σ H _ I h) λv s1 ⟨x,H1,I1,r1,q1⟩=>thn (hb aa s1 σ H1 _ I1 q1) λu s2 ⟨y,H2,I2,r2,q2⟩ =>
  thn (ho aa s2 σ H2 x y v u _ I2 r1 r2 q2) λc s3 ⟨z,H3,I3,r3,k,e,q3⟩=>?_) hm
 subst e
 cases r3
 exact Ub ⟨H3,I3,q3⟩
noncomputable def qiP (r r':R2)(ta tb tc:TE):TE:=λσ H Q=>ta σ H λx H1=>tb σ H1 λy H2=>r x y H2 λz H3=>∃ k,z=.bl k/\
 (if k=true then tc σ H3 λw' H4=>r' y w' H4 Q else Q (.bl false) H3)
theorem qiA {op op':CmpOp}{r r':R2}(ho:OpR X (au op) r)(ho':OpR X (au op') r')(ha:PE X a ta)(hb:PE X b tb)(hc:PE X c tc)
  (hm:lastMarks [op,op'] [b,c]=false:=by with_unfolding_all rfl):PT X (.Compare a [op,op'] [b,c] pos) (qk8 (qiP r r' ta tb tc)):=by
 intro aa s σ H Q I h
 refine isTrue_chain (thn (ha aa s σ H _ I h) λv s1 ⟨x,H1,I1,r1,q1⟩=>test_link (thn (hb aa s1 σ H1 _ I1 q1) λu s2 ⟨y,H2,I2,r2,q2⟩ =>
  thn (ho aa s2 σ H2 x y v u _ I2 r1 r2 q2) λd s3 ⟨z,H3,I3,r3,k,e,q3⟩=>?_)) hm
 subst e
 cases r3
 refine Ub ?_
 cases k with
 | false =>
  obtain ⟨k',e',q'⟩:=q3
  cases e'
  exact ite_ff ⟨H3,I3,q'⟩
 | true =>
  refine ite_tt (test_last (thn (hc aa s3 σ H3 _ I3 q3) λw' s4 ⟨z',H4,I4,r4,q4⟩=>thn (ho' aa s4 σ H4 y z' u w' _ I4 r2 r4 q4) λd' s5 ⟨z2,H5,I5,r5,k2,e2,q5⟩=>?_))
  subst e2
  cases r5
  exact Ub ⟨H5,I5,q5⟩
def TruV (K:Kb)(x:V)(H:Hp)(k:Bool):Prop :=
 match x with
 | .non=>k=false
 | .bl b=>k=b
 | .int i=>k=(i != 0)
 | .str y=>y.length<=ak/\k=((y.length:Int) != 0)
 | .byt y=>y.size<=ak/\k=((y.size:Int) != 0)
 | .ref p=>(∃ xs,SqL K H p xs/\k=!xs.isEmpty)\/(∃ xs,SqT K H p xs/\k=!xs.isEmpty)\/∃ kvs,H p=some (.dK kvs)/\k=!kvs.isEmpty
 | _=>False
theorem qej {κ:Type}{kvs:List (κ×V)}{vs:List (κ×Value)}(r:KV kvs vs):(!vs.isEmpty)=!kvs.isEmpty:=by
 cases r<;>rfl
theorem qar {xs:List V}{its:List Kd}(r:Vals xs its):(!its.toArray.isEmpty)=!xs.isEmpty:=by
 cases r<;>simp
theorem qcq:(ak:Nat)<2 ^ 63:=by rw [Xh];decide
theorem qmW:TruR X (λx H Q=>∃ k,TruV X.K x H k/\Q k H):=by
 intro aa s σ H x v Q I rx h
 obtain ⟨k,e,q⟩:=h
 have hl:=qcq
 have hs:ak=16777216:=Xh
 cases x with
 | non =>
  cases rx
  have e':k=false:=e
  subst e'
  exact truthy_none ⟨H,I,q⟩
 | bl b =>
  cases rx
  have e':k=b:=e
  subst e'
  exact Ub ⟨H,I,q⟩
 | int i =>
  obtain ⟨t,rfl⟩:=rx
  have e':k=(i != 0):=e
  subst e'
  exact PySem.P.truthy_int ⟨H,I,q⟩
 | str y =>
  obtain ⟨t,rfl⟩:=rx
  obtain ⟨hy,e'⟩:y.length<=ak/\k=((y.length:Int) != 0):=e
  subst e'
  exact PySem.P.truthy_str '$' ⟨H,I.tok _,q⟩
 | byt y =>
  obtain ⟨t,rfl⟩:=rx
  obtain ⟨hy,e'⟩:y.size<=ak/\k=((y.size:Int) != 0):=e
  subst e'
  exact PySem.W.truthy_bytes '$' ⟨H,I.tok _,q⟩
 | ref p =>
  cases rx
  have e':(∃ xs,SqL X.K H p xs/\k=!xs.isEmpty)\/(∃ xs,SqT X.K H p xs/\k=!xs.isEmpty)\/∃ kvs,H p=some (.dK kvs)/\k=!kvs.isEmpty:=e
  rcases e' with ⟨xs,hx,e'⟩|⟨xs,hx,e'⟩|⟨kvs,hx,e'⟩
  ·subst e'
   obtain ⟨its,r,pl,hz⟩:=I.list hx
   have hlen:=r.length
   exact wpAny_truthy_list pl.isList (by simp only [KA];omega) ⟨H,I.tok _,by rw [qar r];exact q⟩
  ·subst e'
   obtain ⟨its,r,pl,hz⟩:=I.tuple hx
   have hlen:=r.length
   exact truthy_tuple pl (by simp only [KA];omega) ⟨H,I.tok _,by rw [qar r];exact q⟩
  ·subst e'
   obtain ⟨hz,hS,vs,r,m⟩:kvs.length<=ak/\(p==aV)=false/\∃ vs,KV kvs vs/\s.heap.DictOf (qcw X.prog X.w) p vs:=I.hok p _ hx
   have hlen:kvs.length=vs.length:=Paired.length r
   exact wpAny_truthy_dict hS m '$' ⟨H,I.tok _,by rw [qej r];exact q⟩
 | _=>exact (show False from e).elim
theorem qiB (ha:PE X a ta)(he:∀ whole,isTrue a X.env whole=(do let v ← whole;bG a.pos;holding [v] (truthy v))) :
  PT X a (λσ H Q=>ta σ H λx H'=>∃ k,TruV X.K x H' k/\Q k H'):=by
 intro aa s σ H Q I h
 exact isTrue_plain (thn (ha aa s σ H _ I h) λv s1 ⟨x,H1,I1,r1,q1⟩=>qmW aa s1 σ H1 x v Q I1 r1 q1) (he _)
theorem vals1 {x:V}{us:List Kd}(r:Vals [x] us):∃ u,us=[u]/\RelV x u:=by
 cases r with
 | cons r1 r2=>cases r2;exact ⟨_,rfl,r1⟩
theorem vals2 {x y:V}{us:List Kd}(r:Vals [x,y] us):∃ u w',us=[u,w']/\RelV x u/\RelV y w':=by
 cases r with
 | cons r1 r2 =>
  cases r2 with
  | cons r3 r4=>cases r4;exact ⟨_,_,rfl,r1,r3⟩
theorem qg9:jg X (.builtin "abs") (λxs H Q=>∃ i,xs=[.int i]/\Q (.int (if i<0 then -i else i)) H):=by
 intro aa s σ H xs us Q I r h
 obtain ⟨i,rfl,q⟩:=h
 obtain ⟨u,rfl,t,rfl⟩:=vals1 r
 exact call_abs_int λu tk=>⟨.int (if i<0 then -i else i),H,I.tok _,⟨_,rfl⟩,q⟩
theorem qf2:jg X (.type "int") (λxs H Q=>(∃ i,xs=[.int i]/\Q (.int i) H)\/∃ k,xs=[.bl k]/\Q (.int (if k then 1 else 0)) H):=by
 intro aa s σ H xs us Q I r h
 rcases h with ⟨i,rfl,q⟩|⟨k,rfl,q⟩
 ·obtain ⟨u,rfl,t,rfl⟩:=vals1 r
  exact call_int_int ⟨.int i,H,I,⟨_,rfl⟩,q⟩
 ·obtain ⟨u,rfl,r1⟩:=vals1 r
  cases r1
  exact call_int_bool ⟨.int (if k then 1 else 0),H,I.tok _,⟨_,rfl⟩,q⟩
end
structure ObjM (h:KU)(x dx C:Ke)(mA:Str->Option Kd):Prop where
 obj:h.get? x=some (V4 C dx)
 ns:h.Ns1 dx mA
 ne:dx≠x
theorem qgr {h:KU}{dx:Ke}{mA:Str->Option Kd}(n:h.Ns1 dx mA):∃ od,h.get? dx=some od/\∀ name,NP name od=some (mA name):=by
 obtain ⟨o,es,ep,ho,hd,hk,_,hm⟩:=n
 refine ⟨o,ho,λname=>?_⟩
 have e:=hm name
 unfold nsFind findBy at e
 rw [← Array.find?_toList] at e
 unfold NP
 rw [hd]
 dsimp only
 split
 ·rename_i y q
  rw [q] at e
  exact congrArg some e
 ·rename_i q
  rw [q] at e
  have a:es.toList.any (·.refKey)=false:=by
   rw [List.any_eq_false]
   intro y hy
   obtain ⟨z,t,hkey⟩:=hk y (XH.mp hy)
   simp [DictEntry.refKey,hkey]
  have a':¬ es.toList.any (·.refKey)=true:=by rw [a];exact VI
  rw [ah a']
  exact congrArg some e
theorem ObjM.look {h:KU}{x dx C:Ke}{mA:Str->Option Kd}(I:ObjM h x dx C mA):∃ od,PySem.W.InstAt h x (V4 C dx) C (some od)/\∀ name,NP name od=some (mA name) :=
 let ⟨od,ho,hl⟩:=qgr I.ns
 ⟨od,⟨I.obj,rfl,rfl,ho⟩,hl⟩
section
variable {prog:KJ}{w:K1}{A:KY}{E:Kd->Kh->Prop}{s:Kh}{K:Kb}{x dx C f:Ke}{mA:Str->Option Kd}{name:Str}{v:Kd}
theorem qhz {pl:Sem Bool}{Q:Kd×List Kd->Kh->Prop}(X:K.In s.heap)(I:ObjM s.heap x dx C mA)(hg:Nj K C name=true)
  (hf:Vw K (.ref C) name=some (some (.ref f))) (ht:Fd K (.ref f)=true) (hv:mA name=none) (h:Q (.ref f,[.ref x]) s) :
  ai (model prog w) A (getMethod (.ref x) name pl) Q E s:=by
 obtain ⟨od,J,hl⟩:=I.look
 exact PySem.W.method_fn X J (Fb hg).1 (Fb hg).2 hf (aS.mp ht) (by show (NP name od).map (·.isSome)=some false;rw [hl,hv];rfl) h
theorem qgw {R:Result->Kh->Prop}(X:K.In s.heap)(hm:Nz K C=true)
  (hi:Vw K (.ref C) "__init__" = some (some (.builtin "object.__init__")))
  (hb:∀ self,Em (model prog w) s.heap (bindSpecial (.builtin "object.__init__") self) (.builtin "object.__init__", [self]))
  (h:aT (model prog w) (A.under (.builtin "type.__call__" ⟨[.ref C],[]⟩)) (.call (.builtin "object.__init__") ⟨[.ref (s.heap.objs.size+1)],[]⟩) (PySem.W.InitBack (s.heap.objs.size+1) R)
   { s with heap:=(s.heap.push VQ).push (V4 C s.heap.objs.size) }) :
  aT (model prog w) A (.call (.ref C) ⟨[],[]⟩) R s:=by
 obtain ⟨hh,g,d,t,os⟩:=s
 exact PySem.W.make_core (PySem.W.makes_of X hm) (NQ X hi) hb (.inr ⟨rfl,rfl⟩) h
end
theorem RelO.none_of {o:Option Kd}(r:RelO none o):o=none:=by
 cases o with
 | none=>rfl
 | some u=>exact (show False from r).elim
section
variable {P:KJ}{w:K1}{H H':Hp}{h h':KU}{a C dx:Ke}{fs fs':List (Str×V)}
theorem qfo (hok:HOk P w H h)(e:H a=some (.ins C dx fs)):∃ mA,ObjM h a dx C mA/\(∀ f,RelO (fs.lookup f) (mA f))/\PySem.Within mA (fs.map (·.1))/\fs.length<=1000/\H dx=some (.own a):=by
 obtain ⟨d,z,ne,ob,mA,n,r,q⟩:=(show Qt P w H h a (.ins C dx fs) from hok a _ e)
 exact ⟨mA,⟨ob,n,ne⟩,r,q,z,d⟩
end
structure Cls (K:Kb)(C:Ke):Prop where
 pg:Nj K C Str.empty=true
 hd:Fk K C=true
 po:Fl K C=true
 sa:Vw K (.ref C) "__setattr__" = some (some (.builtin "object.__setattr__"))
theorem Cls.get {K:Kb}{C:Ke}(c:Cls K C)(f:Str):Nj K C f=true:=c.pg
structure Meth (K:Kb)(C:Ke)(m:Str)(f:Ke):Prop where
 at_:Vw K (.ref C) m=some (some (.ref f))
 fn:Fd K (.ref f)=true
 kp:Vx K (.ref f)=true
section
variable {X:Cx}{aa:List (Ke×Obj)}{σ:St}{H:Hp}{s:Kh}{a C dx:Ke}{fs:List (Str×V)}{f:Str}{v:V}{A:KY}{E:Kd->Kh->Prop}
theorem qef {m:Str}{g:Ke}{pl:Sem Bool}{Q:Kd×List Kd->Kh->Prop}(I:Inv X aa σ H s)(e:H a=some (.ins C dx fs))(c:Cls X.K C)(k:Meth X.K C m g)(l:fs.lookup m=none)
  (h:Q (.ref g,[.ref a]) s):ai (model X.prog X.w) A (getMethod (.ref a) m pl) Q E s:=by
 obtain ⟨mA,O,r,_,_,_⟩:=qfo I.hok e
 have hn:mA m=none:=RelO.none_of (by rw [← l];exact r m)
 exact qhz I.kIn O (c.get m) k.at_ k.fn hn h
theorem Inv.made (I:Inv X aa σ H s):Inv X aa σ (upd (upd H s.heap.objs.size (.own (s.heap.objs.size+1))) (s.heap.objs.size+1) (.ins C s.heap.objs.size []))
  { s with heap:=(s.heap.push VQ).push (V4 C s.heap.objs.size) }:=by
 have e1:(s.heap.push VQ).get? s.heap.objs.size=some VQ:=Kv s.heap rfl
 have e2:((s.heap.push VQ).push (V4 C s.heap.objs.size)).get? (s.heap.objs.size+1)=some (V4 C s.heap.objs.size):=by
  have:=Kv (s.heap.push VQ) (o:=V4 C s.heap.objs.size) rfl
  rwa [Vp] at this
 have e3:(s.heap.push VQ).Ns s.heap.objs.size (λ_=>none):=⟨VQ,#[],_,e1,rfl,(λe he=>absurd he (by simp)),λ_=>rfl⟩
 have I1:=I.laid (a:=s.heap.objs.size) (o:=.own (s.heap.objs.size+1)) (h':=s.heap.push VQ) (t':=s.toks) (λb u q=>Ki _ q) (Kq _) ⟨_,e1⟩
 refine I1.laid (a:=s.heap.objs.size+1) (o:=.ins C s.heap.objs.size []) (t':=s.toks) (λb u q=>Ki _ q) (Nat.le_of_eq (Vp _ _)) ?_
 have ne:s.heap.objs.size≠s.heap.objs.size+1:=KW (UF _)
 refine ⟨by rw [qW ne,qY],Vj _,ne,e2,λ_=>none,(Heap.Ns1.of_empty e3).at λo q=>Ki _ q,λ_=>Us,λy hy=>absurd rfl hy⟩
end
section
variable {X:Cx}{aa:List (Ke×Obj)}{σ:St}{H:Hp}{s:Kh}{A:KY}{E:Kd->Kh->Prop}{Q:Kd->Kh->Prop}{c:Kd}{b:Bool}
inductive TyOf (K:Kb)(H:Hp):V->Kd->Prop where
 | non:TyOf K H .non (.type "NoneType")
 | bl (x:Bool):TyOf K H (.bl x) (.type "bool")
 | int (i:Int):TyOf K H (.int i) (.type "int")
 | str (x:Str):TyOf K H (.str x) (.type "str")
 | flt (x:UInt64):TyOf K H (.flt x) (.type "float")
 | lst {a:Ke} {xs:List V} (e:H a=some (.lst xs)):TyOf K H (.ref a) (.type "list")
 | frz {a:Ke} {o:Obj} {xs:List V} (e:H a=some (.frz o (.lst xs))):TyOf K H (.ref a) (.type "list")
 | tup {a:Ke} {xs:List V} (e:H a=some (.tup xs)):TyOf K H (.ref a) (.type "tuple")
 | dK {a:Ke} {kvs:List (Key×V)} (e:H a=some (.dK kvs)):TyOf K H (.ref a) (.type "dict")
 | dT {a:Ke} {kvs:List (List Key×V)} (e:H a=some (.dT kvs)):TyOf K H (.ref a) (.type "dict")
 | ins {a C dx:Ke} {fs:List (Str×V)} (e:H a=some (.ins C dx fs)) (cl:Cls K C) (ha:Vw K (.ref C) "__class__" = some (some (.builtin "object.__class__")))
   (hn:Ec K (.builtin "object.__class__") "__get__" = some (some (.builtin "getset_descriptor.__get__"))) (htk:EF K (.builtin "object.__class__")=some true)
   (hm:Xl K C (.type "object")=some true):TyOf K H (.ref a) (.ref C)
theorem qgg {x:V}{u t:Kd}(I:Inv X aa σ H s)(rx:RelV x u)(ty:TyOf X.K H x t)(e:VC X.K t c=some b)(h:∀ tk,Q (.bool b) { s with toks:=tk }) :
  ai (model X.prog X.w) A (call (.builtin "isinstance") [u,c]) Q E s:=by
 cases ty with
 | non=>cases (show u=VF from rx);exact Vn Fm I.kIn Us e (λz=>nomatch z) h
 | bl y=>cases (show u=Vt y from rx);exact Vn Fn I.kIn Us e (λz=>nomatch z) h
 | int i=>obtain ⟨t,q⟩:=(show ∃ t,u=NW i t from rx);cases q;exact Vn PySem.W.kitx_int I.kIn Us e (λz=>nomatch z) h
 | str y=>obtain ⟨t,q⟩:=(show ∃ t,u=Nr y t from rx);cases q;exact Vn PySem.W.kitx_str I.kIn Us e (λz=>nomatch z) h
 | flt y=>obtain ⟨t,q⟩:=(show ∃ t,u=Value.float y t from rx);cases q;exact Vn PySem.W.kitx_float I.kIn Us e (λz=>nomatch z) h
 | @lst a xs ea =>
  cases (show u=Ve a from rx)
  obtain ⟨_,_,n,_,h1⟩:=(show Qt X.prog X.w H s.heap a (.lst xs) from I.hok a _ ea)
  exact Vn Ed I.kIn ⟨_,h1,rfl⟩ e (λz=>nomatch z) h
 | @frz a ob xs ea =>
  cases (show u=Ve a from rx)
  obtain ⟨_,_,_,n,_,h1⟩:=(show Qt X.prog X.w H s.heap a (.frz ob (.lst xs)) from I.hok a _ ea)
  exact Vn Ed I.kIn ⟨_,h1,rfl⟩ e (λz=>nomatch z) h
 | @tup a xs ea =>
  cases (show u=Ve a from rx)
  obtain ⟨_,_,_,p⟩:=(show Qt X.prog X.w H s.heap a (.tup xs) from I.hok a _ ea)
  obtain ⟨o,h1,h2,_⟩:=p
  exact Vn Fe I.kIn ⟨o,h1,h2⟩ e (λz=>nomatch z) h
 | @dK a kvs ea =>
  cases (show u=Ve a from rx)
  obtain ⟨_,_,vs,_,p⟩:=(show Qt X.prog X.w H s.heap a (.dK kvs) from I.hok a _ ea)
  obtain ⟨o,es,ep,h1,h2,_⟩:=p
  exact Vn Ee I.kIn ⟨o,h1,h2.1⟩ e (λz=>nomatch z) h
 | @dT a kvs ea =>
  cases (show u=Ve a from rx)
  obtain ⟨_,_,xs,_,o,es,ep,h1,h2,_⟩:=(show Qt X.prog X.w H s.heap a (.dT kvs) from I.hok a _ ea)
  exact Vn Ee I.kIn ⟨o,h1,h2.1⟩ e (λz=>nomatch z) h
 | @ins a C dx fs ea cl ha hn htk hm =>
  cases (show u=Ve a from rx)
  obtain ⟨mA,O,_⟩:=qfo I.hok ea
  obtain ⟨od,J,_⟩:=O.look
  exact Vn (PySem.W.kitx_own (cl.get _) cl.hd ha hn htk hm) I.kIn J e (λz=>nomatch z) h
end
structure Room (k:Nat)(A:KY):Prop where
 hd:A.handled=none
 dp:A.depth+3*k+5<recursionLimit
 un:A.units+16*k+200<aI
 gd:A.guards=some []
theorem Room.mono {j k:Nat}{A:KY}(r:Room k A)(h:j<=k):Room j A:=⟨r.hd,by have:=r.dp;omega,by have:=r.un;omega,r.gd⟩
theorem Room.deeper {k:Nat}{A:KY}(r:Room (k+1) A)(env:Env):Room k (A.deeper env) :=
 ⟨r.hd,by have:=r.dp;show A.depth+1+3*k+5<_;omega,by have:=r.un;show A.units+3+16*k+200<_;omega,r.gd⟩
theorem Room.depth {k:Nat}{A:KY}(r:Room k A):A.depth<recursionLimit:=by have:=r.dp;omega
theorem Room.units {k:Nat}{A:KY}(r:Room k A):A.units+64<aI:=by have:=r.un;omega
noncomputable def tNil:TA:=λ_ H Q=>Q [] H
noncomputable def tCons (ta:TE)(tr:TA):TA:=λσ H Q=>ta σ H λx H1=>tr σ H1 λxs H2=>Q (x::xs) H2
section
variable {X:Cx}{e:KD}{es:List KD}{te:TE}{t:TA}{pos:Pos}
theorem qic:PA X [] tNil:=λ_ _ _ _ H Q I h=>Calls.spliced_nil ⟨[],H,I,.nil,h⟩
theorem wj (ha:PE X e te)(hr:PA X es t)(hs:af (e::es) X.env=(false,eval e X.env)::af es X.env:=by rfl):PA X (e::es) (tCons te t):=by
 intro pos aa s σ H Q I h
 rw [hs]
 show ai _ _ (spliced ((false,eval e X.env)::aA pos (af es X.env))) _ _ s
 refine Calls.spliced_cons (thn (ha aa s σ H _ I h) λu s1 ⟨x,H1,I1,r1,q1⟩=>?_)
 exact thn (hr pos aa s1 σ H1 _ I1 q1) λus s2 ⟨xs,H2,I2,r2,q2⟩=>⟨x::xs,H2,I2,.cons r1 r2,q2⟩
noncomputable def tTup (t:TA):TE:=λσ H Q=>t σ H λxs H1=>xs.length<=ak/\∀ p,H1 p=none->Q (.ref p) (upd H1 p (.tup xs))
noncomputable def tLst (t:TA):TE:=λσ H Q=>t σ H λxs H1=>xs.length<=ak/\∀ p,H1 p=none->Q (.ref p) (upd H1 p (.lst xs))
theorem qmn {x1}(h:PA X es t):PE X (.Tuple es x1 pos) (tTup t):=by
 intro aa s σ H Q I hq
 refine wpAny_Tuple_spliced (thn (h pos aa s σ H _ I hq) λus s1 ⟨xs,H1,I1,r,z,q⟩=>⟨by rw [← r.length];exact z,?_⟩)
 have hf:H1 s1.heap.objs.size=none:=I1.hok.fresh (Kq _)
 refine ⟨.ref s1.heap.objs.size,upd H1 s1.heap.objs.size (.tup xs),I1.laid (t':=s1.toks) (λb u e=>Ki _ e) (Kq _) ?_,rfl,q _ hf⟩
 exact ⟨z,us,r,⟨_,Kv _ rfl,rfl,_,rfl⟩⟩
theorem qio (h:PA X es t):PE X (.List es pos) (tLst t):=by
 intro aa s σ H Q I hq
 refine wpAny_List_spliced (thn (h pos aa s σ H _ I hq) λus s1 ⟨xs,H1,I1,r,z,q⟩=>⟨by rw [← r.length];exact z,?_⟩)
 have hf:H1 s1.heap.objs.size=none:=I1.hok.fresh (Kq _)
 refine ⟨.ref s1.heap.objs.size,upd H1 s1.heap.objs.size (.lst xs),I1.laid (t':=s1.toks) (λb u e=>Ki _ e) (Kq _) ?_,rfl,q _ hf⟩
 exact ⟨z,us,0,r,Kv _ rfl⟩
end
noncomputable abbrev Sp:=List V->Hp->VK->XK->Prop
noncomputable abbrev CXT:=List Env->Hp->Kh->XK->Kd->Kh->Prop
structure Env0 (P:KJ)(w:K1)(K:Kb)(mg:Str->Option Kd)(base:KU)(A:KY)(outer:List Env)(s:Kh)(H:Hp):Prop where
 frames:A.frames=some outer
 mod:Mod K mg base
 bs:∀ b o,base.get? b=some o->s.heap.get? b=some o/\H b=none
 bsz:base.objs.size<=s.heap.objs.size
 funs:s.heap.FunFrames base outer
 frf:∀ b∈frs outer,H b=none
 hok:HOk P w H s.heap
 bare:XR s.gens
def CE (outer:List Env)(P:KJ)(w:K1)(H:Hp)(s:Kh)(Q:VK)(u:Kd)(s':Kh):Prop :=
 ∃ v H',s'.os=s.os/\XR s'.gens/\Un (frs outer) [] H H' s.heap s'.heap/\HOk P w H' s'.heap/\RelV v u/\Q v H'
def CR (CX:CXT)(outer:List Env)(P:KJ)(w:K1)(H:Hp)(s:Kh)(Q:VK)(E:XK)(r:Result)(s':Kh):Prop :=
 match r with
 | .ok (.ret u)=>CE outer P w H s Q u s'
 | .ok _=>False
 | .error e=>CX outer H s E e s'
structure FnOk (P:KJ)(w:K1)(K:Kb)(mg:Str->Option Kd)(base:KU)(CX:CXT)(k:Nat)(f:Ke)(fd:VD)(ps:List Str)(sp:Sp):Prop where
 len:∀ vs H Q E,sp vs H Q E->vs.length=ps.length
 run:∀ (A:KY) (outer:List Env) (s:Kh) (H:Hp) (args:Args) (us:List Kd) (vs:List V) (Q:VK) (E:XK),Room k A->Env0 P w K mg base A outer s H->BindsTo s fd args (ps.zip us)->Vals vs us->sp vs H Q E->
  aT (model P w) A (.call (.ref f) args) (CR CX outer P w H s Q E) s
theorem FnOk.imp {P:KJ}{w:K1}{K:Kb}{mg:Str->Option Kd}{base:KU}{CX:CXT}{k:Nat}{f:Ke}{fd:VD}{ps:List Str}{sp sp':Sp}(F:FnOk P w K mg base CX k f fd ps sp)
  (h:∀ vs H Q E,sp' vs H Q E->sp vs H Q E):FnOk P w K mg base CX k f fd ps sp' :=
 ⟨λvs H Q E q=>F.len vs H Q E (h _ _ _ _ q),λA outer s H args us vs Q E hr he hb hv hs=>F.run A outer s H args us vs Q E hr he hb hv (h _ _ _ _ hs)⟩
section
variable {X:Cx}{aa:List (Ke×Obj)}{σ:St}{H:Hp}{s s':Kh}
theorem Inv.env0 (I:Inv X aa σ H s):Env0 X.prog X.w X.K X.mg X.base X.A X.stack s H :=
 ⟨I.ok.frames,I.ok.mod,I.bs,Vg I.ok.bsz I.sz,I.stack,I.stkFree,I.hok,I.bare⟩
theorem Inv.after {Q:VK}{u:Kd}(I:Inv X aa σ H s)(h:CE X.stack X.prog X.w H s Q u s'):EP X aa σ Q u s':=by
 obtain ⟨v,H',os,bare,un,hok,r,q⟩:=h
 obtain ⟨hh,g,d,t,os'⟩:=s'
 obtain rfl:os'=s.os:=os
 exact ⟨v,H',I.call (h':=hh) (g':=g) (d':=d) (t':=t) (ch:=[]) un hok bare (λb z=>absurd z (by simp)),r,q⟩
end
noncomputable def tCall (sp:Sp)(dvs:List V)(E:XK)(t:TA):TE:=λσ H Q=>t σ H λvs H1=>sp (vs++dvs) H1 Q E
def Binds (K:Kb)(fd:VD)(ps:List Str)(ds:List Kd):Prop :=
 ∀ (s:Kh) (us:List Kd),K.In s.heap->(us++ds).length=ps.length->BindsTo s fd ⟨us,[]⟩ (ps.zip (us++ds))
theorem Binds.all {K:Kb}{fd:VD}{ps:List Str}(h:∀ us:List Kd,us.length=ps.length->bindArgs fd ⟨us,[]⟩=pure (ps.zip us)):Binds K fd ps []:=λs us _ hl=>by
 rw [VL] at hl ⊢
 exact .of_eq (h us hl)
def qbV (CX:CXT)(X:Cx)(E:XK):Prop:=∀ (aa:List (Ke×Obj)) (σ:St) (H:Hp) (s:Kh) (e:Kd) (s':Kh),Inv X aa σ H s->CX X.stack H s E e s'->X.xe e s'
section
variable {X:Cx}{CX:CXT}{k:Nat}{f C:Ke}{fd:VD}{ps:List Str}{sp:Sp}{dvs:List V}{ds:List Kd}{E:XK}{x m:Str}{p pos apos:Pos}{e o:KD}{es:List KD}{ta:TE}{t:TA}
theorem qiI {aa:List (Ke×Obj)}{σ:St}{H:Hp}{s:Kh}{Q:VK}{us:List Kd}{vs:List V}(F:FnOk X.prog X.w X.K X.mg X.base CX k f fd ps sp)(hr:Room k X.A)(hb:Binds X.K fd ps ds)(hd:Vals dvs ds)(hx:qbV CX X E)
  (I:Inv X aa σ H s) (r:Vals vs us) (h:sp (vs++dvs) H Q E):ai (model X.prog X.w) X.A (call (.ref f) us) (EP X aa σ Q) X.xe s:=by
 have r2:Vals (vs++dvs) (us++ds):=r.append hd
 have hl:(us++ds).length=ps.length:=by rw [← r2.length];exact F.len _ _ _ _ h
 refine wpAny_call (codeAny_mono (F.run X.A X.stack s H ⟨us,[]⟩ (us++ds) (vs++dvs) Q E hr I.env0 (hb s us I.kIn hl) r2 h) λr s' hq=>?_)
 cases r with
 | error e=>exact hx aa σ H s e s' I hq
 | ok fl =>
  cases fl with
  | ret u=>exact I.after hq
  | next=>exact Xc hq
  | brk=>exact Xc hq
  | cont=>exact Xc hq
theorem W0 (F:FnOk X.prog X.w X.K X.mg X.base CX k f fd ps sp)(hr:Room k X.A)(hg:Gl X x)(hm:X.mg x=some (.ref f))(hk:Vx X.K (.ref f)=true)(hb:Binds X.K fd ps ds)(hd:Vals dvs ds)(hx:qbV CX X E)
  (ha:PA X (e::es) t) (hdb:(x==("__debug__" : Str))=false:=by decide) (he:af (e::es) X.env=(false,eval e X.env)::af es X.env:=by rfl) (hpl:(aA pos (af es X.env)).any (·.1)=false:=by rfl) :
  PE X (.Call (.Name x p) (e::es) [] pos) (tCall sp dvs E t):=by
 intro aa s σ H Q I h
 refine U3 (qco I hg hm ?_ hdb)
 refine Ff (h₀:=X.base) I.ok.mod.kin hk (thn (ha pos aa s σ H _ I h) λus s1 ⟨vs,H1,I1,r,q⟩=>⟨I1.kIn,?_⟩) he hpl
 exact qiI F hr hb hd hx I1 r q
end
structure FnScope (N P:List Str)(sc:Ua):Prop where
 kind:sc.kind=.function
 co:sc.isCoroutine=false
 gen:sc.isGenerator=false
 nd:N.Nodup
 pre:N.take P.length=P
 par:∀ x∈P,sc.names.lookup x=some .local\/sc.names.lookup x=some .cell
 nofree:∀ y∈sc.names,y.2≠.free
theorem qbq {kindOf:Str->Option En}{x:Str}:∀ {binds:List (Str×Value)} {m:Str->Option Kd},(∀ v,(x,v)∉binds)->bindL kindOf binds m x=m x
 | [],_,_=>rfl
 | (n,v)::r,m,h=>by
  unfold bindL
  rw [qbq λw hw=>h w (Vu _ hw)]
  split
  ·have:x≠n:=by rintro rfl;exact h v VH
   simp [this]
  ·rfl
theorem qbo {kindOf:Str->Option En}{x:Str}:∀ {binds:List (Str×Value)} {m:Str->Option Kd},(∀ v,(x,v)∉binds)->bindC kindOf binds m x=m x
 | [],_,_=>rfl
 | (n,v)::r,m,h=>by
  unfold bindC
  rw [qbo λw hw=>h w (Vu _ hw)]
  split
  ·rfl
  ·have:x≠n:=by rintro rfl;exact h v VH
   simp [this]
theorem qbp {kindOf:Str->Option En}{x:Str}{v:Kd}:∀ {P:List Str} {vs:List Kd} {i:Nat} {m:Str->Option Kd},P.Nodup->P[i]?=some x->vs[i]?=some v->kindOf x=some .local->
  bindL kindOf (P.zip vs) m x=some v
 | [],_,_,_,_,h,_,_=>by simp at h
 | _::_,[],_,_,_,_,h,_=>by simp at h
 | p::P,w::vs,0,m,nd,h1,h2,hk=>by
  simp at h1 h2;subst h1;subst h2
  show bindL kindOf ((p,w)::P.zip vs) m p=_
  unfold bindL
  rw [qbq λv hv=>(Xo.mp nd).1 (EG hv).1,ag hk]
  simp
 | p::P,w::vs,i+1,m,nd,h1,h2,hk=>by
  show bindL kindOf ((p,w)::P.zip vs) m x=_
  unfold bindL
  exact qbp (i:=i) (Xo.mp nd).2 (by simpa using h1) (by simpa using h2) hk
theorem qbn {kindOf:Str->Option En}{x:Str}{v:Kd}:∀ {P:List Str} {vs:List Kd} {i:Nat} {m:Str->Option Kd},P.Nodup->P[i]?=some x->vs[i]?=some v->kindOf x≠some .local->
  bindC kindOf (P.zip vs) m x=some v
 | [],_,_,_,_,h,_,_=>by simp at h
 | _::_,[],_,_,_,_,h,_=>by simp at h
 | p::P,w::vs,0,m,nd,h1,h2,hk=>by
  simp at h1 h2;subst h1;subst h2
  show bindC kindOf ((p,w)::P.zip vs) m p=_
  unfold bindC
  rw [qbo λv hv=>(Xo.mp nd).1 (EG hv).1,ah hk]
  simp
 | p::P,w::vs,i+1,m,nd,h1,h2,hk=>by
  show bindC kindOf ((p,w)::P.zip vs) m x=_
  unfold bindC
  exact qbn (i:=i) (Xo.mp nd).2 (by simpa using h1) (by simpa using h2) hk
noncomputable def start (N:List Str)(vs:List V):St:=vs.map some++Vf (N.length-vs.length) none
noncomputable def cxOf (CX:CXT)(P:KJ)(w:K1)(K:Kb)(mg:Str->Option Kd)(base:KU)(N:List Str)(qual:Str)(scope:Ua)(f:Ke)(cd:Kd)(A:KY)(outer:List Env)(s:Kh)(H:Hp)(E:XK):Cx where
 prog:=P
 w:=w
 K:=K
 mg:=mg
 base:=base
 A:=A.deeper (bg qual scope s.heap.objs.size f cd)
 N:=N
 s₀:=s
 H₀:=H
 env:=bg qual scope s.heap.objs.size f cd
 outer:=outer
 stack:=bg qual scope s.heap.objs.size f cd::outer
 ex:=[]
 calm:=true
 fn:=λ_=>true
 pn:=[]
 xe:=λe s'=>ai (model P w) (A.deeper (bg qual scope s.heap.objs.size f cd)) (leaving (bg qual scope s.heap.objs.size f cd) e) (λ_ s''=>CX outer H s E e s'') (λe' s''=>CX outer H s E e' s'') s'
theorem qcY {sc:Ua}{n:Nat}{x:Str}(h:sc.names.lookup x=some .cell):∃ c,(aH n sc.names []).lookup x=some c:=by
 have q:=EJ sc.names n [] (.inl h)
 exact Option.isSome_iff_exists.mp q
theorem qgf {CX:CXT}{P:KJ}{w:K1}{K:Kb}{mg:Str->Option Kd}{base:KU}{N ps:List Str}{qual:Str}{scope:Ua}{f:Ke}{cd:Kd}{A:KY}{outer:List Env}{s s1:Kh}{H:Hp}{E:XK}{us:List Kd}{vs:List V}
  (S:FnScope N ps scope) (hd:A.handled=none) (e0:Env0 P w K mg base A outer s H) (hl:vs.length=ps.length) (r:Vals vs us)
  (x:InCallC s s.heap.objs.size (bindL (bg qual scope s.heap.objs.size f cd).kindOf (ps.zip us) λ_=>none) (aH (s.heap.objs.size+1) scope.names []) (bindC (bg qual scope s.heap.objs.size f cd).kindOf (ps.zip us) λ_=>none) s1) :
  Inv (cxOf CX P w K mg base N qual scope f cd A outer s H E) [] (start N vs) H s1:=by
 have hpl:ps.length<=N.length:=by have:=congrArg Xy S.pre;rw [Uq] at this;omega
 obtain ⟨h1,tk,rfl,hk⟩:=x.done
 have noA:∀ b:Ke,b∉(cxOf CX P w K mg base N qual scope f cd A outer s H E).ex:=λb z=>absurd (show b∈([]:List Ke) from z) (by simp)
 refine ⟨⟨e0.mod,S.kind,rfl,rfl,Kq _,λy z c h1 h2=>?_,λy hy=>?_,λy c _ h=>?_,λ_=>hd,Around.frames_deeper e0.frames,.inr ⟨rfl,rfl⟩,λb z=>absurd z (noA b),e0.bs,e0.bsz,λb _ _=>noA b,λb z=>absurd z (noA b),e0.funs,e0.frf⟩,
  rfl,e0.bare,Un.kept hk,⟨_,x.toInCall.ns,λi y v h1 h2 h3=>?_⟩,λy c h=>⟨_,x.cell y c h⟩,e0.hok.fresh (Kq _),λy c h=>?_,λp hp=>absurd (show p∈([]:List (Ke×Obj)) from hp) (by simp),e0.hok.kept hk,?_⟩
 ·exact name_of_addr x.apart (Uj h1) (Uj h2)
 ·have hy:scope.names.lookup y=some .cell\/scope.names.lookup y=some .free:=hy
  rcases hy with hy|hy
  ·exact qcY hy
  ·exact absurd rfl (S.nofree _ (Uj hy))
 ·exact VP (x.above y c (Uj h))
 ·have hi:i<vs.length:=by
   unfold start at h2
   by_cases hi:i<vs.length
   ·exact hi
   ·rw [Vb (by simpa using hi)] at h2
    rw [Uu] at h2
    split at h2<;>cases h2
  have ha:vs[i]?=some v:=by
   unfold start at h2
   rw [KL (by simpa using hi),Kw] at h2
   cases e:vs[i]? with
   | none=>rw [e] at h2;cases h2
   | some a=>rw [e] at h2;cases h2;rfl
  obtain ⟨u,hu,rv⟩:=r.get ha
  have hp:ps[i]?=some y:=by
   rw [← S.pre,XZ '$'];exact h1
  have ndP:ps.Nodup:=by rw [← S.pre];exact S.nd.sublist (List.take_sublist _ _)
  refine ⟨u,rv,?_⟩
  rcases S.par y (KN hp) with k|k
  ·exact .inl ⟨k,qbp ndP hp hu k⟩
  ·obtain ⟨c,e⟩:=qcY (n:=s.heap.objs.size+1) k
   refine .inr ⟨.inl k,c,e,?_⟩
   have q:=x.cell y c e
   rw [qbn ndP hp hu (by show scope.names.lookup y≠_;rw [k];decide)] at q
   exact q
 ·exact e0.hok.fresh (VP (x.above y c (Uj h)))
 ·unfold start
  show _=N.length
  rw [Km,Kf,VE]
  omega
theorem fn_of {CX:CXT}{P:KJ}{w:K1}{K:Kb}{mg:Str->Option Kd}{base:KU}{k:Nat}{f:Ke}{name qual:Str}{params:Arguments}{body:List KS}{scope:Ua}{dV kV doc pm cdv ct oc:Kd}{an od:Option Ke}
  {osl:Array (Option Kd)} {N ps:List Str} {sp:Sp} (lk:K.lookup f=some ⟨oc,od,.func (Ue name qual params body scope dV kV doc pm an cdv ct),osl⟩) (hcd:UI K cdv qual=true) (S:FnScope N ps scope)
  (len:∀ vs H Q E,sp vs H Q E->vs.length=ps.length)
  (hbody:∀ (A:KY) (outer:List Env) (s:Kh) (H:Hp) (vs:List V) (Q:VK) (E:XK),Room k (A.deeper (bg qual scope s.heap.objs.size f cdv))->sp vs H Q E->
   ∃ t,PSs (cxOf CX P w K mg base N qual scope f cdv A outer s H E) body t/\t { nx:=λ_ H'=>Q .non H',rt:=Q } (start N vs) H) :
  FnOk P w K mg base CX (k+1) f (Ue name qual params body scope dV kV doc pm an cdv ct) ps sp:=by
 refine ⟨len,λA outer s H args us vs Q E hr e0 hb r hsp=>?_⟩
 have hl:=len _ _ _ _ hsp
 have KX:K.In s.heap:=e0.mod.kin.keeps λb o e=>(e0.bs b o e).1
 have lim:s.heap.NoLimit:=e0.mod.nolimit.keeps λb o e=>(e0.bs b o e).1
 have hkind:∀ y∈ps.zip us,scope.names.lookup y.1=some .local\/(scope.names.lookup y.1=some .cell/\((aH (s.heap.objs.size+1) scope.names []).lookup y.1).isSome=true):=λ⟨n,v⟩ hy=>by
  rcases S.par n (EG hy).1 with q|q
  ·exact .inl q
  ·exact .inr ⟨q,EJ _ _ _ (.inl q)⟩
 refine codeAny_call_function hr.depth (KX _ _ lk) rfl S.co S.gen rfl (PySem.W.codeRec_of KX hcd) (hb _ _ _ _ ?_)
 refine wpAny_newFunctionEnv_cells S.kind hkind λenv he s1 x=>?_
 subst he
 refine ⟨lim.keeps x.toInCall.keep,codeAny_func ?_⟩
 obtain ⟨t,ht,hq⟩:=hbody A outer s H vs Q E (hr.deeper _) hsp
 have I:Inv (cxOf CX P w K mg base N qual scope f cdv A outer s H E) [] (start N vs) H s1:=qgf S hr.hd e0 hl r x
 refine UE (ht [] s1 (start N vs) H _ I hq) (λfl s' hs=>?_) λe s' hs=>hs
 have fin:∀ {σ':St} {H':Hp} {v:V} {u:Kd},Inv (cxOf CX P w K mg base N qual scope f cdv A outer s H E) [] σ' H' s'->RelV v u->Q v H'->CE outer P w H s Q u s' :=
  λ{σ' H' v u} J rv q=>⟨v,H',J.os,J.bare,J.base,J.hok,rv,q⟩
 cases fl with
 | ret u =>
  obtain ⟨v,σ',H',J,rv,q⟩:=hs
  exact fin J rv q
 | next =>
  obtain ⟨σ',H',J,q⟩:=hs
  exact fin (v:=V.non) (u:=VF) J rfl q
 | brk =>
  obtain ⟨_,_,_,q⟩:=hs
  exact Xc q
 | cont =>
  obtain ⟨_,_,_,q⟩:=hs
  exact Xc q
section
variable {X:Cx}{x:Str}{p pos:Pos}{e:KD}{es:List KD}{t:TA}{id T:String}{r:List V->Hp->VK->Prop}
noncomputable def tCB (r:List V->Hp->VK->Prop)(t:TA):TE:=λσ H Q=>t σ H λvs H1=>r vs H1 Q
theorem qaT (hc:jg X (.builtin id) r)(hg:Gl X x)(hm:X.mg x=none)(hv:aw x=some (.builtin id))(ha:PA X (e::es) t)(hn:x ≠ "__name__" := by decide)(hdb:(x==("__debug__" : Str))=false:=by decide)
  (he:af (e::es) X.env=(false,eval e X.env)::af es X.env:=by rfl) (hpl:(aA pos (af es X.env)).any (·.1)=false:=by rfl):PE X (.Call (.Name x p) (e::es) [] pos) (tCB r t):=by
 intro aa s σ H Q I h
 refine U3 (yj I hg hm hv ?_ hn hdb)
 exact PyProof.Rows.callWith_builtin1 (thn (ha pos aa s σ H _ I h) λus s1 ⟨vs,H1,I1,r1,q1⟩=>hc aa s1 σ H1 vs us Q I1 r1 q1) he hpl
theorem qgI (hc:jg X (.type T) r)(hg:Gl X x)(hm:X.mg x=none)(hv:aw x=some (.type T))(ha:PA X (e::es) t)(hn:x ≠ "__name__" := by decide)(hdb:(x==("__debug__" : Str))=false:=by decide)
  (he:af (e::es) X.env=(false,eval e X.env)::af es X.env:=by rfl) (hpl:(aA pos (af es X.env)).any (·.1)=false:=by rfl):PE X (.Call (.Name x p) (e::es) [] pos) (tCB r t):=by
 intro aa s σ H Q I h
 refine U3 (yj I hg hm hv ?_ hn hdb)
 exact Uh (thn (ha pos aa s σ H _ I h) λus s1 ⟨vs,H1,I1,r1,q1⟩=>hc aa s1 σ H1 vs us Q I1 r1 q1) he hpl
end
end L2
namespace HT
open PySem PyProof.Rows
noncomputable def lexLt:List Int->List Int->Bool
 | [],[]=>false
 | [],_::_=>true
 | _::_,[]=>false
 | x::xs,y::ys=>if x=y then lexLt xs ys else decide (x<y)
theorem jF (x y:Int)(xs ys:List Int):lexLt (x::xs) (y::ys)=if x=y then lexLt xs ys else decide (x<y):=rfl
theorem qdX (A:KY)(s:Kh)(a:Int)(t:Tok)(c:Int)(u:Tok)(prog:KJ)(w:K1)(E:Kd->Kh->Prop)(Q:Kd->Kh->Prop)(h:Q (.bool (decide (a<c))) s) :
  ai (model prog w) A (aP .Lt (.int a t) (.int c u)) Q E s :=
 (PyProof.Rows.lt_int h:ai (model prog w) A (au .Lt (.int a t) (.int c u)) Q E s)
section
open PySem.SeqAt
open PySem.AutoSeq1 (wpAny_loadPart')
open PySem.MeetsSeq PySem.MeetsSeq2 PySem.MeetsSeq3
end
section
variable {prog:KJ}{w:K1}{A:KY}{E:Kd->Kh->Prop}{s:Kh}
theorem qje {t b:Ke}{vs ws:List Kd}{Q:Kd->Kh->Prop}(ht:bE s.heap t vs.toArray)(hb:bE s.heap b ws.toArray)(hv:vs≠[])
  (h1:ws=[]->Q (.ref t) s) (h2:ws≠[]->Q (.ref s.heap.objs.size) { s with heap:=s.heap.push { cls:=.type "tuple", data:=.seq (vs++ws).toArray } })
  (hsz:vs.length+ws.length<=ak):ai (model prog w) A (aF .Add (.ref t) (.ref b)) Q E s:=by
 obtain ⟨⟨cls,dd,data,sl⟩,ho,hc,n,hd⟩:=id ht
 obtain ⟨⟨cls2,dd2,data2,sl2⟩,ho2,hc2,n2,hd2⟩:=id hb
 simp only at hc hd hc2 hd2
 subst hc hd hc2 hd2
 have e:vs.toArray++ws.toArray=(vs++ws).toArray:=by simp
 by_cases hw:ws=[]
 ·exact Eo ⟨_,ho,rfl⟩ ⟨_,ho2,rfl⟩ Ep seq_tuple_add Nd Nb (X2 _ _)
   (tuple_addW1 t b vs.toArray ws.toArray n n2 dd dd2 sl sl2 (by simpa using hv) (by simp [hw])) ⟨ho,ho2,h1 hw⟩
 ·refine Eo ⟨_,ho,rfl⟩ ⟨_,ho2,rfl⟩ Ep seq_tuple_add Nd Nb (X2 _ _)
   (tuple_addW2 t b vs.toArray ws.toArray n n2 dd dd2 sl sl2 (by simpa using hv) (by simpa using hw) (by rw [KA,KA];exact hsz)) ⟨ho,ho2,?_⟩
  rw [e]
  exact h2 hw
noncomputable def sIx (n d:Nat):Option Int->Nat
 | none=>d
 | some v=>if v<0 then (v+(n:Int)).toNat else min v.toNat n
theorem wF (n d k:Nat):sIx n d (some (k:Int))=min k n:=by
 show (if (k:Int)<0 then ((k:Int)+(n:Int)).toNat else min (k:Int).toNat n)=min k n
 rw [ah '$',Vl]
theorem qmG (n d:Nat)(hd:d<=n)(o:Option Int):sIx n d o<=n:=by
 cases o with
 | none=>exact hd
 | some v =>
  show (if v<0 then (v+(n:Int)).toNat else min v.toNat n)<=n
  by_cases hv:v<0
  ·rw [ag hv];omega
  ·rw [ah hv];exact Nat.min_le_right _ _
theorem qe1 (v:Int)(n d:Nat):(if v<0 then max (v+(n:Int)) 0 else min v (n:Int))=((sIx n d (some v):Nat):Int):=by
 show (if v<0 then max (v+(n:Int)) 0 else min v (n:Int))=(((if v<0 then (v+(n:Int)).toNat else min v.toNat n):Nat):Int)
 by_cases hv:v<0
 ·simp only [ag hv];omega
 ·simp only [ah hv];omega
theorem qd6 (lo hi:Option Int)(n:Nat):XT lo hi 1 (n:Int)=(((sIx n 0 lo:Nat):Int),((sIx n n hi:Nat):Int)):=by
 have h1:¬ ((1:Int)<0):=by omega
 unfold XT
 simp only [h1,aM]
 refine Prod.ext ?_ ?_
 ·cases lo with
  | none=>rfl
  | some v=>exact qe1 v n 0
 ·cases hi with
  | none=>rfl
  | some v=>exact qe1 v n n
theorem qeE (i j:Nat):Xd (i:Int) (j:Int) 1=j-i:=by
 unfold Xd
 have h1:(1:Int) > 0:=by omega
 simp only [h1,aR,Int.ediv_one]
 split<;>omega
theorem qa1 {v:Kd}{o:Option Int}{Q:Option Int->Kh->Prop}(p:IsPart v o)(h:Q o s):ai (model prog w) A (Builtin.Slice.slicePartIndex v) Q E s:=by
 cases p with
 | none=>exact slicePart_none h
 | int i t=>exact slicePart_int h
theorem Wi {sl:Ke}{vl vu:Kd}{lo hi:Option Int}{n:Nat}{Q:Int×Int×Nat->Kh->Prop}(hs:s.heap.IsSliceOf sl vl vu .none)(pl:IsPart vl lo)(pu:IsPart vu hi)
  (h:Q (((sIx n 0 lo:Nat):Int),1,sIx n n hi-sIx n 0 lo) s):ai (model prog w) A (N5 (.ref sl) (pure (n:Int))) Q E s:=by
 obtain ⟨os,hos,hcs,hds⟩:=id hs
 unfold N5 Builtin.Slice.sliceFields
 refine Kc (Kc (UM hos hds (x:=vl) rfl (Kc (UM hos hds (x:=vu) rfl (Kc (UM hos hds (x:=.none) rfl (Kn ?_)))))))
 refine Kc (slicePart_none ?_)
 show ai _ _ (if ((1:Int)==0)=true then _ else _) _ _ s
 rw [ah '#']
 refine Kc (qa1 pl (Kc (qa1 pu (Kc (Kn ?_)))))
 show ai _ _ (match XT lo hi 1 (n:Int) with | (lo,hi)=>pure (lo,(1:Int),Xd lo hi 1)) _ _ s
 rw [qd6 lo hi n]
 show ai _ _ (pure (((sIx n 0 lo:Nat):Int),(1:Int),Xd ((sIx n 0 lo:Nat):Int) ((sIx n n hi:Nat):Int) 1)) _ _ s
 rw [qeE]
 exact Kn h
theorem qiv (xs:Array Kd)(i k:Nat):((KG k).filterMap λ(m:Nat)=>xs[((i:Int)+(m:Int)*1).toNat]?).toArray=((xs.toList.drop i).take k).toArray:=by
 have e:(λ(m:Nat)=>xs[((i:Int)+(m:Int)*1).toNat]?)=λm=>xs[i+m]?:=by
  funext m
  have:((i:Int)+(m:Int)*1).toNat=i+m:=by omega
  rw [this]
 rw [e]
 have:=pick_run xs i k
 rw [List.filterMap_map] at this
 have e2:((λx=>xs[x]?) ∘ λx=>i+x)=λm=>xs[i+m]?:=rfl
 rw [e2] at this
 rw [this]
theorem YZ {t sl:Ke}{items:Array Kd}{vl vu:Kd}{lo hi:Option Int}{Q:Kd->Kh->Prop}(ht:bE s.heap t items)(hs:s.heap.IsSliceOf sl vl vu .none)(pl:IsPart vl lo)(pu:IsPart vu hi)
  (hw:¬ (sIx items.size 0 lo=0/\sIx items.size items.size hi=items.size))
  (h:Q (.ref s.heap.objs.size) { s with heap:=s.heap.push { cls:=.type "tuple", data:=.seq ((items.toList.drop (sIx items.size 0 lo)).take (sIx items.size items.size hi-sIx items.size 0 lo)).toArray } })
  (hsz:items.size<=ak):ai (model prog w) A (getItem (.ref t) (.ref sl)) Q E s:=by
 have htake:sizeOk (.seq ((items.toList.drop (sIx items.size 0 lo)).take (sIx items.size items.size hi-sIx items.size 0 lo)).toArray):=by
  show ((items.toList.drop (sIx items.size 0 lo)).take (sIx items.size items.size hi-sIx items.size 0 lo)).toArray.size<=ak
  rw [KA,Uq,XI,KR]
  omega
 have hj:sIx items.size items.size hi<=items.size:=qmG _ _ (Kq _) hi
 obtain ⟨os,hos,hcs,hds⟩:=id hs
 have hTs:s.TypeIs (.ref sl) "slice" := ⟨os,hos,hcs⟩
 unfold getItem
 try with_reducible refine V2 ?_
 first|refine Kc (Kn ?_)|skip
 refine Kc (wpAny_sequenceKey ht.typeIs '#' ?_)
 refine Kc (US (name:=Kg "__getitem__") ht.typeIs UX
  (V6 UX ht.typeIs entry_tuple_getitem ?_ (args_tuple_getitem _ _)))
 show ai _ _ (N6 (.ref t) >>= _) _ _ s
 refine Kc (tupleItemsOf_ ht ?_)
 refine Kc (wpAny_typeOf hTs ?_)
 rw [ag '#']
 refine Kc (Wi hs pl pu ?_)
 have hno:¬ ((((sIx items.size 0 lo:Nat):Int)==0&&(1:Int)==1&&(sIx items.size items.size hi-sIx items.size 0 lo)==items.size)=true):=by
  intro q
  rw [KI,KI] at q
  have q1:((sIx items.size 0 lo:Nat):Int)=0:=eq_of_beq q.1.1
  have q2:sIx items.size items.size hi-sIx items.size 0 lo=items.size:=eq_of_beq q.2
  exact hw ⟨by omega,by omega⟩
 show ai _ _ (if (((sIx items.size 0 lo:Nat):Int)==0&&(1:Int)==1&&(sIx items.size items.size hi-sIx items.size 0 lo)==items.size)=true then _ else _) _ _ s
 rw [ah hno,qiv]
 first
  | exact Kc (m:=Xi _) (Vv (Kn ⟨_,rfl,Kn h⟩) htake)
  | exact Kc (m:=Xi _) (Vv (Kc (Kn (Kn ⟨_,rfl,Kn h⟩))) htake)
  | exact Kc (Kc (m:=Xi _) (Vv (Kn (Kn ⟨_,rfl,Kn h⟩)) htake))
  | exact Kc (Kc (m:=Xi _) (Vv (Kn ⟨_,rfl,Kn h⟩) htake))
end
end HT
namespace L2
open PySem PySem.Spec PyProof.Rows
noncomputable abbrev TO:=St->Hp->(Option Int->Hp->Prop)->Prop
def PO (X:Cx)(e:Option KD)(t:TO):Prop :=
 ∀ (aa:List (Ke×Obj)) (s:Kh) (σ:St) (H:Hp) (Q:Option Int->Hp->Prop),Inv X aa σ H s->t σ H Q->
  ai (model X.prog X.w) X.A (evalPart e X.env) (λu s'=>∃ o H',Inv X aa σ H' s'/\IsPart u o/\Q o H') X.xe s
noncomputable def qkH:TO:=λ_ H Q=>Q none H
noncomputable def tPart (t:TE):TO:=λσ H Q=>t σ H λx H1=>∃ i,x=.int i/\Q (some i) H1
section
variable {X:Cx}{e:KD}{te:TE}{lo hi:Option KD}{tl th:TO}{pos p2:Pos}
theorem qkl:PO X none qkH:=by
 intro aa s σ H Q I h
 rw [evalPart_none]
 exact Kn ⟨none,H,I,.none,h⟩
theorem qkm (h:PE X e te):PO X (some e) (tPart te):=by
 intro aa s σ H Q I hw
 rw [evalPart_some]
 refine thn (h aa s σ H _ I hw) λu s1 ⟨x,H1,I1,r1,q1⟩=>?_
 obtain ⟨i,rfl,q⟩:=q1
 obtain ⟨t,rfl⟩:=r1
 exact ⟨some i,H1,I1,.int i t,q⟩
def SlR (X:Cx)(r:V->Option Int->Option Int->Hp->VK->Prop):Prop :=
 ∀ (aa:List (Ke×Obj)) (s:Kh) (σ:St) (H:Hp) (x:V) (v vl vu:Kd) (lo hi:Option Int) (sl:Ke) (Q:VK),Inv X aa σ H s->RelV x v->s.heap.IsSliceOf sl vl vu .none->IsPart vl lo->IsPart vu hi->r x lo hi H Q->
  ∃ T id,typeLookup (.type T) "__getitem__" = pure (some (.builtin id))/\s.TypeIs v T/\ai (model X.prog X.w) X.A (getItem v (.ref sl)) (EP X aa σ Q) X.xe s
theorem SlR.or {r r':V->Option Int->Option Int->Hp->VK->Prop}(h:SlR X r)(h':SlR X r'):SlR X (λx lo hi H Q=>r x lo hi H Q\/r' x lo hi H Q):=by
 intro aa s σ H x v vl vu lo hi sl Q I rx hs pl pu q
 rcases q with q|q
 ·exact h aa s σ H x v vl vu lo hi sl Q I rx hs pl pu q
 ·exact h' aa s σ H x v vl vu lo hi sl Q I rx hs pl pu q
noncomputable def tSl (r:V->Option Int->Option Int->Hp->VK->Prop)(te:TE)(tl th:TO):TE:=λσ H Q=>te σ H λx H1=>tl σ H1 λl H2=>th σ H2 λu H3=>r x l u H3 Q
theorem qdM {r:V->Option Int->Option Int->Hp->VK->Prop}(hr:SlR X r)(he:PE X e te)(hl:PO X lo tl)(hu:PO X hi th):PE X (.Subscript e (.Slice lo hi none p2) pos) (tSl r te tl th):=by
 intro aa s σ H Q I h
 refine Subscript_ (thn (he aa s σ H _ I h) λv s1 ⟨x,H1,I1,r1,q1⟩=>?_)
 refine wpAny_Slice (thn (hl aa s1 σ H1 _ I1 q1) λvl s2 ⟨l,H2,I2,pl,q2⟩=>thn (hu aa s2 σ H2 _ I2 q2) λvu s3 ⟨u,H3,I3,pu,q3⟩=>?_)
 rw [evalPart_none]
 refine Kn ?_
 have I4:Inv X aa σ H3 { s3 with heap:=s3.heap.push { cls:=.type "slice", data:=.fields #[vl,vu,.none] } }:=I3.kept (t':=s3.toks) λb ob q=>Ki _ q
 obtain ⟨T,id,hT,ht,hg⟩:=hr aa { s3 with heap:=s3.heap.push { cls:=.type "slice", data:=.fields #[vl,vu,.none] } } σ H3 x v vl vu l u s3.heap.objs.size Q I4 r1 (Heap.IsSliceOf.new ..) pl pu q3
 show ai (model X.prog X.w) X.A (subscriptTail e (.Slice lo hi none p2) v (.ref s3.heap.objs.size)) (EP X aa σ Q) X.xe { s3 with heap:=s3.heap.push { cls:=.type "slice", data:=.fields #[vl,vu,.none] } }
 exact tail_any (ops:=[.ref s3.heap.objs.size,v]) ht hT hg (by with_unfolding_all rfl)
noncomputable def cutV (xs:List V)(lo hi:Option Int):List V:=(xs.drop (HT.sIx xs.length 0 lo)).take (HT.sIx xs.length xs.length hi-HT.sIx xs.length 0 lo)
theorem Ws (xs:List V)(lo hi:Option Int):(cutV xs lo hi).length<=xs.length:=by
 unfold cutV
 rw [Uq,XI]
 omega
noncomputable def rSlT (K:Kb):V->Option Int->Option Int->Hp->VK->Prop:=λx lo hi H Q=>∃ a xs,x=.ref a/\SqT K H a xs/\
 ¬ (HT.sIx xs.length 0 lo=0/\HT.sIx xs.length xs.length hi=xs.length)/\∀ p,H p=none->Q (.ref p) (upd H p (.tup (cutV xs lo hi)))
theorem qmN:SlR X (rSlT X.K):=by
 intro aa s σ H x v vl vu lo hi sl Q I rx hs pl pu h
 obtain ⟨a,xs,rfl,hx,hw,q⟩:=h
 cases rx
 obtain ⟨its,r,ht,hz⟩:=I.tuple hx
 have hlen:its.toArray.size=xs.length:=by rw [KA];exact r.length.symm
 refine ⟨"tuple", _,UX.lookup,ht.typeIs,?_⟩
 refine HT.YZ ht hs pl pu (by rw [hlen];exact hw) ?_ (by rw [hlen];exact hz)
 rw [hlen]
 refine ⟨.ref s.heap.objs.size,_,I.laid (t':=s.toks) (o:=.tup (cutV xs lo hi)) (λb ob q=>Ki _ q) (Kq _) ?_,rfl,q _ (I.hok.fresh (Kq _))⟩
 exact ⟨Vg (Ws xs lo hi) hz,_,(r.drop (HT.sIx xs.length 0 lo)).take (HT.sIx xs.length xs.length hi-HT.sIx xs.length 0 lo),bE.new _ _⟩
noncomputable def qk3 (K:Kb):R2:=λx y H Q=>∃ a b xs ys,x=.ref a/\y=.ref b/\SqT K H a xs/\SqT K H b ys/\xs≠[]/\xs.length+ys.length<=ak/\
 (ys=[]->Q (.ref a) H)/\(ys≠[]->∀ p,H p=none->Q (.ref p) (upd H p (.tup (xs++ys))))
theorem Vals.nil_iff {xs:List V}{us:List Kd}(r:Vals xs us):us=[]↔xs=[]:=by
 cases r with
 | nil=>simp
 | cons _ _=>simp
theorem qj6:OpR X (aF .Add) (qk3 X.K):=by
 intro aa s σ H x y v u Q I rx ry h
 obtain ⟨a,b,xs,ys,rfl,rfl,ha,hb,hx,hz,q1,q2⟩:=h
 cases rx
 cases ry
 obtain ⟨its,r1,p1,_⟩:=I.tuple ha
 obtain ⟨its2,r2,p2,_⟩:=I.tuple hb
 refine HT.qje p1 p2 (λz=>hx (r1.nil_iff.mp z)) (λz=>⟨.ref a,H,I,rfl,q1 (r2.nil_iff.mp z)⟩) (λz=>?_) (by rw [← r1.length,← r2.length];exact hz)
 refine ⟨.ref s.heap.objs.size,_,I.laid (t':=s.toks) (o:=.tup (xs++ys)) (λb ob q=>Ki _ q) (Kq _) ?_,rfl,q2 (λw=>z (r2.nil_iff.mpr w)) _ (I.hok.fresh (Kq _))⟩
 exact ⟨by rw [Km];exact hz,_,r1.append r2,bE.new _ _⟩
end
noncomputable def ixN (n:Nat)(i:Int):Option Nat:=if 0<=i then (if i<n then some i.toNat else none) else if -(n:Int)<=i then some (i+n).toNat else none
noncomputable def atI {α:Type}(xs:List α)(i:Int):Option α:=(ixN xs.length i).bind λj=>xs[j]?
theorem qjH {n:Nat}{i:Int}{j:Nat}(h:ixN n i=some j):bu i n=some j/\j<n/\-(n:Int)<=i/\i<n:=by
 unfold ixN at h
 by_cases h0:0<=i
 ·rw [ag h0] at h
  by_cases h1:i<n
  ·rw [ag h1] at h
   have e:i.toNat=j:=VY h
   exact ⟨by rw [seqIndex_of h0 h1,e],by omega,by omega,h1⟩
  ·rw [ah h1] at h;cases h
 ·rw [ah h0] at h
  by_cases h1:-(n:Int)<=i
  ·rw [ag h1] at h
   have e:(i+n).toNat=j:=VY h
   exact ⟨by rw [seqIndex_neg '$' h1,e],by omega,h1,by omega⟩
  ·rw [ah h1] at h;cases h
theorem qeZ {α:Type}{xs:List α}{i:Int}{v:α}(h:atI xs i=some v):∃ j,bu i xs.length=some j/\xs[j]?=some v/\j<xs.length/\-(xs.length:Int)<=i/\i<xs.length:=by
 unfold atI at h
 cases e:ixN xs.length i with
 | none=>rw [e] at h;cases h
 | some j =>
  rw [e] at h
  obtain ⟨h1,h2,h3,h4⟩:=qjH e
  exact ⟨j,h1,h,h2,h3,h4⟩
theorem WN {α:Type}{xs:List α}{j:Nat}{v:α}(h:xs[j]?=some v):atI xs (j:Int)=some v:=by
 have hj:j<xs.length:=(Kk.mp h).1
 have e:ixN xs.length (j:Int)=some j:=by
  unfold ixN
  rw [ag '$',ag '$'];simp
 unfold atI;rw [e];exact h
def WM (b:KD):Prop:=∀ o i,subscripted b false o i=operate [o,i] (getItem o i)
def IxR (X:Cx)(r:R2):Prop :=
 ∀ (value slice:KD) (aa:List (Ke×Obj)) (s:Kh) (σ:St) (H:Hp) (x y:V) (v u:Kd) (Q:VK),Inv X aa σ H s->RelV x v->RelV y u->r x y H Q->
  subscripted slice false v u=operate [v,u] (getItem v u)->ai (model X.prog X.w) X.A (subscriptTail value slice v u) (EP X aa σ Q) X.xe s
def MtR (X:Cx)(id:String)(r:V->List V->Hp->VK->Prop):Prop :=
 ∀ (aa:List (Ke×Obj)) (s:Kh) (σ:St) (H:Hp) (x:V) (xs:List V) (v:Kd) (us:List Kd) (Q:VK),Inv X aa σ H s->RelV x v->Vals xs us->r x xs H Q->
  ai (model X.prog X.w) X.A (call (.builtin id) (v::us)) (EP X aa σ Q) X.xe s
section
variable {X:Cx}{a b:KD}{ta tb:TE}{pos:Pos}
theorem IxR.or {r r':R2}(h:IxR X r)(h':IxR X r'):IxR X (λx y H Q=>r x y H Q\/r' x y H Q):=by
 intro value slice aa s σ H x y v u Q I rx ry q hs
 rcases q with q|q
 ·exact h value slice aa s σ H x y v u Q I rx ry q hs
 ·exact h' value slice aa s σ H x y v u Q I rx ry q hs
theorem qin {r:R2}(hr:IxR X r)(ha:PE X a ta)(hb:PE X b tb)(hs:WM b):PE X (.Subscript a b pos) (tOp r ta tb):=by
 intro aa s σ H Q I h
 exact Subscript_ (binT ha hb I h λv u s2 x y H2 I2 rx ry q=>hr a b aa s2 σ H2 x y v u Q I2 rx ry q (hs _ _))
noncomputable def rIxL (K:Kb):R2:=λx y H Q=>∃ p xs i v,x=.ref p/\y=.int i/\SqL K H p xs/\atI xs i=some v/\Q v H
noncomputable def rIxT (K:Kb):R2:=λx y H Q=>∃ p xs i v,x=.ref p/\y=.int i/\SqT K H p xs/\atI xs i=some v/\Q v H
theorem qcd:IxR X (rIxL X.K):=by
 intro value slice aa s σ H x y v u Q I rx ry h hs
 obtain ⟨p,xs,i,z,rfl,rfl,hq,he,q⟩:=h
 cases rx
 obtain ⟨t,rfl⟩:=ry
 obtain ⟨its,r,pl,hz⟩:=I.list hq
 obtain ⟨j,h1,h2,h3,h4,h5⟩:=qeZ he
 obtain ⟨w,ew,rw'⟩:=r.get h2
 have hl:=r.length
 have hn:=qcq
 have fin:EP X aa σ Q w s:=⟨z,H,I,rw',q⟩
 by_cases h0:0<=i
 ·have hj:i.toNat=j:=by
   rw [seqIndex_of h0 h5] at h1
   exact VY h1
  exact item_listR pl.isList h0 '$' (by rw [hj];simpa using ew) fin hs
 ·have hj:(i+(its.toArray.size:Int)).toNat=j:=by
   rw [seqIndex_neg '$' h4] at h1
   rw [KA,← hl]
   exact VY h1
  exact bH (x:=w) pl.isList.typeIs slot_list_getitem.lookup
   (wpAny_getItem_list_neg (Q:=λr s'=>r=w/\EP X aa σ Q r s') pl.isList '$' (by rw [KA]<;>omega) '$' (by rw [hj];simpa using ew) ⟨rfl,fin⟩) hs
theorem qem:IxR X (rIxT X.K):=by
 intro value slice aa s σ H x y v u Q I rx ry h hs
 obtain ⟨p,xs,i,z,rfl,rfl,hq,he,q⟩:=h
 cases rx
 obtain ⟨t,rfl⟩:=ry
 obtain ⟨its,r,pl,hz⟩:=I.tuple hq
 obtain ⟨j,h1,h2,h3,h4,h5⟩:=qeZ he
 obtain ⟨w,ew,rw'⟩:=r.get h2
 have hl:=r.length
 have hn:=qcq
 have fin:EP X aa σ Q w s:=⟨z,H,I,rw',q⟩
 exact bH (x:=w) pl.typeIs UX.lookup
  (getItem_tuple (j:=j) (Q:=λr s'=>r=w/\EP X aa σ Q r s') pl '$' '$' (by rw [KA,← hl];exact h1) (by simpa using ew) ⟨rfl,fin⟩) hs
theorem Inv.lst {aa:List (Ke×Obj)}{σ:St}{H:Hp}{s:Kh}{p:Ke}{xs:List V}(I:Inv X aa σ H s)(h:H p=some (.lst xs)) :
  ∃ (its:List Kd) (n:Nat),Vals xs its/\s.heap.get? p=some { cls:=.type "list", data:=.seq its.toArray n }/\xs.length<=ak:=by
 obtain ⟨z,its,n,r,e⟩:=I.hok p _ h
 exact ⟨its,n,r,e,z⟩
theorem qcE (lo hi:Option Int)(n:Nat):(aX lo hi none n).1=((HT.sIx n 0 lo:Nat):Int)/\(aX lo hi none n).2.1=((HT.sIx n n hi:Nat):Int)/\(aX lo hi none n).2.2=1:=by
 refine ⟨?_,?_,rfl⟩
 ·cases lo with
  | none=>simp [aX,HT.sIx]
  | some i =>
   simp only [aX,HT.sIx,Option.getD_none,show (1:Int) > 0 by decide,aR]
   by_cases h:i<0
   ·simp only [h,aR]<;>omega
   ·simp only [h,aM]<;>omega
 ·cases hi with
  | none=>simp [aX,HT.sIx]
  | some i =>
   simp only [aX,HT.sIx,Option.getD_none,show (1:Int) > 0 by decide,aR]
   by_cases h:i<0
   ·simp only [h,aR]<;>omega
   ·simp only [h,aM]<;>omega
theorem qbf (its:List Kd)(lo hi:Option Int):slicePick its.toArray lo hi none=((its.drop (HT.sIx its.length 0 lo)).take (HT.sIx its.length its.length hi-HT.sIx its.length 0 lo)).toArray:=by
 obtain ⟨h1,h2,h3⟩:=qcE lo hi its.toArray.size
 unfold slicePick
 rw [h1,h2,h3]
 simp only [sliceRange_one,pick_run,KA]<;>rfl
noncomputable def rSlL (K:Kb):V->Option Int->Option Int->Hp->VK->Prop:=λx lo hi H Q=>∃ a xs,x=.ref a/\SqL K H a xs/\∀ p,H p=none->Q (.ref p) (upd H p (.lst (cutV xs lo hi)))
theorem qfT:SlR X (rSlL X.K):=by
 intro aa s σ H x v vl vu lo hi sl Q I rx hs pl pu h
 obtain ⟨a,xs,rfl,hx,q⟩:=h
 cases rx
 obtain ⟨its,r,ht,hz⟩:=I.list hx
 have hlen:=r.length
 refine ⟨"list", _,slot_list_getitem.lookup,ht.isList.typeIs,?_⟩
 refine wpAny_getItem_list_slice ht.isList hs pl pu .none (by simp) ?_ (by rw [KA]<;>omega)
 rw [qbf,← hlen]
 refine ⟨.ref s.heap.objs.size,_,I.laid (t':=s.toks) (o:=.lst (cutV xs lo hi)) (λb ob q=>Ki _ q) (Kq _) ?_,rfl,q _ (I.hok.fresh (Kq _))⟩
 exact ⟨Vg (Ws xs lo hi) hz,_,0,(r.drop (HT.sIx xs.length 0 lo)).take (HT.sIx xs.length xs.length hi-HT.sIx xs.length 0 lo),Kv _ rfl⟩
theorem qbZ:jg X (.builtin "len") (λxs H Q=>∃ p ys,xs=[.ref p]/\(SqL X.K H p ys\/SqT X.K H p ys)/\Q (.int ys.length) H):=by
 intro aa s σ H xs us Q I r h
 obtain ⟨p,ys,rfl,hq,q⟩:=h
 obtain ⟨u,rfl,rx⟩:=vals1 r
 cases rx
 have hn:=qcq
 rcases hq with hq|hq
 ·obtain ⟨its,r',pl,hz⟩:=I.list hq
  have hlen:=r'.length
  exact Calls.call_len_list pl.isList (by simp only [KA]<;>omega) ⟨.int ys.length,H,I.tok _,⟨s.toks+1,by rw [KA,hlen]⟩,q⟩
 ·obtain ⟨its,r',pl,hz⟩:=I.tuple hq
  have hlen:=r'.length
  exact len_tuple pl (by simp only [KA]<;>omega) ⟨.int ys.length,H,I.tok _,⟨s.toks+1,by rw [KA,hlen]⟩,q⟩
theorem jg.or {f:Kd}{r r':List V->Hp->VK->Prop}(h:jg X f r)(h':jg X f r'):jg X f (λxs H Q=>r xs H Q\/r' xs H Q):=by
 intro aa s σ H xs us Q I rs q
 rcases q with q|q
 ·exact h aa s σ H xs us Q I rs q
 ·exact h' aa s σ H xs us Q I rs q
theorem qb0:jg X (.type "list") (λxs H Q=>∃ p ys,xs=[.ref p]/\(SqL X.K H p ys\/SqT X.K H p ys)/\∀ l,H l=none->Q (.ref l) (upd H l (.lst ys))):=by
 intro aa s σ H xs us Q I r h
 obtain ⟨p,ys,rfl,hq,q⟩:=h
 obtain ⟨u,rfl,rx⟩:=vals1 r
 cases rx
 have fin:∀ (its:List Kd),Vals ys its->ys.length<=ak->∀ (h':KU) (c':Nat),(∀ b o',s.heap.get? b=some o'->h'.get? b=some o')->
   h'.get? s.heap.objs.size=some { cls:=.type "list", dict:=none,data:=.seq its.toArray c',slots:=#[] }->EP X aa σ Q (.ref s.heap.objs.size) { s with heap:=h' }:=λits r' hz h' c' kp e =>
  ⟨.ref s.heap.objs.size,_,I.laid (t':=s.toks) kp (Kq _) (show Qt X.prog X.w _ h' _ (.lst ys) from ⟨hz,its,c',r',e⟩),rfl,q _ (I.hok.fresh (Kq _))⟩
 rcases hq with hq|hq
 ·obtain ⟨its,r',pl,hz⟩:=I.list hq
  have hlen:=r'.length
  obtain ⟨o,ho,hc,n,hd⟩:=pl.isList
  exact call_list_seq p (.inl rfl) ho hc hd (λh' c' kp e=>fin its r' hz h' c' kp e) (by simp only [KA]<;>omega)
 ·obtain ⟨its,r',pl,hz⟩:=I.tuple hq
  have hlen:=r'.length
  obtain ⟨o,ho,hc,n,hd⟩:=pl
  exact call_list_seq p (.inr rfl) ho hc hd (λh' c' kp e=>fin its r' hz h' c' kp e) (by simp only [KA]<;>omega)
theorem qa9:jg X (.type "tuple") (λxs H Q=>∃ p ys,xs=[.ref p]/\((SqL X.K H p ys/\∀ l,H l=none->Q (.ref l) (upd H l (.tup ys)))\/(SqT X.K H p ys/\Q (.ref p) H))):=by
 intro aa s σ H xs us Q I r h
 obtain ⟨p,ys,rfl,h⟩:=h
 obtain ⟨u,rfl,rx⟩:=vals1 r
 cases rx
 rcases h with ⟨hq,q⟩|⟨hq,q⟩
 ·obtain ⟨its,r',pl,hz⟩:=I.list hq
  have hlen:=r'.length
  refine call_tuple_list pl.isList (λh' kp=>?_) (by simp only [KA]<;>omega)
  have I1:Inv X aa σ H { s with heap:=h' }:=I.kept (t':=s.toks) kp
  have I2:Inv X aa σ (upd H h'.objs.size (.tup ys)) { s with heap:=h'.push { cls:=.type "tuple", data:=.seq its.toArray } } :=
   I1.laid (t':=s.toks) (λb o e=>Ki _ e) (Kq _) (show Qt X.prog X.w _ _ _ (.tup ys) from ⟨hz,its,r',bE.new _ _⟩)
  exact ⟨.ref h'.objs.size,_,I2,rfl,q _ (I1.hok.fresh (Kq _))⟩
 ·obtain ⟨its,r',pl,hz⟩:=I.tuple hq
  exact call_tuple_same pl ⟨.ref p,H,I,rfl,q⟩
def tyV (K:Kb)(T:String)(x:V)(H:Hp):Prop:=match x with
 | .str _=>T = "str"
 | .int _=>T = "int"
 | .ref p=>(T = "list"/\∃ xs,SqL K H p xs)\/(T = "tuple"/\∃ o,K.lookup p=some o/\o.cls=.type "tuple"/\o.dict=none)\/
   (T = "dict"/\((∃ kvs,H p=some (.dK kvs))\/∃ kvs,H p=some (.dT kvs)))\/(T = "set"/\∃ S n,H p=some (.set S n))
 | _=>False
theorem qi0 {aa:List (Ke×Obj)}{σ:St}{H:Hp}{s:Kh}{T:String}{x:V}{v:Kd}(I:Inv X aa σ H s)(r:RelV x v)(ty:tyV X.K T x H) :
  s.TypeIs v T/\∀ a,v=.ref a->∃ ob,s.heap.get? a=some ob/\ob.dict=none:=by
 cases x with
 | str z =>
  obtain ⟨t,rfl⟩:=r
  cases (show T = "str" from ty)
  exact ⟨typeIs_str s z t,λ_ e=>nomatch e⟩
 | int i =>
  obtain ⟨t,rfl⟩:=r
  cases (show T = "int" from ty)
  exact ⟨typeIs_int s i t,λ_ e=>nomatch e⟩
 | ref p =>
  cases r
  rcases ty with ⟨rfl,xs,hq⟩|⟨rfl,o,hk,hc,hd⟩|⟨rfl,hk⟩|⟨rfl,S,n,hk⟩
  ·obtain ⟨its,_,pl,_⟩:=I.list hq
   refine ⟨pl.isList.typeIs,λa e=>?_⟩
   cases e
   obtain ⟨o,n,e,c,hd,_⟩:=pl
   exact ⟨o,e,hd⟩
  ·refine ⟨⟨o,I.kIn p o hk,hc⟩,λa e=>?_⟩
   cases e
   exact ⟨o,I.kIn _ o hk,hd⟩
  ·have z:∃ o,s.heap.get? p=some o/\o.ExactDict:=by
    rcases hk with ⟨kvs,hk⟩|⟨kvs,hk⟩
    ·obtain ⟨_,_,_,_,o,_,_,e,ex,_⟩:=I.hok p _ hk
     exact ⟨o,e,ex⟩
    ·obtain ⟨_,_,_,_,o,_,_,e,ex,_⟩:=I.hok p _ hk
     exact ⟨o,e,ex⟩
   obtain ⟨o,e,ex⟩:=z
   refine ⟨⟨o,e,ex.1⟩,λa e2=>?_⟩
   cases e2
   exact ⟨o,e,ex.2.1⟩
  ·obtain ⟨o,_,_,_,e,ex,_⟩:=I.hok p _ hk
   refine ⟨⟨o,e,ex.1⟩,λa e2=>?_⟩
   cases e2
   exact ⟨o,e,ex.2.1⟩
 | _=>exact Xc ty
noncomputable def tBM0 (K:Kb)(T:String)(r:V->List V->Hp->VK->Prop)(to:TE):TE:=λσ H Q=>to σ H λx H1=>tyV K T x H1/\r x [] H1 Q
noncomputable def tBM (K:Kb)(T:String)(r:V->List V->Hp->VK->Prop)(to:TE)(t:TA):TE:=λσ H Q=>to σ H λx H1=>tyV K T x H1/\t σ H1 λxs H2=>r x xs H2 Q
variable {o e:KD}{es:List KD}{to:TE}{t:TA}{name:Str}{apos cpos:Pos}{T id:String}{r:V->List V->Hp->VK->Prop}
theorem qmh (pa:PlainAttrs T)(slot:Slot T name id)(hty:typeOf (.builtin id)=pure (.type "method_descriptor"))(hm:MtR X id r)(ho:PE X o to)
  (hbase:aG o name X.env (eval o X.env)=eval o X.env:=by rfl) (hline:(apos.endLine==cpos.line)=true:=by rfl):PE X (.Call (.Attribute o name apos) [] [] cpos) (tBM0 X.K T r to):=by
 intro aa s σ H Q I h
 refine wpAny_Call_method0_late hbase hline (thn (ho aa s σ H _ I h) λv s1 ⟨x,H1,I1,r1,ty,q1⟩=>?_)
 obtain ⟨h1,h2⟩:=qi0 I1 r1 ty
 exact ⟨T,id,pa,slot,hty,h1,h2,Calls.callWith_builtin rfl (Fc (hm aa s1 σ H1 x [] v [] Q I1 r1 .nil q1))⟩
theorem qbK (pa:PlainAttrs T)(slot:Slot T name id)(hty:typeOf (.builtin id)=pure (.type "method_descriptor"))(hm:MtR X id r)(ho:PE X o to)(ha:PA X (e::es) t)
  (hbase:aG o name X.env (eval o X.env)=eval o X.env:=by rfl)
  (hfew:((aA cpos (af (e::es) X.env)).all (λx=>!x.1)&&(aZ cpos (aQ [] X.env)).all (λx=>x.1.isSome)
   && decide ((e::es).length+([]:List UJ).length+(if ([]:List UJ).isEmpty then 0 else 1)<30))=true:=by rfl)
  (hline:(apos.endLine==cpos.line)=true:=by rfl) (hs:af (e::es) X.env=(false,eval e X.env)::af es X.env:=by rfl) (hplain:(aA cpos (af es X.env)).any (·.1)=false:=by rfl) :
  PE X (.Call (.Attribute o name apos) (e::es) [] cpos) (tBM X.K T r to t):=by
 intro aa s σ H Q I h
 refine wpAny_Call_method_late hbase hfew hline rfl (thn (ho aa s σ H _ I h) λv s1 ⟨x,H1,I1,r1,ty,q1⟩=>?_)
 obtain ⟨h1,h2⟩:=qi0 I1 r1 ty
 refine ⟨T,id,pa,slot,hty,h1,h2,?_⟩
 have hA:=ha cpos aa s1 σ H1 _ I1 q1
 rw [hs] at hA ⊢
 refine Calls.callWith_builtin (by show (false||(aA cpos (af es X.env)).any (·.1))=false;rw [hplain]<;>rfl) (Calls.evalArgs_plain ?_)
 exact thn hA λus s2 ⟨vs,H2,I2,r2,q2⟩=>hm aa s2 σ H2 x vs v us Q I2 r1 r2 q2
end
def MtM (X:Cx)(id:String)(r:V->List V->Hp->VK->Prop):Prop :=
 ∀ (aa:List (Ke×Obj)) (s:Kh) (σ:St) (H:Hp) (x:V) (xs:List V) (v:Kd) (us:List Kd) (Q:VK),Inv X aa σ H s->RelV x v->Vals xs us->r x xs H Q->
  ai (model X.prog X.w) X.A (call (.builtin id) (v::us)) (EP X aa σ Q) X.xe s
theorem Vals.one:∀ {x:V} {us:List Kd},Vals [x] us->∃ u,us=[u]/\RelV x u
 | _,_,.cons r .nil=>⟨_,rfl,r⟩
theorem Vals.two:∀ {x y:V} {us:List Kd},Vals [x,y] us->∃ u v,us=[u,v]/\RelV x u/\RelV y v
 | _,_,_,.cons r (.cons q .nil)=>⟨_,_,rfl,r,q⟩
theorem Vals.zero:∀ {us:List Kd},Vals [] us->us=[]
 | _,.nil=>rfl
theorem Vals.dropLast {xs:List V}{us:List Kd}(h:Vals xs us):Vals xs.dropLast us.dropLast:=by
 induction h with
 | nil=>exact .nil
 | cons r t ih =>
  cases t with
  | nil=>exact .nil
  | cons q t'=>exact .cons r ih
theorem Vals.eraseIdx:∀ {xs:List V} {us:List Kd} (i:Nat),Vals xs us->Vals (xs.eraseIdx i) (us.eraseIdx i)
 | _,_,_,.nil=>.nil
 | _,_,0,.cons _ t=>t
 | _,_,i+1,.cons r t=>.cons r (Vals.eraseIdx i t)
theorem qec {α:Type}(l:List α):l.eraseIdx (l.length-1)=l.dropLast:=by
 induction l with
 | nil=>rfl
 | cons a r ih =>
  cases r with
  | nil=>rfl
  | cons b r =>
   have e:(a::b::r).length-1=((b::r).length-1)+1:=by
    have h1:(a::b::r).length=r.length+2:=rfl
    have h2:(b::r).length=r.length+1:=rfl
    omega
   rw [e,List.eraseIdx_cons_succ,ih]
   all_goals rfl
theorem qby {α:Type}:∀ (l:List α) (i:Nat),(l.eraseIdx i).length<=l.length
 | [],_=>Kq _
 | _::_,0=>UN _
 | _::r,i+1=>Er (qby r i)
section
variable {X:Cx}{aa:List (Ke×Obj)}{σ:St}{H:Hp}{s:Kh}{l b:Ke}{xs ys zs:List V}
theorem Inv.lset {its its':List Kd}{n:Nat}{f:Array Kd->Array Kd}{t':Nat}(I:Inv X aa σ H s)(hH:H l=some (.lst xs))
  (e:s.heap.get? l=some { cls:=.type "list", data:=.seq its.toArray n }) (hf:f its.toArray=its'.toArray) (hv:Vals ys its') (hz:ys.length<=ak) :
  Inv X aa σ (upd H l (.lst ys)) { s with heap:=s.heap.update l (Uc f),toks:=t' }:=by
 have q:=PySem.IsL.update e f
 rw [hf] at q
 refine I.write (x:=l) (e:=l) (by rw [hH];exact trivial) (.inl rfl) (λb' u hb hu=>(K3 s.heap (Uc f) (Ul hb)).trans hu) ⟨_,q⟩ ?_
 exact ⟨hz,its',_,hv,q⟩
theorem Inv.lnew {its:List Kd}{t':Nat}(I:Inv X aa σ H s)(hv:Vals ys its)(hz:ys.length<=ak) :
  Inv X aa σ (upd H s.heap.objs.size (.lst ys)) { s with heap:=s.heap.push { cls:=.type "list", data:=.seq its.toArray },toks:=t' } :=
 I.laid (λ_ _ q=>Ki _ q) (Kq _) ⟨hz,its,0,hv,Kv _ rfl⟩
theorem Inv.fresh (I:Inv X aa σ H s):H s.heap.objs.size=none:=I.hok.fresh (Kq _)
theorem Inv.lstM (I:Inv X aa σ H s)(hH:H l=some (.lst xs)):xs.length<=ak/\∃ (its:List Kd) (n:Nat),Vals xs its/\xs.length=its.length/\s.heap.get? l=some { cls:=.type "list", data:=.seq its.toArray n }:=by
 obtain ⟨z,its,n,r,e⟩:=I.hok l _ hH
 exact ⟨z,its,n,r,r.length,e⟩
end
section
variable {X:Cx}
noncomputable def qkt:V->List V->Hp->VK->Prop:=λx vs H Q=>∃ l xs y,x=.ref l/\vs=[y]/\H l=some (.lst xs)/\xs.length<ak/\Q .non (upd H l (.lst (xs++[y])))
theorem Wa:MtM X "list.append" qkt:=by
 intro aa s σ H x vs v us Q I rx rv h
 obtain ⟨l,xs,y,rfl,rfl,hH,hz,q⟩:=h
 cases rx
 obtain ⟨u,rfl,ru⟩:=rv.one
 obtain ⟨z,its,n,r,hl,e⟩:=I.lstM hH
 refine Ek Xp ⟨_,e,rfl⟩ F.entry_list_append (F.args_list_append_2 _ _) (PySem.list_append l its.toArray n u (by rw [KA];omega)) ⟨e,?_⟩
 refine ⟨.non,_,I.lset (its':=its++[u]) hH e (by simp) (r.append (.cons ru .nil)) ?_,rfl,q⟩
 rw [Km,Ku]
 omega
noncomputable def rPop:V->List V->Hp->VK->Prop:=λx vs H Q=>∃ l xs y,x=.ref l/\vs=[]/\H l=some (.lst xs)/\xs[xs.length-1]?=some y/\Q y (upd H l (.lst xs.dropLast))
theorem qlX:MtM X "list.pop" rPop:=by
 intro aa s σ H x vs v us Q I rx rv h
 obtain ⟨l,xs,y,rfl,rfl,hH,hy,q⟩:=h
 cases rx
 have hus:=rv.zero
 subst hus
 obtain ⟨z,its,n,r,hl,e⟩:=I.lstM hH
 obtain ⟨u,hu,ru⟩:=r.get hy
 have hy':its.toArray[its.toArray.size-1]?=some u:=by
  show its.toArray[its.length-1]?=some u
  rw [← Um,← hl]
  exact hu
 refine Ek X3 ⟨_,e,rfl⟩ F.entry_list_pop (F.args_list_pop_1 _) (MeetsSeq.list_pop_last l its.toArray n u hy' (by rw [KA];omega)) ⟨e,?_⟩
 refine ⟨y,_,I.lset (its':=its.dropLast) hH e ?_ r.dropLast ?_,ru,q⟩
 ·show its.toArray.eraseIdxIfInBounds (its.toArray.size-1)=its.dropLast.toArray
  rw [KA,Nu,qec]
 ·rw [List.length_dropLast]
  omega
noncomputable def qmy:V->List V->Hp->VK->Prop:=λx vs H Q=>∃ l xs i k y,x=.ref l/\vs=[.int i]/\H l=some (.lst xs)/\-(2 ^ 63)<=i/\i<2 ^ 63/\bu i xs.length=some k/\xs[k]?=some y/\Q y (upd H l (.lst (xs.eraseIdx k)))
theorem qh5:MtM X "list.pop" qmy:=by
 intro aa s σ H x vs v us Q I rx rv h
 obtain ⟨l,xs,i,k,y,rfl,rfl,hH,h1,h2,hk,hy,q⟩:=h
 cases rx
 obtain ⟨u,rfl,ru⟩:=rv.one
 obtain ⟨t,rfl⟩:=ru
 obtain ⟨z,its,n,r,hl,e⟩:=I.lstM hH
 obtain ⟨w,hw,rw'⟩:=r.get hy
 refine Ek X3 ⟨_,e,rfl⟩ F.entry_list_pop (F.args_list_pop_2 _ _)
  (MeetsSeq.list_pop_at l its.toArray n i t k w (fitsIndex_both h1 h2) (by rw [KA,← hl];exact hk) (by rw [← Um];exact hw) (by rw [KA];omega)) ⟨e,?_⟩
 refine ⟨y,_,I.lset (its':=its.eraseIdx k) hH e ?_ (r.eraseIdx k) ?_,rw',q⟩
 ·show its.toArray.eraseIdxIfInBounds k=(its.eraseIdx k).toArray
  rw [Nu]
 ·have:=qby xs k
  omega
end
section
variable {prog:KJ}{w:K1}{A:KY}{E:Kd->Kh->Prop}{s:Kh}
set_option maxRecDepth 100000 in
end
end L2
namespace Att
open PySem PySem.W PySem.Calls PyProof.Rows
theorem WK {P:Params}{h:KU}:∀ (ns:List Int) (vs:List Kd),WellAll P h vs (ns.map WData.int)->IntsAre vs ns:=by
 intro ns
 induction ns with
 | nil =>
  intro vs w
  rw [VR] at w
  cases w
  exact .nil
 | cons n ns ih =>
  intro vs w
  rw [Kt] at w
  cases w with
  | cons a b =>
   cases a
   exact .cons _ _ (ih _ b)
theorem qgP {l:Ef}{n:Nat}(hn:l.most=some n){P:Params}{h:KU}{args:List WData}{vals:List Kd}
  (hpre:l.row.toRowW.claim.pre args=true) (hwl:WellAll P h vals args) :
  ∃ a vs ns,vals=[Ve a]/\args=[WData.list (ns.map WData.int)]/\h.get? a=some { cls:=.type "list", data:=.seq vs.toArray }/\IntsAre vs ns/\ns.length<=n:=by
 have hsh:WShape.hasAll [] args [.list .int]=true:=(pre_splitW hpre).1
 have hc:l.pre.holds [] { args:=args }=true:=(pre_splitW hpre).2
 obtain ⟨d,r,rfl,h1,h2⟩:=hasAllW_cons hsh
 obtain rfl:=hasAllW_nil h2
 obtain ⟨xs,rfl,h3⟩:=hasW_list h1
 obtain ⟨ns,rfl⟩:=items_int h3
 have hlen:ns.length<=n:=by
  unfold OpenLaw.pre at hc
  have h4:(WTm.not (.lt (.lit (.int (n:Int))) (.len (.arg 0)))).holds [] { args:=[.list (ns.map .int)] }=true:=by
   have h4:=(holds_andW hc).1
   rw [hn] at h4
   exact h4
  have h5:=condW_of h4 (w_not (w_lt w_lit (w_len_list (w_arg rfl))))
  rw [Kf] at h5
  refine Nat.le_of_not_lt λq=>?_
  have q':(n:Int)<((ns.length:Nat):Int):=by omega
  first
   | (rw [ae q'] at h5;exact absurd h5 '#')
   | (simp at h5;omega)
 cases hwl with
 | cons w1 w2 =>
  cases w2
  cases w1 with
  | list ho hall=>exact ⟨_,_,ns,rfl,rfl,ho,WK ns _ hall,hlen⟩
theorem qgM (l:Ef)(args:List WData):l.row.toRowW.claim.post args (.bool true) args=true :=
 postW_of (r:=l.row.toRowW) (X:=(true==true))
  (show WShape.has [] (.bool true) .bool=true by first|rfl|decide|simp [WShape.has,WShape.arms,WShape.armsAll])
  (show (WTm.eq .res (.lit (.bool true))).value [] { args:=args,res:=some (.bool true),after:=args }=some (.bool (true==true)) from w_eq_bool (w_res rfl) w_lit) rfl
end Att
namespace L2
open PySem PySem.Spec PyProof.Rows
theorem qbU:∀ {vs:List Kd} {ns:List Int},IntsAre vs ns->Vals (ns.map V.int) vs
 | _,_,.nil=>.nil
 | _,_,.cons n t h=>.cons ⟨t,rfl⟩ (qbU h)
def Only (H:Hp):Prop:=∀ b,H b=none\/∃ o xs,H b=some (.frz o (.lst xs))
theorem qhS {P:KJ}{w:K1}{K:Kb}{mg mb:Str->Option Kd}{CX:CXT}{k:Nat}{fa a:Ke}{fd:VD}{x:Str}{sp:Sp}{s₁:Kh}{vs:List Kd}{ns:List Int}
  (KX:K.In s₁.heap) (hns:s₁.heap.Ns aj mg) (hb:s₁.heap.Ns builtinsNs mb) (hbb:∀ x:Str,x ≠ "__name__"->mb x=aw x) (hlim:s₁.heap.NoLimit) (hg:s₁.gens=#[])
  (ha:s₁.heap.get? a=some { cls:=.type "list", data:=.seq vs.toArray }) (hi:IntsAre vs ns) (hl:ns.length<=ak) (hr:Room k callerA)
  (F:∀ base:KU,K.In base->base.Ns aj mg->FnOk P w K mg base CX k fa fd [x] sp) (hbind:∀ (s:Kh) (u:Kd),BindsTo s fd ⟨[u],[]⟩ [(x,u)])
  (hsp:∀ H:Hp,Only H->SqL K H a (ns.map V.int)->sp [.ref a] H (λv _=>v=.bl true) λ_ _ _=>False)
  (hCX:∀ H e s',CX [] H s₁ (λ_ _ _=>False) e s'->False) :
  aT (model P w) callerA (.call (.ref fa) ⟨[.ref a],[]⟩) (λr s'=>r=.ok (.ret (.bool true))/\OldK s₁.heap s'.heap/\s'.os=s₁.os/\XR s'.gens) s₁:=by
 have rv:=qbU hi
 have lenV:=hi.length
 have core:∀ H:Hp,Only H->SqL K H a (ns.map V.int)->HOk P w H s₁.heap->(∀ b,H b≠none->b=a)->(H a≠none->K.lookup a=none)->
   aT (model P w) callerA (.call (.ref fa) ⟨[.ref a],[]⟩) (λr s'=>r=.ok (.ret (.bool true))/\OldK s₁.heap s'.heap/\s'.os=s₁.os/\XR s'.gens) s₁:=by
  intro H hO hS hok hA hK
  have base_of:∀ {b:Ke} {o:Obj},s₁.heap.get? b=some o->H b=none->(hidT s₁.heap H).get? b=some o:=λe n=>qhE e n
  have noA:∀ {b:Ke} {o:Obj} {es:Array Xn} {ep:Nat},s₁.heap.get? b=some o->o.data=.dict es ep->H b=none:=λ{b o es ep} e d=>by
   cases q:H b with
   | none=>rfl
   | some u =>
    have e':b=a:=hA b (by rw [q];simp)
    subst e'
    rw [ha] at e;cases e
    have d':Data.seq vs.toArray _=XY es ep:=d
    cases d'
  have nsK:∀ {b:Ke} {m:Str->Option Kd},s₁.heap.Ns b m->(hidT s₁.heap H).Ns b m:=λ{b m} ⟨o,es,ep,e,d,r⟩=>⟨o,es,ep,base_of e (noA e d),d,r⟩
  have hKb:K.In (hidT s₁.heap H):=λb o e=>base_of (KX b o e) (by
   cases q:H b with
   | none=>rfl
   | some u =>
    have e':b=a:=hA b (by rw [q];simp)
    subst e'
    rw [hK (by rw [q];simp)] at e;cases e)
  have hM:Mod K mg (hidT s₁.heap H):=⟨hKb,nsK hns,⟨mb,nsK hb,hbb⟩,let ⟨mc,h1,h2⟩:=hlim;⟨mc,nsK h1,h2⟩⟩
  have e0:Env0 P w K mg (hidT s₁.heap H) callerA [] s₁ H:=⟨rfl,hM,λb o e=>qj2 e,Nat.le_of_eq (qgd _ _),trivial,λb hb=>absurd (show b∈([]:List Ke) from hb) (by simp),hok,.of_eq hg⟩
  refine codeAny_mono ((F _ hKb (nsK hns)).run callerA [] s₁ H ⟨[.ref a],[]⟩ [.ref a] [.ref a] _ _ hr e0 (hbind s₁ (.ref a)) (.cons rfl .nil) (hsp H hO hS)) λr s' h=>?_
  cases r with
  | error e=>exact (hCX H e s' h).elim
  | ok fl =>
   cases fl with
   | next=>exact Xc h
   | brk=>exact Xc h
   | cont=>exact Xc h
   | ret u =>
    obtain ⟨v,H',os,bare,un,hok',r',q⟩:=h
    have q':v=.bl true:=q
    subst q'
    obtain rfl:u=Vt true:=r'
    refine ⟨rfl,OldK.of_keep λb o e=>?_,os,bare⟩
    cases q:H b with
    | none=>exact un.keep b o e q (by intro z;exact absurd (show b∈([]:List Ke) from z) (by simp)) (by simp)
    | some u =>
     rcases hO b with z|⟨ob,xs,z⟩
     ·rw [q] at z;cases z
     ·have z2:=un.frzs b ob _ z
      obtain ⟨e1,_⟩:=hok b _ z
      obtain ⟨e2,_⟩:=hok' b _ z2
      rw [e] at e1;cases e1
      exact e2
 cases hk:K.lookup a with
 | some o =>
  have e:=KX a o hk
  rw [ha] at e
  cases e
  refine core (λ_=>none) (λ_=>.inl rfl) (.inr ⟨_,vs.toArray,_,hk,rfl,rfl,rfl,by rw [KA,lenV];exact hl,by simpa using rv⟩) (λb u z=>by have z':(none:Option HO)=some u:=z;cases z') (λb z=>absurd rfl z) λz=>absurd rfl z
 | none =>
  refine core (λb=>if b=a then some (.frz { cls:=.type "list", data:=.seq vs.toArray } (.lst (ns.map V.int))) else none) (λb=>?_) (.inl (.inr ⟨{ cls:=.type "list", data:=.seq vs.toArray },ag rfl⟩)) (λb u z=>?_) (λb z=>?_) λ_=>hk
  ·by_cases hb:b=a
   ·exact .inr ⟨_,_,ag hb⟩
   ·exact .inl (ah hb)
  ·by_cases hb:b=a
   ·have z':=(ag hb).symm.trans z
    cases z'
    subst hb
    exact ⟨ha,by rw [Kf];exact hl,vs,_,rv,ha⟩
   ·have z':=(ah hb).symm.trans z
    cases z'
  ·by_cases hb:b=a
   ·exact hb
   ·exact absurd (ah hb) z
noncomputable def Za (s:KS):Arguments:=match s with
 | .FunctionDef _ a _ _ _ _ _ _ _ _=>a
 | _=>{ posonlyargs:=[],args:=[],vararg:=none,kwonlyargs:=[],kw_defaults:=[],kwarg:=none,defaults:=[] }
noncomputable def Qa (s:KS):List KS:=match s with
 | .FunctionDef _ _ b _ _ _ _ _ _ _=>b
 | _=>[]
noncomputable def qe (s:KS):Ua:=match s with
 | .FunctionDef _ _ _ _ _ _ sc _ _ _=>sc
 | _=>{ kind:=.function,names:=[],isGenerator:=false,isCoroutine:=false }
noncomputable abbrev CX0:CXT:=λ_ _ _ _ _ _=>False
noncomputable abbrev E0:XK:=λ_ _ _=>False
theorem qdD {X:Cx}:qbV CX0 X E0:=λ_ _ _ _ _ _ _ h=>h.elim
structure Fun (K:Kb)(x qual:Str)(st:KS)(f:Ke)(fd:VD):Prop where
 ex:∃ (oc:Kd) (od:Option Ke) (kV doc pm:Kd) (an:Option Ke) (cdv ct:Kd) (osl:Array (Option Kd)),
  fd=Ue x qual (Za st) (Qa st) (qe st) .none kV doc pm an cdv ct/\K.lookup f=some ⟨oc,od,.func fd,osl⟩/\UI K cdv qual=true
 kp:Vx K (.ref f)=true
section
variable {P:KJ}{w:K1}{K:Kb}{mg:Str->Option Kd}{base:KU}
theorem Fun.binds {x qual:Str}{st:KS}{f:Ke}{fd:VD}{ps:List Str}(F:Fun K x qual st f fd)
  (h:∀ (kV doc pm:Kd) (an:Option Ke) (cdv ct:Kd) (us:List Kd),us.length=ps.length->bindArgs (Ue x qual (Za st) (Qa st) (qe st) .none kV doc pm an cdv ct) ⟨us,[]⟩=pure (ps.zip us)):Binds K fd ps []:=by
 obtain ⟨oc,od,kV,doc,pm,an,cdv,ct,osl,rfl,lk,hcd⟩:=F.ex
 exact .all (h kV doc pm an cdv ct)
theorem qee {x qual:Str}{st:KS}{f:Ke}{oc:Kd}{od an:Option Ke}{osl:Array (Option Kd)}{kV doc pm cdv ct:Kd}(l:K.lookup f=some ⟨oc,od,.func (Ue x qual (Za st) (Qa st) (qe st) .none kV doc pm an cdv ct),osl⟩)
  (c:UI K cdv qual=true) (k:Vx K (.ref f)=true):Fun K x qual st f (Ue x qual (Za st) (Qa st) (qe st) .none kV doc pm an cdv ct):=⟨⟨oc,od,kV,doc,pm,an,cdv,ct,osl,rfl,l,c⟩,k⟩
end
theorem zO {n:Nat}(h:n<=1000):n<ak:=Nat.lt_of_le_of_lt h '#'
theorem iteF {A B:Prop}(h:B):if false=true then A else B:=by
 rw [ah VI]
 exact h
theorem iteT {A B:Prop}(h:A):if true=true then A else B:=by
 rw [ag rfl]
 exact h
def Same (H H':Hp):Prop:=∀ b o,H b=some o->H' b=some o
theorem Same.refl (H:Hp):Same H H:=λ_ _ h=>h
theorem Same.trans {H H1 H2:Hp}(a:Same H H1)(b:Same H1 H2):Same H H2:=λc o h=>b c o (a c o h)
theorem Same.free {H H':Hp}(e:Same H H'){l:Ke}(h:H' l=Ko):H l=Ko:=by
 cases q:H l with
 | none=>rfl
 | some o =>
  rw [e l o q] at h
  cases h
theorem Same.seq {K:Kb}{H H':Hp}{a:Ke}{xs:List V}(e:Same H H')(h:SqL K H a xs):SqL K H' a xs:=by
 rcases h with (h|⟨o,h⟩)|h
 ·exact .inl (.inl (e _ _ h))
 ·exact .inl (.inr ⟨o,e _ _ h⟩)
 ·exact .inr h
end L2
set_option maxHeartbeats 4000000
namespace L2
open PySem PySem.Spec PyProof.Rows
theorem J8 {env:Env}(body:(Str×NameKind)->List (Str×Addr)->Sem (ForInStep (List (Str×Addr))))
  (hf:∀ n k acc c,k=Vq->env.cells.lookup n=some c->body (n,k) acc=pure (.yield ((n,c)::acc)))
  (hn:∀ n k acc,k≠Vq->body (n,k) acc=pure (.yield acc)) :
  ∀ (names:List (Str×NameKind)) (acc:List (Str×Addr)),(∀ y∈names,y.2=.free->∃ c,env.cells.lookup y.1=some c)->
   (∀ y c,acc.lookup y=some c->env.cells.lookup y=some c)->
   ∃ cl,forIn names acc body=pure cl/\(∀ y c,cl.lookup y=some c->env.cells.lookup y=some c)/\(∀ y,(∃ c,acc.lookup y=some c)->∃ c,cl.lookup y=some c)/\∀ y,(y,Vq)∈names->∃ c,cl.lookup y=some c
 | [],acc,_,ha=>⟨acc,rfl,ha,λ_ h=>h,λ_ h=>by cases h⟩
 | (n,k)::r,acc,h,ha=>by
  by_cases hk:k=Vq
  ·obtain ⟨c,hc⟩:=h (n,k) VH hk
   obtain ⟨cl,e,h1,h2,h3⟩:=J8 body hf hn r ((n,c)::acc) (λy hy=>h y (Vu _ hy)) (λy c' e=>by
    rw [Vr] at e
    split at e
    ·rename_i q
     have q':y=n:=by simpa using q
     subst q';cases e;exact hc
    ·exact ha y c' e)
   refine ⟨cl,?_,h1,λy hy=>h2 y ?_,λy hy=>?_⟩
   ·rw [List.forIn_cons,hf n k acc c hk hc]
    exact e
   ·obtain ⟨c',e'⟩:=hy
    rw [Vr]
    split
    ·exact ⟨_,rfl⟩
    ·exact ⟨_,e'⟩
   ·rcases Kr.mp hy with q|q
    ·cases q
     exact h2 _ ⟨c,by rw [Vr];simp⟩
    ·exact h3 y q
  ·obtain ⟨cl,e,h1,h2,h3⟩:=J8 body hf hn r acc (λy hy=>h y (Vu _ hy)) ha
   refine ⟨cl,?_,h1,h2,λy hy=>?_⟩
   ·rw [List.forIn_cons,hn n k acc hk]
    exact e
   ·rcases Kr.mp hy with q|q
    ·cases q;exact absurd rfl hk
    ·exact h3 y q
theorem qah {sc:Ua}{env:Env}(h:∀ y∈sc.names,y.2=.free->∃ c,env.cells.lookup y.1=some c) :
  ∃ cl,closureFor sc env=pure cl/\(∀ y c,cl.lookup y=some c->env.cells.lookup y=some c)/\∀ y,(y,Vq)∈sc.names->∃ c,cl.lookup y=some c:=by
 simp only [closureFor]
 obtain ⟨cl,e,h1,_,h3⟩:=J8 (env:=env) (λx cs=>if (x.2==Vq)=true then (do let a ← cellOf env x.1;pure (Xq ((x.1,a)::cs))) else pure (Xq cs)) (λn k acc c hk hc=>by
   subst hk
   simp only [cellOf,hc,aL,aR];rfl) (λn k acc hk=>by
   have:(k==Vq)=false:=by simpa using hk
   simp only [this,VJ,aM]) sc.names [] h (λy c e=>by cases e)
 refine ⟨cl,?_,h1,h3⟩
 exact (congrArg (· >>= λr=>pure r) e).trans rfl
noncomputable def q9 (X:Cx)(N':List Str)(sc:Ua)(cl:List (Str×Addr))(C:Ke)(fp:List Ke)(aa:List (Ke×Obj))(s:Kh)(H:Hp):Cx where
 prog:=X.prog
 w:=X.w
 K:=X.K
 mg:=X.mg
 base:=X.base
 A:=X.A
 N:=N'
 s₀:=s
 H₀:=H
 env:=compEnvC sc cl C X.env
 outer:=X.stack
 stack:=X.stack
 ex:=fp
 fn:=λx=>decide (sc.names.lookup x=some .cell)
 calm:=X.calm
 pn:=X.pn++aa
 xe:=λ_ _=>False
def PTs (X:Cx)(ifs:List KD)(t:TT):Prop :=
 ∀ (aa:List (Ke×Obj)) (s:Kh) (σ:St) (H:Hp) (Q:Bool->Hp->Prop),Inv X aa σ H s->t σ H Q->
  ai (model X.prog X.w) X.A (forIn ifs true λc r=>if r=true then do let ok ← isTrue c X.env (eval c X.env);pure (Xq ok) else pure (Xq r)) (TP X aa σ Q) X.xe s
noncomputable def tTru:TT:=λ_ H Q=>Q true H
theorem qkp:PTs X [] tTru:=λ_ _ _ H _ I h=>wpAny_tests_nil ⟨H,I,h⟩
theorem qkq  (h:PT X c t):PTs X [c] t:=λaa s σ H Q I q=>wpAny_tests_one (h aa s σ H Q I q)
theorem thF {α:Type}{t:Sem α}{Q Q':α->Kh->Prop}{M:Model}{A:KY}{E:Kd->Kh->Prop}{s:Kh}(h:ai M A t Q (λ_ _=>False) s)(hQ:∀ a s,Q a s->Q' a s):ai M A t Q' E s:=UE h hQ λ_ _ x=>x.elim
theorem qey {prog:KJ}{w:K1}{A:KY}{R:Result->Kh->Prop}{s:Kh}{elt target iter:KD}{ifs:List KD}{scope:Ua}{pos:Pos}{it acc:Kd}{env:Env}(I:Nat->Kh->Prop)
  (turn:∀ n s,I n s->ai (model prog w) A (bh it) (λr s₁=>match r with
   | none=>R (.ok .next) s₁
   | some v=>ai (model prog w) A (bj target it v) (λ_ s₁=>ai (model prog w) A (assign target env v) (λ_ s₂ =>
     ai (model prog w) A (forIn ifs true λc r=>if r=true then do let ok ← isTrue c env (eval c env);pure (Xq ok) else pure (Xq r)) (λok s₃ =>
      if ok=true then ai (model prog w) A (eval elt env) (λx s₄ =>
       ai (model prog w) A (call (.builtin "list.append") [acc,x]) (λ_ s₅=>∃ m,m<n/\I m s₅) (notedBy (model prog w) A env λe s'=>R (.error e) s') s₄) (notedBy (model prog w) A env λe s'=>R (.error e) s') s₃
      else ∃ m,m<n/\I m s₃) (notedBy (model prog w) A env λe s'=>R (.error e) s') s₂) (notedBy (model prog w) A env λe s'=>R (.error e) s') s₁) (notedBy (model prog w) A env λe s'=>R (.error e) s') s₁) (notedBy (model prog w) A env λe s'=>R (.error e) s') s)
  (n:Nat) (h:I n s) :
  aT (model prog w) A (.compLoop (.ListComp elt [⟨target,iter,ifs,0⟩] scope pos) 0 it acc env) R s:=by
 refine codeAny_loop rfl I (λn s hI=>?_) n h
 show ai _ A ((compTurn (.ListComp elt [⟨target,iter,ifs,0⟩] scope pos) 0 it acc env).onRaise (λx=>do noteFrame x env;theTreesLotGoes x)) _ _ s
 refine wpAny_noted ?_
 rw [compTurn_list]
 refine Kc (wpAny_standAt (Kc (UE (turn n s hI) (λr s₁ h₁=>?_) λ_ _ h'=>h')))
 cases r with
 | none=>exact Kn h₁
 | some v =>
  refine Kc (UE h₁ (λ_ s₁' h₁'=>?_) λ_ _ h'=>h')
  refine Kc (UE h₁' (λ_ s₂ h₂=>Kc (UE h₂ (λok s₃ h₃=>?_) λ_ _ h'=>h')) λ_ _ h'=>h')
  cases ok with
  | false=>exact Kn ⟨rfl,h₃⟩
  | true =>
   exact Kc (Kc (UE h₃ (λx s₄ h₄=>Kc (UE h₄ (λ_ s₅ h₅=>Kn (Kn ⟨rfl,h₅⟩)) λ_ _ h'=>h')) λ_ _ h'=>h'))
structure CompOk (X:Cx)(N':List Str)(k:Nat)(sc:Ua):Prop where
 calm:X.calm=true
 kind:sc.kind=.function
 nd:X.N.Nodup
 nd':N'.Nodup
 len:N'.length=X.N.length+k
 cells:∀ y∈sc.names,y.2=.cell->sc.names.lookup y.1=some .cell
 names:∀ y∈sc.names,y.2=.local->sc.names.lookup y.1=some .local
 old:∀ i y,i<X.N.length->N'[i]?=some y->(X.N[i]?=some y/\sc.names.lookup y≠some .local/\sc.names.lookup y≠some .cell)\/sc.names.lookup y=none
 free:∀ y∈sc.names,y.2=.free->X.env.kindOf y.1=some .cell\/X.env.kindOf y.1=some .free
theorem qhg (lo:Nat):∀ (names:List (Str×NameKind)) (h:KU) (acc:List (Str×Addr)),lo<=h.objs.size->(∀ y c,acc.lookup y=some c->lo<=c->c<h.objs.size)->(∀ y z c,lo<=c->acc.lookup y=some c->acc.lookup z=some c->y=z)->
  (∀ y c,(aH h.objs.size names acc).lookup y=some c->acc.lookup y=some c\/(h.objs.size<=c/\(aO h names).IsCell c none))/\(∀ y,(∃ c,acc.lookup y=some c)->∃ c,(aH h.objs.size names acc).lookup y=some c)/\
  (∀ y,(y,VZ)∈names->∃ c,(aH h.objs.size names acc).lookup y=some c/\h.objs.size<=c)/\(∀ y,(y,VZ)∉names->(aH h.objs.size names acc).lookup y=acc.lookup y)/\
  ∀ y z c,lo<=c->(aH h.objs.size names acc).lookup y=some c->(aH h.objs.size names acc).lookup z=some c->y=z
 | [],h,acc,_,_,inj=>⟨λ_ _ e=>.inl e,λ_ e=>e,(λ_ e=>by cases e),λ_ _=>rfl,inj⟩
 | (name,kind)::r,h,acc,hl,hb,inj=>by
  by_cases hk:kind=.cell
  ·subst hk
   have sz:(h.push { cls:=.type "cell", data:=.cell none }).objs.size=h.objs.size+1:=Vp ..
   have lk:∀ y,NV y ((name,h.objs.size)::acc)=if y=name then some h.objs.size else acc.lookup y:=λy=>by
    rw [Vr]
    by_cases q:y=name
    ·rw [ag q,aS.mpr q]
    ·rw [ah q,ar.mpr q]
   obtain ⟨a1,a2,a3,a4,a5⟩:=qhg lo r (h.push { cls:=.type "cell", data:=.cell none }) ((name,h.objs.size)::acc) '$' (λy c e q=>by
     rw [lk] at e
     rw [sz]
     split at e
     ·cases e;exact UF _
     ·exact Vm (hb y c e q)) (λy z c q e1 e2=>by
     rw [lk] at e1 e2
     split at e1<;>split at e2
     ·rename_i u v;rw [u,v]
     ·cases e1;exact absurd (hb z _ e2 q) (Ud _)
     ·cases e2;exact absurd (hb y _ e1 q) (Ud _)
     ·exact inj y z c q e1 e2)
   rw [sz] at a1 a2 a3 a4 a5
   have e0:aH h.objs.size ((name,VZ)::r) acc=aH (h.objs.size+1) r ((name,h.objs.size)::acc):=rfl
   have e1:aO h ((name,VZ)::r)=aO (h.push { cls:=.type "cell", data:=.cell none }) r:=rfl
   rw [e0,e1]
   have b1:∀ y c,(aH (h.objs.size+1) r ((name,h.objs.size)::acc)).lookup y=some c->acc.lookup y=some c\/(h.objs.size<=c/\(aO (h.push { cls:=.type "cell", data:=.cell none }) r).IsCell c none):=λy c e=>by
    rcases a1 y c e with q|⟨q1,q2⟩
    ·rw [lk] at q
     split at q
     ·cases q
      exact .inr ⟨Kq _,_,EH r _ _ _ (Kv _ rfl),rfl⟩
     ·exact .inl q
    ·exact .inr ⟨by omega,q2⟩
   refine ⟨b1,λy e=>a2 y ?_,λy e=>?_,λy e=>?_,a5⟩
   ·obtain ⟨c,e⟩:=e
    rw [lk]
    split
    ·exact ⟨_,rfl⟩
    ·exact ⟨_,e⟩
   ·rcases Kr.mp e with q|q
    ·cases q
     obtain ⟨c,q⟩:=a2 name ⟨h.objs.size,by rw [lk,ag rfl]⟩
     refine ⟨c,q,?_⟩
     rcases a1 name c q with z|z
     ·rw [lk,ag rfl] at z;cases z;exact Kq _
     ·omega
    ·obtain ⟨c,q1,q2⟩:=a3 y q
     exact ⟨c,q1,by omega⟩
   ·rw [a4 y λz=>e (Vu _ z),lk,ah λz=>e (by rw [z];exact VH)]
  ·have hb':(kind==VZ)=false:=ar.mpr hk
   have e0:aH h.objs.size ((name,kind)::r) acc=aH h.objs.size r acc:=by rw [aH,hb'];rfl
   have e1:aO h ((name,kind)::r)=aO h r:=by rw [aO,hb'];rfl
   rw [e0,e1]
   obtain ⟨a1,a2,a3,a4,a5⟩:=qhg lo r h acc hl hb inj
   refine ⟨a1,a2,λy e=>?_,λy e=>a4 y λz=>e (Vu _ z),a5⟩
   rcases Kr.mp e with q|q
   ·cases q;exact absurd rfl hk
   ·exact a3 y q
theorem qj0 {M:Model}{A:KY}{E:Kd->Kh->Prop}{s:Kh}{sc:Ua}{gl:Ke}{cl:List (Str×Addr)}{qual:Str}{func:Option Ke}{code:Kd}{env:Env}{bl:Ke}{Q:Env->Kh->Prop}
  (hQ:Q (newEnv sc s.heap.objs.size gl (aH (s.heap.objs.size+1) sc.names cl) qual func code (some env) bl) { s with heap:=aO (s.heap.push { cls:=.type "dict", data:=.dict #[] }) sc.names }) :
  ai M A (newFunctionEnv sc gl cl [] qual func code (some env) bl) Q E s:=by
 simp only [newFunctionEnv,Fg,aR]
 refine Kc (wpAny_alloc (Kc (wpAny_layCells _ (λname kind cells=>by cases hkc:kind==VZ<;>simp [hkc]) _ _ _ _ ?_)))
 rw [show ({ s with heap:=s.heap.push { cls:=.type "dict", data:=.dict #[] } }:Kh).heap.objs.size=s.heap.objs.size+1 from Vp ..]
 rw [List.forIn_nil]
 exact Kc (Kn (Kn hQ))
structure ClOk (X:Cx)(sc:Ua)(cl:List (Str×Addr))(n:Nat)(h:KU):Prop where
 old:∀ y c,cl.lookup y=some c->X.env.cells.lookup y=some c\/(n<c/\∃ v,h.IsCell c v)
 free:∀ y,sc.names.lookup y=some .free->∃ c,cl.lookup y=some c/\X.env.cells.lookup y=some c
 cell:∀ y,sc.names.lookup y=some .cell->∃ c,cl.lookup y=some c/\n<c
 inj:∀ y z c,cl.lookup y=some c->cl.lookup z=some c->y=z
def qiQ (J:It)(wg:TG)(tt:TT)(te:TE)(W:Nat->Nat->List V->St->Hp->Prop)(i m:Nat)(ys:List V)(σ:St)(H:Hp):Prop :=
 ∀ x H2,J.yld i H x H2->wg x σ H2 λσ3 H3=>tt σ3 H3 λb H4=>if b=true then te σ3 H4 λv H5=>ys.length<ak/\∃ m',m'<m/\W (i+1) m' (ys++[v]) σ3 H5
  else ∃ m',m'<m/\W (i+1) m' ys σ3 H4
def qiR (k:Nat)(J:It)(wg:TG)(tt:TT)(te:TE)(σ:St)(H:Hp)(Q:VK):Prop :=
 ∃ W:Nat->Nat->List V->St->Hp->Prop,(∃ m,W 0 m [] (σ++Vf k none) H)/\∀ i m ys σ' H',W i m ys σ' H'->
  (J.stop i H'/\∀ D,H' D=none->Q (.ref D) (upd H' D (.lst ys)))\/(J.go i H'/\qiQ J wg tt te W i m ys σ' H')
noncomputable def qbQ (k:Nat)(wi:TI)(wg:TG)(tt:TT)(te:TE):TE:=λσ H Q=>wi σ H λJ H1=>qiR k J wg tt te σ H1 Q
theorem QZ {env:Env}:∀ {names:List (Str×NameKind)} {x:Str} {k:En},
  (names.map λ(n,k)=>if (k==Vq&&env.scope.kind==.function&&env.kindOf n==some .cell) then (n,VZ) else (n,k)).lookup x=some k->
   (names.lookup x=some k)\/(k=.cell/\names.lookup x=some .free)
 | [],_,_,h=>by simp at h
 | (n,k')::r,x,k,h=>by
  have h':NV x ((if (k'==Vq&&env.scope.kind==.function&&env.kindOf n==some .cell)=true then (n,VZ) else (n,k'))::(r.map λ(n,k)=>if (k==Vq&&env.scope.kind==.function&&env.kindOf n==some .cell) then (n,VZ) else (n,k)))=some k:=h
  have ih:=@QZ env r x k
  cases hx:x==n with
  | true =>
   by_cases hc:(k'==Vq&&env.scope.kind==.function&&env.kindOf n==some .cell)=true
   ·rw [ag hc] at h'
    simp only [Vr,hx] at h' ⊢
    cases h'
    have:k'=.free:=by
     rw [KI,KI] at hc
     simpa using hc.1.1
    subst this
    exact .inr ⟨rfl,rfl⟩
   ·rw [ah hc] at h'
    simp only [Vr,hx] at h' ⊢
    exact .inl h'
  | false =>
   by_cases hc:(k'==Vq&&env.scope.kind==.function&&env.kindOf n==some .cell)=true
   ·rw [ag hc] at h'
    simp only [Vr,hx] at h' ⊢
    exact ih h'
   ·rw [ah hc] at h'
    simp only [Vr,hx] at h' ⊢
    exact ih h'
section
variable {X:Cx}{elt iter:KD}{ifs:List KD}{tg:KD}{N':List Str}{sc:Ua}{pos:Pos}{wi:TI}{wg:TG}{tt:TT}{te:TE}{k:Nat}
theorem qhk {aa:List (Ke×Obj)}{σ:St}{H:Hp}{s s':Kh}{cl:List (Str×Addr)}{fp:List Ke}{m:Str->Option Kd}(O:CompOk X N' k sc)(I:Inv X aa σ H s)(cK:ClOk X sc cl s.heap.objs.size s'.heap)
  (hf:∀ b∈fp,FpOk X aa H b) (hlt:∀ b∈fp,b<s.heap.objs.size) (hos:s'.os=s.os) (hg:s'.gens=s.gens) (hk:∀ b o,s.heap.get? b=some o->s'.heap.get? b=some o) (hns:s'.heap.Ns s.heap.objs.size m) :
  Inv (q9 X N' sc cl s.heap.objs.size fp aa s H) [] (σ++Vf k none) H s':=by
 have stk:∀ b,b≠X.env.locals->b∉X.fs->b∉frs X.stack:=λb h1 h2 hb=>by
  rcases Kr.mp (I.stkSub b hb) with z|z
  ·exact h1 z
  ·exact h2 z
 have hr:∀ {y:Str},(relabel sc X.env).names.lookup y=some .cell\/(relabel sc X.env).names.lookup y=some .free->sc.names.lookup y=some .free\/sc.names.lookup y=some .cell:=λ{y} h=>by
  rcases h with h|h
  ·rcases QZ h with q|q
   ·exact .inr q
   ·exact .inl q.2
  ·rcases QZ h with q|q
   ·exact .inl q
   ·exact .inl q.2
 refine ⟨⟨I.ok.mod,O.kind,I.ok.glob,I.ok.blt,Kq _,cK.inj,λy hy=>?_,λy c z e=>?_,I.ok.hd,I.ok.frames,.inl rfl,λb hb=>?_,I.bs,Vg I.ok.bsz I.sz,λb o e hb=>?_,λb hb=>?_,I.stack,I.stkFree⟩,
  hos,?_,Un.kept hk,⟨m,hns,λi y v h1 h2 h3=>?_⟩,λy c h=>?_,I.hok.fresh (Kq _),λy c h=>(cK.old y c h).elim (I.freeC y c) λz=>I.hok.fresh (VP z.1),λp hp=>?_,I.hok.kept hk,?_⟩
 ·rcases hr hy with q|q
  ·obtain ⟨c,e,_⟩:=cK.free y q;exact ⟨c,e⟩
  ·obtain ⟨c,e,_⟩:=cK.cell y q;exact ⟨c,e⟩
 ·obtain ⟨c',e',q⟩:=cK.cell y (ao z)
  have e:cl.lookup y=some c:=e
  rw [e'] at e;cases e
  exact VP q
 ·have q:=hf b hb
  exact ⟨KW (hlt b hb),λz c e=>(cK.old z c e).elim (q.2.2.2.2.1 z c) λw=>UB (Es (hlt b hb) w.1)⟩
 ·have hb':b∈fp:=hb
  rcases (hf b hb').2.2.2.1 with z|z
  ·exact I.ok.noex b o e z
  ·exact absurd (KZ (KF (I.ok.bs b o e).1) z) (Ud _)
 ·exact stk b (hf b hb).2.1 (hf b hb).2.2.1
 ·rw [hg];exact I.bare
 ·have hl:=I.len
  have hi:i<X.N.length:=by
   by_cases hi:i<X.N.length
   ·exact hi
   ·rw [Vb '$'] at h2
    have:=Uu (a:=(none:Option V)) (n:=k) (i:=i-σ.length)
    rw [this] at h2
    split at h2<;>cases h2
  have h1':X.N[i]?=some y/\sc.names.lookup y≠some .local/\sc.names.lookup y≠some .cell:=by
   rcases O.old i y hi h1 with q|q
   ·exact q
   ·have no:∀ kk,(relabel sc X.env).names.lookup y≠some kk:=λkk z=>by
     rcases QZ z with w|w
     ·rw [q] at w;cases w
     ·rw [q] at w;cases w.2
    rcases h3 with h3|h3|h3
    ·exact absurd h3 (no _)
    ·exact absurd h3 (no _)
    ·exact absurd h3 (no _)
  obtain ⟨h1',h1n,h1c⟩:=h1'
  have h2':σ[i]?=some (some v):=by
   rw [KL '$'] at h2
   exact h2
  have key:sc.names.lookup y=some .free/\((relabel sc X.env).names.lookup y=some .cell\/(relabel sc X.env).names.lookup y=some .free):=by
   rcases h3 with h3|h3|h3
   ·rcases QZ h3 with q|q
    ·exact absurd q h1n
    ·cases q.1
   ·exact ⟨(hr (.inl h3)).resolve_right h1c,.inl h3⟩
   ·exact ⟨(hr (.inr h3)).resolve_right h1c,.inr h3⟩
  obtain ⟨q,kd⟩:=key
  have mem:=Uj q
  have kx:=O.free _ mem rfl
  obtain ⟨m0,hn,hl'⟩:=I.loc
  obtain ⟨u,r,l⟩:=hl' i y v h1' h2' (by rcases kx with z|z;exact .inr (.inl z);exact .inr (.inr z))
  rcases l with ⟨l,_⟩|⟨_,c,e,z⟩
  ·rcases kx with z|z
   ·rw [l] at z;cases z
   ·rw [l] at z;cases z
  ·obtain ⟨c',e',e2⟩:=cK.free y q
   rw [e] at e2;cases e2
   obtain ⟨o,ho,hd⟩:=z
   exact ⟨u,r,.inr ⟨kd,c,e',o,hk _ _ ho,hd⟩⟩
 ·rcases cK.old y c h with z|z
  ·obtain ⟨v,o,ho,hd⟩:=I.cell y c z
   exact ⟨v,o,hk _ _ ho,hd⟩
  ·exact z.2
 ·have hp':p∈X.pn++aa:=by
   rcases K8.mp hp with z|z
   ·exact z
   ·cases z
  obtain ⟨e,n,ne,nf,d⟩:=I.pin p hp'
  exact ⟨hk _ _ e,n,KW (KF e),stk p.1 ne nf,d⟩
 ·show (σ++Vf k none).length=N'.length
  rw [Km,VE,I.len,O.len]
theorem comp_back {σ σ':St}{H H':Hp}{s s1:Kh}{cl:List (Str×Addr)}{C:Ke}(I:Inv X aa σ H s)(hf:∀ b∈fp,FpOk X aa H b)
  (J:Inv (q9 X N' sc cl C fp aa s H) [] σ' H' s1):Inv X aa σ H' s1 :=
 I.call' (ch:=fp) J.os J.base J.hok J.bare λb hb=>⟨(hf b hb).2.2.2.1,(hf b hb).2.1,(hf b hb).2.2.2.2.1,(hf b hb).2.2.2.2.2⟩
theorem Inv.track   {o:HO} (I:Inv X aa σ H s) (hn:H D=none) (hL:D≠X.env.locals) (h1:D∈X.ex\/X.s₀.heap.objs.size<=D) (h2:∀ x c,X.env.cells.lookup x=some c->c≠D) (h3:∀ p∈X.pn++aa,p.1≠D)
  (ok:Qt X.prog X.w (upd H D o) s.heap D o):Inv X aa σ (upd H D o) s:=by
 have ne:∀ b u,H b=some u->b≠D:=λb u e=>Qp e hn
 exact I.step (g':=s.gens) (d':=s.drawn) (t':=s.toks) (ch:=[D]) (h':=s.heap) (λb hb=>by
   have e:b=D:=by simpa using hb
   subst e
   exact ⟨h1,hL,h2,h3⟩) (λb o _ _ _ e _=>e) (λb o _ _ _ e _=>⟨o.slots,e⟩) (λb o hc e n=>by rw [qW (λz=>hc (by simp [z]))];exact n) (λb o _ e=>⟨o,e⟩)
  (λb xs e=>by rw [qW (ne b _ e)];exact e) (λb o u e=>by rw [qW (ne b _ e)];exact e) (λb ps e=>⟨#[],by rw [qW (ne b _ e),e];simp⟩) (λm hm=>hm) (λb u e=>by
   by_cases hb:b=D
   ·subst hb;rw [qY] at e;cases e;exact ok
   ·rw [qW hb] at e
    exact (I.hok b u e).stay (λc v _ q=>q) (λc q=>by rw [qW (ne c _ q)];exact q) λc xs q=>by rw [qW (ne c _ q)];exact q) I.bare
theorem qf5 {aa:List (Ke×Obj)}{σ:St}{H:Hp}{s s':Kh}{cl:List (Str×Addr)}{fp:List Ke}{m:Str->Option Kd}{it D:Ke}{tn:Nat->KU->Prop}{J:It}{R:Result->Kh->Prop}{Qd:List V->Hp->Prop}(O:CompOk X N' k sc)
  (I:Inv X aa σ H s) (cK:ClOk X sc cl s.heap.objs.size s'.heap) (hf:∀ b∈D::fp,FpOk X aa H b) (hlt:∀ b∈D::fp,b<s.heap.objs.size)
  (hos:s'.os=s.os) (hg:s'.gens=s.gens) (hk:∀ b o,s.heap.get? b=some o->s'.heap.get? b=some o) (hns:s'.heap.Ns s.heap.objs.size m)
  (T:Turn X.prog X.w X.K tg J fp it tn) (hDf:D∉fp) (st:tn 0 s'.heap) (hD:s'.heap.PlainList D #[])
  (pg:PG (q9 X N' sc cl s.heap.objs.size (D::fp) aa s H) tg wg) (hq:PTs (q9 X N' sc cl s.heap.objs.size (D::fp) aa s H) ifs tt) (he:PE (q9 X N' sc cl s.heap.objs.size (D::fp) aa s H) elt te)
  (W:Nat->Nat->List V->St->Hp->Prop) (m0:Nat) (w0:W 0 m0 [] (σ++Vf k none) H) (turn:∀ i m ys σ' H',W i m ys σ' H'->(J.stop i H'/\Qd ys H')\/(J.go i H'/\qiQ J wg tt te W i m ys σ' H'))
  (fin:∀ s1 H1 σ1 (ys:List V) (its:List Kd),Inv (q9 X N' sc cl s.heap.objs.size (D::fp) aa s H) [] σ1 H1 s1->H1 D=none->s1.heap.PlainList D its.toArray->Vals ys its->ys.length<=ak->Qd ys H1->R (.ok .next) s1) :
  aT (model X.prog X.w) X.A (.compLoop (.ListComp elt [⟨tg,iter,ifs,0⟩] sc pos) 0 (.ref it) (.ref D) (compEnvC sc cl s.heap.objs.size X.env)) R s':=by
 have I0:Inv (q9 X N' sc cl s.heap.objs.size (D::fp) aa s H) [] (σ++Vf k none) H s':=qhk O I cK hf hlt hos hg hk hns
 have stk:∀ b,b≠X.env.locals->b∉X.fs->b∉frs X.stack:=λb h1 h2 hb=>by
  rcases Kr.mp (I.stkSub b hb) with z|z
  ·exact h1 z
  ·exact h2 z
 have stat:∀ {H':Hp},(∀ b∈D::fp,H' b=none)->∀ b∈D::fp,FpOk (q9 X N' sc cl s.heap.objs.size (D::fp) aa s H) [] H' b:=λhn b hb =>
  ⟨hn b hb,KW (hlt b hb),stk b (hf b hb).2.1 (hf b hb).2.2.1,.inl hb,λz c e=>(cK.old z c e).elim ((hf b hb).2.2.2.2.1 z c) λw=>UB (Es (hlt b hb) w.1),λp hp=>by
   have hp':p∈X.pn++aa:=by
    rcases K8.mp hp with z|z
    ·exact z
    ·cases z
   exact (hf b hb).2.2.2.2.2 p hp'⟩
 have statF:∀ {H':Hp},(∀ b∈D::fp,H' b=none)->∀ b∈fp,FpOk (q9 X N' sc cl s.heap.objs.size (D::fp) aa s H) [] H' b:=λhn b hb=>stat hn b (Vu _ hb)
 refine qey (λkk s1=>∃ i ys its σ' H',Inv (q9 X N' sc cl s.heap.objs.size (D::fp) aa s H) [] σ' H' s1/\tn i s1.heap/\(∀ b∈D::fp,H' b=none)/\s1.heap.PlainList D its.toArray/\Vals ys its/\ys.length<=ak/\W i kk ys σ' H') ?_ m0 ⟨0,[],[],σ++Vf k none,H,I0,st,λb hb=>(hf b hb).1,hD,.nil,Vj _,w0⟩
 rintro kk s3 ⟨i,ys,its,σ3,H3,I3,st3,fr3,pl3,rv3,hz3,w3⟩
 rcases turn i kk ys σ3 H3 w3 with ⟨stop,qn⟩|⟨go,step⟩
 ·have J3:=I3.pinned (fp:=[D]) (λb hb=>by
   have e:b=D:=by simpa using hb
   subst e
   exact stat fr3 b VH) (λb hb=>by
   have e:b=D:=by simpa using hb
   subst e
   obtain ⟨n,e⟩:=pl3
   exact ⟨_,e,λv z=>by cases z⟩)
  have fpo:∀ b∈fp,FpOk (q9 X N' sc cl s.heap.objs.size (D::fp) aa s H) ([]++jf [D] s3.heap) H3 b:=λb hb=>by
   obtain ⟨a1,a2,a3,a4,a5,a6⟩:=statF fr3 b hb
   refine ⟨a1,a2,a3,a4,a5,λp hp=>?_⟩
   rcases K8.mp hp with z|z
   ·exact a6 p (Va _ z)
   ·have z':p∈jf [D] s3.heap:=by simpa using z
    have:=(Wb z').1
    have e:p.1=D:=by simpa using this
    rw [e]
    intro z2
    subst z2
    exact hDf hb
  refine thn (T.done (q9 X N' sc cl s.heap.objs.size (D::fp) aa s H) rfl rfl rfl O.calm i _ s3 σ3 H3 _ J3 fpo st3 stop) λr s4 ⟨hr,I4⟩=>?_
  subst hr
  obtain ⟨n,e⟩:=pl3
  have e4:=(I4.pin (D,_) (KP _ (KP _ (ZW (by simp) e)))).1
  exact fin s4 H3 σ3 ys its I4.unpinned (fr3 D VH) ⟨n,e4⟩ rv3 hz3 qn
 ·have J3:=I3.pinned (fp:=[D]) (λb hb=>by
   have e:b=D:=by simpa using hb
   subst e
   exact stat fr3 b VH) (λb hb=>by
   have e:b=D:=by simpa using hb
   subst e
   obtain ⟨n,e⟩:=pl3
   exact ⟨_,e,λv z=>by cases z⟩)
  have fpo:∀ {H':Hp},(∀ b∈fp,H' b=none)->∀ b∈fp,FpOk (q9 X N' sc cl s.heap.objs.size (D::fp) aa s H) ([]++jf [D] s3.heap) H' b:=λ{H'} hn b hb=>by
   obtain ⟨_,a2,a3,a4,a5,a6⟩:=statF fr3 b hb
   refine ⟨hn b hb,a2,a3,a4,a5,λp hp=>?_⟩
   rcases K8.mp hp with z|z
   ·exact a6 p (Va _ z)
   ·have z':p∈jf [D] s3.heap:=by simpa using z
    have:=(Wb z').1
    have e:p.1=D:=by simpa using this
    rw [e]
    intro z2
    subst z2
    exact hDf hb
  refine thn (T.item (q9 X N' sc cl s.heap.objs.size (D::fp) aa s H) rfl rfl rfl O.calm i _ s3 σ3 H3 _ J3 (fpo λb hb=>fr3 b (Vu _ hb)) st3 go) λr s4 ⟨u,hr,h4⟩=>?_
  subst hr
  refine thn h4 λ_ s5 ⟨y,H5,I5,r5,y5,st5,fr5⟩=>?_
  have I5':=I5.pinned (fpo fr5) (T.obj _ _ st5)
  have step':=step y H5 y5
  obtain ⟨n3,e3⟩:=pl3
  have dpin:∀ {σ7:St} {H7:Hp} {s7:Kh},Inv (q9 X N' sc cl s.heap.objs.size (D::fp) aa s H) ([]++jf [D] s3.heap++jf fp s5.heap) σ7 H7 s7->s7.heap.get? D=some { cls:=.type "list", data:=.seq its.toArray n3 }/\H7 D=none:=λ{σ7 H7 s7} I7=>by
   have q:=I7.pin (D,_) (KP _ (Va _ (KP _ (ZW (by simp) e3))))
   exact ⟨q.1,q.2.1⟩
  have tkeep:∀ {σ7:St} {H7:Hp} {s7:Kh},Inv (q9 X N' sc cl s.heap.objs.size (D::fp) aa s H) ([]++jf [D] s3.heap++jf fp s5.heap) σ7 H7 s7->tn (i+1) s7.heap/\∀ b∈D::fp,H7 b=none:=λ{σ7 H7 s7} I7=>by
   refine ⟨T.keep _ _ _ st5 λb hb o e=>(I7.pin (b,o) (KP _ (KP _ (ZW hb e)))).1,λb hb=>?_⟩
   rcases Kr.mp hb with rfl|hb
   ·exact (dpin I7).2
   ·obtain ⟨o,e,d⟩:=T.obj _ _ st5 b hb
    exact (I7.pin (b,o) (KP _ (KP _ (ZW hb e)))).2.1
  refine thF (pg _ s5 σ3 H5 y u _ I5' r5 step') λ_ s6 ⟨σ6,H6,I6,step6⟩=>?_
  refine thF (hq _ s6 _ H6 _ I6 step6) λb s7 ⟨H7,I7,q7⟩=>?_
  cases b with
  | false =>
   simp only [VJ,aM] at q7 ⊢
   obtain ⟨m',hm,w8⟩:=q7
   obtain ⟨t8,f8⟩:=tkeep I7
   exact ⟨m',hm,i+1,ys,its,_,H7,I7.unpinned.unpinned,t8,f8,⟨n3,(dpin I7).1⟩,rv3,hz3,w8⟩
  | true =>
   simp only [aR] at q7 ⊢
   refine thF (he _ s7 _ H7 _ I7 q7) λv s8 ⟨vv,H8,I8,r8,hz,m',hm,w8⟩=>?_
   have hlen:=rv3.length
   refine wpAny_list_append_plain ⟨n3,(dpin I8).1⟩ (λh9 pl9 sb9=>?_) (by rw [KA];omega)
   obtain ⟨t8,f8⟩:=tkeep I8
   have st8:=stat f8 D VH
   have I9:Inv (q9 X N' sc cl s.heap.objs.size (D::fp) aa s H) [] σ6 H8 { s8 with heap:=h9 } :=
    I8.unpinned.unpinned.turned (t':=s8.toks) (λb o hb e=>(sb9.2 b hb).trans e) st8.1 st8.2.1 st8.2.2.2.1 st8.2.2.2.2.1 st8.2.2.2.2.2
   refine ⟨m',hm,i+1,ys++[vv],its++[v],_,H8,I9,T.keep _ _ _ t8 λb hb o e=>(sb9.2 b (λz=>hDf (z ▸ hb))).trans e,f8,by simpa using pl9,rv3.append (.cons r8 .nil),?_,w8⟩
   rw [Km,Ku]
   omega
theorem qam {E:Kd->Kh->Prop}{aa:List (Ke×Obj)}{σ:St}{H:Hp}{s:Kh}{cl:List (Str×Addr)}{fp:List Ke}{it:Ke}{tn:Nat->KU->Prop}{J:It}{RR:Kd->Ke->Result->Kh->Prop}{Qd:V->Hp->Prop}(O:CompOk X N' k sc)
  (I:Inv X aa σ H s) (hcl1:∀ y c,cl.lookup y=some c->X.env.cells.lookup y=some c) (hcl2:∀ y,(y,Vq)∈sc.names->∃ c,cl.lookup y=some c) (hf:∀ b∈fp,FpOk X aa H b)
  (T:Turn X.prog X.w X.K tg J fp it tn) (st:tn 0 s.heap)
  (hg:∀ cl C fp aa s H,PG (q9 X N' sc cl C fp aa s H) tg wg) (hq:∀ cl C fp aa s H,PTs (q9 X N' sc cl C fp aa s H) ifs tt) (he:∀ cl C fp aa s H,PE (q9 X N' sc cl C fp aa s H) elt te)
  (turn:qiR k J wg tt te σ H Qd)
  (fin:∀ D C s1 H1 m,Inv X aa σ H1 s1->s1.heap.Ns C m->H1 C=none->C≠X.env.locals->(X.s₀.heap.objs.size<=C)->(∀ z c,X.env.cells.lookup z=some c->c≠C)->(∀ p∈X.pn++aa,p.1≠C)->Qd (.ref D) H1->RR (.ref D) C (.ok .next) s1) :
  ai (model X.prog X.w) X.A (newList []) (λacc s₃=>ai (model X.prog X.w) X.A (newFunctionEnv sc X.env.globals cl [] X.env.qual none .none (some X.env)) (λcenv s₄ =>
   aT (model X.prog X.w) X.A (.compStart (.ListComp elt [⟨tg,iter,ifs,0⟩] sc pos) 0 (.ref it) acc { cenv with scope:=relabel sc X.env }) (RR acc cenv.locals) s₄) E s₃) E s:=by
 refine Vv (qj0 ?_)
 dsimp only
 have hD:=I.hok.fresh (Kq s.heap.objs.size)
 have I3:Inv X aa σ H { s with heap:=s.heap.push { cls:=.type "list", dict:=none,data:=.seq ([]:List Kd).toArray } } :=
  I.kept (t':=s.toks) (λb u e=>Ki _ e)
 have fpl:∀ b∈fp,b<s.heap.objs.size:=λb hb=>by
  obtain ⟨o,e,_⟩:=T.obj _ _ st b hb
  exact KF e
 have fD:FpOk X aa H s.heap.objs.size:=I.fpOk (Kq _) hD
 have hf3:∀ b∈s.heap.objs.size::fp,FpOk X aa H b:=λb hb=>by
  rcases Kr.mp hb with rfl|hb
  ·exact fD
  ·exact hf b hb
 have eD:(s.heap.push { cls:=.type "list", dict:=none,data:=.seq ([]:List Kd).toArray }).get? s.heap.objs.size=some { cls:=.type "list", dict:=none,data:=.seq ([]:List Kd).toArray }:=Kv _ rfl
 generalize hH2:s.heap.push { cls:=.type "list", dict:=none,data:=.seq ([]:List Kd).toArray }=H2 at I3 eD ⊢
 have hC:H2.objs.size=s.heap.objs.size+1:=by rw [← hH2,Vp]
 have sz2:(H2.push { cls:=.type "dict", data:=.dict #[] }).objs.size=H2.objs.size+1:=Vp ..
 obtain ⟨a1,a2,a3,a4,a5⟩:=qhg H2.objs.size sc.names (H2.push { cls:=.type "dict", data:=.dict #[] }) cl '$' (λy c e q=>by
  obtain ⟨v,z⟩:=I3.cell y c (hcl1 y c e)
  exact KZ z.lt (by rw [sz2];exact UN _)) (λy z c q e1 e2=>I3.ok.inj y z c (hcl1 _ _ e1) (hcl1 _ _ e2))
 rw [sz2] at a1 a2 a3 a4 a5
 generalize hcl':aH (H2.objs.size+1) sc.names cl=cl' at a1 a2 a3 a4 a5 ⊢
 have old3:∀ b o,H2.get? b=some o->(aO (H2.push { cls:=.type "dict", data:=.dict #[] }) sc.names).get? b=some o:=λb o e=>EH _ _ _ _ (Ki _ e)
 have hns₁:(aO (H2.push { cls:=.type "dict", data:=.dict #[] }) sc.names).Ns H2.objs.size (λ_=>none):=(Heap.Ns.new H2 (.type "dict")).keeps (EH _ _)
 have cK:ClOk X sc cl' H2.objs.size (aO (H2.push { cls:=.type "dict", data:=.dict #[] }) sc.names):=by
  have fr:∀ y,sc.names.lookup y=some .free->∃ c,cl'.lookup y=some c/\X.env.cells.lookup y=some c:=λy e=>by
   obtain ⟨c,q⟩:=hcl2 y (Uj e)
   refine ⟨c,?_,hcl1 y c q⟩
   rw [a4 y λz=>by have:=O.cells _ z rfl;rw [e] at this;cases this]
   exact q
  have ol:∀ y c,cl'.lookup y=some c->X.env.cells.lookup y=some c\/(H2.objs.size<c/\∃ v,(aO (H2.push { cls:=.type "dict", data:=.dict #[] }) sc.names).IsCell c v):=λy c e=>by
   rcases a1 y c e with z|⟨z1,z2⟩
   ·exact .inl (hcl1 y c z)
   ·exact .inr ⟨by omega,none,z2⟩
  refine ⟨ol,fr,λy e=>?_,λy z c e1 e2=>?_⟩
  ·obtain ⟨c,q1,q2⟩:=a3 y (Uj e)
   exact ⟨c,q1,by omega⟩
  ·by_cases hc:H2.objs.size<=c
   ·exact a5 y z c hc e1 e2
   ·rcases ol y c e1 with q|q
    ·rcases ol z c e2 with r|r
     ·exact I3.ok.inj y z c q r
     ·omega
    ·omega
 generalize aO (H2.push { cls:=.type "dict", data:=.dict #[] }) sc.names=h₁ at *
 have old2:∀ b o,s.heap.get? b=some o->H2.get? b=some o:=λb o e=>hH2 ▸ Ki _ e
 obtain ⟨W,⟨m0,w0⟩,tr⟩:=turn
 have st1:tn 0 h₁:=T.keep _ _ _ st λb _ o e=>old3 b o (old2 b o e)
 have loop:aT (model X.prog X.w) X.A (.compLoop (.ListComp elt [⟨tg,iter,ifs,0⟩] sc pos) 0 (.ref it) (.ref s.heap.objs.size) (compEnvC sc cl' H2.objs.size X.env)) (RR (.ref s.heap.objs.size) H2.objs.size)
   { s with heap:=h₁ }:=by
  refine qf5 (s:={ s with heap:=H2 }) (s':={ s with heap:=h₁ }) (Qd:=λys H'=>∀ D,H' D=none->Qd (.ref D) (upd H' D (.lst ys))) O I3 cK hf3 (λb hb=>?_) rfl rfl old3 hns₁ T (λz=>Ud _ (fpl _ z)) st1 ⟨0,old3 _ _ eD⟩ (hg _ _ _ _ _ _) (hq _ _ _ _ _ _) (he _ _ _ _ _ _) W m0 w0 tr ?_
  ·show b<H2.objs.size
   rw [hC]
   rcases Kr.mp hb with hb|hb
   ·rw [hb];exact UF _
   ·exact Vm (fpl b hb)
  intro s1 H1 σ1 ys its J1 hD1 pl1 rv1 hz1 q1
  obtain ⟨m,hn1,_⟩:=J1.loc
  obtain ⟨n1,e1⟩:=pl1
  have I4:=(comp_back I3 hf3 J1).track (D:=s.heap.objs.size) (o:=.lst ys) hD1 fD.2.1 fD.2.2.2.1 fD.2.2.2.2.1 fD.2.2.2.2.2 ⟨hz1,its,n1,rv1,e1⟩
  refine fin _ _ s1 _ m I4 hn1 (by rw [qW (by show H2.objs.size≠s.heap.objs.size;omega)];exact J1.free) (UB I3.lt) I3.sz (λz c e h=>?_) (λp hp h=>?_) (q1 _ hD1)
  ·obtain ⟨v,q⟩:=I3.cell z c e
   have:=q.lt
   rw [h] at this
   exact Ud _ this
  ·have:=KF (I3.pin p hp).1
   rw [h] at this
   exact Ud _ this
 exact codeAny_compStart_list loop (T.self _ 0 _ _ _ st1 loop)
theorem qkj (O:CompOk X N' k sc)(hi:PI X tg iter wi)(hg:∀ cl C fp aa s H,PG (q9 X N' sc cl C fp aa s H) tg wg)(hq:∀ cl C fp aa s H,PTs (q9 X N' sc cl C fp aa s H) ifs tt)(he:∀ cl C fp aa s H,PE (q9 X N' sc cl C fp aa s H) elt te)
  (hs:∀ v,az iter X.env v=pure v:=by intro _;rfl):PE X (.ListComp elt [⟨tg,iter,ifs,0⟩] sc pos) (qbQ k wi wg tt te):=by
 intro aa s σ H Q I h
 rw [eval_ListComp]
 obtain ⟨cl,hcl,hcl1,hcl2⟩:=qah (sc:=sc) (env:=X.env) (λy hy hf=>I.ok.has y.1 (O.free y hy hf))
 refine bD (use:=none) rfl hs hcl O.kind O.names ?_
 refine thn (hi aa s σ H _ I h) λv s1 h1=>thn h1 λitv s2 h2=>?_
 obtain ⟨it,fp,tn,J,H2,e,I2,T,st2,f2,q⟩:=h2
 subst e
 refine qam (RR:=λacc C=>compPost (model X.prog X.w) X.A X.xe none (EP X aa σ Q) acc C) (Qd:=Q) O I2 hcl1 hcl2 f2 T st2 hg hq he q ?_
 intro D C s3 H3 m I3 hn3 hC3 hL hsz hcl3 hp3 q3
 exact ⟨m,hn3,λh' sb=>⟨.ref D,H3,I3.turned (t':=s3.toks) (λb o hb e=>(sb.2 b hb).trans e) hC3 hL (.inr hsz) hcl3 hp3,rfl,q3⟩⟩
theorem qfJ {py spos:Pos}(O:CompOk X N' k sc)(hj:X.N[j]?=some y)(hy:X.env.scope.names.lookup y=some .local)(hi:PI X tg iter wi)(hg:∀ cl C fp aa s H,PG (q9 X N' sc cl C fp aa s H) tg wg)(hq:∀ cl C fp aa s H,PTs (q9 X N' sc cl C fp aa s H) ifs tt)(he:∀ cl C fp aa s H,PE (q9 X N' sc cl C fp aa s H) elt te)
  (hsw:aK (.ListComp elt [⟨tg,iter,ifs,0⟩] sc pos) (some (.Name y py)) spos.line X.env=pure true:=by rfl)
  (hs:∀ v,az iter X.env v=pure v:=by intro _;rfl):PS X (.Assign [.Name y py] (.ListComp elt [⟨tg,iter,ifs,0⟩] sc pos) spos) (tAsg (qbQ k wi wg tt te) (qfl j)):=by
 intro aa s σ H D I h
 rw [exec_Assign_Name_used _ _ _ _ hsw]
 refine Kc (wpAny_standAt (Kc ?_))
 show ai _ X.A (do let _ ← comprehension (.ListComp elt [⟨tg,iter,ifs,0⟩] sc pos) sc X.env _ (newList []) false (eval iter X.env) (some (assign (.Name y py) X.env))) _ _ s
 obtain ⟨cl,hcl,hcl1,hcl2⟩:=qah (sc:=sc) (env:=X.env) (λy hy hf=>I.ok.has y.1 (O.free y hy hf))
 refine Kc (UE (bD (use:=some (assign (.Name y py) X.env)) (Q:=λ_ s'=>SP X aa D .next s') rfl hs hcl O.kind O.names ?_) (λ_ s' hq=>Kn (Kn hq)) λ_ _ e=>e)
 refine thn (hi aa s σ H _ I h) λv s1 h1=>thn h1 λitv s2 h2=>?_
 obtain ⟨it,fp,tn,J,H2,e,I2,T,st2,f2,q⟩:=h2
 subst e
 refine qam (RR:=λacc C=>compPost (model X.prog X.w) X.A X.xe (some (assign (.Name y py) X.env)) (λ_ s'=>SP X aa D .next s') acc C) (Qd:=λx H1=>qfl j x σ H1 D.nx) O I2 hcl1 hcl2 f2 T st2 hg hq he q ?_
 intro B C s3 H3 m I3 hn3 hC3 hL hsz hcl3 hp3 q3
 refine wpAny_assign_Name (qbP I3 O.nd hj (.inl hy) (v:=.ref B) rfl (λs4 I4 ⟨a,sb,ha⟩=>?_) (.inr hy))
 have hCa:C≠a:=by
  rcases ha with ha|ha
  ·rw [ha];exact hL
  ·exact Ul (hcl3 _ _ ha)
 refine ⟨m,hn3.sameBut sb hCa,λh' sb'=>⟨_,H3,I4.turned (t':=s4.toks) (λb o hb e=>(sb'.2 b hb).trans e) hC3 hL (.inr hsz) hcl3 hp3,q3⟩⟩
end
noncomputable abbrev K2:=List (Int ⊕ List Int)
noncomputable def k2D (k:Int ⊕ List Int):Ka:=match k with
 | .inl i=>.int i
 | .inr js=>.tuple (js.map .int)
noncomputable def k2T (ks:K2):Ka:=.tuple (ks.map k2D)
noncomputable def k2H (k:Int ⊕ List Int):Int:=match k with
 | .inl i=>bz i
 | .inr js=>bI (VG (js.map bz))
noncomputable def k2N (k:Int ⊕ List Int):Nat:=match k with
 | .inl _=>1
 | .inr js=>js.length+1
theorem Ww:∀ {a b:List Int},a.map Kj=b.map Kj->a=b
 | [],[],_=>rfl
 | [],_::_,e=>by simp at e
 | _::_,[],e=>by simp at e
 | x::xs,y::ys,e=>by
  rw [Kt,Kt] at e
  injection e with e1 e2
  injection e1 with e1
  rw [e1,Ww e2]
theorem qjL (e:k2D a=k2D b):a=b:=by
 cases a with
 | inl i=>cases b with
  | inl j=>injection (show Kj i=Kj j from e) with e;rw [e]
  | inr js=>cases (show Kj i=Vi _ from e)
 | inr is=>cases b with
  | inl j=>cases (show Vi _=Kj j from e)
  | inr js=>injection (show Vi (is.map .int)=Vi (js.map .int) from e) with e;rw [Ww e]
theorem qdg:∀ {a b:K2},a.map k2D=b.map k2D->a=b
 | [],[],_=>rfl
 | [],_::_,e=>by simp at e
 | _::_,[],e=>by simp at e
 | x::xs,y::ys,e=>by
  rw [Kt,Kt] at e
  injection e with e1 e2
  rw [qjL e1,qdg e2]
theorem qjM (e:k2T a=k2T b):a=b:=by
 injection (show Vi (a.map k2D)=Vi (b.map k2D) from e) with e
 exact qdg e
theorem qhd (ns:List Int):Kp (ns.map .int)=true/\KC (ns.map .int)=0:=by
 induction ns with
 | nil=>exact ⟨rfl,rfl⟩
 | cons n ns ih=>exact ⟨ih.1,by show max 0 (KC (ns.map .int))=0;rw [ih.2];rfl⟩
theorem qhe (ks:K2):Kp (ks.map k2D)=true/\KC (ks.map k2D)<=1:=by
 induction ks with
 | nil=>exact ⟨rfl,Vj _⟩
 | cons k ks ih =>
  have hk:(k2D k).canLay0=true/\(k2D k).depth<=1:=by
   cases k with
   | inl i=>exact ⟨rfl,Vj _⟩
   | inr js=>exact ⟨(qhd js).1,by show KC (js.map .int)+1<=1;rw [(qhd js).2];exact Kq _⟩
  refine ⟨?_,?_⟩
  ·show ((k2D k).canLay0&&Kp (ks.map k2D))=true
   rw [hk.1,ih.1];rfl
  ·show max (k2D k).depth (KC (ks.map k2D))<=1
   exact Nat.max_le.mpr ⟨hk.2,ih.2⟩
theorem WR (ks:K2):(k2T ks).canLay0=true/\(k2T ks).depth<=2:=⟨(qhe ks).1,Er (qhe ks).2⟩
def Is2 (h:KU)(ks:K2)(a:Ke):Prop:=∃ as,UY h (.ref a) (k2T ks) as
section
variable {prog:KJ}{w:K1}{A:KY}{E:Kd->Kh->Prop}{s:Kh}
def wM (prog:KJ)(w:K1)(A:KY)(h:KU)(v:Kd)(p:Int×Nat):Prop :=
 ∀ (E:Kd->Kh->Prop) (s:Kh) (Q:Int->Kh->Prop),s.heap=h->Q p.1 { s with toks:=s.toks+p.2 }->ai (model prog w) A (pyHash v) Q E s
theorem qdc {o:Obj}  {hs:List (Int×Nat)} {Q:Int->Kh->Prop} (hu:A.units<aI) (ho:s.heap.get? a=some o) (hc:o.cls=.type "tuple") (hd:o.data=.seq items n)
  (hi:VO (wM prog w A.in1 s.heap) items.toList hs) (h:Q (bI (VG (hs.map (·.1)))) { s with toks:=s.toks+((hs.map (·.2)).sum+1) }):ai (model prog w) A (pyHash (.ref a)) Q E s:=by
 have hT:s.TypeIs (.ref a) "tuple" := ⟨o,ho,hc⟩
 unfold pyHash
 first|unfold pyHashByItsType|skip
 first|exact Kc (wpAny_cRoomFor_or (.inr hu) ?_)|skip
 first|refine Kc (wpAny_cRoomFor_or (.inr hu) (Kc (Xr hT XB.lookup ?_)))|refine Kc (Xr hT XB.lookup (id ?_))
 refine (id ?_:ai _ _ (if (some (VX "tuple.__hash__")==some VF)=true then _ else _) Q E s)
 rw [ah (λz=>by rw [beq_builtin_none] at z;cases z)]
 refine Kc (Xr hT XB.lookup (id ?_:ai _ _ (callSpecialIfBoundUnlessNone? (.ref a) "__hash__" _ >>= _) Q E s))
 refine Kc (wpAny_callSpecialIfBoundUnlessNone?_slot hT XB (V6 XB hT F.entry_tuple_hash (?_:ai _ _ (N6 (.ref a) >>= _) _ _ s) (F.args_tuple_hash_1 _)))
 refine Kc (wpAny_tupleItemsOf ho hd (Kc ?_))
 rw [← Array.forIn_toList]
 refine XJ _ (λrest (b:Array Int) s'=>∃ done left,hs=done++left/\VO (wM prog w A.in1 s.heap) rest left/\b.toList=done.map (·.1)/\s'={ s with toks:=s.toks+(done.map (·.2)).sum }) _ ?_ ?_ _ _ ⟨[],hs,rfl,hi,rfl,rfl⟩
 ·rintro x rest b s' ⟨done,left,rfl,hl,hb,rfl⟩
  cases hl with
  | @cons _ p _ ps h1 hl' =>
   refine Kc (h1 _ _ _ rfl ?_)
   first
    | exact Kn ⟨done++[p],ps,by simp,hl',by simp [hb],by simp [N7]⟩
    | exact Kc (Kn (Kn ⟨done++[p],ps,by simp,hl',by simp [hb],by simp [N7]⟩))
 ·rintro b s' ⟨done,left,rfl,hl,hb,rfl⟩
  cases hl
  rw [VL] at h
  refine (id ?_:ai _ _ (retInt (VG b.toList)) _ _ _)
  rw [hb]
  refine wpAny_ret_mkInt (id ?_:ai _ _ (if (decide (-(2:Int) ^ 63<=VG (done.map (·.1)))&&decide (VG (done.map (·.1))<2 ^ 63))=true then _ else _) Q E _)
  unfold bI at h
  by_cases hr:(decide (-(2:Int) ^ 63<=VG (done.map (·.1)))&&decide (VG (done.map (·.1))<2 ^ 63))=true
  ·rw [ag hr] at h ⊢
   exact Kn (by simpa [N7] using h)
  ·rw [ah hr] at h ⊢
   exact Kc (wpAny_rule (Kn (by simpa [N7] using h)))
theorem qdb (i:Int)(t:Tok):wM prog w A h (.int i t) (bz i,1):=λ_ _ _ _ q=>wpAny_pyHash_int q
theorem qbv:∀ {vs:List Kd} {ns:List Int} {as:List Ke},Uk h vs (ns.map .int) as->VO (wM prog w A h) vs (ns.map λi=>(bz i,1))
 | _,[],_,r=>by cases r;exact .nil
 | _,n::ns,_,r=>by
  cases r with
  | cons a t=>cases a;exact .cons (qdb _ _) (qbv t)
theorem qiO (ns:List Int):((ns.map λi=>(bz i,1)).map (·.2)).sum=ns.length:=by
 induction ns with
 | nil=>rfl
 | cons n ns ih=>rw [Kt,Kt,List.sum_cons,ih,Kz];omega
theorem qgc  (hu:A.units<aI) (r:UY h v (k2D k) as):wM prog w A h v (k2H k,k2N k):=by
 cases k with
 | inl i =>
  cases (show UY h v (.int i) as from r)
  exact qdb _ _
 | inr js =>
  cases (show UY h v (.tuple (js.map .int)) as from r) with
  | tuple h1 h2 h3 h4 =>
   intro E s Q e q
   subst e
   refine qdc hu h1 h2 h3 (qbv h4) ?_
   have e:(js.map λi=>(bz i,1)).map (·.1)=js.map bz:=by rw [K6];rfl
   rw [e,qiO]
   exact q
theorem Wt (hu:A.units<aI):∀ {vs:List Kd} {ks:K2} {as:List Ke},Uk h vs (ks.map k2D) as->VO (wM prog w A h) vs (ks.map λk=>(k2H k,k2N k))
 | _,[],_,r=>by cases r;exact .nil
 | _,k::ks,_,r=>by
  cases r with
  | cons a t=>exact .cons (qgc hu a) (Wt hu t)
theorem qfN   (r:UY h v (.int i) as):bF n v=pure true:=by
 cases r
 cases n<;>rfl
theorem qbN {m:Nat}{o:Obj}  {Q:Bool->Kh->Prop} (ho:s.heap.get? a=some o) (hc:o.cls=.type "tuple") (hd:o.data=.seq items n)
  (hi:∀ v∈items.toList,∀ Q':Bool->Kh->Prop,Q' true s->ai (model prog w) A (bF m v) Q' E s) (h:Q true s):ai (model prog w) A (bF (m+1) (.ref a)) Q E s:=by
 have hT:s.TypeIs (.ref a) "tuple" := ⟨o,ho,hc⟩
 unfold bF
 refine Kc (Xr hT F.slot_tuple_eq.lookup (?_:ai _ _ (isInstance (.ref a) (.type "tuple") >>= _) _ _ s))
 refine Kc (Et hT isSubtype_tuple_tuple (id ?_))
 simp only [E5,aM,VJ]
 refine Kc (Ut ho hd (Kc (?_:ai _ _ (forIn items _ _) _ _ s)))
 rw [← Array.forIn_toList]
 refine XJ _ (λrest r s'=>r.1=none/\s'=s/\∀ v∈rest,∀ Q':Bool->Kh->Prop,Q' true s->ai (model prog w) A (bF m v) Q' E s) _ ?_ ?_ _ _ ⟨rfl,rfl,hi⟩
 ·rintro v rest r s' ⟨hr,rfl,hall⟩
  refine Kc (hall v VH _ ?_)
  simp only [E5,aM,VJ]
  exact Kn ⟨rfl,rfl,λu hu'=>hall u (Vu _ hu')⟩
 ·rintro ⟨r1,r2⟩ s' ⟨hr,rfl,_⟩
  simp only at hr
  subst hr
  exact Kn h
theorem j7:∀ {vs:List Kd} {ds:'('} {as:List Ke},Uk h vs ds as->∀ v∈vs,∃ d∈ds,∃ bs,UY h v d bs
 | _,_,_,.nil,v,hv=>by cases hv
 | _,_,_,.cons r t,v,hv=>by
  rcases Kr.mp hv with rfl|hv
  ·exact ⟨_,.head _,_,r⟩
  ·obtain ⟨d,hd,bs,q⟩:=j7 t v hv
   exact ⟨d,.tail _ hd,bs,q⟩
theorem Is2.quiet  (x:Is2 s.heap ks a) (h:Q true s):ai (model prog w) A (bF 8 (.ref a)) Q E s:=by
 obtain ⟨as,r⟩:=x
 cases r with
 | tuple h1 h2 h3 h4 =>
  refine qbN h1 h2 h3 (λv hv Q' q=>?_) h
  obtain ⟨d,hd,bs,rv⟩:=j7 h4 v hv
  obtain ⟨k,_,rfl⟩:=KQ.mp hd
  cases k with
  | inl i=>rw [qfN (show UY s.heap v (.int i) bs from rv)];exact Kn q
  | inr js =>
   cases (show UY s.heap v (.tuple (js.map .int)) bs from rv) with
   | tuple g1 g2 g3 g4 =>
    refine qbN g1 g2 g3 (λu hu Q2 q2=>?_) q
    obtain ⟨d,hd,cs,ru⟩:=j7 g4 u hu
    obtain ⟨i,_,rfl⟩:=KQ.mp hd
    rw [qfN ru]
    exact Kn q2
theorem Is2.inj  (hx:Is2 h x a) (hy:Is2 h y a):x=y:=by
 obtain ⟨as,r⟩:=hx
 obtain ⟨bs,q⟩:=hy
 exact qjM (SeqAt.Reads.unique _ _ _ _ _ (WR x).1 r q)
theorem wC {h h':KU}(k:∀ b o,b≠d->h.get? b=some o->h'.get? b=some o):∀ {vs:List Kd} {ns:List Int} {as:List Ke},Uk h vs (ns.map .int) as->Uk h' vs (ns.map .int) as
 | _,[],_,r=>by cases r;exact .nil
 | _,n::ns,_,r=>by
  cases r with
  | cons a t=>cases a;exact .cons (.int _ _) (wC k t)
theorem Is2.keeps {h h':KU}  {o:Obj}  (x:Is2 h ks a) (ho:h.get? d=some o) (hd:o.data=.dict es ep) (hs:UA d h h'):Is2 h' ks a:=by
 have k:∀ b o,b≠d->h.get? b=some o->h'.get? b=some o:=λb o hb e=>(hs.2 b hb).trans e
 have ne:∀ {b:Ke} {ob:Obj} {items:Array Kd} {n:Nat},h.get? b=some ob->ob.data=.seq items n->b≠d:=λe q z=>by
  subst z
  rw [ho] at e
  cases e
  rw [hd] at q
  cases q
 have item:∀ {vs:List Kd} {ks:K2} {as:List Ke},Uk h vs (ks.map k2D) as->Uk h' vs (ks.map k2D) as:=by
  intro vs ks
  induction ks generalizing vs with
  | nil=>intro as r;cases r;exact .nil
  | cons k1 ks ih =>
   intro as r
   cases r with
   | cons a t =>
    refine .cons ?_ (ih t)
    cases k1 with
    | inl i=>cases (show UY h _ (.int i) _ from a);exact .int _ _
    | inr js =>
     cases (show UY h _ (.tuple (js.map .int)) _ from a) with
     | tuple g1 g2 g3 g4=>exact .tuple (k _ _ (ne g1 g3) g1) g2 g3 (wC k g4)
 obtain ⟨as,r⟩:=x
 cases r with
 | tuple h1 h2 h3 h4=>exact ⟨_,.tuple (k _ _ (ne h1 h3) h1) h2 h3 (item h4)⟩
theorem qc5:∀ a b:List Int,Ks (.tuple (a.map .int)) (.tuple (b.map .int))=decide (a=b)
 | [],[]=>rfl
 | [],_::_=>rfl
 | _::_,[]=>rfl
 | x::xs,y::ys=>by
  have:Ks (.tuple ((x::xs).map .int)) (.tuple ((y::ys).map .int))=((x==y)&&Ks (.tuple (xs.map .int)) (.tuple (ys.map .int))):=rfl
  rw [this,qc5 xs ys,Xs]
  simp
theorem qju (a b:Int ⊕ List Int):Ks (k2D a) (k2D b)=decide (a=b):=by
 cases a with
 | inl i=>cases b with
  | inl j =>
   have:Ks (k2D (.inl i)) (k2D (.inl j))=(i==j):=rfl
   rw [this,Xs]
   simp
  | inr js=>exact (ab (λz=>by cases z)).symm
 | inr is=>cases b with
  | inl j=>exact (ab (λz=>by cases z)).symm
  | inr js =>
   have:Ks (k2D (.inr is)) (k2D (.inr js))=Ks (.tuple (is.map .int)) (.tuple (js.map .int)):=rfl
   rw [this,qc5,Xs]
   simp
theorem qb4:∀ a b:K2,Ks (k2T a) (k2T b)=decide (a=b)
 | [],[]=>rfl
 | [],_::_=>rfl
 | _::_,[]=>rfl
 | x::xs,y::ys=>by
  have:Ks (k2T (x::xs)) (k2T (y::ys))=(Ks (k2D x) (k2D y)&&Ks (k2T xs) (k2T ys)):=rfl
  rw [this,qju,qb4 xs ys,Xs]
  simp
end
noncomputable def qdo (prog:KJ)(w:K1):HeapKind prog w K2 where
 is:=Is2
 hash:=λks=>bI (VG (ks.map k2H))
 draws:=λks=>((ks.map λk=>(k2H k,k2N k)).map (·.2)).sum+1
 room:=λA=>A.units+3<aI
 inj:=λhx hy=>hx.inj hy
 keeps:=λx ho hd hs=>x.keeps ho hd hs
 pyHash:=λ{A E s k a Q} hu hk h=>by
  obtain ⟨as,r⟩:=hk
  cases r with
  | tuple h1 h2 h3 h4 =>
   have hu1:A.in1.units<aI:=by show A.units+1<aI;omega
   refine qdc '$' h1 h2 h3 (Wt hu1 h4) ?_
   have e:(k.map λx=>(k2H x,k2N x)).map (·.1)=k.map k2H:=by rw [K6];rfl
   rw [e]
   exact h
 eqBool:=λ{A E s x y a b Q} hu hx hy h=>by
  obtain ⟨as,r⟩:=hx
  obtain ⟨bs,q⟩:=hy
  refine Nk _ _ A s _ _ _ _ r q (WR x).1 (WR y).1 ?_ prog w E Q (by rw [qb4];exact h)
  have:=(WR x).2
  have:=NA (k2T x).depth (k2T y).depth
  omega
 quiet:=λhk h=>hk.quiet h
noncomputable def qlN (ks:K2):Int:=bI (VG (ks.map k2H))
noncomputable abbrev KX:=Int ⊕ K2
noncomputable def kxD (k:KX):Ka:=match k with
 | .inl i=>.int i
 | .inr ks=>k2T ks
noncomputable def kxV (k:KX)(b:Ke):V:=match k with
 | .inl i=>.int i
 | .inr _=>.ref b
noncomputable def kxI (k:KX):Bool:=match k with
 | .inl _=>true
 | .inr _=>false
noncomputable def qhJ:Ka->Bool
 | .int _=>true
 | _=>false
theorem qek (k:KX):qhJ (kxD k)=kxI k:=by cases k<;>rfl
theorem qb5 (a b:KX):Ks (kxD a) (kxD b)=decide (a=b):=by
 cases a with
 | inl i=>cases b with
  | inl j =>
   have:Ks (kxD (.inl i)) (kxD (.inl j))=(i==j):=rfl
   rw [this,Xs]
   simp
  | inr js=>exact (ab (λz=>by cases z)).symm
 | inr is=>cases b with
  | inl j=>exact (ab (λz=>by cases z)).symm
  | inr js =>
   have:Ks (kxD (.inr is)) (kxD (.inr js))=Ks (k2T is) (k2T js):=rfl
   rw [this,qb4,Xs]
   simp
abbrev PkT (p:KX×Addr×V)(q:K2×Addr×Value):Prop:=p.1=.inr q.1/\p.2.1=q.2.1/\RelV p.2.2 q.2.2
abbrev PkI (p:KX×Addr×V)(q:Int×Value):Prop:=p.1=.inl q.1/\RelV p.2.2 q.2
abbrev EnI (e:Xn)(q:Int×Value):Prop:=e.hash=bz q.1/\(∃ t,e.key=.int q.1 t)/\e.val=q.2
def DctT (a:Ke)(kvs:List (KX×Addr×V))(ep:Nat)(h:KU):Prop :=
 ∃ xs:List (K2×Addr×Value),VO PkT kvs xs/\∃ o es,h.get? a=some o/\o.ExactDict/\o.data=.dict es ep/\es.toList=xs.map (λx=>(⟨qlN x.1,.ref x.2.1,x.2.2⟩:Xn))/\(xs.map (·.1)).Nodup
def DctI (a:Ke)(kvs:List (KX×Addr×V))(ep:Nat)(h:KU):Prop :=
 ∃ vs:List (Int×Value),VO PkI kvs vs/\∃ o es,h.get? a=some o/\o.ExactDict/\o.data=.dict es ep/\VO EnI es.toList vs/\(vs.map (·.1)).Nodup
def QD (a:Ke)(kvs:List (KX×Addr×V))(ep:Nat)(h:KU):Prop :=
 kvs.length<=ak/\(a==aV)=false/\(DctT a kvs ep h\/DctI a kvs ep h)
noncomputable def DctO (a:Ke)(kvs:List (KX×Addr×V))(ep:Nat):HO:=.ext (QD a kvs ep)
theorem QD.ok    (d:QD a kvs ep h):Qt P w H h a (DctO a kvs ep):=by
 refine ⟨d,?_,λh1 h2 ⟨z,y,e⟩ k=>⟨z,y,e.imp (λ⟨xs,r,o,es,g1,g2⟩=>⟨xs,r,o,es,k o g1,g2⟩) λ⟨xs,r,o,es,g1,g2⟩=>⟨xs,r,o,es,k o g1,g2⟩⟩⟩
 obtain ⟨_,_,⟨_,_,o,_,g1,_⟩|⟨_,_,o,_,g1,_⟩⟩:=d
 ·exact ⟨o,g1⟩
 ·exact ⟨o,g1⟩
theorem QD.of    (x:Qt P w H h a (DctO a kvs ep)):QD a kvs ep h:=x.1
noncomputable def dkv (kvs:List (KX×Addr×V))(ds:'('):List (Ka×PyData):=(kvs.map λp=>kxD p.1).zip ds
theorem qhr {kvs:List (KX×Addr×V)}{ds:'('}(h:kvs.length=ds.length):(dkv kvs ds).map (·.1)=kvs.map λp=>kxD p.1:=by
 unfold dkv
 rw [List.map_fst_zip (by rw [Kf,h];exact Kq _)]
theorem qiw {kvs:List (KX×Addr×V)}{xs:List (K2×Addr×Value)}(r:VO PkT kvs xs):Vals (kvs.map λp=>kxV p.1 p.2.1) (xs.map λx=>Ve x.2.1)/\Vals (kvs.map (·.2.2)) (xs.map (·.2.2)):=by
 induction r with
 | nil=>exact ⟨.nil,.nil⟩
 | cons h t ih=>exact ⟨.cons (by dsimp only;rw [h.1,h.2.1];rfl) ih.1,.cons h.2.2 ih.2⟩
theorem qdR:∀ {kvs:List (KX×Addr×V)} {vs:List (Int×Value)} {es:List Xn},VO PkI kvs vs->VO EnI es vs->Vals (kvs.map λp=>kxV p.1 p.2.1) (es.map (·.key))/\Vals (kvs.map (·.2.2)) (es.map (·.val))
 | _,_,_,.nil,.nil=>⟨.nil,.nil⟩
 | _,_,_,.cons h t,.cons g u=>by
  obtain ⟨i1,i2⟩:=qdR t u
  obtain ⟨_,⟨tk,g1⟩,g2⟩:=g
  exact ⟨.cons (by dsimp only;rw [h.1,g1];exact ⟨tk,rfl⟩) i1,.cons (by dsimp only;rw [g2];exact h.2) i2⟩
theorem QD.vals {h:KU}{kvs:List (KX×Addr×V)}(d:QD a kvs ep h):∃ o es,h.get? a=some o/\o.ExactDict/\o.data=.dict es ep/\Vals (kvs.map λp=>kxV p.1 p.2.1) (es.toList.map (·.key))/\Vals (kvs.map (·.2.2)) (es.toList.map (·.val)):=by
 obtain ⟨_,_,⟨xs,r,o,es,g1,g2,g3,g4,_⟩|⟨vs,r,o,es,g1,g2,g3,g4,_⟩⟩:=d
 ·refine ⟨o,es,g1,g2,g3,?_⟩
  rw [g4,K6,K6]
  exact qiw r
 ·exact ⟨o,es,g1,g2,g3,qdR r g4⟩
theorem QD.tup  (d:QD a kvs ep h) (hk:∀ p∈kvs,kxI p.1=false):DctT a kvs ep h:=by
 obtain ⟨_,_,d|⟨vs,r,o,es,g1,g2,g3,g4,g5⟩⟩:=d
 ·exact d
 ·cases r with
  | nil =>
   have he:es.toList=[]:=by cases h:es.toList with
    | nil=>rfl
    | cons=>rw [h] at g4;cases g4
   exact ⟨[],.nil,o,es,g1,g2,g3,he,X7⟩
  | @cons p q _ _ h t =>
   have:=hk p (.head _)
   rw [h.1] at this
   cases this
theorem QD.int  (d:QD a kvs ep h) (hk:∀ p∈kvs,kxI p.1=true):DctI a kvs ep h:=by
 obtain ⟨_,_,⟨xs,r,o,es,g1,g2,g3,g4,g5⟩|d⟩:=d
 ·cases r with
  | nil=>exact ⟨[],.nil,o,es,g1,g2,g3,by rw [g4];exact .nil,X7⟩
  | @cons p q _ _ h t =>
   have:=hk p (.head _)
   rw [h.1] at this
   cases this
 ·exact d
noncomputable def YS:List String:=["int", "bool", "tuple", "list", "str"]
noncomputable def xcB (K:Kb)(C:Ke):Bool :=
 (PySem.W.clsIn K C).isSome&&(Vw K (.ref C) "__getattribute__" == some (some (.builtin "BaseException.__getattribute__")))&&(Vw K (.ref C) "__getattr__" == some none)
 && (Vw K (.ref C) "__class__" == some (some (.builtin "object.__class__")))&&(Xl K C (.type "object")==some true)&&(Xl K C (.type "BaseException")==some true)
 && YS.all λT=>VC K (.ref C) (.type T)==some false
structure XcK (K:Kb)(C:Ke):Prop where
 cls:(PySem.W.clsIn K C).isSome=true
 ga:Vw K (.ref C) "__getattribute__" = some (some (.builtin "BaseException.__getattribute__"))
 gt:Vw K (.ref C) "__getattr__" = some none
 cl:Vw K (.ref C) "__class__" = some (some (.builtin "object.__class__"))
 mo:Xl K C (.type "object")=some true
 mb:Xl K C (.type "BaseException")=some true
 ts:∀ T∈YS,VC K (.ref C) (.type T)=some false
theorem qi4 {K:Kb}{C:Ke}(h:xcB K C=true):XcK K C:=by
 unfold xcB at h
 simp only [KI,aS,K4] at h
 obtain ⟨⟨⟨⟨⟨⟨h1,h2⟩,h3⟩,h4⟩,h5⟩,h6⟩,h7⟩:=h
 exact ⟨h1,h2,h3,h4,h5,h6,h7⟩
section
variable {prog:KJ}{w:K1}{A:KY}{E:Kd->Kh->Prop}{s:Kh}{K:Kb}{x C:Ke}
def OfC (h:KU)(x C:Ke):Prop:=∃ o,h.get? x=some o/\o.cls=.ref C
theorem OfC.ty (I:OfC h x C):Em M h (typeOf (.ref x)) (.ref C):=by
 obtain ⟨o,h1,h2⟩:=I
 exact h2 ▸ (PySem.W.Looks.ld h1).andThen .now
open PySem.W in
theorem qb7 {M:Model}{nameV:Kd}(Z:XcK K C)(X:K.In s.heap)(I:OfC s.heap x C)(hq:Q () s) :
  ai M A (checkBuiltinCall "BaseException.__getattribute__" ⟨[.ref x,nameV],[]⟩) Q E s:=by
 obtain ⟨hh,g,d,t,os⟩:=s
 have hk:builtinKind "BaseException.__getattribute__" = some .slot:=by decide +kernel
 have hs:splitId "BaseException.__getattribute__" = some ("BaseException", "__getattribute__"):=by decide +kernel
 have L0:=I.ty (M:=M)
 have L1:=looks_mroIn (M:=M) X Z.mb
 have ha:=F.args_bexc_ga (.ref x) nameV
 simp only [checkBuiltinCall,hk,hs]
 refine Kc ?_
 unfold isInstance
 repeat (first|with_reducible refine Looks.at (by assumption) ?_|wp_step)
 exact hq
open PySem.W in
theorem qba (Z:XcK K C)(X:K.In s.heap)(I:OfC s.heap x C)(hq:R (.ok (.ret (.ref C))) s) :
  aT (model prog w) A (.call (.builtin "getset_descriptor.__get__") ⟨[.builtin "object.__class__", .ref x,.ref C],[]⟩) R s:=by
 obtain ⟨hh,g,d,t,os⟩:=s
 have hT5:(⟨hh,g,d,t,os⟩:Kh).TypeIs (.builtin "object.__class__") "getset_descriptor" := Nt
 have L0:=I.ty (M:=model prog w)
 have L1:Em (model prog w) hh (isSubtype (.ref C) (.type (".".intercalate ("object.__class__".cutAt '.').dropLast))) true:=by
  rw [F.owner_object_class]
  exact looks_mroIn (M:=model prog w) X Z.mo
 refine NB E6.plain F.entry_gs_get (E6.check _ _ _ _ _ _ _ _ hT5 (F.args_gs_get _ _ _) ?_)
 repeat (any_goals (first|assumption|with_reducible refine Looks.at (by assumption) ?_|wp_step))
 refine ⟨Code.quiet_builtin _ '%',Uy F.entry_object_class ?_⟩
 repeat (any_goals (first|assumption|with_reducible refine Looks.at (by assumption) ?_|wp_step))
open PySem.W in
theorem WF {tk:Tok}(Z:XcK K C)(X:K.In s.heap)(I:OfC s.heap x C)(hq:Q (.done (.ret (.ref C))) s) :
  ai (model prog w) A (UP.«object.__getattribute__» ⟨[.ref x,.str "__class__" tk],[]⟩) Q E s:=by
 obtain ⟨hh,g,d,t,os⟩:=s
 have hT5:(⟨hh,g,d,t,os⟩:Kh).TypeIs (.builtin "object.__class__") "getset_descriptor" := Nt
 have L0:=I.ty (M:=model prog w)
 have L1:=NQ (M:=model prog w) X Z.cl
 have f5:=Nt;have f6:=E6.lookup;have f7:=F.slot_gs_set.lookup
 repeat (any_goals (first|assumption|with_reducible refine Looks.at (by assumption) ?_|wp_step))
 refine qba Z X I ?_
 repeat (any_goals (first|assumption|wp_step))
open PySem.W in
theorem qb6 {tk:Tok}(Z:XcK K C)(X:K.In s.heap)(I:OfC s.heap x C)(hq:Q (.ref C) s) :
  ai (model prog w) A (getAttrBy (.ref x) (.str "__class__" tk) false) Q E s:=by
 obtain ⟨hh,g,d,t,os⟩:=s
 have L0:=I.ty (M:=model prog w)
 have L1:=NQ (M:=model prog w) X Z.ga
 have L2:=NQ (M:=model prog w) X Z.gt
 have f3:=F.excAttr_ValueError.ga.bind (.ref x)
 have hx2:(VX "BaseException.__getattribute__" == VX "object.__getattribute__")=false:=by decide +kernel
 have hx1:(onTheHeap (Ve C)&&VX "BaseException.__getattribute__" == VX "object.__getattribute__")=false:=by rw [hx2];exact Bool.and_false _
 repeat (any_goals (first|assumption|with_reducible refine Looks.at (by assumption) ?_|wp_step))
 refine NB F.excAttr_ValueError.ga.plain F.entry_bexc_ga (qb7 Z X I (WF Z X I ?_))
 repeat (any_goals (first|assumption|wp_step))
open PySem.W in
theorem qgb (Z:XcK K C)(X:K.In s.heap)(I:OfC s.heap x C)(hq:Q (some (.ref C)) { s with toks:=s.toks+1 }) :
  ai (model prog w) A (getAttr? (.ref x) "__class__") Q E s:=by
 obtain ⟨hh,g,d,t,os⟩:=s
 unfold getAttr? getAttrBy?
 refine Kc (wpAny_mkText (Kc (wpAny_attempt (qb6 (s:=⟨hh,g,d,t+1,os⟩) Z X I ?_))))
 exact Kn hq
end
open PySem.W in
theorem qhR {K:Kb}{a C:Ke}(Z:XcK K C):KitX K (.ref a) (.ref C) (λh=>OfC h a C) where
 ty:=λ_ _ _ I=>I.ty
 it:=λ_ _ X _=>by
  have z:=Z.cls
  unfold clsIn at z
  split at z
  ·rename_i c' d' cd' sl' ho
   intro A' Q' E' s' k q;unfold isType loadHead
   exact Kc (wpAny_loadPart (k _ _ (X _ _ ho)) (Kn q))
  ·cases z
 ne:=λh tp dd its n sl X htp=>by
  have z:=Z.cls
  refine Eg.mpr λq=>?_
  have e:C=tp:=Value.ref.inj (aS.mp q)
  subst e;unfold clsIn at z
  split at z
  ·rename_i c' d' cd' sl' ho
   have y:=(X _ _ ho).symm.trans htp
   cases y
  ·cases z
 ca:=λX I k=>qgb Z X I k
noncomputable def icB (K:Kb)(C:Ke):Bool :=
 Nj K C Str.empty&&Fk K C&&Fl K C&&(Vw K (.ref C) "__setattr__" == some (some (.builtin "object.__setattr__")))
 && (Vw K (.ref C) "__class__" == some (some (.builtin "object.__class__")))&&(Ec K (.builtin "object.__class__") "__get__" == some (some (.builtin "getset_descriptor.__get__")))
 && (EF K (.builtin "object.__class__")==some true)&&(Xl K C (.type "object")==some true)&&YS.all λT=>VC K (.ref C) (.type T)==some false
structure IcK (K:Kb)(C:Ke):Prop where
 cl:Cls K C
 ha:Vw K (.ref C) "__class__" = some (some (.builtin "object.__class__"))
 hn:Ec K (.builtin "object.__class__") "__get__" = some (some (.builtin "getset_descriptor.__get__"))
 tk:EF K (.builtin "object.__class__")=some true
 mo:Xl K C (.type "object")=some true
 ts:∀ T∈YS,VC K (.ref C) (.type T)=some false
theorem qeh {K:Kb}{C:Ke}(h:icB K C=true):IcK K C:=by
 unfold icB at h
 simp only [KI,aS,K4] at h
 obtain ⟨⟨⟨⟨⟨⟨⟨⟨h1,h2⟩,h3⟩,h4⟩,h5⟩,h6⟩,h7⟩,h8⟩,h9⟩:=h
 exact ⟨⟨h1,h2,h3,h4⟩,h5,h6,h7,h8,h9⟩
theorem IcK.ty {K:Kb}{H:Hp}{a C dx:Ke}{fs:List (Str×V)}(Z:IcK K C)(e:H a=some (.ins C dx fs)):TyOf K H (.ref a) (.ref C):=.ins e Z.cl Z.ha Z.hn Z.tk Z.mo
noncomputable abbrev Av:=Ke->Prop
noncomputable def yf:HO->Bool
 | .lst _=>true
 | .dK _=>true
 | .dT _=>true
 | .ext _=>true
 | _=>false
def Dm (S:Av)(H:Hp):Prop:=∀ a,S a->∃ o,H a=some o/\yf o=true
def Off (S:Av)(H H':Hp):Prop:=∀ b o,¬ S b->H b=some o->H' b=some o
def KqL (K:Kb)(a:Ke)(xs:List V):Prop:=∃ (o:Obj) (its:Array Kd) (n:Nat),K.lookup a=some o/\o.cls=.type "list"/\o.dict=none/\o.data=.seq its n/\its.size<=ak/\Vals xs its.toList
def SqLS (K:Kb)(H:Hp)(S:Av)(a:Ke)(xs:List V):Prop:=(Rd H a (.lst xs)/\¬ S a)\/KqL K a xs
def ExcO (K:Kb)(o:Obj)(c:Str):Prop:=∃ C vs,o.cls=.ref C/\o.data=.fields vs/\KO K aj c=some (some (.ref C))/\xcB K C=true
noncomputable def excD (c:Str)(d:Ka):Ka:=.dict [(.str c,d),(.int 0,.none)]
noncomputable def excK:List (Ka×PyData)->Bool
 | (.str _,_)::_=>true
 | _=>false
theorem qc6:excK (dkv kvs ds)=false:=by
 cases kvs with
 | nil=>rfl
 | cons p ps =>
  cases ds with
  | nil=>rfl
  | cons d ds=>obtain ⟨k|k,_⟩:=p<;>rfl
noncomputable def objD (c:Str):Ka:=.dict [(.str c,.none),(.int 1,.none)]
mutual
inductive Den (K:Kb)(H:Hp)(S:Av):V->Ka->Prop
 | none:Den K H S .non .none
 | bool (b:Bool):Den K H S (.bl b) (.bool b)
 | int (i:Int):Den K H S (.int i) (.int i)
 | str (x:Str):Den K H S (.str x) (.str x)
 | list {a:Ke} {xs:List V} {ds:'('}:SqLS K H S a xs->DenL K H S xs ds->Den K H S (.ref a) (.list ds)
 | tuple {a:Ke} {xs:List V} {ds:'('}:SqT K H a xs->DenL K H S xs ds->Den K H S (.ref a) (.tuple ds)
 | dict {a:Ke} {kvs:List (KX×Addr×V)} {ep:Nat} {ds:List Ka}:(H a=some (DctO a kvs ep)/\¬ S a)->DenL K H S (kvs.map λp=>kxV p.1 p.2.1) (kvs.map λp=>kxD p.1)->DenL K H S (kvs.map (·.2.2)) ds->Den K H S (.ref a) (.dict (dkv kvs ds))
 | exc0 {a:Ke} {o:Obj} {c:Str}:H a=some (.frz o (.own a))->ExcO K o c->Den K H S (.ref a) (excD c .none)
 | exc1 {a dx:Ke} {o:Obj} {c n:Str} {v:V} {d:Ka}:H a=some (.frz o (.own a))->ExcO K o c->o.dict=some dx->H dx=some (.xd [(n,v)])->Den K H S v d->Den K H S (.ref a) (excD c (.tuple [.str n,d]))
 | ins {a dx C:Ke} {c:Str}:H a=some (.ins C dx [])->(KO K aj c=some (some (.ref C))/\icB K C=true)->Den K H S (.ref a) (objD c)
inductive DenL (K:Kb)(H:Hp)(S:Av):List V->List Ka->Prop
 | nil:DenL K H S [] []
 | cons {x:V} {d:Ka} {xs:List V} {ds:'('}:Den K H S x d->DenL K H S xs ds->DenL K H S (x::xs) (d::ds)
end
mutual
def flat:Ka->Bool
 | .none=>true
 | .bool _=>true
 | .int _=>true
 | .str _=>true
 | .list _=>false
 | .tuple ds=>YW ds
 | .dict _=>false
def YW:List Ka->Bool
 | []=>true
 | d::ds=>flat d&&YW ds
end
section
variable {K:Kb}{H H':Hp}{S S':Av}
theorem SqLS.sq (h:SqLS K H S a xs):SqL K H a xs:=h.imp (·.1) id
theorem SqLS.new (h:H a=some (.lst xs))(n:¬ S a):SqLS K H S a xs:=.inl ⟨.inl h,n⟩
theorem Dm.free (m:Dm S H)(h:H p=none):¬ S p:=λq=>by
 obtain ⟨o,e,_⟩:=m p q
 rw [h] at e;cases e
theorem Dm.same (e:Same H H')(m:Dm S H):Dm S H':=λa q=>by
 obtain ⟨o,h,w⟩:=m a q
 exact ⟨o,e a o h,w⟩
theorem Dm.sub (m:Dm S H)(h:∀ a,S' a->S a):Dm S' H:=λa q=>m a (h a q)
theorem Dm.tup (m:Dm S H)(h:Rd H a (.tup xs)):¬ S a:=λq=>by
 obtain ⟨o,e,w⟩:=m a q
 rcases h with h|⟨u,h⟩
 ·rw [h] at e;cases e;cases w
 ·rw [h] at e;cases e;cases w
theorem Dm.not (m:Dm S H)(h:H a=some u)(n:yf u=false):¬ S a:=λq=>by
 obtain ⟨o,e,w⟩:=m a q
 rw [h] at e;cases e;rw [n] at w;cases w
theorem Rd.off (e:Off S H H')(n:¬ S a)(h:Rd H a o):Rd H' a o:=by
 rcases h with h|⟨u,h⟩
 ·exact .inl (e _ _ n h)
 ·exact .inr ⟨u,e _ _ n h⟩
theorem Rd.dom (h:Rd H a o):H a≠none:=by
 rcases h with h|⟨u,h⟩<;>(rw [h];exact λz=>nomatch z)
theorem Same.off (e:Same H H'):Off S H H':=λb o _ h=>e b o h
theorem SqT.upd  (h:SqT K H a xs) (hn:H p=none):SqT K (upd H p o) a xs:=by
 rcases h with (h|⟨o',h⟩)|h
 ·exact .inl (.inl (by rw [qW (Qp h hn)];exact h))
 ·exact .inl (.inr ⟨o',by rw [qW (Qp h hn)];exact h⟩)
 ·exact .inr h
theorem Same.sqT (e:Same H H')(h:SqT K H a xs):SqT K H' a xs:=by
 rcases h with (h|⟨o,h⟩)|h
 ·exact .inl (.inl (e _ _ h))
 ·exact .inl (.inr ⟨o,e _ _ h⟩)
 ·exact .inr h
theorem Same.lay (hn:H p=none):Same H (L2.upd H p o):=λb u q=>by rw [qW (Qp q hn)];exact q
theorem Same.lay'  (e:Same H0 H) (hn:H p=none):Same H0 (L2.upd H p o):=e.trans (Same.lay hn)
mutual
theorem Den.off (m:Dm S H)(e:Off S H H'):∀ {v:V} {d:Ka},Den K H S v d->Den K H' S v d
 | _,_,.none=>.none
 | _,_,.bool b=>.bool b
 | _,_,.int i=>.int i
 | _,_,.str x=>.str x
 | _,_,.list h t=>.list (h.imp (λq=>⟨q.1.off e q.2,q.2⟩) id) (DenL.off m e t)
 | _,_,.tuple h t=>.tuple (h.imp (λq=>q.off e (m.tup q)) id) (DenL.off m e t)
 | _,_,.dict h k t=>.dict ⟨e _ _ h.2 h.1,h.2⟩ (DenL.off m e k) (DenL.off m e t)
 | _,_,.exc0 h o=>.exc0 (e _ _ (m.not h rfl) h) o
 | _,_,.exc1 h o x y t=>.exc1 (e _ _ (m.not h rfl) h) o x (e _ _ (m.not y rfl) y) (Den.off m e t)
 | _,_,.ins h o=>.ins (e _ _ (m.not h rfl) h) o
theorem DenL.off (m:Dm S H)(e:Off S H H'):∀ {vs:List V} {ds:'('},DenL K H S vs ds->DenL K H' S vs ds
 | _,_,.nil=>.nil
 | _,_,.cons h t=>.cons (Den.off m e h) (DenL.off m e t)
end
mutual
theorem Den.same (e:Same H H'):∀ {v:V} {d:Ka},Den K H S v d->Den K H' S v d
 | _,_,.none=>.none
 | _,_,.bool b=>.bool b
 | _,_,.int i=>.int i
 | _,_,.str x=>.str x
 | _,_,.list h t=>.list (h.imp (λq=>⟨q.1.off (S:=S) e.off q.2,q.2⟩) id) (DenL.same e t)
 | _,_,.tuple h t=>.tuple (e.sqT h) (DenL.same e t)
 | _,_,.dict h k t=>.dict ⟨e _ _ h.1,h.2⟩ (DenL.same e k) (DenL.same e t)
 | _,_,.exc0 h o=>.exc0 (e _ _ h) o
 | _,_,.exc1 h o x y t=>.exc1 (e _ _ h) o x (e _ _ y) (Den.same e t)
 | _,_,.ins h o=>.ins (e _ _ h) o
theorem DenL.same (e:Same H H'):∀ {vs:List V} {ds:'('},DenL K H S vs ds->DenL K H' S vs ds
 | _,_,.nil=>.nil
 | _,_,.cons h t=>.cons (Den.same e h) (DenL.same e t)
end
mutual
theorem Den.sub (e:∀ a,H a≠none->S' a->S a):∀ {v:V} {d:Ka},Den K H S v d->Den K H S' v d
 | _,_,.none=>.none
 | _,_,.bool b=>.bool b
 | _,_,.int i=>.int i
 | _,_,.str x=>.str x
 | _,_,.list h t=>.list (h.imp (λq=>⟨q.1,λz=>q.2 (e _ q.1.dom z)⟩) id) (DenL.sub e t)
 | _,_,.tuple h t=>.tuple h (DenL.sub e t)
 | _,_,.dict h k t=>.dict ⟨h.1,λz=>h.2 (e _ (by rw [h.1];exact λy=>nomatch y) z)⟩ (DenL.sub e k) (DenL.sub e t)
 | _,_,.exc0 h o=>.exc0 h o
 | _,_,.exc1 h o x y t=>.exc1 h o x y (Den.sub e t)
 | _,_,.ins h o=>.ins h o
theorem DenL.sub (e:∀ a,H a≠none->S' a->S a):∀ {vs:List V} {ds:'('},DenL K H S vs ds->DenL K H S' vs ds
 | _,_,.nil=>.nil
 | _,_,.cons h t=>.cons (Den.sub e h) (DenL.sub e t)
end
mutual
theorem Den.flat:∀ {v:V} {d:Ka},L2.flat d=true->Den K H S v d->Den K H S' v d
 | _,_,_,.none=>.none
 | _,_,_,.bool b=>.bool b
 | _,_,_,.int i=>.int i
 | _,_,_,.str x=>.str x
 | _,_,f,.list h t=>by cases f
 | _,_,f,.tuple h t=>.tuple h (DenL.flat (by rw [L2.flat] at f;exact f) t)
 | _,_,f,.dict h k t=>by cases f
 | _,_,f,.exc0 h o=>by cases f
 | _,_,f,.exc1 h o x y t=>by cases f
 | _,_,f,.ins h o=>by cases f
theorem DenL.flat:∀ {vs:List V} {ds:'('},YW ds=true->DenL K H S vs ds->DenL K H S' vs ds
 | _,_,_,.nil=>.nil
 | _,_,f,.cons h t=>by
  rw [YW,KI] at f
  exact .cons (Den.flat f.1 h) (DenL.flat f.2 t)
end
theorem DenL.length:∀ {vs:List V} {ds:'('},DenL K H S vs ds->vs.length=ds.length
 | _,_,.nil=>rfl
 | _,_,.cons _ t=>by rw [Kz,Kz,t.length]
theorem DenL.snoc:∀ {vs:List V} {ds:'('} {v:V} {d:Ka},DenL K H S vs ds->Den K H S v d->DenL K H S (vs++[v]) (ds++[d])
 | _,_,_,_,.nil,h=>.cons h .nil
 | _,_,_,_,.cons h t,q=>.cons h (t.snoc q)
theorem DenL.append:∀ {vs ws:List V} {ds es:'('},DenL K H S vs ds->DenL K H S ws es->DenL K H S (vs++ws) (ds++es)
 | _,_,_,_,.nil,h=>h
 | _,_,_,_,.cons h t,q=>.cons h (t.append q)
theorem DenL.get:∀ {vs:List V} {ds:'('} {i:Nat} {d:Ka},DenL K H S vs ds->ds[i]?=some d->∃ v,vs[i]?=some v/\Den K H S v d
 | _,_,_,_,.nil,e=>by simp at e
 | _,_,0,_,.cons h _,e=>by simp at e;subst e;exact ⟨_,rfl,h⟩
 | _,_,i+1,d,.cons _ t,e=>by
  obtain ⟨v,h1,h2⟩:=DenL.get (i:=i) (d:=d) t (by simpa using e)
  exact ⟨v,by simpa using h1,h2⟩
theorem DenL.drop:∀ {vs:List V} {ds:'('} (n:Nat),DenL K H S vs ds->DenL K H S (vs.drop n) (ds.drop n)
 | _,_,0,h=>h
 | _,_,_+1,.nil=>.nil
 | _,_,n+1,.cons _ t=>t.drop n
theorem DenL.take:∀ {vs:List V} {ds:'('} (n:Nat),DenL K H S vs ds->DenL K H S (vs.take n) (ds.take n)
 | _,_,0,_=>.nil
 | _,_,_+1,.nil=>.nil
 | _,_,n+1,.cons h t=>.cons h (t.take n)
theorem DenL.ints:∀ ns:List Int,DenL K H S (ns.map V.int) (ns.map Kj)
 | []=>.nil
 | n::ns=>.cons (.int n) (DenL.ints ns)
theorem Den.int_inv (h:Den K H S v (.int i)):v=.int i:=by cases h;rfl
theorem Den.bool_inv (h:Den K H S v (.bool b)):v=.bl b:=by cases h;rfl
theorem Den.list_inv (h:Den K H S v (.list ds)):∃ a xs,v=.ref a/\SqLS K H S a xs/\DenL K H S xs ds:=by
 cases h with
 | list h t=>exact ⟨_,_,rfl,h,t⟩
theorem Den.tuple_inv (h:Den K H S v (.tuple ds)):∃ a xs,v=.ref a/\SqT K H a xs/\DenL K H S xs ds:=by
 cases h with
 | tuple h t=>exact ⟨_,_,rfl,h,t⟩
theorem DenL.inv1 (h:DenL K H S vs [d]):∃ v,vs=[v]/\Den K H S v d:=by
 cases h with
 | cons a t=>cases t;exact ⟨_,rfl,a⟩
theorem DenL.inv2 (h:DenL K H S vs [d,e]):∃ v w,vs=[v,w]/\Den K H S v d/\Den K H S w e:=by
 cases h with
 | cons a t=>obtain ⟨w,rfl,b⟩:=t.inv1;exact ⟨_,w,rfl,a,b⟩
end
section
variable {X:Cx}{aa:List (Ke×Obj)}{σ:St}{H:Hp}{s:Kh}{S:Av}
mutual
theorem Den.reads (I:Inv X aa σ H s):∀ {v:V} {d:Ka} {u:Kd},Den X.K H S v d->d.canLay0=true->RelV v u->∃ as,UY s.heap u d as
 | _,_,u,.none,_,r=>by cases (show u=VF from r);exact ⟨_,.none⟩
 | _,_,u,.bool b,_,r=>by cases (show u=Vt b from r);exact ⟨_,.bool b⟩
 | _,_,u,.int i,_,r=>by obtain ⟨t,e⟩:=(show ∃ t,u=NW i t from r);cases e;exact ⟨_,.int i t⟩
 | _,_,u,.str x,_,r=>by obtain ⟨t,e⟩:=(show ∃ t,u=Nr x t from r);cases e;exact ⟨_,.str x t⟩
 | _,_,u,@Den.list _ _ _ a xs ds h t,c0,r=>by
  cases (show u=Ve a from r)
  obtain ⟨its,rv,⟨o,n,e,c,_,d⟩,_⟩:=I.list h.sq
  obtain ⟨as,q⟩:=DenL.reads I t (by rw [KM] at c0;exact c0) rv
  exact ⟨_,.list e c d (by simpa using q)⟩
 | _,_,u,@Den.tuple _ _ _ a xs ds h t,c0,r=>by
  cases (show u=Ve a from r)
  obtain ⟨its,rv,⟨o,e,c,n,d⟩,_⟩:=I.tuple h
  obtain ⟨as,q⟩:=DenL.reads I t (by rw [KM] at c0;exact c0) rv
  exact ⟨_,.tuple e c d (by simpa using q)⟩
 | _,_,u,.dict h k t,c0,r=>by rw [KM] at c0;cases c0
 | _,_,u,.exc0 h o,c0,r=>by unfold excD at c0;rw [KM] at c0;cases c0
 | _,_,u,.exc1 h o x y t,c0,r=>by unfold excD at c0;rw [KM] at c0;cases c0
 | _,_,u,.ins h o,c0,r=>by unfold objD at c0;rw [KM] at c0;cases c0
theorem DenL.reads (I:Inv X aa σ H s):∀ {vs:List V} {ds:'('} {us:List Kd},DenL X.K H S vs ds->Kp ds=true->Vals vs us->∃ as,Uk s.heap us ds as
 | _,_,_,.nil,_,.nil=>⟨_,.nil⟩
 | _,_,_,.cons h t,c0,.cons r rr=>by
  rw [Kp,KI] at c0
  obtain ⟨as,q⟩:=Den.reads I h c0.1 r
  obtain ⟨bs,q'⟩:=DenL.reads I t c0.2 rr
  exact ⟨_,.cons q q'⟩
end
end
section
variable {X:Cx}{aa:List (Ke×Obj)}{σ:St}{H:Hp}{s:Kh}
noncomputable def rEqD (K:Kb):R2:=λx y H Q=>∃ S d e,Den K H S x d/\Den K H S y e/\K7 d=true/\K7 e=true/\Q (.bl (Ks d e)) H
noncomputable def rNeD (K:Kb):R2:=λx y H Q=>∃ S d e,Den K H S x d/\Den K H S y e/\K7 d=true/\K7 e=true/\Q (.bl (!PyData.eqv d e)) H
theorem ql6 (hr:Room k X.A):OpR X (au .Eq) (rEqD X.K):=by
 intro aa s σ H x y v u Q I rx ry h
 obtain ⟨S,d,e,h1,h2,s1,s2,q⟩:=h
 obtain ⟨as,q1⟩:=h1.reads I (K5 s1) rx
 obtain ⟨bs,q2⟩:=h2.reads I (K5 s2) ry
 exact eq_dataH q1 q2 s1 s2 hr.units (jE I q rfl)
theorem ql9 (hr:Room k X.A):OpR X (au .NotEq) (rNeD X.K):=by
 intro aa s σ H x y v u Q I rx ry h
 obtain ⟨S,d,e,h1,h2,s1,s2,q⟩:=h
 obtain ⟨as,q1⟩:=h1.reads I (K5 s1) rx
 obtain ⟨bs,q2⟩:=h2.reads I (K5 s2) ry
 exact ne_dataH q1 q2 s1 s2 hr.units (jE I q rfl)
theorem qj8:OpR X (aF .Mult) (rI NR λi j=>.int (i*j)):=opI λ_ _ _ _ _ _ _ hc q=>mul_int q hc
inductive TyD (K:Kb)(H:Hp):V->String->Prop
 | non:TyD K H .non "NoneType"
 | bl (b:Bool):TyD K H (.bl b) "bool"
 | int (i:Int):TyD K H (.int i) "int"
 | str (x:Str):TyD K H (.str x) "str"
 | lst {a:Ke} {xs:List V} (h:SqL K H a xs):TyD K H (.ref a) "list"
 | tup {a:Ke} {xs:List V} (h:SqT K H a xs):TyD K H (.ref a) "tuple"
 | dct {a:Ke} {kvs:List (KX×Addr×V)} {ep:Nat} (h:H a=some (DctO a kvs ep)):TyD K H (.ref a) "dict"
noncomputable def rIsi (K:Kb):List V->Hp->VK->Prop:=λvs H Q=>∃ x T t b,vs=[x,.ty T]/\TyD K H x t/\VC K (.type t) (.type T)=some b/\Q (.bl b) H
theorem qha:jg X (.builtin "isinstance") (rIsi X.K):=by
 intro aa s σ H xs us Q I r h
 obtain ⟨x,T,t,b,rfl,ty,e,q⟩:=h
 obtain ⟨u,c,rfl,ru,rc⟩:=r.two
 cases (show c=Vs T from rc)
 have fin:∀ tk,EP X aa σ Q (.bool b) { s with toks:=tk }:=λtk=>⟨.bl b,H,I.tok tk,rfl,q⟩
 cases ty with
 | non=>cases (show u=VF from ru);exact Vn Fm I.kIn Us e (λz=>nomatch z) fin
 | bl y=>cases (show u=Vt y from ru);exact Vn Fn I.kIn Us e (λz=>nomatch z) fin
 | int i=>obtain ⟨t,q⟩:=(show ∃ t,u=NW i t from ru);cases q;exact Vn PySem.W.kitx_int I.kIn Us e (λz=>nomatch z) fin
 | str y=>obtain ⟨t,q⟩:=(show ∃ t,u=Nr y t from ru);cases q;exact Vn PySem.W.kitx_str I.kIn Us e (λz=>nomatch z) fin
 | @lst a xs ea =>
  cases (show u=Ve a from ru)
  obtain ⟨_,_,⟨o,n,h1,h2,_⟩,_⟩:=I.list ea
  exact Vn Ed I.kIn ⟨o,h1,h2⟩ e (λz=>nomatch z) fin
 | @tup a xs ea =>
  cases (show u=Ve a from ru)
  obtain ⟨_,_,⟨o,h1,h2,_⟩,_⟩:=I.tuple ea
  exact Vn Fe I.kIn ⟨o,h1,h2⟩ e (λz=>nomatch z) fin
 | @dct a kvs ep ea =>
  cases (show u=Ve a from ru)
  obtain ⟨o,_,h1,h2,_⟩:=(QD.of (I.hok a _ ea)).vals
  exact Vn Ee I.kIn ⟨o,h1,h2.1⟩ e (λz=>nomatch z) fin
def ExcH (K:Kb)(H:Hp)(a:Ke)(c:Str):Prop:=∃ o,H a=some (.frz o (.own a))/\ExcO K o c
theorem Inv.excAt (I:Inv X aa σ H s)(h:ExcH X.K H a c):∃ C,KO X.K aj c=some (some (.ref C))/\xcB X.K C=true/\OfC s.heap a C:=by
 obtain ⟨o,ha,C,vs,h1,h2,h3,h4⟩:=h
 exact ⟨C,h3,h4,o,(I.hok a _ ha).1,h1⟩
noncomputable def qk5 (K:Kb):List V->Hp->VK->Prop:=λvs H Q=>∃ a c T b,vs=[.ref a,.ty T]/\ExcH K H a c/\(∀ C,xcB K C=true->VC K (.ref C) (.type T)=some b)/\Q (.bl b) H
theorem qf4:jg X (.builtin "isinstance") (qk5 X.K):=by
 intro aa s σ H xs us Q I r h
 obtain ⟨a,c,T,b,rfl,hx,e,q⟩:=h
 obtain ⟨u,c',rfl,ru,rc⟩:=r.two
 cases (show c'=Vs T from rc)
 cases (show u=Ve a from ru)
 obtain ⟨C,_,h4,IA⟩:=I.excAt hx
 exact Vn (qhR (qi4 h4)) I.kIn IA (e C h4) (λz=>nomatch z) λtk=>⟨.bl b,H,I.tok tk,rfl,q⟩
theorem Den.ins_inv {K:Kb}{S:Av}{v:V}{c:Str}(h:Den K H S v (objD c)):∃ a dx C,v=.ref a/\H a=some (.ins C dx [])/\KO K aj c=some (some (.ref C))/\icB K C=true:=by
 generalize hd:objD c=x at h
 cases h with
 | @dict a kvs ep ds h k t =>
  have:excK (dkv kvs ds)=true:=by
   have:=PyData.dict.inj hd
   rw [← this];rfl
  rw [qc6] at this
  cases this
 | ins h o=>cases hd;exact ⟨_,_,_,rfl,h,o.1,o.2⟩
 | _=>cases hd
noncomputable def qk4 (K:Kb):List V->Hp->VK->Prop:=λvs H Q=>∃ a C dx T b,vs=[.ref a,.ty T]/\H a=some (.ins C dx [])/\icB K C=true/\VC K (.ref C) (.type T)=some b/\Q (.bl b) H
theorem qf3:jg X (.builtin "isinstance") (qk4 X.K):=by
 intro aa s σ H xs us Q I r h
 obtain ⟨a,C,dx,T,b,rfl,hx,hc,e,q⟩:=h
 obtain ⟨u,c',rfl,ru,rc⟩:=r.two
 cases (show c'=Vs T from rc)
 exact qgg I ru ((qeh hc).ty hx) e λtk=>⟨.bl b,H,I.tok tk,rfl,q⟩
end
noncomputable abbrev Rho:=List (Option Ka)
def DenS (K:Kb)(H:Hp)(S:Av)(M:List Nat)(σ:St)(ρ:Rho):Prop:=Dm S H/\σ.length=ρ.length/\∀ (i:Nat) (d:Ka),i∉M->ρ[i]?=some (some d)->∃ v,σ[i]?=some (some v)/\Den K H S v d
section
variable {K:Kb}{H H':Hp}{S:Av}{M:List Nat}{σ:St}{ρ:Rho}{v:V}{d:Ka}
theorem DenS.same (e:Same H H')(h:DenS K H S M σ ρ):DenS K H' S M σ ρ:=⟨h.1.same e,h.2.1,λi d n q=>let ⟨v,a,b⟩:=h.2.2 i d n q;⟨v,a,b.same e⟩⟩
theorem DenS.set (h:DenS K H S M σ ρ)(q:Den K H S v d)(i:Nat):DenS K H S M (σ.set i (some v)) (ρ.set i (some d)):=by
 refine ⟨h.1,by rw [VM,VM];exact h.2.1,λj e n he=>?_⟩
 by_cases hj:i=j
 ·subst hj
  by_cases hi:i<ρ.length
  ·rw [Vd hi] at he
   cases he
   exact ⟨v,Vd (by rw [h.2.1];exact hi),q⟩
  ·rw [List.set_eq_of_length_le '$'] at he
   exact absurd (Kk.mp he).1 hi
 ·rw [VS hj] at he
  obtain ⟨w,a,b⟩:=h.2.2 j e n he
  exact ⟨w,by rw [VS hj];exact a,b⟩
theorem DenS.start {ds:'('}(m:Dm S H)(h:DenL K H S vs ds)(N:List Str):DenS K H S [] (start N vs) (ds.map some++Vf (N.length-ds.length) none):=by
 have hl:=h.length
 refine ⟨m,?_,λj e _ he=>?_⟩
 ·unfold L2.start
  rw [Km,Km,Kf,Kf,VE,VE,hl]
 ·by_cases hj:j<ds.length
  ·rw [KL (by simpa using hj),Kw] at he
   cases e1:ds[j]? with
   | none=>rw [e1] at he;cases he
   | some d =>
    rw [e1] at he
    cases he
    obtain ⟨v,a,b⟩:=h.get e1
    refine ⟨v,?_,b⟩
    unfold L2.start
    rw [KL (by rw [Kf];omega),Kw,a]
    rfl
  ·rw [Vb (by simpa using hj),Uu] at he
   split at he<;>cases he
end
noncomputable def tD (K:Kb)(M:List Nat)(f:'&'):TE:=λσ H Q=>∃ S ρ d,DenS K H S M σ ρ/\f ρ=some d/\∀ v H',Same H H'->Den K H' S v d->Q v H'
noncomputable def tDA (K:Kb)(M:List Nat)(f:Rho->Option (List Ka)):TA:=λσ H Q=>∃ S ρ ds,DenS K H S M σ ρ/\f ρ=some ds/\∀ vs H',Same H H'->DenL K H' S vs ds->Q vs H'
noncomputable def tDT (K:Kb)(M:List Nat)(f:Rho->Option Bool):TT:=λσ H Q=>∃ S ρ b,DenS K H S M σ ρ/\f ρ=some b/\∀ H',Same H H'->Q b H'
inductive Out where
 | nx (ρ:Rho)|rt (d:Ka)|bk (ρ:Rho)|ct (ρ:Rho)
def PD (X:Cx)(M:List Nat)(e:KD)(f:'&'):Prop:=PE X e (tD X.K M f)
def PDA (X:Cx)(M:List Nat)(es:List KD)(f:Rho->Option (List Ka)):Prop:=PA X es (tDA X.K M f)
def PDT (X:Cx)(M:List Nat)(e:KD)(f:Rho->Option Bool):Prop:=PT X e (tDT X.K M f)
theorem PE.weak {X:Cx}{e:KD}{t t':TE}(h:PE X e t)(w:∀ σ H Q,t' σ H Q->t σ H Q):PE X e t':=λaa s σ H Q I q=>h aa s σ H Q I (w σ H Q q)
theorem PT.weak {X:Cx}{e:KD}{t t':TT}(h:PT X e t)(w:∀ σ H Q,t' σ H Q->t σ H Q):PT X e t':=λaa s σ H Q I q=>h aa s σ H Q I (w σ H Q q)
theorem PW.weak {X:Cx}{e:KD}{t t':TT}(h:PW X e t)(w:∀ σ H Q,t' σ H Q->t σ H Q):PW X e t':=λwh aa s σ H Q I q=>h wh aa s σ H Q I (w σ H Q q)
theorem PA.weak {X:Cx}{e:List KD}{t t':TA}(h:PA X e t)(w:∀ σ H Q,t' σ H Q->t σ H Q):PA X e t':=λpos aa s σ H Q I q=>h pos aa s σ H Q I (w σ H Q q)
theorem PS.weak {X:Cx}{e:KS}{t t':TS}(h:PS X e t)(w:∀ D σ H,t' D σ H->t D σ H):PS X e t':=λaa s σ H D I q=>h aa s σ H D I (w D σ H q)
theorem PSs.weak {X:Cx}{e:List KS}{t t':TS}(h:PSs X e t)(w:∀ D σ H,t' D σ H->t D σ H):PSs X e t':=λaa s σ H D I q=>h aa s σ H D I (w D σ H q)
noncomputable def ob {α β:Type}(a:Option α)(f:α->Option β):Option β:=match a with | some x=>f x|none=>none
theorem qd {α β:Type}{a:Option α}{f:α->Option β}{y:β}(h:ob a f=some y):∃ x,a=some x/\f x=some y:=by
 cases a with
 | none=>cases h
 | some x=>exact ⟨x,rfl,h⟩
noncomputable def visB (sc:Ua)(x:Str):Bool:=decide (sc.names.lookup x=some .local)||decide (sc.names.lookup x=some .cell)||decide (sc.names.lookup x=some .free)
noncomputable def locB (sc:Ua)(x:Str):Bool:=decide (sc.names.lookup x=some .local)||decide (sc.names.lookup x=some .cell)
noncomputable def glB (sc:Ua)(x:Str):Bool:=decide (sc.names.lookup x=some .globalImplicit)
theorem qi3 (h:visB sc x=true):Vis sc x:=by
 unfold visB at h
 simp only [NC,aD] at h
 rcases h with (h|h)|h
 ·exact .inl h
 ·exact .inr (.inl h)
 ·exact .inr (.inr h)
theorem qhU (h:locB sc x=true):Loc sc x:=by
 unfold locB at h
 simp only [NC,aD] at h
 exact h
theorem gl_fn {X:Cx}(sc:Ua)(hs:X.env.scope=sc)(h:glB sc x=true):Gl X x:=by
 subst hs
 have h':X.env.scope.names.lookup x=some .globalImplicit:=ao h
 exact h'
theorem jM {env:Env}:∀ {names:List (Str×NameKind)} {x:Str} {k:En},names.lookup x=some k->
  (names.map λ(n,k)=>if (k==Vq&&env.scope.kind==.function&&env.kindOf n==some .cell) then (n,VZ) else (n,k)).lookup x=some k\/
  (k=.free/\(names.map λ(n,k)=>if (k==Vq&&env.scope.kind==.function&&env.kindOf n==some .cell) then (n,VZ) else (n,k)).lookup x=some .cell)
 | [],_,_,h=>by simp at h
 | (n,k')::r,x,k,h=>by
  have ih:=@jM env r x k
  show NV x ((if (k'==Vq&&env.scope.kind==.function&&env.kindOf n==some .cell)=true then (n,VZ) else (n,k'))::_)=_\/(_/\NV x ((if (k'==Vq&&env.scope.kind==.function&&env.kindOf n==some .cell)=true then (n,VZ) else (n,k'))::_)=_)
  cases hx:x==n with
  | true =>
   simp only [Vr,hx] at h
   cases h
   by_cases hc:(k'==Vq&&env.scope.kind==.function&&env.kindOf n==some .cell)=true
   ·rw [ag hc]
    rw [KI,KI] at hc
    exact .inr ⟨by simpa using hc.1.1,by simp [Vr,hx]⟩
   ·rw [ah hc]
    exact .inl (by simp [Vr,hx])
  | false =>
   simp only [Vr,hx] at h
   by_cases hc:(k'==Vq&&env.scope.kind==.function&&env.kindOf n==some .cell)=true
   ·rw [ag hc]
    simp only [Vr,hx]
    exact ih h
   ·rw [ah hc]
    simp only [Vr,hx]
    exact ih h
section
variable {X:Cx}{x:Str}{N':List Str}{sc:Ua}{cl:List (Str×Addr)}{C:Ke}{fp:List Ke}{aa:List (Ke×Obj)}{s:Kh}{H:Hp}
theorem qJ (h:visB sc x=true):Vis (q9 X N' sc cl C fp aa s H).env.scope x:=by
 rcases qi3 h with h|h|h
 ·rcases jM (env:=X.env) h with q|q
  ·exact .inl q
  ·cases q.1
 ·rcases jM (env:=X.env) h with q|q
  ·exact .inr (.inl q)
  ·cases q.1
 ·rcases jM (env:=X.env) h with q|q
  ·exact .inr (.inr q)
  ·exact .inr (.inl q.2)
theorem yO (h:glB sc x=true):Gl (q9 X N' sc cl C fp aa s H) x:=by
 rcases jM (env:=X.env) (ao h) with q|q
 ·exact q
 ·cases q.1
end
noncomputable def vr (i:Nat):Rho->Option Ka:=λρ=>(ρ[i]?).join
noncomputable def kd (d:Ka):Rho->Option Ka:=λ_=>some d
noncomputable def ev1 (fa:'&')(g:Ka->Option Ka):Rho->Option Ka:=λρ=>ob (fa ρ) g
noncomputable def aN:Rho->Option (List Ka):=λ_=>some []
noncomputable def aC (fa:'&')(fs:Rho->Option (List Ka)):Rho->Option (List Ka):=λρ=>ob (fa ρ) λx=>ob (fs ρ) λxs=>some (x::xs)
noncomputable def evA (fs:Rho->Option (List Ka))(h:List Ka->Option Ka):Rho->Option Ka:=λρ=>ob (fs ρ) h
noncomputable def evC (n:Nat)(fs:Rho->Option (List Ka))(h:List Ka->Option Ka):Rho->Option Ka:=λρ=>ob (fs ρ) λds=>if ds.length=n then h ds else none
noncomputable def evC0 (h:List Ka->Option Ka):Rho->Option Ka:=λ_=>h []
section
variable {X:Cx}{M:List Nat}{a b c:KD}{es:List KD}{f g fa fb:'&'}{pos:Pos}
theorem q8 (i:Nat)(hv:Vis X.env.scope x)(hM:i∉M)(hN:X.N[i]?=some x:=by rfl)(hd:(x==("__debug__" : Str))=false:=by decide +kernel)
  (hcd:(x==("__classdict__" : Str))=false:=by decide +kernel):PD X M (.Name x pos) (vr i) :=
 (qip hN hv hd hcd).weak λσ H Q ⟨S,ρ,d,hs,e,q⟩=>by
  have e:(ρ[i]?).join=some d:=e
  have e':ρ[i]?=some (some d):=by
   cases h:ρ[i]? with
   | none=>rw [h] at e;cases e
   | some o=>rw [h] at e;exact congrArg some e
  obtain ⟨v,h1,h2⟩:=hs.2.2 i d hM e'
  exact ⟨v,h1,q v H (Same.refl H) h2⟩
theorem qb {i j p}:PD X M (.Constant (.int i) j p) (kd (.int i)):=qmi.weak λσ H Q ⟨S,_,d,_,e,q⟩=>by cases e;exact q _ H (Same.refl H) (.int i)
theorem JP {i j p}:PD X M (.Constant (.bool i) j p) (kd (.bool i)):=pe_bl.weak λσ H Q ⟨S,_,d,_,e,q⟩=>by cases e;exact q _ H (Same.refl H) (.bool i)
theorem We {j p}:PD X M (.Constant .none j p) (kd .none):=qmj.weak λσ H Q ⟨S,_,d,_,e,q⟩=>by cases e;exact q _ H (Same.refl H) .none
theorem Jz {i j p}:PD X M (.Constant (.str i) j p) (kd (.str i)):=qmm.weak λσ H Q ⟨S,_,d,_,e,q⟩=>by cases e;exact q _ H (Same.refl H) (.str i)
theorem qkb  (hg:Gl X x) (hm:X.mg x=some u) (r:RelV v u) (hd:∀ H S,Den X.K H S v d) (hdb:(x==("__debug__" : Str))=false:=by decide +kernel):PD X M (.Name x pos) (kd d) :=
 (qfG hg hm r hdb).weak λσ H Q ⟨S,_,d',_,e,q⟩=>by cases e;exact q _ H (Same.refl H) (hd H S)
noncomputable def rD2 (K:Kb)(g:Ka->Ka->Option Ka):R2:=λx y H Q=>∃ S dx dy d,Dm S H/\Den K H S x dx/\Den K H S y dy/\g dx dy=some d/\∀ v H',Same H H'->Den K H' S v d->Q v H'
def OpD (X:Cx)(f:Kd->Kd->Sem Kd)(g:Ka->Ka->Option Ka):Prop:=OpR X f (rD2 X.K g)
def UnD (X:Cx)(f:Kd->Sem Kd)(g:Ka->Option Ka):Prop:=UnR X f (λx H Q=>∃ S dx d,Dm S H/\Den X.K H S x dx/\g dx=some d/\∀ v H',Same H H'->Den X.K H' S v d->Q v H')
def CallD (X:Cx)(f:Kd)(g:List Ka->Option Ka):Prop:=jg X f (λvs H Q=>∃ S ds d,Dm S H/\DenL X.K H S vs ds/\g ds=some d/\∀ v H',Same H H'->Den X.K H' S v d->Q v H')
noncomputable def ev2 (fa fb:'&')(g:Ka->Ka->Option Ka)(ρ:Rho):Option Ka:=ob (fa ρ) λx=>ob (fb ρ) λy=>g x y
theorem tD2 {K:Kb}{g:Ka->Ka->Option Ka}:∀ σ H Q,tD K M (ev2 fa fb g) σ H Q->tOp (rD2 K g) (tD K M fa) (tD K M fb) σ H Q:=by
 intro σ H Q ⟨S,ρ,d,hs,e,q⟩
 obtain ⟨x,e1,e⟩:=qd e
 obtain ⟨y,e2,e⟩:=qd e
 exact ⟨S,ρ,x,hs,e1,λv H1 g1 d1=>⟨S,ρ,y,hs.same g1,e2,λw H2 g2 d2=>⟨S,x,y,d,hs.1.same (g1.trans g2),d1.same g2,d2,e,λz H3 g3 d3=>q z H3 (g1.trans (g2.trans g3)) d3⟩⟩⟩
theorem qD {op:Operator}{g:Ka->Ka->Option Ka}(ho:OpD X (aF op) g)(ha:PD X M a fa)(hb:PD X M b fb):PD X M (.BinOp a op b pos) (ev2 fa fb g):=(pe_op ho ha hb).weak tD2
theorem Wd {op:CmpOp}{g:Ka->Ka->Option Ka}(ho:OpD X (au op) g)(ha:PD X M a fa)(hb:PD X M b fb)(hm:aW op b=false):PD X M (.Compare a [op] [b] pos) (ev2 fa fb g):=(qki ho ha hb hm).weak tD2
theorem jH {op:UnaryOp}{g:Ka->Option Ka}(ho:UnD X (unaryOp op) g)(ha:PD X M a fa):PD X M (.UnaryOp op a pos) (ev1 fa g) :=
 (pe_un ho ha).weak λσ H Q ⟨S,ρ,d,hs,e,q⟩=>by
  obtain ⟨x,e1,e⟩:=qd e
  exact ⟨S,ρ,x,hs,e1,λv H1 g1 d1=>⟨S,x,d,hs.1.same g1,d1,e,λz H3 g3 d3=>q z H3 (g1.trans g3) d3⟩⟩
noncomputable def ixD:Ka->Ka->Option Ka
 | .tuple ds,.int i=>atI ds i
 | .list ds,.int i=>atI ds i
 | _,_=>none
theorem DenL.atI {K:Kb}{H:Hp}{S:Av}{vs:List V}{ds:'('}{i:Int}{d:Ka}(h:DenL K H S vs ds)(e:atI ds i=some d):∃ v,L2.atI vs i=some v/\Den K H S v d:=by
 unfold L2.atI at e ⊢
 rw [h.length]
 cases q:ixN ds.length i with
 | none=>rw [q] at e;cases e
 | some j=>rw [q] at e;exact h.get e
theorem qp (ha:PD X M a fa)(hb:PD X M b fb)(hs:WM b:=by intro _ _;rfl):PD X M (.Subscript a b pos) (ev2 fa fb ixD) :=
 (qin (r:=λx y H Q=>rIxL X.K x y H Q\/rIxT X.K x y H Q) (qcd.or qem) ha hb hs).weak λσ H Q ⟨S,ρ,d,hs,e,q⟩=>by
  obtain ⟨x,e1,e⟩:=qd e
  obtain ⟨y,e2,e⟩:=qd e
  refine ⟨S,ρ,x,hs,e1,λv H1 g1 d1=>⟨S,ρ,y,hs.same g1,e2,λw H2 g2 d2=>?_⟩⟩
  have d1':=d1.same g2
  cases d1' with
  | list h t =>
   cases d2 with
   | int i=>obtain ⟨z,z1,z2⟩:=t.atI e;exact .inl ⟨_,_,_,_,rfl,rfl,h.sq,z1,q z H2 (g1.trans g2) z2⟩
   | _=>cases e
  | tuple h t =>
   cases d2 with
   | int i=>obtain ⟨z,z1,z2⟩:=t.atI e;exact .inr ⟨_,_,_,_,rfl,rfl,h,z1,q z H2 (g1.trans g2) z2⟩
   | _=>cases e
  | _=>cases e
theorem zJ:PDA X M [] aN:=qic.weak λσ H Q ⟨S,_,d,_,e,q⟩=>by cases e;exact q [] H (Same.refl H) .nil
theorem qF {fs:Rho->Option (List Ka)}(ha:PD X M a fa)(hr:PDA X M es fs)(hs:af (a::es) X.env=(false,eval a X.env)::af es X.env:=by rfl):PDA X M (a::es) (aC fa fs) :=
 (wj ha hr hs).weak λσ H Q ⟨S,ρ,d,hs,e,q⟩=>by
  obtain ⟨x,e1,e⟩:=qd e
  obtain ⟨xs,e2,e⟩:=qd e
  cases e
  exact ⟨S,ρ,x,hs,e1,λv H1 g1 d1=>⟨S,ρ,xs,hs.same g1,e2,λvs H2 g2 d2=>q _ H2 (g1.trans g2) (.cons (d1.same g2) d2)⟩⟩
noncomputable def tupD (ds:'('):Option Ka:=if ds.length<=1000 then some (.tuple ds) else none
noncomputable def lstD (ds:'('):Option Ka:=if ds.length<=1000 then some (.list ds) else none
theorem qgR {ds:'('}{d:Ka}(h:tupD ds=some d):ds.length<=1000/\d=.tuple ds:=by
 unfold tupD at h
 split at h
 ·rename_i q;cases h;exact ⟨q,rfl⟩
 ·cases h
theorem qbC {ds:'('}{d:Ka}(h:lstD ds=some d):ds.length<=1000/\d=.list ds:=by
 unfold lstD at h
 split at h
 ·rename_i q;cases h;exact ⟨q,rfl⟩
 ·cases h
theorem qQ {fs:Rho->Option (List Ka)}{x1}(h:PDA X M es fs):PD X M (.Tuple es x1 pos) (evA fs tupD) :=
 (qmn h).weak λσ H Q ⟨S,ρ,d,hs,e,q⟩=>by
  obtain ⟨xs,e1,e⟩:=qd e
  obtain ⟨hz,rfl⟩:=qgR e
  refine ⟨S,ρ,xs,hs,e1,λvs H1 g1 d1=>⟨VP (zO (by rw [d1.length];exact hz)),λp hp=>?_⟩⟩
  exact q _ _ (g1.lay' hp) (.tuple (SqT.of qY) (d1.same (Same.lay hp)))
theorem qeB {fs:Rho->Option (List Ka)}(h:PDA X M es fs):PD X M (.List es pos) (evA fs lstD) :=
 (qio h).weak λσ H Q ⟨S,ρ,d,hs,e,q⟩=>by
  obtain ⟨xs,e1,e⟩:=qd e
  obtain ⟨hz,rfl⟩:=qbC e
  refine ⟨S,ρ,xs,hs,e1,λvs H1 g1 d1=>⟨VP (zO (by rw [d1.length];exact hz)),λp hp=>?_⟩⟩
  exact q _ _ (g1.lay' hp) (.list (SqLS.new qY ((hs.1.same g1).free hp)) (d1.same (Same.lay hp)))
noncomputable def spF (K:Kb)(n:Nat)(f:List Ka->Option Ka):Sp:=λvs H Q _=>∃ S ds d,Dm S H/\DenL K H S vs ds/\ds.length=n/\f ds=some d/\∀ v H',Same H H'->Den K H' S v d->Q v H'
theorem qka {CX:CXT}{k n:Nat}{fn:Ke}{fd:VD}{ps:List Str}{h:List Ka->Option Ka}{E:XK}{x:Str}{p:Pos}{fs:Rho->Option (List Ka)}(F:FnOk X.prog X.w X.K X.mg X.base CX k fn fd ps (spF X.K n h))(hr:Room k X.A)(hg:Gl X x)(hm:X.mg x=some (.ref fn))(hk:Vx X.K (.ref fn)=true)
  (hb:Binds X.K fd ps []) (hx:qbV CX X E) (ha:PDA X M (a::es) fs) (hl:(a::es).length=n) (hdb:(x==("__debug__" : Str))=false:=by decide +kernel) (he:af (a::es) X.env=(false,eval a X.env)::af es X.env:=by rfl) (hpl:(aA pos (af es X.env)).any (·.1)=false:=by rfl) :
  PD X M (.Call (.Name x p) (a::es) [] pos) (evC n fs h) :=
 (W0 F hr hg hm hk hb .nil hx ha hdb he hpl).weak λσ H Q ⟨S,ρ,d,hs,e,q⟩=>by
  obtain ⟨ds,e1,e⟩:=qd e
  have e:(if ds.length=n then h ds else none)=some d:=e
  split at e
  ·rename_i hn
   exact ⟨S,ρ,ds,hs,e1,λvs H1 g1 d1=>⟨S,ds,d,hs.1.same g1,by rw [VL];exact d1,hn,e,λv H' g2 d2=>q v H' (g1.trans g2) d2⟩⟩
  ·cases e
theorem qZ {id:String}{x:Str}{p:Pos}{h:List Ka->Option Ka}{fs:Rho->Option (List Ka)}(hc:CallD X (.builtin id) h)(hg:Gl X x)(hm:X.mg x=none)(hv:aw x=some (.builtin id))(ha:PDA X M (a::es) fs)(hn:x ≠ "__name__" := by decide +kernel)(hdb:(x==("__debug__" : Str))=false:=by decide +kernel)
  (he:af (a::es) X.env=(false,eval a X.env)::af es X.env:=by rfl) (hpl:(aA pos (af es X.env)).any (·.1)=false:=by rfl):PD X M (.Call (.Name x p) (a::es) [] pos) (evA fs h) :=
 (qaT hc hg hm hv ha hn hdb he hpl).weak λσ H Q ⟨S,ρ,d,hs,e,q⟩=>by
  obtain ⟨ds,e1,e⟩:=qd e
  exact ⟨S,ρ,ds,hs,e1,λvs H1 g1 d1=>⟨S,ds,d,hs.1.same g1,d1,e,λv H' g2 d2=>q v H' (g1.trans g2) d2⟩⟩
theorem ZX {T:String}{x:Str}{p:Pos}{h:List Ka->Option Ka}{fs:Rho->Option (List Ka)}(hc:CallD X (.type T) h)(hg:Gl X x)(hm:X.mg x=none)(hv:aw x=some (.type T))(ha:PDA X M (a::es) fs)(hn:x ≠ "__name__" := by decide +kernel)(hdb:(x==("__debug__" : Str))=false:=by decide +kernel)
  (he:af (a::es) X.env=(false,eval a X.env)::af es X.env:=by rfl) (hpl:(aA pos (af es X.env)).any (·.1)=false:=by rfl):PD X M (.Call (.Name x p) (a::es) [] pos) (evA fs h) :=
 (qgI hc hg hm hv ha hn hdb he hpl).weak λσ H Q ⟨S,ρ,d,hs,e,q⟩=>by
  obtain ⟨ds,e1,e⟩:=qd e
  exact ⟨S,ρ,ds,hs,e1,λvs H1 g1 d1=>⟨S,ds,d,hs.1.same g1,d1,e,λv H' g2 d2=>q v H' (g1.trans g2) d2⟩⟩
noncomputable def tyS:Ka->String
 | .none => "NoneType" | .bool _ => "bool" | .int _ => "int" | .str _ => "str" | .list _ => "list" | .tuple _ => "tuple" | .dict _ => "dict"
noncomputable def isiT (T:String):Ka->Bool
 | .none=>T == "NoneType" || T == "object"
 | .bool _=>T == "bool" || T == "int" || T == "object"
 | .int _=>T == "int" || T == "object"
 | .str _=>T == "str" || T == "object"
 | .list _=>T == "list" || T == "object"
 | .tuple _=>T == "tuple" || T == "object"
 | .dict _=>T == "dict" || T == "object"
noncomputable def isiD (T:String)(d:Ka):Option Ka:=some (.bool (isiT T d))
def qcO (K:Kb)(T:String):Prop:=∀ d:Ka,VC K (.type (tyS d)) (.type T)=some (isiT T d)
theorem qft (K:Kb):qcO K "int" := λd=>by cases d<;>rfl
theorem qdp (K:Kb):qcO K "bool" := λd=>by cases d<;>rfl
theorem kit_tuple (K:Kb):qcO K "tuple" := λd=>by cases d<;>rfl
theorem qdq (K:Kb):qcO K "list" := λd=>by cases d<;>rfl
theorem qfh {K:Kb}{T:String}{C:Ke}{c:Str}{d:Ka}(hT:T∈YS)(h:xcB K C=true):VC K (.ref C) (.type T)=some (isiT T (excD c d)):=by
 rw [(qi4 h).ts T hT]
 have:(T == "dict" || T == "object")=false:=by
  simp only [YS,Kr,VN,aU] at hT
  rcases hT with rfl|rfl|rfl|rfl|rfl<;>decide +kernel
 exact congrArg some this.symm
theorem qjG {K:Kb}{T:String}{C:Ke}{c:Str}(hT:T∈YS)(h:icB K C=true):VC K (.ref C) (.type T)=some (isiT T (objD c)):=by
 rw [(qeh h).ts T hT]
 have:(T == "dict" || T == "object")=false:=by
  simp only [YS,Kr,VN,aU] at hT
  rcases hT with rfl|rfl|rfl|rfl|rfl<;>decide +kernel
 exact congrArg some this.symm
theorem jG {T:String}{p p2:Pos}(kit:qcO X.K T)(hg:Gl X "isinstance")(hm:X.mg "isinstance" = none)(hgT:Gl X (Kg T))(hmT:X.mg (Kg T)=none)(hvT:aw (Kg T)=some (.type T))(hv:aw "isinstance" = some (.builtin "isinstance"))(ha:PD X M a fa)(hnT:Kg T ≠ "__name__" := by decide +kernel)(hdT:(Kg T==("__debug__" : Str))=false:=by decide +kernel)(hT:T∈YS:=by decide +kernel)
  (he:af [a,.Name (Kg T) p2] X.env=(false,eval a X.env)::af [.Name (Kg T) p2] X.env:=by rfl) (hpl:(aA pos (af [.Name (Kg T) p2] X.env)).any (·.1)=false:=by rfl)
  (hs2:af [.Name (Kg T) p2] X.env=(false,eval (.Name (Kg T) p2) X.env)::af [] X.env:=by rfl) :
  PD X M (.Call (.Name "isinstance" p) [a,.Name (Kg T) p2] [] pos) (ev1 fa (isiD T)) :=
 (qaT (qha.or (qf4.or qf3)) hg hm hv (wj ha (wj (qkh (v:=.ty T) hgT hmT hvT rfl hnT hdT) qic hs2) he) '%' '%' he hpl).weak λσ H Q ⟨S,ρ,d,hs,e,q⟩=>by
  obtain ⟨x,e1,e⟩:=qd e
  cases e
  refine ⟨S,ρ,x,hs,e1,λv H1 g1 d1=>?_⟩
  have fin:=q (.bl (isiT T x)) H1 g1 (.bool _)
  have k:=kit x
  show rIsi X.K [v,.ty T] H1 Q\/qk5 X.K [v,.ty T] H1 Q\/qk4 X.K [v,.ty T] H1 Q
  cases d1 with
  | none=>exact .inl ⟨_,_,_,_,rfl,.non,k,fin⟩
  | bool y=>exact .inl ⟨_,_,_,_,rfl,.bl y,k,fin⟩
  | int y=>exact .inl ⟨_,_,_,_,rfl,.int y,k,fin⟩
  | str y=>exact .inl ⟨_,_,_,_,rfl,.str y,k,fin⟩
  | list h t=>exact .inl ⟨_,_,_,_,rfl,.lst h.sq,k,fin⟩
  | tuple h t=>exact .inl ⟨_,_,_,_,rfl,.tup h,k,fin⟩
  | dict h k2 t=>exact .inl ⟨_,_,_,_,rfl,.dct h.1,k,fin⟩
  | exc0 h o=>exact .inr (.inl ⟨_,_,_,_,rfl,⟨_,h,o⟩,λC z=>qfh hT z,fin⟩)
  | exc1 h o x y t=>exact .inr (.inl ⟨_,_,_,_,rfl,⟨_,h,o⟩,λC z=>qfh hT z,fin⟩)
  | ins h o=>exact .inr (.inr ⟨_,_,_,_,_,rfl,h,o.2,qjG hT o.2,fin⟩)
theorem Yj {f:Kd->Kd->Sem Kd}{g:Ka->Ka->Option Ka}{r:R2}(h:OpR X f r)(w:∀ x y dx dy d H S (Q:VK),Dm S H->Den X.K H S x dx->Den X.K H S y dy->g dx dy=some d->(∀ v H',Same H H'->Den X.K H' S v d->Q v H')->r x y H Q):OpD X f g :=
 λaa s σ H x y v u Q I rx ry ⟨S,dx,dy,d,m,h1,h2,e,q⟩=>h aa s σ H x y v u Q I rx ry (w x y dx dy d H S Q m h1 h2 e q)
noncomputable def iiD (h:Int->Int->Option Ka):Ka->Ka->Option Ka
 | .int i,.int j=>h i j
 | _,_=>none
theorem qaq (e:iiD h x y=some d):∃ i j,x=.int i/\y=.int j/\h i j=some d:=by
 cases x<;>cases y<;>first|exact ⟨_,_,rfl,rfl,e⟩|cases e
theorem qj3 {f:Kd->Kd->Sem Kd}{gi:Int->Int->Int}(h:OpR X f (rI0 λi j=>.int (gi i j))):OpD X f (iiD λi j=>some (.int (gi i j))) :=
 Yj h λx y dx dy d H S Q m h1 h2 e q=>by
  obtain ⟨i,j,rfl,rfl,e⟩:=qaq e
  cases h1;cases h2;cases e
  exact ⟨i,j,rfl,rfl,q _ H (Same.refl H) (.int _)⟩
theorem Y9 {f:Kd->Kd->Sem Kd}{C:Int->Int->Prop}[∀ i j,Decidable (C i j)]{gi:Int->Int->Int}(h:OpR X f (rI C λi j=>.int (gi i j))):OpD X f (iiD λi j=>if C i j then some (.int (gi i j)) else none) :=
 Yj h λx y dx dy d H S Q m h1 h2 e q=>by
  obtain ⟨i,j,rfl,rfl,e'⟩:=qaq e
  split at e'
  ·rename_i c
   cases h1;cases h2;cases e'
   exact ⟨i,j,rfl,rfl,c,q _ H (Same.refl H) (.int _)⟩
  ·cases e'
theorem qdA {f:Kd->Kd->Sem Kd}{gi:Int->Int->Bool}(h:OpR X f (rI0 λi j=>.bl (gi i j))):OpD X f (iiD λi j=>some (.bool (gi i j))) :=
 Yj h λx y dx dy d H S Q m h1 h2 e q=>by
  obtain ⟨i,j,rfl,rfl,e⟩:=qaq e
  cases h1;cases h2;cases e
  exact ⟨i,j,rfl,rfl,q _ H (Same.refl H) (.bool _)⟩
noncomputable instance (i j:Int):Decidable (NR i j):=by unfold NR;exact inferInstance
noncomputable instance (i j:Int):Decidable (CDiv i j):=by unfold CDiv;exact inferInstance
noncomputable instance (i j:Int):Decidable (CPow i j):=by unfold CPow;exact inferInstance
noncomputable def subD:Ka->Ka->Option Ka:=iiD λi j=>some (.int (i-j))
noncomputable def mulD:Ka->Ka->Option Ka:=iiD λi j=>if NR i j then some (.int (i*j)) else none
noncomputable def yX:Ka->Ka->Option Ka:=iiD λi j=>if CDiv i j then some (.int (i / j)) else none
noncomputable def modD:Ka->Ka->Option Ka:=iiD λi j=>if 0<j then some (.int (i % j)) else none
noncomputable def powD:Ka->Ka->Option Ka:=iiD λi j=>if CPow i j then some (.int (i ^ j.toNat)) else none
theorem jj:OpD X (aF .Sub) subD:=qj3 qmb
theorem Qu:OpD X (aF .Mult) mulD:=Y9 qj8
theorem J9:OpD X (aF .FloorDiv) yX:=Y9 qj7
theorem Zk:OpD X (aF .Mod) modD:=Y9 (C:=λ_ j=>0<j) ql8
theorem qfb:OpD X (aF .Pow) powD:=Y9 qma
noncomputable def leD:Ka->Ka->Option Ka:=iiD λi j=>some (.bool (decide (i<=j)))
noncomputable def gtD:Ka->Ka->Option Ka:=iiD λi j=>some (.bool (decide (j<i)))
theorem d_le:OpD X (au .LtE) leD:=qdA op_le
theorem d_gt:OpD X (au .Gt) gtD:=qdA op_gt
noncomputable def eqD (x y:Ka):Option Ka:=if K7 x=true/\K7 y=true then some (.bool (Ks x y)) else none
noncomputable def neD (x y:Ka):Option Ka:=if K7 x=true/\K7 y=true then some (.bool (!PyData.eqv x y)) else none
theorem d_eq (hr:Room k X.A):OpD X (au .Eq) eqD:=Yj (ql6 hr) λx y dx dy d H S Q m h1 h2 e q=>by
 unfold eqD at e
 split at e
 ·rename_i c;cases e;exact ⟨S,dx,dy,h1,h2,c.1,c.2,q _ H (Same.refl H) (.bool _)⟩
 ·cases e
theorem d_ne (hr:Room k X.A):OpD X (au .NotEq) neD:=Yj (ql9 hr) λx y dx dy d H S Q m h1 h2 e q=>by
 unfold neD at e
 split at e
 ·rename_i c;cases e;exact ⟨S,dx,dy,h1,h2,c.1,c.2,q _ H (Same.refl H) (.bool _)⟩
 ·cases e
noncomputable def negD:Ka->Option Ka
 | .int i=>some (.int (-i))
 | _=>none
theorem jB:UnD X (unaryOp .USub) negD:=λaa s σ H x v Q I rx ⟨S,dx,d,m,h1,e,q⟩=>qmY aa s σ H x v Q I rx (by
 cases h1<;>first|(cases e;exact ⟨_,rfl,q _ H (Same.refl H) (.int _)⟩)|cases e)
noncomputable def lenD:List Ka->Option Ka
 | [.list ds]=>some (.int ds.length)
 | [.tuple ds]=>some (.int ds.length)
 | _=>none
theorem QH:CallD X (.builtin "len") lenD:=λaa s σ H xs us Q I r ⟨S,ds,d,m,h1,e,q⟩=>qbZ aa s σ H xs us Q I r (by
 cases h1 with
 | nil=>cases e
 | cons a t =>
  cases t with
  | cons a' t'=>cases a<;>cases e
  | nil =>
   cases a with
   | list h t=>cases e;exact ⟨_,_,rfl,.inl h.sq,by rw [t.length];exact q _ H (Same.refl H) (.int _)⟩
   | tuple h t=>cases e;exact ⟨_,_,rfl,.inr h,by rw [t.length];exact q _ H (Same.refl H) (.int _)⟩
   | _=>cases e)
noncomputable def Yo:List Ka->Option Ka
 | [.list ds]=>some (.tuple ds)
 | [.tuple ds]=>some (.tuple ds)
 | _=>none
theorem WQ:CallD X (.type "tuple") Yo:=λaa s σ H xs us Q I r ⟨S,ds,d,m,h1,e,q⟩=>qa9 aa s σ H xs us Q I r (by
 cases h1 with
 | nil=>cases e
 | cons a t =>
  cases t with
  | cons a' t'=>cases a<;>cases e
  | nil =>
   cases a with
   | list h t=>cases e;exact ⟨_,_,rfl,.inl ⟨h.sq,λl hl=>q _ _ (Same.lay hl) (.tuple (SqT.of qY) (t.same (Same.lay hl)))⟩⟩
   | tuple h t=>cases e;exact ⟨_,_,rfl,.inr ⟨h,q _ H (Same.refl H) (.tuple h t)⟩⟩
   | _=>cases e)
noncomputable def qbB:List Ka->Option Ka
 | [.list ds]=>some (.list ds)
 | [.tuple ds]=>some (.list ds)
 | _=>none
theorem qg3:CallD X (.type "list") qbB:=λaa s σ H xs us Q I r ⟨S,ds,d,m,h1,e,q⟩=>qb0 aa s σ H xs us Q I r (by
 cases h1 with
 | nil=>cases e
 | cons a t =>
  cases t with
  | cons a' t'=>cases a<;>cases e
  | nil =>
   cases a with
   | list h t=>cases e;exact ⟨_,_,rfl,.inl h.sq,λl hl=>q _ _ (Same.lay hl) (.list (SqLS.new qY (m.free hl)) (t.same (Same.lay hl)))⟩
   | tuple h t=>cases e;exact ⟨_,_,rfl,.inr h,λl hl=>q _ _ (Same.lay hl) (.list (SqLS.new qY (m.free hl)) (t.same (Same.lay hl)))⟩
   | _=>cases e)
end
noncomputable def YF:Ka->Option Bool
 | .bool b=>some b
 | _=>none
noncomputable def tV (f:'&'):Rho->Option Bool:=λρ=>ob (f ρ) YF
noncomputable def tN (p:Rho->Option Bool):Rho->Option Bool:=λρ=>ob (p ρ) λb=>some (!b)
noncomputable def tA (p q:Rho->Option Bool):Rho->Option Bool:=λρ=>ob (p ρ) λc=>if c=true then q ρ else some false
noncomputable def tO (p q:Rho->Option Bool):Rho->Option Bool:=λρ=>ob (p ρ) λc=>if c=true then some true else q ρ
noncomputable def tT:Rho->Option Bool:=λ_=>some true
noncomputable def vA (fa fb:'&'):Rho->Option Ka:=λρ=>ob (fa ρ) λx=>ob (YF x) λc=>if c=true then fb ρ else some (.bool false)
noncomputable def vN (fa:'&'):Rho->Option Ka:=λρ=>ob (fa ρ) λx=>ob (YF x) λc=>some (.bool (!c))
noncomputable def vIf (p:Rho->Option Bool)(fa fb:'&'):Rho->Option Ka:=λρ=>ob (p ρ) λx=>if x=true then fa ρ else fb ρ
noncomputable def evI (f:'&')(h:Ka->Option (List Ka)):Rho->Option (List Ka):=λρ=>ob (f ρ) h
noncomputable def evR (fs:Rho->Option (List Ka))(h:List Ka->Option (List Ka)):Rho->Option (List Ka):=λρ=>ob (fs ρ) h
noncomputable def sN:Rho->Option Out:=λρ=>some (.nx ρ)
noncomputable def sRet (f:'&'):Rho->Option Out:=λρ=>ob (f ρ) λd=>some (.rt d)
noncomputable def sIf (p:Rho->Option Bool)(u w:Rho->Option Out):Rho->Option Out:=λρ=>ob (p ρ) λb=>if b=true then u ρ else w ρ
noncomputable def sSet (i:Nat)(f:'&'):Rho->Option Out:=λρ=>ob (f ρ) λd=>some (.nx (ρ.set i (some d)))
noncomputable def sAsg (f:'&')(g:Ka->Rho->Option Rho):Rho->Option Out:=λρ=>ob (f ρ) λd=>ob (g d ρ) λρ'=>some (.nx ρ')
noncomputable def gNm (i:Nat):Ka->Rho->Option Rho:=λd ρ=>some (ρ.set i (some d))
noncomputable def gsN:List Ka->Rho->Option Rho:=λds ρ=>match ds with | []=>some ρ|_=>none
noncomputable def gsC (g1:Ka->Rho->Option Rho)(g2:List Ka->Rho->Option Rho):List Ka->Rho->Option Rho:=λds ρ=>match ds with | d::r=>ob (g1 d ρ) λρ'=>g2 r ρ'|[]=>none
noncomputable def sBk:Rho->Option Out:=λρ=>some (.bk ρ)
noncomputable def sCt:Rho->Option Out:=λρ=>some (.ct ρ)
section
variable {X:Cx}{M:List Nat}{a b c:KD}{es rest:List KD}{f g fa fb:'&'}{p q:Rho->Option Bool}{pos:Pos}
theorem ZR {d:Ka}{b:Bool}(h:YF d=some b):d=.bool b:=by cases d<;>first|(cases h;rfl)|cases h
theorem ZG (h:PD X M a f)(he:∀ whole,isTrue a X.env whole=(do let v ← whole;bG a.pos;holding [v] (truthy v)):=by intro _;rfl):PDT X M a (tV f) :=
 (qmv h he).weak λσ H Q ⟨S,ρ,d,hs,e,q⟩=>by
  obtain ⟨x,e1,e⟩:=qd e
  cases ZR e
  exact ⟨S,ρ,_,hs,e1,λv H1 g1 d1=>⟨d,d1.bool_inv,q H1 g1⟩⟩
theorem qU {op:CmpOp}{g:Ka->Ka->Option Ka}(ho:OpD X (au op) g)(ha:PD X M a fa)(hb:PD X M b fb)(hm:aW op b=false):PDT X M (.Compare a [op] [b] pos) (tV (ev2 fa fb g)) :=
 (qko ho ha hb hm).weak λσ H Q ⟨S,ρ,d,hs,e,q⟩=>by
  obtain ⟨x,e1,e⟩:=qd e
  cases ZR e
  exact tD2 σ H _ ⟨S,ρ,_,hs,e1,λv H1 g1 d1=>⟨d,d1.bool_inv,q H1 g1⟩⟩
theorem Zb (h:PDT X M a p):PDT X M (.UnaryOp .Not a pos) (tN p) :=
 (qmu h).weak λσ H Q ⟨S,ρ,d,hs,e,q⟩=>by
  obtain ⟨x,e1,e⟩:=qd e
  cases e
  exact ⟨S,ρ,x,hs,e1,λH1 g1=>q H1 g1⟩
def PDW (X:Cx)(M:List Nat)(e:KD)(f:Rho->Option Bool):Prop:=PW X e (tDT X.K M f)
theorem PDW.pdt (h:PDW X M a p):PDT X M a p:=PW.pt h
theorem qdL (h:PDT X M a p):PDW X M (.BoolOp .And [a] pos) p:=qks h
theorem jq (h:PDT X M a p):PDW X M (.BoolOp .Or [a] pos) p:=qmx h
theorem qcB (ha:PDT X M a p)(hb:PDW X M (.BoolOp .And (b::rest) pos) q):PDW X M (.BoolOp .And (a::b::rest) pos) (tA p q) :=
 (qmw ha hb).weak λσ H Q ⟨S,ρ,d,hs,e,w⟩=>by
  obtain ⟨x,e1,e⟩:=qd e
  refine ⟨S,ρ,x,hs,e1,λH1 g1=>?_⟩
  cases x with
  | true=>exact iteT ⟨S,ρ,d,hs.same g1,e,λH2 g2=>w H2 (g1.trans g2)⟩
  | false=>cases e;exact iteF (w H1 g1)
theorem jL (ha:PDT X M a p)(hb:PDW X M (.BoolOp .Or (b::rest) pos) q):PDW X M (.BoolOp .Or (a::b::rest) pos) (tO p q) :=
 (pw_or ha hb).weak λσ H Q ⟨S,ρ,d,hs,e,w⟩=>by
  obtain ⟨x,e1,e⟩:=qd e
  refine ⟨S,ρ,x,hs,e1,λH1 g1=>?_⟩
  cases x with
  | true=>cases e;exact iteT (w H1 g1)
  | false=>exact iteF ⟨S,ρ,d,hs.same g1,e,λH2 g2=>w H2 (g1.trans g2)⟩
theorem Wf {op}(h:PD X M a f):PD X M (.BoolOp op [a] pos) f:=qml h
theorem Wc (ha:PD X M a fa)(hb:PD X M (.BoolOp .And (b::rest) pos) fb):PD X M (.BoolOp .And (a::b::rest) pos) (vA fa fb) :=
 (qmg ha hb).weak λσ H Q ⟨S,ρ,d,hs,e,w⟩=>by
  obtain ⟨x,e1,e⟩:=qd e
  obtain ⟨c,e2,e⟩:=qd e
  cases ZR e2
  refine ⟨S,ρ,_,hs,e1,λv H1 g1 d1=>⟨c,d1.bool_inv,?_⟩⟩
  cases c with
  | true=>exact iteT ⟨S,ρ,d,hs.same g1,e,λv H2 g2 d2=>w v H2 (g1.trans g2) d2⟩
  | false=>cases e;exact iteF (w _ H1 g1 (.bool false))
theorem qig (ha:PD X M a fa):PD X M (.UnaryOp .Not a pos) (vN fa) :=
 (qmk ha).weak λσ H Q ⟨S,ρ,d,hs,e,w⟩=>by
  obtain ⟨x,e1,e⟩:=qd e
  obtain ⟨c,e2,e⟩:=qd e
  cases ZR e2
  cases e
  exact ⟨S,ρ,_,hs,e1,λv H1 g1 d1=>⟨c,d1.bool_inv,w _ H1 g1 (.bool _)⟩⟩
theorem qaQ (hc:PDT X M c p)(ha:PD X M a fa)(hb:PD X M b fb):PD X M (.IfExp c a b pos) (vIf p fa fb) :=
 (qim hc ha hb).weak λσ H Q ⟨S,ρ,d,hs,e,w⟩=>by
  obtain ⟨x,e1,e⟩:=qd e
  refine ⟨S,ρ,x,hs,e1,λH1 g1=>?_⟩
  cases x with
  | true=>exact iteT ⟨S,ρ,d,hs.same g1,e,λv H2 g2 d2=>w v H2 (g1.trans g2) d2⟩
  | false=>exact iteF ⟨S,ρ,d,hs.same g1,e,λv H2 g2 d2=>w v H2 (g1.trans g2) d2⟩
structure IsIt (K:Kb)(S:Av)(J:It)(H:Hp)(ds:'('):Prop where
 go:∀ (i:Nat) (H':Hp),Same H H'->i<ds.length->J.go i H'
 yld:∀ (i:Nat) (H':Hp) (x:V) (H2:Hp),Same H H'->J.yld i H' x H2->Same H' H2/\∀ d,ds[i]?=some d->∀ S':Av,(∀ y e,Den K H S y e->Den K H2 S' y e)->Den K H2 S' x d
 stop:∀ H':Hp,Same H H'->J.stop ds.length H'
theorem IsIt.lst {K:Kb}{H:Hp}{S:Av}{l:Ke}{xs:List V}{ds:'('}(h:SqL K H l xs)(t:DenL K H S xs ds):IsIt K S (Itl K l) H ds where
 go:=λi H' e hi=>by
  have hi':i<xs.length:=by rw [t.length];exact hi
  exact ⟨xs,xs[i],e.seq h,Kl hi'⟩
 yld:=λi H' x H2 e ⟨e2,q⟩=>⟨by rw [e2];exact Same.refl _,λd hd S' w=>by
  obtain ⟨v,h1,h2⟩:=t.get hd
  have:=q xs (e.seq h)
  rw [h1] at this
  cases this
  exact w _ _ h2⟩
 stop:=λH' e=>⟨xs,e.seq h,by rw [t.length];exact Kq _⟩
theorem IsIt.tup {K:Kb}{H:Hp}{S:Av}{l:Ke}{xs:List V}{ds:'('}(h:SqT K H l xs)(t:DenL K H S xs ds):IsIt K S (Itt K l) H ds where
 go:=λi H' e hi=>by
  have hi':i<xs.length:=by rw [t.length];exact hi
  exact ⟨xs,xs[i],e.sqT h,Kl hi'⟩
 yld:=λi H' x H2 e ⟨e2,q⟩=>⟨by rw [e2];exact Same.refl _,λd hd S' w=>by
  obtain ⟨v,h1,h2⟩:=t.get hd
  have:=q xs (e.sqT h)
  rw [h1] at this
  cases this
  exact w _ _ h2⟩
 stop:=λH' e=>⟨xs,e.sqT h,by rw [t.length];exact Kq _⟩
theorem SqLS.off {K:Kb}{H H':Hp}{S:Av}{a:Ke}{xs:List V}(e:Off S H H')(h:SqLS K H S a xs):SqLS K H' S a xs:=h.imp (λq=>⟨q.1.off e q.2,q.2⟩) id
theorem SqT.off {K:Kb}{H H':Hp}{S:Av}{a:Ke}{xs:List V}(m:Dm S H)(e:Off S H H')(h:SqT K H a xs):SqT K H' a xs:=h.imp (λq=>q.off e (m.tup q)) id
noncomputable def rngL:Int->Nat->List Ka
 | _,0=>[]
 | lo,n+1=>.int lo::rngL (lo+1) n
theorem yr:∀ (lo:Int) (n:Nat),(rngL lo n).length=n
 | _,0=>rfl
 | lo,n+1=>by rw [rngL,Kz,yr]
theorem qdZ:∀ (lo:Int) (n i:Nat) (d:Ka),(rngL lo n)[i]?=some d->d=.int (lo+i)
 | _,0,_,_,h=>by simp [rngL] at h
 | lo,n+1,0,d,h=>by simp [rngL] at h;subst h;simp
 | lo,n+1,i+1,d,h=>by
  have:=qdZ (lo+1) n i d (by simpa [rngL] using h)
  rw [this]
  congr 1
  omega
theorem IsIt.rng {K:Kb}{H:Hp}{S:Av}(lo:Int)(n:Nat):IsIt K S (Itr lo n) H (rngL lo n) where
 go:=λi H' e hi=>by rw [yr] at hi;exact hi
 yld:=λi H' x H2 e ⟨e2,q⟩=>⟨by rw [e2];exact Same.refl _,λd hd _ _=>by
  have q':x=.int (lo+i):=q
  rw [qdZ lo n i d hd,q']
  exact .int _⟩
 stop:=λH' e=>by rw [yr];exact Kq n
noncomputable def tDI (K:Kb)(M:List Nat)(f:Rho->Option (List Ka)):TI:=λσ H R=>∃ S ρ ds,DenS K H S M σ ρ/\f ρ=some ds/\∀ J H',Same H H'->(∀ H2,Off S H' H2->IsIt K S J H2 ds)->R J H'
def PDI (X:Cx)(M:List Nat)(tg iter:KD)(f:Rho->Option (List Ka)):Prop:=PI X tg iter (tDI X.K M f)
theorem PI.weak  (h:PI X tg e t) (w:∀ σ H R,t' σ H R->t σ H R):PI X tg e t':=λaa s σ H Q I q=>h aa s σ H Q I (w σ H Q q)
noncomputable def iSeq (K:Kb)(tl:TE):TI:=λσ H R=>tl σ H λx H1=>∃ a,x=.ref a/\(((∃ xs,SqL K H1 a xs)/\R (Itl K a) H1)\/((∃ xs,SqT K H1 a xs)/\R (Itt K a) H1))
theorem qmo (hl:PE X l tl):PI X tg l (iSeq X.K tl):=by
 intro aa s σ H R I h
 refine thn (hl aa s σ H _ I h) λv s1 ⟨x,H1,I1,r1,q1⟩=>?_
 obtain ⟨a,e,q1⟩:=q1
 subst e
 cases r1
 have fp:∀ b∈[s1.heap.objs.size],FpOk X aa H1 b:=λb hb=>by
  have e:b=s1.heap.objs.size:=by simpa using hb
  subst e
  exact I1.fpOk (Kq _) (I1.hok.fresh (Kq _))
 rcases q1 with ⟨⟨xs,hq⟩,q⟩|⟨⟨xs,hq⟩,q⟩
 ·obtain ⟨its,rv,p,hz⟩:=I1.list hq
  refine wpAny_pyIter_list p.isList ?_
  exact ⟨s1.heap.objs.size,[s1.heap.objs.size],_,_,H1,rfl,I1.kept (t':=s1.toks) λb o e=>Ki _ e,qgT a _,⟨_,Kv _ rfl,rfl,rfl⟩,fp,q⟩
 ·obtain ⟨its,rv,p,hz⟩:=I1.tuple hq
  refine Xt (show s1.heap.IsTuple a its.toArray from p) ?_
  exact ⟨s1.heap.objs.size,[s1.heap.objs.size],_,_,H1,rfl,I1.kept (t':=s1.toks) λb o e=>Ki _ e,qeQ a _,⟨_,Kv _ rfl,rfl,rfl⟩,fp,q⟩
noncomputable def seqD:Ka->Option (List Ka)
 | .list ds=>some ds
 | .tuple ds=>some ds
 | _=>none
theorem zP (h:PD X M a f):PDI X M tg a (evI f seqD) :=
 (qmo h).weak λσ H R ⟨S,ρ,ds,hs,e,w⟩=>by
  obtain ⟨x,e1,e⟩:=qd e
  refine ⟨S,ρ,x,hs,e1,λv H1 g1 d1=>?_⟩
  cases d1 with
  | list h t=>cases e;exact ⟨_,rfl,.inl ⟨⟨_,h.sq⟩,w _ _ g1 λH2 o=>IsIt.lst (h.off o).sq (t.off (hs.1.same g1) o)⟩⟩
  | tuple h t=>cases e;exact ⟨_,rfl,.inr ⟨⟨_,h⟩,w _ _ g1 λH2 o=>IsIt.tup (h.off (hs.1.same g1) o) (t.off (hs.1.same g1) o)⟩⟩
  | _=>cases e
noncomputable def Q0:List Ka->Option (List Ka)
 | [.int j]=>if -1000<=j/\j<=1000 then some (rngL 0 j.toNat) else none
 | _=>none
noncomputable def qdY:List Ka->Option (List Ka)
 | [.int i,.int j]=>if (-1000<=i/\i<=1000)/\(-1000<=j/\j<=1000) then some (rngL i (j-i).toNat) else none
 | _=>none
theorem jJ {tg:KD}{fs:Rho->Option (List Ka)}{p:Pos}(hg:Gl X "range")(hm:X.mg "range" = none)(ha:PDA X M [a] fs)(hs:af [a] X.env=[(false,eval a X.env)]:=by rfl):PDI X M tg (.Call (.Name "range" p) [a] [] pos) (evR fs Q0) :=
 (qbL hg hm ha hs).weak λσ H R ⟨S,ρ,ds,hs,e,w⟩=>by
  obtain ⟨xs,e1,e⟩:=qd e
  refine ⟨S,ρ,xs,hs,e1,λvs H1 g1 d1=>?_⟩
  unfold Q0 at e
  split at e
  ·rename_i j
   split at e
   ·rename_i hj
    cases e
    obtain ⟨v,rfl,q⟩:=d1.inv1
    cases q
    exact ⟨j,rfl,by omega,by omega,w _ _ g1 λ_ _=>IsIt.rng 0 _⟩
   ·cases e
  ·cases e
noncomputable def QR (tt:Rho->Option Bool)(te:'&')(ρ:Rho):List Ka->Option (List Ka)
 | []=>some []
 | d::ds=>ob (tt (ρ++[some d])) λb=>if b=true then ob (te (ρ++[some d])) λy=>ob (QR tt te ρ ds) λys=>some (y::ys) else QR tt te ρ ds
noncomputable def Zr (n:Nat)(fi:Rho->Option (List Ka))(tt:Rho->Option Bool)(te:'&')(ρ:Rho):Option Ka :=
 ob (fi ρ) λds=>if ρ.length=n/\ds.length<=1000 then ob (QR tt te ρ ds) λys=>some (.list ys) else none
def PDTs (X:Cx)(M:List Nat)(ifs:List KD)(p:Rho->Option Bool):Prop:=PTs X ifs (tDT X.K M p)
theorem Qk:PDTs X M [] tT:=λaa s σ H Q I ⟨S,ρ,b,hs,e,q⟩=>by
 cases e
 exact qkp aa s σ H Q I (q H (Same.refl H))
theorem qaS (h:PDT X M c p):PDTs X M [c] p:=qkq h
noncomputable def lc1 (sc:Ua)(x:Str):Bool:=decide (sc.names.lookup x=some .local)||decide (sc.names.lookup x=some .cell)
theorem wD {env:Env}:∀ {names:List (Str×NameKind)} {x:Str},names.lookup x=some .cell->
  (names.map λ(n,k)=>if (k==Vq&&env.scope.kind==.function&&env.kindOf n==some .cell) then (n,VZ) else (n,k)).lookup x=some .cell
 | [],_,h=>by simp at h
 | (n,k)::r,x,h=>by
  have ih:=@wD env r x
  show NV x ((if (k==Vq&&env.scope.kind==.function&&env.kindOf n==some .cell)=true then (n,VZ) else (n,k))::_)=_
  rw [Vr] at h
  by_cases hx:(x==n)=true
  ·rw [hx] at h;cases h
   split<;>rw [Vr,hx]
  ·rw [Eg.mpr hx] at h
   split<;>rw [Vr,Eg.mpr hx]<;>exact ih h
noncomputable def tDGc (K:Kb)(M:List Nat)(g:Ka->Rho->Option Rho):TG:=λv σ H Q=>∃ S ρ d ρ',DenS K H S M σ ρ/\Den K H S v d/\g d ρ=some ρ'/\∀ σ' H',Same H H'->DenS K H' S M σ' ρ'->Q σ' H'
noncomputable def tDGcs (K:Kb)(M:List Nat)(g:List Ka->Rho->Option Rho):TGs:=λvs σ H Q=>∃ S ρ ds ρ',DenS K H S M σ ρ/\DenL K H S vs ds/\g ds ρ=some ρ'/\∀ σ' H',Same H H'->DenS K H' S M σ' ρ'->Q σ' H'
def PDGc (X:Cx)(M:List Nat)(t:KD)(g:Ka->Rho->Option Rho):Prop:=PG X t (tDGc X.K M g)
def qeU (X:Cx)(M:List Nat)(t:List KD)(g:List Ka->Rho->Option Rho):Prop:=PGs X t (tDGcs X.K M g)
theorem PG.weak  (h:PG X e t) (w:∀ v σ H Q,t' v σ H Q->t v σ H Q):PG X e t':=λaa s σ H v u Q I r q=>h aa s σ H v u Q I r (w v σ H Q q)
theorem PGs.weak  (h:PGs X e t) (w:∀ v σ H Q,t' v σ H Q->t v σ H Q):PGs X e t':=λaa s σ H v u Q I r q=>h aa s σ H v u Q I r (w v σ H Q q)
noncomputable def unpD (n:Nat)(g:List Ka->Rho->Option Rho):Ka->Rho->Option Rho
 | .tuple ds,ρ=>if ds.length=n then g ds ρ else none
 | _,_=>none
theorem qbG (i:Nat)(hN:X.N.Nodup)(hx:Loc X.env.scope x)(hi:X.N[i]?=some x)(hf:X.fn x=true\/X.env.scope.names.lookup x=some .local):PDGc X M (.Name x pos) (gNm i) :=
 (qfH hN hi hx hf).weak λv σ H Q ⟨S,ρ,d,ρ',hs,hd,e,q⟩=>by
  cases e
  exact q _ H (Same.refl H) (hs.set hd i)
theorem qbH:qeU X M [] gsN :=
 qfI.weak λv σ H Q ⟨S,ρ,d,ρ',hs,hd,e,q⟩=>by
  cases hd with
  | nil=>cases e;exact ⟨rfl,q _ H (Same.refl H) hs⟩
  | cons a t=>cases e
theorem ZZ  (h1:PDGc X M t g1) (h2:qeU X M ts g2) (hs:(aB (t::ts) X.env).map (·.2)=assign t X.env::(aB ts X.env).map (·.2):=by rfl) :
  qeU X M (t::ts) (gsC g1 g2) :=
 (qdP h1 h2 hs).weak λv σ H Q ⟨S,ρ,d,ρ',hs,hd,e,q⟩=>by
  cases hd with
  | nil=>cases e
  | cons a t =>
   obtain ⟨ρ1,e1,e⟩:=qd e
   exact ⟨_,_,rfl,S,ρ,_,ρ1,hs,a,e1,λσ' H' g1 hs'=>⟨S,ρ1,_,ρ',hs',t.same g1,e,λσ2 H2 g2 hs2=>q σ2 H2 (g1.trans g2) hs2⟩⟩
theorem qdH {ts:List KD}{k:Nat}{n:Nat}{g:List Ka->Rho->Option Rho}(hc:X.calm=true)(h:qeU X M ts g)(hn:(aB ts X.env).length=n:=by rfl)(hst:(aB ts X.env).findIdx? (·.1)=none:=by rfl):PDGc X M (.Tuple ts k pos) (unpD n g) :=
 (qit hc h hn hst).weak λv σ H Q ⟨S,ρ,d,ρ',hs,hd,e,q⟩=>by
  cases hd with
  | @tuple a xs ds h t =>
   have e:(if ds.length=n then g ds ρ else none)=some ρ':=e
   split at e
   ·rename_i hl
    exact ⟨_,_,rfl,h,by rw [t.length];exact hl,S,ρ,_,ρ',hs,t,e,q⟩
   ·cases e
  | _=>cases e
def GIn (n k:Nat)(g:Ka->Rho->Option Rho):Prop:=∀ d (ρ r ρ1:Rho),ρ.length=n->r.length=k->g d (ρ++r)=some ρ1->∃ r',r'.length=k/\ρ1=ρ++r'
def GIns (n k:Nat)(g:List Ka->Rho->Option Rho):Prop:=∀ d (ρ r ρ1:Rho),ρ.length=n->r.length=k->g d (ρ++r)=some ρ1->∃ r',r'.length=k/\ρ1=ρ++r'
theorem Q9 (h:n<=i):GIn n k (gNm i):=λd ρ r ρ1 h1 h2 e=>by
 cases e
 refine ⟨r.set (i-n) (some d),by rw [VM];exact h2,?_⟩
 rw [ET _ _ '$',h1]
theorem qc9:GIns n k gsN:=λd ρ r ρ1 h1 h2 e=>by
 cases d with
 | nil=>cases e;exact ⟨r,h2,rfl⟩
 | cons _ _=>cases e
theorem ju  (a:GIn n k g1) (b:GIns n k g2):GIns n k (gsC g1 g2):=λd ρ r ρ1 h1 h2 e=>by
 cases d with
 | nil=>cases e
 | cons d ds =>
  obtain ⟨ρ2,e1,e2⟩:=qd e
  obtain ⟨r1,l1,rfl⟩:=a d ρ r ρ2 h1 h2 e1
  exact b ds ρ r1 ρ1 h1 l1 e2
theorem qfm {n k m:Nat}{g:List Ka->Rho->Option Rho}(a:GIns n k g):GIn n k (unpD m g):=λd ρ r ρ1 h1 h2 e=>by
 cases d with
 | tuple ds =>
  have e:(if ds.length=m then g ds (ρ++r) else none)=some ρ1:=e
  split at e
  ·exact a ds ρ r ρ1 h1 h2 e
  ·cases e
 | _=>cases e
noncomputable def Qx (k:Nat)(g:Ka->Rho->Option Rho)(tt:Rho->Option Bool)(te:'&')(ρ:Rho):List Ka->Option (List Ka)
 | []=>some []
 | d::ds=>ob (g d (ρ++Vf k none)) λρ1=>ob (tt ρ1) λb=>if b=true then ob (te ρ1) λy=>ob (Qx k g tt te ρ ds) λys=>some (y::ys) else Qx k g tt te ρ ds
noncomputable def ZL (n k:Nat)(fi:Rho->Option (List Ka))(g:Ka->Rho->Option Rho)(tt:Rho->Option Bool)(te:'&')(ρ:Rho):Option Ka :=
 ob (fi ρ) λds=>if ρ.length=n/\ds.length<=1000 then ob (Qx k g tt te ρ ds) λys=>some (.list ys) else none
theorem qak {ρ:Rho}(hn:ρ.length=n):∀ ds,Qx 1 (gNm n) tt te ρ ds=QR tt te ρ ds
 | []=>rfl
 | d::ds=>by
  have e:gNm n d (ρ++Vf 1 none)=some (ρ++[some d]):=by
   show some ((ρ++[none]).set n (some d))=_
   rw [← hn,ET _ _ (Kq _)]
   simp
  rw [Qx,QR,e]
  show (ob (tt (ρ++[some d])) λb=>_)=_
  rw [qak hn ds]
theorem qaj (n:Nat)(fi:Rho->Option (List Ka))(tt:Rho->Option Bool)(te:'&'):Zr n fi tt te=ZL n 1 fi (gNm n) tt te:=by
 funext ρ
 unfold Zr ZL
 cases fi ρ with
 | none=>rfl
 | some ds =>
  show (if ρ.length=n/\ds.length<=1000 then _ else none)=(if ρ.length=n/\ds.length<=1000 then _ else none)
  split
  ·rename_i h
   rw [qak h.1]
  ·rfl
theorem DenS.forget {K:Kb}{H:Hp}{S:Av}{σ:St}{ρ r':Rho}{k:Nat}(h:DenS K H S M σ (ρ++r'))(hk:r'.length=k):DenS K H S M σ (ρ++Vf k none):=by
 refine ⟨h.1,by rw [h.2.1,Km,Km,VE,hk],λi d hi e=>?_⟩
 by_cases hlt:i<ρ.length
 ·rw [KL hlt] at e
  exact h.2.2 i d hi (by rw [KL hlt];exact e)
 ·rw [Vb '$'] at e
  have:=Uu (a:=(none:Option Ka)) (n:=k) (i:=i-ρ.length)
  rw [this] at e
  split at e<;>cases e
theorem DenS.more {K:Kb}{H:Hp}{S:Av}{σ:St}{ρ:Rho}(k:Nat)(h:DenS K H S M σ ρ):DenS K H S M (σ++Vf k none) (ρ++Vf k none):=by
 refine ⟨h.1,by rw [Km,Km,h.2.1,VE,VE],λi d hi e=>?_⟩
 by_cases hlt:i<ρ.length
 ·rw [KL hlt] at e
  obtain ⟨v,a,b⟩:=h.2.2 i d hi e
  exact ⟨v,by rw [KL (by rw [h.2.1];exact hlt)];exact a,b⟩
 ·rw [Vb '$'] at e
  have:=Uu (a:=(none:Option Ka)) (n:=k) (i:=i-ρ.length)
  rw [this] at e
  split at e<;>cases e
theorem qfV {K:Kb}{n k:Nat}{fi:Rho->Option (List Ka)}{g:Ka->Rho->Option Rho}(hg:GIn n k g):∀ σ H Q S ρ ds ys,DenS K H S M σ ρ->fi ρ=some ds->ρ.length=n->ds.length<=1000->Qx k g p f ρ ds=some ys->(∀ H' zs,Same H H'->DenL K H' S zs ys->∀ D,H' D=none->Q (.ref D) (upd H' D (.lst zs)))->qbQ k (tDI K M fi) (tDGc K M g) (tDT K M p) (tD K M f) σ H Q:=by
 intro σ H Q S ρ ds ys hs e1 hn hz e2 q
 refine ⟨S,ρ,ds,hs,e1,λJ H1 g1 hJ0=>?_⟩
 have hJ:=hJ0 H1 λ_ _ _ z=>z
 have z1000:1000<ak:=zO (Kq _)
 refine ⟨λi m zs σ' H'=>m=ds.length-i/\i<=ds.length/\zs.length<=i/\Same H1 H'/\DenS K H' S M σ' (ρ++Vf k none)/\∃ pre rest,DenL K H' S zs pre/\Qx k g p f ρ (ds.drop i)=some rest/\pre++rest=ys,⟨ds.length,by simp,Vj _,Kq _,Same.refl _,(hs.same g1).more k,[],ys,.nil,e2,rfl⟩,?_⟩
 rintro i m zs σ' H' ⟨rfl,hi,hzi,g2,hS,pre,rest,dl,er,rfl⟩
 by_cases hlt:i<ds.length
 ·refine .inr ⟨hJ.go i H' g2 hlt,λx H2 y=>?_⟩
  obtain ⟨g2',yd⟩:=hJ.yld i H' x H2 g2 y
  have hd:=yd _ (Kl hlt) S λy e q=>q.same (g2.trans g2')
  rw [VT hlt] at er
  obtain ⟨ρ1,r1,er⟩:=qd er
  obtain ⟨bb,b1,er⟩:=qd er
  obtain ⟨r',hr',rfl⟩:=hg _ ρ _ ρ1 hn (VE) r1
  have g2:=g2.trans g2'
  have dl:=dl.same g2'
  refine ⟨S,_,_,_,hS.same g2',hd,r1,λσ3 H3 g3 hS3=>⟨S,_,bb,hS3,b1,λH4 g4=>?_⟩⟩
  cases bb with
  | true =>
   rw [ag rfl] at er
   obtain ⟨y1,e3,er⟩:=qd er
   obtain ⟨ys1,e4,er⟩:=qd er
   cases er
   refine iteT ⟨S,_,y1,hS3.same g4,e3,λv H5 g5 d5=>⟨by omega,ds.length-(i+1),by omega,rfl,hlt,by rw [Km,Ku];omega,g2.trans (g3.trans (g4.trans g5)),(hS3.same (g4.trans g5)).forget hr',pre++[y1],ys1,(dl.same (g3.trans (g4.trans g5))).snoc d5,e4,by simp⟩⟩
  | false =>
   rw [ah VI] at er
   exact iteF ⟨ds.length-(i+1),by omega,rfl,hlt,by omega,g2.trans (g3.trans g4),(hS3.same g4).forget hr',pre,rest,dl.same (g3.trans g4),er,rfl⟩
 ·have hi':i=ds.length:=by omega
  subst hi'
  rw [Nl] at er
  cases er
  refine .inl ⟨hJ.stop H' g2,λD hD=>q H' zs (g1.trans g2) (by rw [VL];exact dl) D hD⟩
theorem Yd {n k:Nat}{fi:Rho->Option (List Ka)}{g:Ka->Rho->Option Rho}{tt:Rho->Option Bool}{te:'&'}{ρ:Rho}{d:Ka}(e:ZL n k fi g tt te ρ=some d):∃ ds ys,fi ρ=some ds/\ρ.length=n/\ds.length<=1000/\Qx k g tt te ρ ds=some ys/\d=.list ys:=by
 obtain ⟨ds,e1,e⟩:=qd e
 split at e
 ·rename_i hc
  obtain ⟨ys,e2,e⟩:=qd e
  cases e
  exact ⟨ds,ys,e1,hc.1,hc.2,e2,rfl⟩
 ·cases e
theorem qmQ {K:Kb}{n k:Nat}{fi:Rho->Option (List Ka)}{g:Ka->Rho->Option Rho}(hg:GIn n k g):∀ σ H Q,tD K M (ZL n k fi g p f) σ H Q->qbQ k (tDI K M fi) (tDGc K M g) (tDT K M p) (tD K M f) σ H Q:=by
 intro σ H Q ⟨S,ρ,d,hs,e,q⟩
 obtain ⟨ds,ys,e1,hn,hz,e2,rfl⟩:=Yd e
 exact qfV hg σ H Q S ρ ds ys hs e1 hn hz e2 λH' zs g2 dl D hD=>q _ _ (g2.lay' hD) (.list (SqLS.new qY ((hs.1.same g2).free hD)) (dl.same (Same.lay hD)))
section
variable {elt iter tg:KD}{ifs:List KD}{x:Str}{N':List Str}{px:Pos}{sc:Ua}{n k:Nat}{fi:Rho->Option (List Ka)}{g:Ka->Rho->Option Rho}
theorem Z3 (O:CompOk X N' k sc)(hx:N'[i]?=some x)(hl:lc1 sc x=true)(cl:List (Str×Addr))(C:Ke)(fp:List Ke)(aa:List (Ke×Obj))(s:Kh)(H:Hp):PDGc (q9 X N' sc cl C fp aa s H) M (.Name x px) (gNm i) :=
 (Bool.or_eq_true_iff.mp hl).elim (λhl =>
  have hloc:(relabel sc X.env).names.lookup x=some .local:=lookup_relabel_local (ao hl)
  qbG (X:=q9 X N' sc cl C fp aa s H) i O.nd' (.inl hloc) hx (.inr hloc)) λhl =>
  have hloc:(relabel sc X.env).names.lookup x=some .cell:=wD (ao hl)
  qbG (X:=q9 X N' sc cl C fp aa s H) i O.nd' (.inr hloc) hx (.inl hl)
theorem qaP (O:CompOk X N' k sc)(gi:GIn n k g)(hi:PDI X M tg iter fi)(hg:∀ cl C fp aa s H,PDGc (q9 X N' sc cl C fp aa s H) M tg g)(hq:∀ cl C fp aa s H,PDTs (q9 X N' sc cl C fp aa s H) M ifs p)(he:∀ cl C fp aa s H,PD (q9 X N' sc cl C fp aa s H) M elt f)
  (hs:∀ v,az iter X.env v=pure v:=by intro _;rfl):PD X M (.ListComp elt [⟨tg,iter,ifs,0⟩] sc pos) (ZL n k fi g p f) :=
 (qkj (wg:=tDGc X.K M g) (tt:=tDT X.K M p) (te:=tD X.K M f) O hi hg hq he hs).weak (qmQ gi)
theorem ZD (O:CompOk X N' 1 sc)(hx:N'[n]?=some x)(hl:lc1 sc x=true)(hi:PDI X M (.Name x px) iter fi)(hq:∀ cl C fp aa s H,PDTs (q9 X N' sc cl C fp aa s H) M ifs p)(he:∀ cl C fp aa s H,PD (q9 X N' sc cl C fp aa s H) M elt f)
  (hs:∀ v,az iter X.env v=pure v:=by intro _;rfl):PD X M (.ListComp elt [⟨.Name x px,iter,ifs,0⟩] sc pos) (Zr n fi p f):=by
 rw [qaj]
 exact qaP O (Q9 (Kq _)) hi (Z3 O hx hl) hq he hs
end
end
structure Gm where
 H0:Hp
 S0:Av
 lk:Nat->Ke×PyData
noncomputable def insA (S:Av)(p:Ke):Av:=λa=>S a\/a=p
inductive OwnO (K:Kb)(H:Hp)(S:Av)(p:Ke):Ka->Prop
 | lst {xs:List V} {ds:'('}:H p=some (.lst xs)->DenL K H S xs ds->OwnO K H S p (.list ds)
 | dct {kvs:List (KX×Addr×V)} {ep:Nat} {ds:List Ka}:H p=some (DctO p kvs ep)->DenL K H S (kvs.map λp=>kxV p.1 p.2.1) (kvs.map λp=>kxD p.1)->DenL K H S (kvs.map (·.2.2)) ds->OwnO K H S p (.dict (dkv kvs ds))
section
variable {K:Kb}{H H':Hp}{S S':Av}{p:Ke}{d:Ka}
theorem OwnO.same (e:Same H H')(h:OwnO K H S p d):OwnO K H' S p d:=by
 cases h with
 | lst h t=>exact .lst (e _ _ h) (t.same e)
 | dct h k t=>exact .dct (e _ _ h) (k.same e) (t.same e)
theorem OwnO.sub (e:∀ a,H a≠none->S' a->S a)(h:OwnO K H S p d):OwnO K H S' p d:=by
 cases h with
 | lst h t=>exact .lst h (t.sub e)
 | dct h k t=>exact .dct h (k.sub e) (t.sub e)
theorem OwnO.mut (h:OwnO K H S p d):∃ o,H p=some o/\yf o=true:=by
 cases h with
 | lst h t=>exact ⟨_,h,rfl⟩
 | dct h k t=>exact ⟨_,h,rfl⟩
theorem OwnO.dom (h:OwnO K H S p d):H p≠none:=by
 obtain ⟨o,e,_⟩:=h.mut
 rw [e];exact λz=>nomatch z
theorem OwnO.den (h:OwnO K H S p d)(n:¬ S' p)(e:∀ a,H a≠none->S' a->S a):Den K H S' (.ref p) d:=by
 cases h with
 | lst h t=>exact .list (SqLS.new h n) (t.sub e)
 | dct h k t=>exact .dict ⟨h,n⟩ (k.sub e) (t.sub e)
theorem OwnO.upd (m:Dm S H)(h:OwnO K H S p d)(hq:S q)(hm:yf o=true)(ne:p≠q):OwnO K (upd H q o) S p d:=by
 have off:Off S H (L2.upd H q o):=λb u n e=>by
  rw [qW (λz=>n (by rw [z];exact hq))];exact e
 cases h with
 | lst h t=>exact .lst (by rw [qW ne];exact h) (t.off m off)
 | dct h k t=>exact .dct (by rw [qW ne];exact h) (k.off m off) (t.off m off)
theorem Dm.upd (m:Dm S H)(hm:yf o=true):Dm S (upd H q o):=λa ha=>by
 by_cases e:a=q
 ·subst e;exact ⟨o,qY,hm⟩
 ·rw [qW e];exact m a ha
theorem Dm.ins (m:Dm S H)(h:∃ o,H p=some o/\yf o=true):Dm (insA S p) H:=λa ha=>by
 rcases ha with ha|rfl
 ·exact m a ha
 ·exact h
end
inductive Kids (K:Kb)(H:Hp)(S:Av):List Ke->List Ka->Prop
 | nil:Kids K H S [] []
 | cons {q:Ke} {xs:List V} {es:'('} {qs:List Ke} {ds:'('}:H q=some (.lst xs)->DenL K H S xs es->q∉qs->Kids K H S qs ds->Kids K H S (q::qs) (.list es::ds)
inductive DeepO (K:Kb)(H:Hp)(S:Av):List Ke->Ke->Ka->Prop
 | tpl {p:Ke} {qs:List Ke} {ds:'('}:H p=some (.tup (qs.map V.ref))->Kids K H S qs ds->DeepO K H S qs p (.tuple ds)
 | lst {p:Ke} {qs:List Ke} {ds:'('}:H p=some (.lst (qs.map V.ref))->p∉qs->Kids K H S qs ds->DeepO K H S (p::qs) p (.list ds)
 | dct {p:Ke} {kvs:List (KX×Addr×V)} {ep:Nat} {qs:List Ke} {ds:List Ka}:H p=some (DctO p kvs ep)->DenL K H S (kvs.map λp=>kxV p.1 p.2.1) (kvs.map λp=>kxD p.1)->kvs.map (·.2.2)=qs.map V.ref->p∉qs->Kids K H S qs ds->DeepO K H S (p::qs) p (.dict (dkv kvs ds))
section
variable {K:Kb}{H H':Hp}{S S':Av}{p:Ke}{d:Ka}{fp qs:List Ke}{ds:'('}
theorem Kids.same (e:Same H H'):∀ {qs:List Ke} {ds:'('},Kids K H S qs ds->Kids K H' S qs ds
 | _,_,.nil=>.nil
 | _,_,.cons h t n r=>.cons (e _ _ h) (t.same e) n (r.same e)
theorem Kids.sub (e:∀ a,H a≠none->S' a->S a):∀ {qs:List Ke} {ds:'('},Kids K H S qs ds->Kids K H S' qs ds
 | _,_,.nil=>.nil
 | _,_,.cons h t n r=>.cons h (t.sub e) n (r.sub e)
theorem Kids.mut:∀ {qs:List Ke} {ds:'('},Kids K H S qs ds->∀ q∈qs,∃ o,H q=some o/\yf o=true
 | _,_,.nil,q,hq=>absurd hq (by simp)
 | _,_,.cons h t n r,q,hq=>by
  rcases Kr.mp hq with e|hq
  ·rw [e];exact ⟨_,h,rfl⟩
  ·exact r.mut q hq
theorem Kids.den (e:∀ a,H a≠none->S' a->S a):∀ {qs:List Ke} {ds:'('},(∀ q∈qs,¬ S' q)->Kids K H S qs ds->DenL K H S' (qs.map V.ref) ds
 | _,_,_,.nil=>.nil
 | _,_,n,.cons h t _ r=>.cons (.list (SqLS.new h (n _ (.head _))) (t.sub e)) (r.den e λq hq=>n q (.tail _ hq))
theorem Kids.upd (m:Dm S H)(hq:S q):∀ {qs:List Ke} {ds:'('},q∉qs->Kids K H S qs ds->Kids K (upd H q o) S qs ds
 | _,_,_,.nil=>.nil
 | _,_,n,.cons h t n' r=>.cons (by rw [qW (λz=>n (by rw [z];exact .head _))];exact h) (t.off m λb u z e=>by rw [qW (λy=>z (by rw [y];exact hq))];exact e) n' (r.upd m hq λz=>n (.tail _ z))
theorem DeepO.same (e:Same H H')(h:DeepO K H S fp p d):DeepO K H' S fp p d:=by
 cases h with
 | tpl h t=>exact .tpl (e _ _ h) (t.same e)
 | lst h n t=>exact .lst (e _ _ h) n (t.same e)
 | dct h k v n t=>exact .dct (e _ _ h) (k.same e) v n (t.same e)
theorem DeepO.sub (e:∀ a,H a≠none->S' a->S a)(h:DeepO K H S fp p d):DeepO K H S' fp p d:=by
 cases h with
 | tpl h t=>exact .tpl h (t.sub e)
 | lst h n t=>exact .lst h n (t.sub e)
 | dct h k v n t=>exact .dct h (k.sub e) v n (t.sub e)
theorem DeepO.mut (h:DeepO K H S fp p d):∀ q∈fp,∃ o,H q=some o/\yf o=true:=by
 cases h with
 | tpl h t=>exact t.mut
 | lst h n t=>exact λq hq=>(Kr.mp hq).elim (λe=>by rw [e];exact ⟨_,h,rfl⟩) (t.mut q)
 | dct h k v n t=>exact λq hq=>(Kr.mp hq).elim (λe=>by rw [e];exact ⟨_,h,rfl⟩) (t.mut q)
theorem DeepO.den (h:DeepO K H S fp p d)(n:∀ q∈fp,¬ S' q)(e:∀ a,H a≠none->S' a->S a):Den K H S' (.ref p) d:=by
 cases h with
 | tpl h t=>exact .tuple (.inl (.inl h)) (t.den e n)
 | lst h _ t=>exact .list (SqLS.new h (n _ (.head _))) (t.den e λq hq=>n q (.tail _ hq))
 | dct h k v _ t=>exact .dict ⟨h,n _ (.head _)⟩ (k.sub e) (by rw [v];exact t.den e λq hq=>n q (.tail _ hq))
theorem DeepO.upd (m:Dm S H)(h:DeepO K H S fp p d)(hq:S q)(ne:q∉fp):DeepO K (upd H q o) S fp p d:=by
 have off:Off S H (L2.upd H q o):=λb u n e=>by
  rw [qW (λz=>n (by rw [z];exact hq))];exact e
 cases h with
 | tpl h t=>exact .tpl (by rw [qW (λz=>m.tup (.inl h) (by rw [z];exact hq))];exact h) (t.upd m hq ne)
 | lst h n t=>exact .lst (by rw [qW (λz=>ne (by rw [z];exact .head _))];exact h) n (t.upd m hq λz=>ne (.tail _ z))
 | dct h k v n t=>exact .dct (by rw [qW (λz=>ne (by rw [z];exact .head _))];exact h) (k.off m off) v n (t.upd m hq λz=>ne (.tail _ z))
end
abbrev Flt (M:List Nat)(i:Nat):Prop:=i∈M/\i+1000∉M
abbrev Dp (M:List Nat)(i:Nat):Prop:=i∈M/\i+1000∈M
abbrev Out0 (M:List Nat)(i:Nat):Prop:=i∉M/\i+1000∉M/\i<1000
structure SubM (A B:List Nat):Prop where
 sub:∀ i∈A,i∈B
 dp:∀ i∈A,i+1000∈B->i+1000∈A
theorem SubM.flt (h:SubM A B)(q:Flt A i):Flt B i:=⟨h.sub i q.1,λz=>q.2 (h.dp i q.1 z)⟩
theorem SubM.deep (h:SubM A B)(q:Dp A i):Dp B i:=⟨h.sub i q.1,h.sub _ q.2⟩
def Has (ρ:Rho)(i:Nat):Prop:=∃ d:Ka,ρ[i]?=some (some d)
structure DeepF (K:Kb)(G:Gm)(M:List Nat)(H:Hp)(S:Av)(σ:St)(ρ:Rho)(F:Nat->List Ke):Prop where
 own:∀ i,Dp M i->∀ d,ρ[i]?=some (some d)->∃ p,σ[i]?=some (some (.ref p))/\DeepO K H S (F i) p d/\∀ q∈F i,S q/\¬ G.S0 q/\G.H0 q=none
 disj:∀ i,Dp M i->∀ j,Dp M j->Has ρ i->Has ρ j->∀ q,q∈F i->q∈F j->i=j
 flat:∀ i,Flt M i->∀ j,Dp M j->Has ρ i->Has ρ j->∀ p,σ[i]?=some (some (.ref p))->p∉F j
structure OwnS (K:Kb)(G:Gm)(M L:List Nat)(H:Hp)(S:Av)(σ:St)(ρ:Rho):Prop where
 ds:DenS K H S M σ ρ
 s0:∀ a,G.S0 a->S a
 h0:Same G.H0 H
 own:∀ i,Flt M i->∀ d,ρ[i]?=some (some d)->∃ p,σ[i]?=some (some (.ref p))/\OwnO K H S p d/\S p/\¬ G.S0 p/\(i∉L->G.H0 p=none)/\(i∈L->(p,d)=G.lk i)
 apart:∀ i,Flt M i->∀ j,Flt M j->∀ d e p,ρ[i]?=some (some d)->ρ[j]?=some (some e)->σ[i]?=some (some (.ref p))->σ[j]?=some (some (.ref p))->i=j
 bnd:∀ a,S a->G.S0 a\/G.H0 a=none\/∃ i∈L,a=(G.lk i).1
 lkd:∀ i∈L,Flt M i/\ρ[i]?=some (some (G.lk i).2)
 deep:∃ F,DeepF K G M H S σ ρ F
section
variable {K:Kb}{G:Gm}{M M' L:List Nat}{H H':Hp}{S:Av}{σ:St}{ρ:Rho}{v:V}{d:Ka}
theorem OwnS.same (e:Same H H')(h:OwnS K G M L H S σ ρ):OwnS K G M L H' S σ ρ :=
 ⟨h.ds.same e,h.s0,h.h0.trans e,λi hi d q=>let ⟨p,a,b,c⟩:=h.own i hi d q;⟨p,a,b.same e,c⟩,h.apart,h.bnd,h.lkd,let ⟨F,f⟩:=h.deep;⟨F,λi hi d q=>let ⟨p,a,b,c⟩:=f.own i hi d q;⟨p,a,b.same e,c⟩,f.disj,f.flat⟩⟩
theorem OwnS.lks (h:OwnS K G M L H S σ ρ):∀ i∈L,S (G.lk i).1:=λi hi=>by
 obtain ⟨hm,e⟩:=h.lkd i hi
 obtain ⟨p,_,_,c,_,_,w⟩:=h.own i hm _ e
 rw [← w hi];exact c
theorem OwnS.den (h:OwnS K G M L H S σ ρ):DenS K H G.S0 [] σ ρ:=by
 refine ⟨h.ds.1.sub h.s0,h.ds.2.1,λi d _ q=>?_⟩
 by_cases hi:i∈M
 ·by_cases hk:i+1000∈M
  ·obtain ⟨F,f⟩:=h.deep
   obtain ⟨p,a,b,c⟩:=f.own i ⟨hi,hk⟩ d q
   exact ⟨_,a,b.den (λq hq=>(c q hq).2.1) λa _ z=>h.s0 a z⟩
  ·obtain ⟨p,a,b,c,n,_⟩:=h.own i ⟨hi,hk⟩ d q
   exact ⟨_,a,b.den n λa _ z=>h.s0 a z⟩
 ·obtain ⟨v,a,b⟩:=h.ds.2.2 i d hi q
  exact ⟨v,a,b.sub λa _ z=>h.s0 a z⟩
theorem qx {α:Type}{xs:List α}{i j:Nat}{x:α}(h:i≠j):(xs.set i x)[j]?=xs[j]?:=VS h
theorem OwnS.set (h:OwnS K G M L H S σ ρ)(q:Den K H S v d){i:Nat}(hi:i∉M):OwnS K G M L H S (σ.set i (some v)) (ρ.set i (some d)):=by
 have ne:∀ j∈M,i≠j:=λj hj e=>hi (by rw [e];exact hj)
 obtain ⟨F,f⟩:=h.deep
 refine ⟨h.ds.set q i,h.s0,h.h0,λj hj e he=>?_,λj hj k hk e e' p h1 h2 h3 h4=>?_,h.bnd,λj hj=>⟨(h.lkd j hj).1,by rw [qx (ne j (h.lkd j hj).1.1)];exact (h.lkd j hj).2⟩,F,λj hj e he=>?_,λj hj k hk h1 h2=>?_,λj hj k hk h1 h2 p h3=>?_⟩
 ·rw [qx (ne j hj.1)] at he ⊢
  exact h.own j hj e he
 ·rw [qx (ne j hj.1)] at h1 h3
  rw [qx (ne k hk.1)] at h2 h4
  exact h.apart j hj k hk e e' p h1 h2 h3 h4
 ·rw [qx (ne j hj.1)] at he ⊢
  exact f.own j hj e he
 ·unfold Has at h1 h2
  rw [qx (ne j hj.1)] at h1
  rw [qx (ne k hk.1)] at h2
  exact f.disj j hj k hk h1 h2
 ·unfold Has at h1 h2
  rw [qx (ne j hj.1)] at h1 h3
  rw [qx (ne k hk.1)] at h2
  exact f.flat j hj k hk h1 h2 p h3
theorem OwnS.frz (h:OwnS K G M L H S σ ρ)(hs:SubM M' M)(hl:∀ i∈L,i∈M->i∈M'):∃ S',OwnS K G M' L H S' σ ρ:=by
 obtain ⟨F,f⟩:=h.deep
 have sb:∀ a,(S a/\(¬ ∃ i,Flt M i/\i∉M'/\Has ρ i/\σ[i]?=some (some (.ref a)))/\¬ ∃ i,Dp M i/\i∉M'/\Has ρ i/\a∈F i)->S a:=λa z=>z.1
 refine ⟨λa=>S a/\(¬ ∃ i,Flt M i/\i∉M'/\Has ρ i/\σ[i]?=some (some (.ref a)))/\¬ ∃ i,Dp M i/\i∉M'/\Has ρ i/\a∈F i,⟨?_,?_,?_⟩,?_,h.h0,?_,?_,?_,λi hi=>⟨⟨hl i hi (h.lkd i hi).1.1,λz=>(h.lkd i hi).1.2 (hs.sub _ z)⟩,(h.lkd i hi).2⟩,F,?_,?_,?_⟩
 ·exact h.ds.1.sub λa z=>z.1
 ·exact h.ds.2.1
 ·intro i d hi q
  by_cases hm:i∈M
  ·by_cases hk:i+1000∈M
   ·obtain ⟨p,a,b,c⟩:=f.own i ⟨hm,hk⟩ d q
    exact ⟨_,a,b.den (λr hr z=>z.2.2 ⟨i,⟨hm,hk⟩,hi,⟨d,q⟩,hr⟩) λa _ z=>z.1⟩
   ·obtain ⟨p,a,b,c,_⟩:=h.own i ⟨hm,hk⟩ d q
    exact ⟨_,a,b.den (λz=>z.2.1 ⟨i,⟨hm,hk⟩,hi,⟨d,q⟩,a⟩) λa _ z=>z.1⟩
  ·obtain ⟨v,a,b⟩:=h.ds.2.2 i d hm q
   exact ⟨v,a,b.sub λa _ z=>z.1⟩
 ·intro a ha
  refine ⟨h.s0 a ha,λ⟨i,hm,hi,⟨d,q⟩,e⟩=>?_,λ⟨i,hm,hi,⟨d,q⟩,e⟩=>?_⟩
  ·obtain ⟨p,e',b,c,n,_⟩:=h.own i hm d q
   rw [e] at e';cases e'
   exact n ha
  ·obtain ⟨p,e',b,c⟩:=f.own i hm d q
   exact (c a e).2.1 ha
 ·intro i hi d q
  obtain ⟨p,a,b,c,n,w,w'⟩:=h.own i (hs.flt hi) d q
  refine ⟨p,a,b.sub λa _ z=>z.1,⟨c,λ⟨j,hj,hj',⟨e,q'⟩,a'⟩=>?_,λ⟨j,hj,hj',q',a'⟩=>?_⟩,n,w,w'⟩
  ·have:=h.apart i (hs.flt hi) j hj d e p q q' a a'
   subst this
   exact hj' hi.1
  ·exact f.flat i (hs.flt hi) j hj ⟨d,q⟩ q' p a a'
 ·exact λi hi j hj=>h.apart i (hs.flt hi) j (hs.flt hj)
 ·exact λa z=>h.bnd a z.1
 ·intro i hi d q
  obtain ⟨p,a,b,c⟩:=f.own i (hs.deep hi) d q
  refine ⟨p,a,b.sub λa _ z=>z.1,λr hr=>⟨⟨(c r hr).1,λ⟨j,hj,hj',q',a'⟩=>?_,λ⟨j,hj,hj',q',a'⟩=>?_⟩,(c r hr).2⟩⟩
  ·exact f.flat j hj i (hs.deep hi) q' ⟨d,q⟩ r a' hr
  ·have:=f.disj i (hs.deep hi) j hj ⟨d,q⟩ q' r hr a'
   subst this
   exact hj' hi.1
 ·exact λi hi j hj=>f.disj i (hs.deep hi) j (hs.deep hj)
 ·exact λi hi j hj=>f.flat i (hs.flt hi) j (hs.deep hj)
theorem qlx (hi:Out0 M i)(hj:Flt M j):Flt (i::M) j:=⟨.tail _ hj.1,λz=>by rcases Kr.mp z with e|z;(have:=hi.2.2;omega);exact hj.2 z⟩
theorem wY (hj:Flt (i::M) j)(ne:i≠j):Flt M j:=⟨(Kr.mp hj.1).resolve_left λz=>ne z.symm,λz=>hj.2 (.tail _ z)⟩
theorem qfd (hi:Out0 M i)(hj:Dp (i::M) j):Dp M j:=by
 have q:j+1000∈M:=(Kr.mp hj.2).resolve_left λz=>by have:=hi.2.2;omega
 refine ⟨(Kr.mp hj.1).resolve_left λz=>hi.2.1 (by rw [← z];exact q),q⟩
theorem OwnS.take (h:OwnS K G M L H S σ ρ){p:Ke}{i:Nat}(hn:H p=none)(e:Same H H')(o:OwnO K H' (insA S p) p d)(hi:Out0 M i)(hl:i∉L)(hz:i<ρ.length):OwnS K G (i::M) L H' (insA S p) (σ.set i (some (.ref p))) (ρ.set i (some d)):=by
 have np:¬ S p:=h.ds.1.free hn
 have sub:∀ a,H a≠none->insA S p a->S a:=λa ha z=>by
  rcases z with z|rfl
  ·exact z
  ·exact absurd hn ha
 have ne:∀ j∈M,i≠j:=λj hj e=>hi.1 (by rw [e];exact hj)
 have hz':i<σ.length:=by rw [h.ds.2.1];exact hz
 have gi:(ρ.set i (some d))[i]?=some (some d):=Vd hz
 have gi':(σ.set i (some (.ref p)))[i]?=some (some (.ref p)):=Vd hz'
 obtain ⟨F,f⟩:=h.deep
 refine ⟨⟨(h.ds.1.same e).ins o.mut,by rw [VM,VM];exact h.ds.2.1,λj d' hj q=>?_⟩,λa z=>.inl (h.s0 a z),h.h0.trans e,λj hj d' q=>?_,λj hj k hk d1 d2 q h1 h2 h3 h4=>?_,λa z=>?_,λj hj=>⟨qlx hi (h.lkd j hj).1,by rw [qx (λz=>hl (by rw [z];exact hj))];exact (h.lkd j hj).2⟩,
  F,λj hj d' q=>?_,λj hj k hk h1 h2=>?_,λj hj k hk h1 h2 r h3=>?_⟩
 ·have hij:i≠j:=λz=>hj (by rw [z];exact .head _)
  rw [qx hij] at q ⊢
  obtain ⟨v,a,b⟩:=h.ds.2.2 j d' (λz=>hj (.tail _ z)) q
  exact ⟨v,a,(b.sub sub).same e⟩
 ·by_cases hij:i=j
  ·subst hij
   rw [gi] at q;cases q
   exact ⟨p,gi',o,.inr rfl,λz=>np (h.s0 p z),λ_=>h.h0.free hn,λz=>absurd z hl⟩
  ·rw [qx hij] at q ⊢
   obtain ⟨q',a,b,c,n,w⟩:=h.own j (wY hj hij) d' q
   exact ⟨q',a,(b.sub sub).same e,.inl c,n,w⟩
 ·have key:∀ m,Flt M m->∀ (d':Ka) (q:Ke),(ρ.set i (some d))[m]?=some (some d')->(σ.set i (some (.ref p)))[m]?=some (some (.ref q))->q≠p:=λm hm d' q e1 e2 z=>by
   rw [qx (ne m hm.1)] at e1 e2
   obtain ⟨q',a,b,_⟩:=h.own m hm d' e1
   rw [e2] at a;cases a
   subst z
   exact b.dom hn
  by_cases ej:i=j
  ·by_cases ek:i=k
   ·rw [← ej,← ek]
   ·rw [← ej,gi'] at h3
    cases h3
    exact absurd rfl (key k (wY hk ek) d2 p h2 h4)
  ·by_cases ek:i=k
   ·rw [← ek,gi'] at h4
    cases h4
    exact absurd rfl (key j (wY hj ej) d1 p h1 h3)
   ·rw [qx ej] at h1 h3
    rw [qx ek] at h2 h4
    exact h.apart j (wY hj ej) k (wY hk ek) d1 d2 q h1 h2 h3 h4
 ·rcases z with z|rfl
  ·exact h.bnd a z
  ·exact .inr (.inl (h.h0.free hn))
 ·have hj':=qfd hi hj
  rw [qx (ne j hj'.1)] at q ⊢
  obtain ⟨q',a,b,c⟩:=f.own j hj' d' q
  exact ⟨q',a,(b.sub sub).same e,λr hr=>⟨.inl (c r hr).1,(c r hr).2⟩⟩
 ·have hj':=qfd hi hj
  have hk':=qfd hi hk
  unfold Has at h1 h2
  rw [qx (ne j hj'.1)] at h1
  rw [qx (ne k hk'.1)] at h2
  exact f.disj j hj' k hk' h1 h2
 ·have hk':=qfd hi hk
  unfold Has at h1 h2
  rw [qx (ne k hk'.1)] at h2
  by_cases ej:i=j
  ·rw [← ej,gi'] at h3
   cases h3
   obtain ⟨d2,e2⟩:=h2
   obtain ⟨q',a,b,c⟩:=f.own k hk' d2 e2
   intro z
   obtain ⟨o2,z2,_⟩:=b.mut p z
   rw [hn] at z2;cases z2
  ·rw [qx ej] at h1 h3
   exact f.flat j (wY hj ej) k hk' h1 h2 r h3
noncomputable def insL (S:Av)(fp:List Ke):Av:=λa=>S a\/a∈fp
theorem Dm.insL (m:Dm S H)(h:∀ q∈fp,∃ o,H q=some o/\yf o=true):Dm (insL S fp) H:=λa ha=>by
 rcases ha with ha|ha
 ·exact m a ha
 ·exact h a ha
theorem qiZ (hj:j∈i::(i+1000)::M)(ne:i≠j)(n2:j≠i+1000):j∈M:=(Kr.mp ((Kr.mp hj).resolve_left λz=>ne z.symm)).resolve_left n2
theorem W4 (hj:Flt (i::(i+1000)::M) j)(n2:j≠i+1000):i≠j/\Flt M j:=by
 have ne:i≠j:=λz=>hj.2 (by rw [← z];exact .tail _ (.head _))
 exact ⟨ne,qiZ hj.1 ne n2,λz=>hj.2 (.tail _ (.tail _ z))⟩
theorem qeR (hi:i<1000)(hj:Dp (i::(i+1000)::M) j)(ne:i≠j)(n2:j≠i+1000):Dp M j:=by
 refine ⟨qiZ hj.1 ne n2,?_⟩
 rcases Kr.mp hj.2 with z|z
 ·omega
 ·rcases Kr.mp z with z|z
  ·omega
  ·exact z
theorem qmX (hi:i<1000)(hj:Flt M j)(ne:i≠j):Flt (i::(i+1000)::M) j:=⟨.tail _ (.tail _ hj.1),λz=>by
 rcases Kr.mp z with z|z
 ·omega
 ·rcases Kr.mp z with z|z
  ·omega
  ·exact hj.2 z⟩
theorem qlA (h:Has ρ i):i<ρ.length:=by
 obtain ⟨d,e⟩:=h
 exact (Kk.mp e).1
theorem OwnS.takeD (h:OwnS K G M L H S σ ρ){p:Ke}{fp:List Ke}{i:Nat}(hn:∀ q∈fp,H q=none)(e:Same H H')(o:DeepO K H' (insL S fp) fp p d)(hi:Out0 M i)(hl:i∉L)(hz:i<ρ.length)(hz2:ρ.length<=1000) :
  OwnS K G (i::(i+1000)::M) L H' (insL S fp) (σ.set i (some (.ref p))) (ρ.set i (some d)):=by
 have sub:∀ a,H a≠none->insL S fp a->S a:=λa ha z=>by
  rcases z with z|z
  ·exact z
  ·exact absurd (hn a z) ha
 have hz':i<σ.length:=by rw [h.ds.2.1];exact hz
 have gi:(ρ.set i (some d))[i]?=some (some d):=Vd hz
 have gi':(σ.set i (some (.ref p)))[i]?=some (some (.ref p)):=Vd hz'
 have n2:∀ j,Has (ρ.set i (some d)) j->j≠i+1000:=λj hj=>by
  have:=qlA hj
  rw [VM] at this
  omega
 obtain ⟨F,f⟩:=h.deep
 have fne:∀ j,j≠i->(if j=i then fp else F j)=F j:=λj hj=>ah hj
 refine ⟨⟨(h.ds.1.same e).insL o.mut,by rw [VM,VM];exact h.ds.2.1,λj d' hj q=>?_⟩,λa z=>.inl (h.s0 a z),h.h0.trans e,λj hj d' q=>?_,λj hj k hk d1 d2 q h1 h2 h3 h4=>?_,λa z=>?_,λj hj=>?_,
  λj=>if j=i then fp else F j,λj hj d' q=>?_,λj hj k hk h1 h2=>?_,λj hj k hk h1 h2 r h3=>?_⟩
 ·have hij:i≠j:=λz=>hj (by rw [z];exact .head _)
  rw [qx hij] at q ⊢
  obtain ⟨v,a,b⟩:=h.ds.2.2 j d' (λz=>hj (.tail _ (.tail _ z))) q
  exact ⟨v,a,(b.sub sub).same e⟩
 ·obtain ⟨hij,hj'⟩:=W4 hj (n2 j ⟨d',q⟩)
  rw [qx hij] at q ⊢
  obtain ⟨q',a,b,c,n,w⟩:=h.own j hj' d' q
  exact ⟨q',a,(b.sub sub).same e,.inl c,n,w⟩
 ·obtain ⟨ej,hj'⟩:=W4 hj (n2 j ⟨d1,h1⟩)
  obtain ⟨ek,hk'⟩:=W4 hk (n2 k ⟨d2,h2⟩)
  rw [qx ej] at h1 h3
  rw [qx ek] at h2 h4
  exact h.apart j hj' k hk' d1 d2 q h1 h2 h3 h4
 ·rcases z with z|z
  ·exact h.bnd a z
  ·exact .inr (.inl (h.h0.free (hn a z)))
 ·have ne:i≠j:=λz=>hl (by rw [z];exact hj)
  exact ⟨qmX hi.2.2 (h.lkd j hj).1 ne,by rw [qx ne];exact (h.lkd j hj).2⟩
 ·by_cases hij:i=j
  ·subst hij
   rw [gi] at q;cases q
   rw [ag rfl]
   exact ⟨p,gi',o,λr hr=>⟨.inr hr,λz=>h.ds.1.free (hn r hr) (h.s0 r z),h.h0.free (hn r hr)⟩⟩
  ·rw [fne j (Ul hij)]
   have hj':=qeR hi.2.2 hj hij (n2 j ⟨d',q⟩)
   rw [qx hij] at q ⊢
   obtain ⟨q',a,b,c⟩:=f.own j hj' d' q
   exact ⟨q',a,(b.sub sub).same e,λr hr=>⟨.inl (c r hr).1,(c r hr).2⟩⟩
 ·have old:∀ j,i≠j->Dp (i::(i+1000)::M) j->Has (ρ.set i (some d)) j->Has ρ j/\Dp M j/\∀ r∈F j,r∉fp:=λj ne hj h1=>by
   have hj':=qeR hi.2.2 hj ne (n2 j h1)
   unfold Has at h1
   rw [qx ne] at h1
   refine ⟨h1,hj',λr hr z=>?_⟩
   obtain ⟨d2,e2⟩:=h1
   obtain ⟨q',a,b,c⟩:=f.own j hj' d2 e2
   obtain ⟨o2,z2,_⟩:=b.mut r hr
   rw [hn r z] at z2;cases z2
  intro r hr hr'
  by_cases ej:i=j
  ·by_cases ek:i=k
   ·rw [← ej,← ek]
   ·rw [ag ej.symm] at hr
    rw [fne k (Ul ek)] at hr'
    exact absurd hr ((old k ek hk h2).2.2 r hr')
  ·rw [fne j (Ul ej)] at hr
   by_cases ek:i=k
   ·rw [ag ek.symm] at hr'
    exact absurd hr' ((old j ej hj h1).2.2 r hr)
   ·rw [fne k (Ul ek)] at hr'
    exact f.disj j (old j ej hj h1).2.1 k (old k ek hk h2).2.1 (old j ej hj h1).1 (old k ek hk h2).1 r hr hr'
 ·obtain ⟨ej,hj'⟩:=W4 hj (n2 j h1)
  obtain ⟨d1,e1⟩:=h1
  rw [qx ej] at e1 h3
  by_cases ek:i=k
  ·rw [ag ek.symm]
   intro z
   obtain ⟨q',a,b,c⟩:=h.own j hj' d1 e1
   rw [h3] at a;cases a
   exact b.dom (hn _ z)
  ·rw [fne k (Ul ek)]
   have hk':=qeR hi.2.2 hk ek (n2 k h2)
   unfold Has at h2
   rw [qx ek] at h2
   exact f.flat j hj' k hk' ⟨d1,e1⟩ h2 r h3
theorem OwnS.write (h:OwnS K G M L H S σ ρ){p:Ke}{i:Nat}{o:HO}{d₀:Ka}(hi:Flt M i)(hl:i∉L)(e0:ρ[i]?=some (some d₀))(e1:σ[i]?=some (some (.ref p)))(hm:yf o=true)(ow:OwnO K (upd H p o) S p d):OwnS K G M L (upd H p o) S σ (ρ.set i (some d)):=by
 obtain ⟨p',a,b,c,n,w,_⟩:=h.own i hi d₀ e0
 rw [e1] at a;cases a
 have off:Off S H (upd H p o):=λb u z e=>by
  rw [qW (λy=>z (by rw [y];exact c))];exact e
 have hz:i<ρ.length:=(Kk.mp e0).1
 have get:∀ m d',(ρ.set i (some d))[m]?=some (some d')->∃ d'',ρ[m]?=some (some d''):=λm d' q=>by
  by_cases him:i=m
  ·subst him;exact ⟨_,e0⟩
  ·rw [qx him] at q;exact ⟨_,q⟩
 have get2:∀ m,Has (ρ.set i (some d)) m->Has ρ m:=λm ⟨d',q⟩=>get m d' q
 have dne:∀ j,Dp M j->i≠j:=λj hj z=>hi.2 (by rw [z];exact hj.2)
 obtain ⟨F,f⟩:=h.deep
 refine ⟨⟨h.ds.1.upd hm,by rw [VM];exact h.ds.2.1,λj d' hj q=>?_⟩,h.s0,λa u q=>?_,λj hj d' q=>?_,λj hj k hk d1 d2 q h1 h2 h3 h4=>?_,h.bnd,λj hj=>⟨(h.lkd j hj).1,by rw [qx (λz=>hl (by rw [z];exact hj))];exact (h.lkd j hj).2⟩,
  F,λj hj d' q=>?_,λj hj k hk h1 h2=>f.disj j hj k hk (get2 j h1) (get2 k h2),λj hj k hk h1 h2=>f.flat j hj k hk (get2 j h1) (get2 k h2)⟩
 ·have hij:i≠j:=λz=>hj (by rw [← z];exact hi.1)
  rw [qx hij] at q
  obtain ⟨v,a,b⟩:=h.ds.2.2 j d' hj q
  exact ⟨v,a,b.off h.ds.1 off⟩
 ·have:a≠p:=λz=>by subst z;rw [w hl] at q;cases q
  rw [qW this]
  exact h.h0 a u q
 ·by_cases hij:i=j
  ·subst hij
   rw [Vd hz] at q;cases q
   exact ⟨p,e1,ow,c,n,w,λz=>absurd z hl⟩
  ·rw [qx hij] at q
   obtain ⟨q',a,b',c',n',w'⟩:=h.own j hj d' q
   have:q'≠p:=λz=>by subst z;exact hij (h.apart i hi j hj d₀ d' q' e0 q e1 a)
   exact ⟨q',a,b'.upd h.ds.1 c hm this,c',n',w'⟩
 ·obtain ⟨x1,y1⟩:=get j d1 h1
  obtain ⟨x2,y2⟩:=get k d2 h2
  exact h.apart j hj k hk x1 x2 q y1 y2 h3 h4
 ·rw [qx (dne j hj)] at q
  obtain ⟨q',a,b',c'⟩:=f.own j hj d' q
  exact ⟨q',a,b'.upd h.ds.1 c (f.flat i hi j hj ⟨_,e0⟩ ⟨_,q⟩ p e1),c'⟩
theorem OwnS.writeD (h:OwnS K G M L H S σ ρ){F:Nat->List Ke}(f:DeepF K G M H S σ ρ F){p q2:Ke}{i:Nat}{o:HO}{d₀:Ka}(hi:Dp M i)(e0:ρ[i]?=some (some d₀))(e1:σ[i]?=some (some (.ref p)))(hq:q2∈F i)(hm:yf o=true)(ow:DeepO K (upd H q2 o) S (F i) p d) :
  OwnS K G M L (upd H q2 o) S σ (ρ.set i (some d)):=by
 obtain ⟨p',a,b,cc⟩:=f.own i hi d₀ e0
 rw [e1] at a;cases a
 obtain ⟨c,n,w⟩:=cc q2 hq
 have off:Off S H (upd H q2 o):=λb u z e=>by
  rw [qW (λy=>z (by rw [y];exact c))];exact e
 have hz:i<ρ.length:=(Kk.mp e0).1
 have get:∀ m d',(ρ.set i (some d))[m]?=some (some d')->∃ d'',ρ[m]?=some (some d''):=λm d' q=>by
  by_cases him:i=m
  ·subst him;exact ⟨_,e0⟩
  ·rw [qx him] at q;exact ⟨_,q⟩
 have get2:∀ m,Has (ρ.set i (some d)) m->Has ρ m:=λm ⟨d',q⟩=>get m d' q
 have dne:∀ j,Flt M j->i≠j:=λj hj z=>hj.2 (by rw [← z];exact hi.2)
 refine ⟨⟨h.ds.1.upd hm,by rw [VM];exact h.ds.2.1,λj d' hj q=>?_⟩,h.s0,λa u q=>?_,λj hj d' q=>?_,λj hj k hk d1 d2 q h1 h2 h3 h4=>?_,h.bnd,λj hj=>⟨(h.lkd j hj).1,by rw [qx (dne j (h.lkd j hj).1)];exact (h.lkd j hj).2⟩,
  F,λj hj d' q=>?_,λj hj k hk h1 h2=>f.disj j hj k hk (get2 j h1) (get2 k h2),λj hj k hk h1 h2=>f.flat j hj k hk (get2 j h1) (get2 k h2)⟩
 ·have hij:i≠j:=λz=>hj (by rw [← z];exact hi.1)
  rw [qx hij] at q
  obtain ⟨v,a,b⟩:=h.ds.2.2 j d' hj q
  exact ⟨v,a,b.off h.ds.1 off⟩
 ·have e2:=h.h0 a u q
  by_cases ne:a=q2
  ·rw [ne,w] at q;cases q
  ·rw [qW ne];exact e2
 ·rw [qx (dne j hj)] at q
  obtain ⟨q',a,b',c',n',w'⟩:=h.own j hj d' q
  exact ⟨q',a,b'.upd h.ds.1 c hm (λz=>by subst z;exact f.flat j hj i hi ⟨_,q⟩ ⟨_,e0⟩ _ a hq),c',n',w'⟩
 ·rw [qx (dne j hj)] at h1
  rw [qx (dne k hk)] at h2
  exact h.apart j hj k hk d1 d2 q h1 h2 h3 h4
 ·by_cases hij:i=j
  ·subst hij
   rw [Vd hz] at q;cases q
   exact ⟨p,e1,ow,cc⟩
  ·rw [qx hij] at q
   obtain ⟨q',a,b',c'⟩:=f.own j hj d' q
   exact ⟨q',a,b'.upd h.ds.1 c (λz=>hij (f.disj i hi j hj ⟨_,e0⟩ ⟨_,q⟩ _ hq z)),c'⟩
noncomputable def cut (P:Prop)(o:Option HO):Option HO:=@ite _ P (Classical.propDecidable P) none o
theorem WT (h:P):cut P o=none:=ag h
theorem qb1 (h:¬ P):cut P o=o:=ah h
noncomputable def Gm.base (G:Gm)(S:Av)(H:Hp):Gm:={ G with H0:=λa=>cut (S a/\G.H0 a=none) (H a) }
theorem qfY (h:Same G.H0 H):Same G.H0 (G.base S H).H0:=λa o q=>(qb1 (λz=>by rw [q] at z;cases z.2)).trans (h a o q)
theorem qg4:Off S H (G.base S H).H0:=λa o n q=>(qb1 (λz=>n z.1)).trans q
theorem qi9:Same (G.base S H).H0 H:=λa o q=>by
 have q:cut (S a/\G.H0 a=none) (H a)=some o:=q
 by_cases h:S a/\G.H0 a=none
 ·rw [WT h] at q;cases q
 ·rw [qb1 h] at q;exact q
theorem OwnS.base (h:OwnS K G M L H S σ ρ):OwnS K (G.base S H) M L H S σ ρ:=by
 obtain ⟨F,f⟩:=h.deep
 refine ⟨h.ds,h.s0,qi9,λi hi d q=>?_,h.apart,λa z=>?_,h.lkd,F,λi hi d q=>let ⟨p,a,b,c⟩:=f.own i hi d q;⟨p,a,b,λr hr=>⟨(c r hr).1,(c r hr).2.1,WT ⟨(c r hr).1,(c r hr).2.2⟩⟩⟩,f.disj,f.flat⟩
 ·obtain ⟨p,a,b,c,n,w,w'⟩:=h.own i hi d q
  exact ⟨p,a,b,c,n,λhl=>WT ⟨c,w hl⟩,w'⟩
 ·rcases h.bnd a z with y|y|y
  ·exact .inl y
  ·exact .inr (.inl (WT ⟨z,y⟩))
  ·exact .inr (.inr y)
theorem OwnS.unbase {G':Gm}(s:Same G.H0 G'.H0)(e:G'.S0=G.S0)(e':G'.lk=G.lk)(h:OwnS K G' M L H S σ ρ):OwnS K G M L H S σ ρ:=by
 obtain ⟨F,f⟩:=h.deep
 refine ⟨h.ds,by rw [← e];exact h.s0,s.trans h.h0,λi hi d q=>?_,h.apart,λa z=>?_,by rw [← e'];exact h.lkd,F,λi hi d q=>let ⟨p,a,b,c⟩:=f.own i hi d q;⟨p,a,b,λr hr=>⟨(c r hr).1,by rw [← e];exact (c r hr).2.1,s.free (c r hr).2.2⟩⟩,f.disj,f.flat⟩
 ·obtain ⟨p,a,b,c,n,w,w'⟩:=h.own i hi d q
  exact ⟨p,a,b,c,by rw [← e];exact n,λhl=>s.free (w hl),by rw [← e'];exact w'⟩
 ·rcases h.bnd a z with y|y|y
  ·exact .inl (by rw [← e];exact y)
  ·exact .inr (.inl (s.free y))
  ·exact .inr (.inr (by rw [← e'];exact y))
theorem OwnS.turn {G':Gm}  (s0:∀ a,G'.S0 a->S a) (sl:∀ i∈L,S (G'.lk i).1) (h:OwnS K G' M L H S' σ ρ) (q:Den K G'.H0 S x d):Den K H S' x d:=by
 refine (q.sub λa ha z=>?_).same h.h0
 rcases h.bnd a z with y|y|⟨i,hi,rfl⟩
 ·exact s0 a y
 ·exact absurd y ha
 ·exact sl i hi
end
inductive Fr where
 | pl|nw|dp
noncomputable def OutQ (K:Kb)(G:Gm)(M' Mb L:List Nat)(fr:Fr)(D:Ends):Out->Prop
 | .nx ρ=>∀ σ' H' S',OwnS K G M' L H' S' σ' ρ->D.nx σ' H'
 | .rt d=>match fr with
  | .nw=>∀ p H',Same G.H0 H'->G.H0 p=none->¬ G.S0 p->OwnO K H' (insA G.S0 p) p d->D.rt (.ref p) H'
  | .dp=>∀ p fp H',Same G.H0 H'->(∀ q∈fp,G.H0 q=none/\¬ G.S0 q)->DeepO K H' (insL G.S0 fp) fp p d->D.rt (.ref p) H'
  | .pl=>∀ v H',Same G.H0 H'->Den K H' G.S0 v d->D.rt v H'
 | .bk ρ=>∀ σ' H' S',OwnS K G Mb L H' S' σ' ρ->D.bk σ' H'
 | .ct ρ=>∀ σ' H' S',OwnS K G Mb L H' S' σ' ρ->D.ct σ' H'
noncomputable def tDS (K:Kb)(G:Gm)(M L M' Mb:List Nat)(fr:Fr)(f:Rho->Option Out):TS:=λD σ H=>∃ S ρ o,OwnS K G M L H S σ ρ/\f ρ=some o/\OutQ K G M' Mb L fr D o
def PDS (X:Cx)(G:Gm)(M L M' Mb:List Nat)(fr:Fr)(s:KS)(f:Rho->Option Out):Prop:=PS X s (tDS X.K G M L M' Mb fr f)
def PDSs (X:Cx)(G:Gm)(M L M' Mb:List Nat)(fr:Fr)(s:List KS)(f:Rho->Option Out):Prop:=PSs X s (tDS X.K G M L M' Mb fr f)
noncomputable def tF (K:Kb)(M:List Nat)(f:'&'):TE:=λσ H Q=>∃ S ρ d,DenS K H S M σ ρ/\f ρ=some d/\∀ p H',Same H H'->H p=none->OwnO K H' (insA S p) p d->Q (.ref p) H'
def PF (X:Cx)(M:List Nat)(e:KD)(f:'&'):Prop:=PE X e (tF X.K M f)
noncomputable def qbs (f:'&'):Rho->Option Ka:=λρ=>ob (f ρ) λd=>if flat d=true then some d else none
noncomputable def qhx:Ka->Bool
 | .list ds=>YW ds
 | _=>false
noncomputable def seqO (u w:Rho->Option Out)(ρ:Rho):Option Out:=ob (u ρ) λo=>match o with | .nx ρ'=>w ρ'|o=>some o
section
variable {X:Cx}{G:Gm}{M M1 M2 M' Mb L:List Nat}{fr:Fr}{a b c:KD}{es:List KD}{f g:'&'}{p:Rho->Option Bool}{pos:Pos}{s1:KS}{ss st1 st2:List KS}{u w:Rho->Option Out}
theorem wu (h:PF X M a f):PD X M a f:=h.weak λσ H Q ⟨S,ρ,d,hs,e,q⟩=>⟨S,ρ,d,hs,e,λp H' g n o=>q _ H' g (o.den (hs.1.free n) λa _ z=>.inl z)⟩
theorem OwnO.flat {K:Kb}{H:Hp}{S S':Av}{p:Ke}{d:Ka}(fl:qhx d=true)(h:OwnO K H S p d):OwnO K H S' p d:=by
 cases h with
 | lst h t=>exact .lst h (t.flat fl)
 | dct h k t=>cases fl
theorem zu:PDSs X G M L M Mb fr [] sN:=qfK.weak λD σ H ⟨S,ρ,o,hs,e,q⟩=>by cases e;exact q σ H S hs
theorem qg (h1:PDS X G M L M1 Mb fr s1 u)(h2:PDSs X G M1 L M2 Mb fr ss w):PDSs X G M L M2 Mb fr (s1::ss) (seqO u w) :=
 (qdT h1 h2).weak λD σ H ⟨S,ρ,o,hs,e,q⟩=>by
  obtain ⟨o1,e1,e⟩:=qd e
  refine ⟨S,ρ,o1,hs,e1,?_⟩
  cases o1 with
  | nx ρ'=>exact λσ' H' S' hs'=>⟨S',ρ',o,hs',e,q⟩
  | rt d=>cases e;exact q
  | bk d=>cases e;exact q
  | ct d=>cases e;exact q
theorem ql (h1:PDS X G M L M' Mb fr s1 u):PDSs X G M L M' Mb fr [s1] u:=qfL h1
noncomputable def subB (A B:List Nat):Bool:=A.all λi=>B.contains i&&(!(B.contains (i+1000))||A.contains (i+1000))
theorem qeN (h:subB A B=true):∀ i∈A,i∈B:=λi hi=>by
 have:=K4.mp h i hi
 rw [KI] at this
 simpa using this.1
theorem qfU (h:subB A B=true):SubM A B:=⟨qeN h,λi hi hk=>by
 have:=K4.mp h i hi
 rw [KI,NC] at this
 rcases this.2 with z|z
 ·rw [Bool.not_eq_true',← Bool.not_eq_true] at z
  exact absurd (by simpa using hk) z
 ·simpa using z⟩
theorem qgD (h:PDS X G M1 L M' Mb fr s1 u)(h1:subB M1 M=true:=by decide)(h2:subB L M1=true:=by decide):PDS X G M L M' Mb fr s1 u :=
 h.weak λD σ H ⟨S,ρ,o,hs,e,q⟩=>let ⟨S',hs'⟩:=hs.frz (qfU h1) λi hi _=>qeN h2 i hi;⟨S',ρ,o,hs',e,q⟩
theorem OutQ.drop {K:Kb}{D:Ends}{o:Out}(h1:subB M1 M'=true)(h2:subB L M1=true)(q:OutQ K G M1 Mb L fr D o):OutQ K G M' Mb L fr D o:=by
 cases o with
 | nx ρ=>exact λσ' H' S' hs=>let ⟨S2,hs2⟩:=hs.frz (qfU h1) λi hi _=>qeN h2 i hi;q σ' H' S2 hs2
 | rt d=>exact q
 | bk ρ=>exact q
 | ct ρ=>exact q
theorem qkf (h:PDSs X G M L M' Mb fr ss u)(h1:subB M1 M'=true:=by decide)(h2:subB L M1=true:=by decide):PDSs X G M L M1 Mb fr ss u :=
 h.weak λD σ H ⟨S,ρ,o,hs,e,q⟩=>⟨S,ρ,o,hs,e,q.drop h1 h2⟩
theorem qy (h:PD X [] a f):PDS X G M L M' Mb .pl (.Return (some a) pos) (sRet f) :=
 (qiy h).weak λD σ H ⟨S,ρ,o,hs,e,q⟩=>by
  obtain ⟨d,e1,e⟩:=qd e
  cases e
  exact ⟨G.S0,ρ,d,hs.den,e1,λv H' g1 d1=>q v H' (hs.h0.trans g1) d1⟩
theorem JC (i:Nat)(hv:Vis X.env.scope x)(hN:X.N[i]?=some x:=by rfl)(hd:(x==("__debug__" : Str))=false:=by decide +kernel)
  (hcd:(x==("__classdict__" : Str))=false:=by decide +kernel):PE X (.Name x pos) (λσ H Q=>∃ v,σ[i]?=some (some v)/\Q v H):=qip hN hv hd hcd
theorem Qm  (e:vr i ρ=some d):ρ[i]?=some (some d):=by
 have e:(ρ[i]?).join=some d:=e
 cases h:ρ[i]? with
 | none=>rw [h] at e;cases e
 | some o=>rw [h] at e;exact congrArg some e
theorem qik (i:Nat){px:Pos}(hv:Vis X.env.scope x)(hM:Flt M i)(hL:i∉L)(hN:X.N[i]?=some x:=by rfl)(hd:(x==("__debug__" : Str))=false:=by decide +kernel)
  (hcd:(x==("__classdict__" : Str))=false:=by decide +kernel):PDS X G M L M' Mb .nw (.Return (some (.Name x px)) pos) (sRet (vr i)) :=
 (qiy (JC i hv hN hd hcd)).weak λD σ H ⟨S,ρ,o,hs,e,q⟩=>by
  obtain ⟨d,e1,e⟩:=qd e
  cases e
  obtain ⟨p,a,b,c,n,w,_⟩:=hs.own i hM d (Qm e1)
  exact ⟨_,a,q p H hs.h0 (w hL) n (b.sub λa _ z=>z.elim (λy=>hs.s0 a y) λy=>by rw [y];exact c)⟩
theorem zK (hc:PDT X [] c p)(h1:PDSs X G M L M' Mb fr st1 u)(h2:PDSs X G M L M' Mb fr st2 w):PDS X G M L M' Mb fr (.If c st1 st2 pos) (sIf p u w) :=
 (qk2 hc h1 h2).weak λD σ H ⟨S,ρ,o,hs,e,q⟩=>by
  obtain ⟨d,e1,e⟩:=qd e
  refine ⟨G.S0,ρ,d,hs.den,e1,λH1 g1=>?_⟩
  cases d with
  | true=>exact iteT ⟨S,ρ,o,hs.same g1,e,q⟩
  | false=>exact iteF ⟨S,ρ,o,hs.same g1,e,q⟩
noncomputable def tDG (K:Kb)(G:Gm)(M L:List Nat)(g:Ka->Rho->Option Rho):TG:=λv σ H Q=>∃ S ρ d ρ',OwnS K G M L H S σ ρ/\Den K H S v d/\g d ρ=some ρ'/\∀ σ' H',Same H H'->OwnS K G M L H' S σ' ρ'->Q σ' H'
noncomputable def tDGs (K:Kb)(G:Gm)(M L:List Nat)(g:List Ka->Rho->Option Rho):TGs:=λvs σ H Q=>∃ S ρ ds ρ',OwnS K G M L H S σ ρ/\DenL K H S vs ds/\g ds ρ=some ρ'/\∀ σ' H',Same H H'->OwnS K G M L H' S σ' ρ'->Q σ' H'
def PDG (X:Cx)(G:Gm)(M L:List Nat)(t:KD)(g:Ka->Rho->Option Rho):Prop:=PG X t (tDG X.K G M L g)
def PDGs (X:Cx)(G:Gm)(M L:List Nat)(t:List KD)(g:List Ka->Rho->Option Rho):Prop:=PGs X t (tDGs X.K G M L g)
theorem qih (i:Nat)(hN:X.N.Nodup)(hx:Loc X.env.scope x)(hM:i∉M)(hi:X.N[i]?=some x:=by rfl)(hf:X.fn x=true\/X.env.scope.names.lookup x=some .local:=by first|exact .inl rfl|exact .inr rfl|assumption):PDG X G M L (.Name x pos) (gNm i) :=
 (qfH hN hi hx hf).weak λv σ H Q ⟨S,ρ,d,ρ',hs,hd,e,q⟩=>by
  cases e
  exact q _ H (Same.refl H) (hs.set hd hM)
theorem jc:PDGs X G M L [] gsN :=
 qfI.weak λv σ H Q ⟨S,ρ,d,ρ',hs,hd,e,q⟩=>by
  cases hd with
  | nil=>cases e;exact ⟨rfl,q _ H (Same.refl H) hs⟩
  | cons a t=>cases e
theorem zj  (h1:PDG X G M L t g1) (h2:PDGs X G M L ts g2) (hs:(aB (t::ts) X.env).map (·.2)=assign t X.env::(aB ts X.env).map (·.2):=by rfl) :
  PDGs X G M L (t::ts) (gsC g1 g2) :=
 (qdP h1 h2 hs).weak λv σ H Q ⟨S,ρ,d,ρ',hs,hd,e,q⟩=>by
  cases hd with
  | nil=>cases e
  | cons a t =>
   obtain ⟨ρ1,e1,e⟩:=qd e
   exact ⟨_,_,rfl,S,ρ,_,ρ1,hs,a,e1,λσ' H' g1 hs'=>⟨S,ρ1,_,ρ',hs',t.same g1,e,λσ2 H2 g2 hs2=>q σ2 H2 (g1.trans g2) hs2⟩⟩
theorem jX {ts:List KD}{k:Nat}{n:Nat}{g:List Ka->Rho->Option Rho}(hc:X.calm=true)(h:PDGs X G M L ts g)(hn:(aB ts X.env).length=n:=by rfl)(hst:(aB ts X.env).findIdx? (·.1)=none:=by rfl):PDG X G M L (.Tuple ts k pos) (unpD n g) :=
 (qit hc h hn hst).weak λv σ H Q ⟨S,ρ,d,ρ',hs,hd,e,q⟩=>by
  cases hd with
  | @tuple a xs ds h t =>
   have e:(if ds.length=n then g ds ρ else none)=some ρ':=e
   split at e
   ·rename_i hl
    exact ⟨_,_,rfl,h,by rw [t.length];exact hl,S,ρ,_,ρ',hs,t,e,q⟩
   ·cases e
  | _=>cases e
theorem qcA {tg:KD}{g:Ka->Rho->Option Rho}(he:PD X M a f)(hg:PDG X G M L tg g)(hs:bB [tg] a pos.line X.env=pure false:=by rfl)(hw:bC [tg] a X.env=pure none:=by rfl)
  (h1:(aB [tg] X.env).map (·.2)=[assign tg X.env]:=by rfl):PDS X G M L M Mb fr (.Assign [tg] a pos) (sAsg f g) :=
 (qeF he hg hs hw h1).weak λD σ H ⟨S,ρ,o,hs,e,q⟩=>by
  obtain ⟨d,e1,e⟩:=qd e
  obtain ⟨ρ',e2,e⟩:=qd e
  cases e
  exact ⟨S,ρ,d,hs.ds,e1,λv H1 g1 d1=>⟨S,ρ,d,ρ',hs.same g1,d1,e2,λσ2 H2 g2 hs2=>q σ2 H2 S hs2⟩⟩
theorem qP (i:Nat)(hN:X.N.Nodup)(hx:Loc X.env.scope x)(hi:X.N[i]?=some x)(hs:aK a (some (.Name x p')) pos.line X.env=pure false)(hf:X.fn x=true\/X.env.scope.names.lookup x=some .local)(hM:i∉M)(he:PD X M a f) :
  PDS X G M L M Mb fr (.Assign [.Name x p'] a pos) (sSet i f) :=
 (qaX hN hi hx he hs hf).weak λD σ H ⟨S,ρ,o,hs,e,q⟩=>by
  obtain ⟨d,e1,e⟩:=qd e
  cases e
  exact ⟨S,ρ,d,hs.ds,e1,λv H1 g1 d1=>q _ H1 S ((hs.same g1).set d1 hM)⟩
theorem qil (i:Nat)(hN:X.N.Nodup)(hx:Loc X.env.scope x)(hi:X.N[i]?=some x)(hs:aK a (some (.Name x p')) pos.line X.env=pure false)(hf:X.fn x=true\/X.env.scope.names.lookup x=some .local)(hM:i∉M)(he:PD X [] a f) :
  PDS X G M L M Mb fr (.Assign [.Name x p'] a pos) (sSet i (qbs f)) :=
 (qaX hN hi hx he hs hf).weak λD σ H ⟨S,ρ,o,hs,e,q⟩=>by
  obtain ⟨d,e1,e⟩:=qd e
  cases e
  obtain ⟨d',e3,e4⟩:=qd e1
  split at e4
  ·rename_i hf
   cases e4
   exact ⟨G.S0,ρ,d,hs.den,e3,λv H1 g1 d1=>q _ H1 S ((hs.same g1).set (d1.flat hf) hM)⟩
  ·cases e4
noncomputable def QJ (i:Nat)(f:'&'):Rho->Option Out:=λρ=>if i<ρ.length then ob (f ρ) λd=>some (.nx (ρ.set i (some d))) else none
theorem Qj (i:Nat)(hN:X.N.Nodup)(hx:Loc X.env.scope x)(hi:X.N[i]?=some x)(hs:aK a (some (.Name x p')) pos.line X.env=pure false)(hf:X.fn x=true\/X.env.scope.names.lookup x=some .local)(hM:Out0 M i)(hL:i∉L)(he:PF X M a f) :
  PDS X G M L (i::M) Mb fr (.Assign [.Name x p'] a pos) (QJ i f) :=
 (qaX hN hi hx he hs hf).weak λD σ H ⟨S,ρ,o,hs,e,q⟩=>by
  unfold QJ at e
  split at e
  ·rename_i hz
   obtain ⟨d,e1,e⟩:=qd e
   cases e
   exact ⟨S,ρ,d,hs.ds,e1,λp H1 g1 n o=>q _ H1 _ (hs.take n g1 o hM hL hz)⟩
  ·cases e
noncomputable def forD (g:Ka->Rho->Option Rho)(body:Rho->Option Out):List Ka->Rho->Option Out
 | [],ρ=>some (.nx ρ)
 | d::ds,ρ=>ob (g d ρ) λρ1=>ob (body ρ1) λo=>match o with
  | .nx ρ'=>forD g body ds ρ'
  | .ct ρ'=>forD g body ds ρ'
  | .bk ρ'=>some (.nx ρ')
  | .rt r=>some (.rt r)
noncomputable def sFor (fi:Rho->Option (List Ka))(g:Ka->Rho->Option Rho)(u:Rho->Option Out):Rho->Option Out:=λρ=>ob (fi ρ) λds=>forD g u ds ρ
theorem OutQ.based {K:Kb}{G':Gm}{D:Ends}{o:Out}(s:Same G.H0 G'.H0)(e:G'.S0=G.S0)(e':G'.lk=G.lk)(q:OutQ K G M' Mb L fr D o):OutQ K G' M' Mb L fr D o:=by
 cases o with
 | nx ρ=>exact λσ' H' S' hs=>q σ' H' S' (hs.unbase s e e')
 | rt d =>
  cases fr with
  | nw=>exact λp H' h0 n n' o=>q p H' (s.trans h0) (s.free n) (by rw [← e];exact n') (by rw [← e];exact o)
  | dp=>exact λp fp H' h0 n o=>q p fp H' (s.trans h0) (λr hr=>⟨s.free (n r hr).1,by rw [← e];exact (n r hr).2⟩) (by rw [← e];exact o)
  | pl=>exact λv H' h0 d=>q v H' (s.trans h0) (by rw [← e];exact d)
 | bk ρ=>exact λσ' H' S' hs=>q σ' H' S' (hs.unbase s e e')
 | ct ρ=>exact λσ' H' S' hs=>q σ' H' S' (hs.unbase s e e')
theorem ZF {tg iter:KD}{body:List KS}{fi:Rho->Option (List Ka)}{g:Ka->Rho->Option Rho}(hp:EE (model X.prog X.w) X.A X.env X.xe)(hc:X.calm=true)(hi:PDI X M tg iter fi)(hg:∀ G,PDG X G M L tg g)(hb:∀ G,PDSs X G M L M M fr body u)
  (hs:∀ x,az iter X.env x=pure x:=by intro _;rfl):PDS X G M L M Mb fr (.For tg iter body [] pos) (sFor fi g u):=by
 have hg':PG X tg (λv σ H Q=>∃ G,tDG X.K G M L g v σ H Q):=λaa s σ H v u Q I r ⟨G,q⟩=>hg G aa s σ H v u Q I r q
 have hb':PSs X body (λD σ H=>∃ G,tDS X.K G M L M M fr u D σ H):=λaa s σ H D I ⟨G,q⟩=>hb G aa s σ H D I q
 refine (qix hp hc hi hg' hb' hs).weak λD σ H ⟨S,ρ,o,os,e,q⟩=>?_
 obtain ⟨ds,e1,e⟩:=qd e
 refine ⟨S,ρ,ds,os.ds,e1,λJ H1 g1 hJ0=>?_⟩
 have os1:=os.same g1
 have hJ:IsIt X.K S J ((G.base S H1).H0) ds:=hJ0 _ qg4
 have bs:Same G.H0 (G.base S H1).H0:=qfY os1.h0
 have bo:=os1.base
 have sl:=os1.lks
 generalize hG:G.base S H1=G1 at hJ bs bo
 have eS:G1.S0=G.S0:=by rw [← hG];rfl
 have eL:G1.lk=G.lk:=by rw [← hG];rfl
 have sl1:∀ i∈L,S (G1.lk i).1:=by rw [eL];exact sl
 have s01:∀ a,G1.S0 a->S a:=by rw [eS];exact os.s0
 refine ⟨λi m σ' H'=>m=ds.length-i/\i<=ds.length/\∃ S' ρ o,OwnS X.K G1 M L H' S' σ' ρ/\forD g u (ds.drop i) ρ=some o/\OutQ X.K G M Mb L fr D o,⟨ds.length,by simp,Vj _,S,ρ,o,bo,e,q⟩,?_⟩
 rintro i m σ' H' ⟨rfl,hi,S',ρ',o',hs',e',q'⟩
 by_cases hlt:i<ds.length
 ·rw [VT hlt] at e'
  obtain ⟨ρ1,e2,e'⟩:=qd e'
  obtain ⟨o1,e3,e'⟩:=qd e'
  have key:∀ N:St->Hp->Prop,OutQ X.K G1 M M L fr { D with nx:=N,ct:=N,bk:=D.nx } o1->∀ x H2,J.yld i H' x H2->∃ G,tDG X.K G M L g x σ' H2 λσ2 H2=>∃ G,tDS X.K G M L M M fr u { D with nx:=N,ct:=N,bk:=D.nx } σ2 H2:=λN hN x H2 y=>by
   obtain ⟨e4,yd⟩:=hJ.yld i H' x H2 hs'.h0 y
   exact ⟨G1,S',ρ',_,ρ1,hs'.same e4,yd _ (Kl hlt) S' λy e q=>(hs'.turn s01 sl1 q).same e4,e2,λσ2 H3 g3 hs3=>⟨G1,S',ρ1,o1,hs3,e3,hN⟩⟩
  refine .inr ⟨hJ.go i H' hs'.h0 hlt,?_⟩
  have next:∀ ρ2,forD g u (ds.drop (i+1)) ρ2=some o'->∃ N:St->Hp->Prop,(∀ σ' H'',N σ' H''->∃ m',m'<ds.length-i/\(m'=ds.length-(i+1)/\i+1<=ds.length/\∃ S' ρ o,OwnS X.K G1 M L H'' S' σ' ρ/\forD g u (ds.drop (i+1)) ρ=some o/\OutQ X.K G M Mb L fr D o))/\∀ σ2 H2 S2,OwnS X.K G1 M L H2 S2 σ2 ρ2->N σ2 H2:=λρ2 e4 =>
   ⟨λσ2 H2=>∃ S2,OwnS X.K G1 M L H2 S2 σ2 ρ2,λσ2 H2 ⟨S2,hs3⟩=>⟨ds.length-(i+1),by omega,rfl,hlt,S2,ρ2,o',hs3,e4,q'⟩,λσ2 H2 S2 hs3=>⟨S2,hs3⟩⟩
  cases o1 with
  | nx ρ2 =>
   obtain ⟨N,n1,n2⟩:=next ρ2 e'
   exact ⟨N,n1,key N λσ3 H3 S3 hs3=>n2 σ3 H3 S3 hs3⟩
  | ct ρ2 =>
   obtain ⟨N,n1,n2⟩:=next ρ2 e'
   exact ⟨N,n1,key N λσ3 H3 S3 hs3=>n2 σ3 H3 S3 hs3⟩
  | bk ρ2 =>
   cases e'
   exact ⟨λ_ _=>False,λ_ _ z=>z.elim,key _ λσ3 H3 S3 hs3=>q' σ3 H3 S3 (hs3.unbase bs eS eL)⟩
  | rt r =>
   cases e'
   refine ⟨λ_ _=>False,λ_ _ z=>z.elim,key _ ?_⟩
   have q2:OutQ X.K G1 M Mb L fr D (.rt r):=q'.based bs eS eL
   exact q2
 ·have hi':i=ds.length:=by omega
  subst hi'
  rw [Nl] at e'
  cases e'
  exact .inl ⟨hJ.stop H' hs'.h0,q' σ' H' S' (hs'.unbase bs eS eL)⟩
end
noncomputable def outD:Out->Option Ka
 | .rt d=>some d
 | .nx _=>some .none
 | _=>none
noncomputable def outF:Out->Option Ka
 | .rt d=>some d
 | _=>none
noncomputable def rho0 (n:Nat)(ds:'('):Rho:=ds.map some++Vf (n-ds.length) none
noncomputable def G0 (H:Hp)(S:Av):Gm:=⟨H,S,λ_=>(0,.none)⟩
theorem OwnS.start {K:Kb}{H:Hp}{S:Av}{vs:List V}{ds:'('}(m:Dm S H)(h:DenL K H S vs ds)(N:List Str):OwnS K (G0 H S) [] [] H S (start N vs) (rho0 N.length ds) :=
 ⟨DenS.start m h N,λ_ z=>z,Same.refl _,(λ_ h=>nomatch h.1),(λ_ h=>nomatch h.1),λ_ z=>.inl z,(λ_ h=>nomatch h),λ_=>[],(λ_ h=>nomatch h.1),(λ_ h=>nomatch h.1),(λ_ h=>nomatch h.1)⟩
noncomputable def spN (K:Kb)(n:Nat)(f:List Ka->Option Ka):Sp:=λvs H Q _=>∃ S ds d,Dm S H/\DenL K H S vs ds/\ds.length=n/\f ds=some d/\∀ p H',Same H H'->H p=none->OwnO K H' (insA S p) p d->Q (.ref p) H'
structure FunG (K:Kb)(x qual:Str)(st:KS)(f:Ke)(fd:VD):Prop where
 ex:∃ (oc dV:Kd) (od:Option Ke) (kV doc pm:Kd) (an:Option Ke) (cdv ct:Kd) (osl:Array (Option Kd)),
  fd=Ue x qual (Za st) (Qa st) (qe st) dV kV doc pm an cdv ct/\K.lookup f=some ⟨oc,od,.func fd,osl⟩/\UI K cdv qual=true
 kp:Vx K (.ref f)=true
theorem Fun.g {K:Kb}{x qual:Str}{st:KS}{f:Ke}{fd:VD}(F:Fun K x qual st f fd):FunG K x qual st f fd:=by
 obtain ⟨oc,od,kV,doc,pm,an,cdv,ct,osl,e,lk,hcd⟩:=F.ex
 exact ⟨⟨oc,_,od,kV,doc,pm,an,cdv,ct,osl,e,lk,hcd⟩,F.kp⟩
theorem qjD {K:Kb}{x qual:Str}{st:KS}{f:Ke}{oc:Kd}{od an:Option Ke}{osl:Array (Option Kd)}{dV kV doc pm cdv ct:Kd}(l:K.lookup f=some ⟨oc,od,.func (Ue x qual (Za st) (Qa st) (qe st) dV kV doc pm an cdv ct),osl⟩)
  (c:UI K cdv qual=true) (k:Vx K (.ref f)=true):FunG K x qual st f (Ue x qual (Za st) (Qa st) (qe st) dV kV doc pm an cdv ct):=⟨⟨oc,dV,od,kV,doc,pm,an,cdv,ct,osl,rfl,l,c⟩,k⟩
section
variable {P:KJ}{w:K1}{K:Kb}{mg:Str->Option Kd}{base:KU}
theorem FunG.ok {x qual:Str}{st:KS}{f:Ke}{fd:VD}{N ps:List Str}{k:Nat}{sp:Sp}(F:FunG K x qual st f fd)(S:FnScope N ps (qe st))(len:∀ vs H Q E,sp vs H Q E->vs.length=ps.length)
  (hbody:∀ (cdv:Kd) (A:KY) (outer:List Env) (s:Kh) (H:Hp) (vs:List V) (Q:VK) (E:XK),Room k (A.deeper (bg qual (qe st) s.heap.objs.size f cdv))->sp vs H Q E->
   ∃ t,PSs (cxOf CX0 P w K mg base N qual (qe st) f cdv A outer s H E).nox (Qa st) t/\t { nx:=λ_ H'=>Q .non H',rt:=Q } (start N vs) H):FnOk P w K mg base CX0 (k+1) f fd ps sp:=by
 obtain ⟨oc,dV,od,kV,doc,pm,an,cdv,ct,osl,rfl,lk,hcd⟩:=F.ex
 refine fn_of lk hcd S len λA outer s H vs Q E hr hsp=>?_
 obtain ⟨t,h,q⟩:=hbody cdv A outer s H vs Q E hr hsp
 exact ⟨t,h.nox,q⟩
theorem FunG.pure {x qual:Str}{st:KS}{f:Ke}{fd:VD}{N ps:List Str}{k n:Nat}{u:Rho->Option Out}{M':List Nat}(F:FunG K x qual st f fd)(S:FnScope N ps (qe st))(hn:ps.length=n)
  (hbody:∀ (cdv:Kd) (A:KY) (outer:List Env) (s:Kh) (H:Hp) (E:XK),Room k (A.deeper (bg qual (qe st) s.heap.objs.size f cdv))->∀ G:Gm,
   PDSs (cxOf CX0 P w K mg base N qual (qe st) f cdv A outer s H E).nox G [] [] M' [] .pl (Qa st) u) :
  FnOk P w K mg base CX0 (k+1) f fd ps (spF K n λds=>ob (u (rho0 N.length ds)) outD):=by
 refine F.ok S (λvs H Q E h=>?_) (λcdv A outer s H vs Q E hr h=>?_)
 ·obtain ⟨_,ds,d,_,h1,h2,_⟩:=h
  rw [h1.length,h2,hn]
 ·obtain ⟨Sv,ds,d,m,h1,h2,e,q⟩:=h
  obtain ⟨o,e1,e⟩:=qd e
  refine ⟨_,hbody cdv A outer s H E hr (G0 H Sv),Sv,rho0 N.length ds,o,OwnS.start m h1 N,e1,?_⟩
  cases o with
  | rt r=>cases e;exact q
  | nx ρ=>cases e;exact λσ' H' S' hs=>q _ H' hs.h0 .none
  | bk ρ=>cases e
  | ct ρ=>cases e
theorem Fun.pure {x qual:Str}{st:KS}{f:Ke}{fd:VD}{N ps:List Str}{k n:Nat}{u:Rho->Option Out}{M':List Nat}(F:Fun K x qual st f fd)(S:FnScope N ps (qe st))(hn:ps.length=n)
  (hbody:∀ (cdv:Kd) (A:KY) (outer:List Env) (s:Kh) (H:Hp) (E:XK),Room k (A.deeper (bg qual (qe st) s.heap.objs.size f cdv))->∀ G:Gm,
   PDSs (cxOf CX0 P w K mg base N qual (qe st) f cdv A outer s H E).nox G [] [] M' [] .pl (Qa st) u) :
  FnOk P w K mg base CX0 (k+1) f fd ps (spF K n λds=>ob (u (rho0 N.length ds)) outD) :=
 F.g.pure S hn hbody
theorem FunG.new {x qual:Str}{st:KS}{f:Ke}{fd:VD}{N ps:List Str}{k n:Nat}{u:Rho->Option Out}{M':List Nat}(F:FunG K x qual st f fd)(S:FnScope N ps (qe st))(hn:ps.length=n)
  (hbody:∀ (cdv:Kd) (A:KY) (outer:List Env) (s:Kh) (H:Hp) (E:XK),Room k (A.deeper (bg qual (qe st) s.heap.objs.size f cdv))->∀ G:Gm,
   PDSs (cxOf CX0 P w K mg base N qual (qe st) f cdv A outer s H E).nox G [] [] M' [] .nw (Qa st) u) :
  FnOk P w K mg base CX0 (k+1) f fd ps (spN K n λds=>ob (u (rho0 N.length ds)) outF):=by
 refine F.ok S (λvs H Q E h=>?_) (λcdv A outer s H vs Q E hr h=>?_)
 ·obtain ⟨_,ds,d,_,h1,h2,_⟩:=h
  rw [h1.length,h2,hn]
 ·obtain ⟨Sv,ds,d,m,h1,h2,e,q⟩:=h
  obtain ⟨o,e1,e⟩:=qd e
  refine ⟨_,hbody cdv A outer s H E hr (G0 H Sv),Sv,rho0 N.length ds,o,OwnS.start m h1 N,e1,?_⟩
  cases o with
  | rt r=>cases e;exact λp H' g n _ o=>q p H' g n o
  | nx ρ=>cases e
  | bk ρ=>cases e
  | ct ρ=>cases e
theorem Fun.new {x qual:Str}{st:KS}{f:Ke}{fd:VD}{N ps:List Str}{k n:Nat}{u:Rho->Option Out}{M':List Nat}(F:Fun K x qual st f fd)(S:FnScope N ps (qe st))(hn:ps.length=n)
  (hbody:∀ (cdv:Kd) (A:KY) (outer:List Env) (s:Kh) (H:Hp) (E:XK),Room k (A.deeper (bg qual (qe st) s.heap.objs.size f cdv))->∀ G:Gm,
   PDSs (cxOf CX0 P w K mg base N qual (qe st) f cdv A outer s H E).nox G [] [] M' [] .nw (Qa st) u) :
  FnOk P w K mg base CX0 (k+1) f fd ps (spN K n λds=>ob (u (rho0 N.length ds)) outF) :=
 F.g.new S hn hbody
structure Known (P:KJ)(w:K1)(K:Kb)(mg:Str->Option Kd)(base:KU)(x:Str)(n k:Nat)(h:List Ka->Option Ka):Prop where
 ex:∃ (f:Ke) (fd:VD) (ps:List Str),FnOk P w K mg base CX0 k f fd ps (spF K n h)/\mg x=some (.ref f)/\Vx K (.ref f)=true/\Binds K fd ps []
structure KnownN (P:KJ)(w:K1)(K:Kb)(mg:Str->Option Kd)(base:KU)(x:Str)(n k:Nat)(h:List Ka->Option Ka):Prop where
 ex:∃ (f:Ke) (fd:VD) (ps:List Str),FnOk P w K mg base CX0 k f fd ps (spN K n h)/\mg x=some (.ref f)/\Vx K (.ref f)=true/\Binds K fd ps []
end
section
variable {X:Cx}{G:Gm}{M M' Mb L:List Nat}{fr:Fr}{a b c:KD}{es:List KD}{f g:'&'}{p:Rho->Option Bool}{pos:Pos}{u:Rho->Option Out}
theorem qm {p:Pos}  (F:Known X.prog X.w X.K X.mg X.base x n k h) (hr:Room k' X.A) (hk:k<=k') (hg:Gl X x) (ha:PDA X M (a::es) fs) (hl:(a::es).length=n)
  (hdb:(x==("__debug__" : Str))=false:=by decide +kernel) (he:af (a::es) X.env=(false,eval a X.env)::af es X.env:=by rfl) (hpl:(aA pos (af es X.env)).any (·.1)=false:=by rfl) :
  PD X M (.Call (.Name x p) (a::es) [] pos) (evC n fs h):=by
 obtain ⟨f,fd,ps,F,m,kp,b⟩:=F.ex
 exact qka F (hr.mono hk) hg m kp b qdD ha hl hdb he hpl
theorem qdO {p:Pos}  (F:KnownN X.prog X.w X.K X.mg X.base x n k h) (hr:Room k' X.A) (hk:k<=k') (hg:Gl X x) (ha:PDA X M (a::es) fs) (hl:(a::es).length=n)
  (hdb:(x==("__debug__" : Str))=false:=by decide +kernel) (he:af (a::es) X.env=(false,eval a X.env)::af es X.env:=by rfl) (hpl:(aA pos (af es X.env)).any (·.1)=false:=by rfl) :
  PF X M (.Call (.Name x p) (a::es) [] pos) (evC n fs h):=by
 obtain ⟨f,fd,ps,F,m,kp,b⟩:=F.ex
 refine (W0 F (hr.mono hk) hg m kp b .nil qdD ha hdb he hpl).weak λσ H Q ⟨S,ρ,d,hs,e,q⟩=>?_
 obtain ⟨ds,e1,e⟩:=qd e
 have e:(if ds.length=n then h ds else none)=some d:=e
 split at e
 ·rename_i hn
  exact ⟨S,ρ,ds,hs,e1,λvs H1 g1 d1=>⟨S,ds,d,hs.1.same g1,by rw [VL];exact d1,hn,e,λp H' g2 n o=>q p H' (g1.trans g2) (g1.free n) o⟩⟩
 ·cases e
theorem OwnO.laid {K:Kb}{H:Hp}{S:Av}{p:Ke}{vs:List V}{ds:'('}(n:H p=none)(t:DenL K H S vs ds):OwnO K (L2.upd H p (.lst vs)) (insA S p) p (.list ds) :=
 .lst qY ((t.sub λa ha z=>z.elim id λy=>absurd (by rw [y];exact n) ha).same (Same.lay n))
theorem JD (h:PDA X M es fs):PF X M (.List es pos) (evA fs lstD) :=
 (qio h).weak λσ H Q ⟨S,ρ,d,hs,e,q⟩=>by
  obtain ⟨xs,e1,e⟩:=qd e
  obtain ⟨hz,rfl⟩:=qbC e
  exact ⟨S,ρ,xs,hs,e1,λvs H1 g1 d1=>⟨VP (zO (by rw [d1.length];exact hz)),λp hp=>q _ _ (g1.lay' hp) (g1.free hp) (OwnO.laid hp d1)⟩⟩
def qkM (X:Cx)(f:Kd)(g:List Ka->Option Ka):Prop:=jg X f (λvs H Q=>∃ S ds d,Dm S H/\DenL X.K H S vs ds/\g ds=some d/\∀ p H',Same H H'->H p=none->OwnO X.K H' (insA S p) p d->Q (.ref p) H')
theorem qaV {id:String}{x:Str}{p:Pos}{h:List Ka->Option Ka}{fs:Rho->Option (List Ka)}(hc:qkM X (.builtin id) h)(hg:Gl X x)(hm:X.mg x=none)(hv:aw x=some (.builtin id))(ha:PDA X M (a::es) fs)(hn:x ≠ "__name__" := by decide +kernel)(hdb:(x==("__debug__" : Str))=false:=by decide +kernel)
  (he:af (a::es) X.env=(false,eval a X.env)::af es X.env:=by rfl) (hpl:(aA pos (af es X.env)).any (·.1)=false:=by rfl):PF X M (.Call (.Name x p) (a::es) [] pos) (evA fs h) :=
 (qaT hc hg hm hv ha hn hdb he hpl).weak λσ H Q ⟨S,ρ,d,hs,e,q⟩=>by
  obtain ⟨ds,e1,e⟩:=qd e
  exact ⟨S,ρ,ds,hs,e1,λvs H1 g1 d1=>⟨S,ds,d,hs.1.same g1,d1,e,λp H' g2 n o=>q p H' (g1.trans g2) (g1.free n) o⟩⟩
noncomputable def appD:Ka->Ka->Option Ka
 | .list ds,d=>if ds.length<1000 then some (.list (ds++[d])) else none
 | _,_=>none
noncomputable def sApp (i:Nat)(f:'&'):Rho->Option Out:=λρ=>ob (vr i ρ) λl=>ob (f ρ) λd=>ob (appD l d) λl'=>some (.nx (ρ.set i (some l')))
theorem wO (e:appD l d=some l'):∃ ds,l=.list ds/\ds.length<1000/\l'=.list (ds++[d]):=by
 unfold appD at e
 split at e
 ·split at e
  ·rename_i hz;cases e;exact ⟨_,rfl,hz,rfl⟩
  ·cases e
 ·cases e
theorem Off.upd {S:Av}{H:Hp}{p:Ke}{o:HO}(c:S p):Off S H (L2.upd H p o):=λb u z e=>by
 rw [qW (λy=>z (by rw [y];exact c))];exact e
theorem yR (i:Nat){px apos cpos:Pos}(hv:Vis X.env.scope x)(hM:Flt M i)(hL:i∉L)(he:PD X M a f)(hN:X.N[i]?=some x:=by rfl)(hd:(x==("__debug__" : Str))=false:=by decide +kernel)(hcd:(x==("__classdict__" : Str))=false:=by decide +kernel)
  (hbase:aG (.Name x px) "append" X.env (eval (.Name x px) X.env)=eval (.Name x px) X.env:=by rfl)
  (hfew:((aA cpos (af [a] X.env)).all (λx=>!x.1)&&(aZ cpos (aQ [] X.env)).all (λx=>x.1.isSome)
   && decide ([a].length+([]:List UJ).length+(if ([]:List UJ).isEmpty then 0 else 1)<30))=true:=by rfl)
  (hline:(apos.endLine==cpos.line)=true:=by rfl) (hs:af [a] X.env=(false,eval a X.env)::af [] X.env:=by rfl) (hplain:(aA cpos (af [] X.env)).any (·.1)=false:=by rfl)
  (hsw:aK (.Call (.Attribute (.Name x px) "append" apos) [a] [] cpos) none pos.line X.env=pure false:=by rfl) :
  PDS X G M L M Mb fr (.Expr (.Call (.Attribute (.Name x px) "append" apos) [a] [] cpos) pos) (sApp i f) :=
 (wz (qbK Uv Xp X4 Wa (JC i hv hN hd hcd) (qF he zJ hs) hbase hfew hline hs hplain) hsw).weak λD σ H ⟨S,ρ,o,os,e,q⟩=>by
  obtain ⟨l,e1,e⟩:=qd e
  obtain ⟨d,e2,e⟩:=qd e
  obtain ⟨l',e3,e⟩:=qd e
  cases e
  obtain ⟨ds,rfl,hz,rfl⟩:=wO e3
  obtain ⟨pp,a1,b1,c1,n1,w1,_⟩:=os.own i hM _ (Qm e1)
  cases b1 with
  | @lst xs _ h t =>
   refine ⟨_,a1,.inl ⟨rfl,_,SqL.of h⟩,S,ρ,[d],os.ds,by show ob (f ρ) _=_;rw [e2];rfl,λvs H2 g2 dl=>?_⟩
   obtain ⟨v,rfl,dv⟩:=dl.inv1
   have os2:=os.same g2
   refine ⟨pp,xs,v,rfl,rfl,g2 _ _ h,KZ (by rw [t.length];exact hz) (VP (zO (Kq _))),?_⟩
   exact q _ _ _ (os2.write hM hL (Qm e1) a1 rfl (.lst qY (((t.same g2).snoc dv).off os2.ds.1 (Off.upd c1))))
noncomputable def isNone:Ka->Bool
 | .none=>true
 | _=>false
noncomputable def isD:Ka->Ka->Option Ka
 | x,.none=>some (.bool (isNone x))
 | .bool b,.bool c=>some (.bool (b==c))
 | _,_=>none
noncomputable def isnD:Ka->Ka->Option Ka
 | x,.none=>some (.bool (!isNone x))
 | .bool b,.bool c=>some (.bool (!(b==c)))
 | _,_=>none
theorem qas {K:Kb}{H:Hp}{S:Av}{v:V}{d:Ka}(h:Den K H S v d):decide (v=.non)=isNone d:=by cases h<;>rfl
theorem d_is:OpD X (au .Is) isD:=by
 intro aa s σ H x y v u Q I rx ry ⟨S,dx,dy,d,m,h1,h2,e,q⟩
 unfold isD at e
 split at e
 ·cases e;cases h2
  exact ql7 aa s σ H x _ v u Q I rx ry ⟨rfl,by rw [qas h1];exact q _ H (Same.refl H) (.bool _)⟩
 ·cases e;cases h1;cases h2
  cases (show v=Vt _ from rx);cases (show u=Vt _ from ry)
  exact is_bool (jE I (q _ H (Same.refl H) (.bool _)) rfl)
 ·cases e
theorem d_isn:OpD X (au .IsNot) isnD:=by
 intro aa s σ H x y v u Q I rx ry ⟨S,dx,dy,d,m,h1,h2,e,q⟩
 unfold isnD at e
 split at e
 ·cases e;cases h2
  exact qj9 aa s σ H x _ v u Q I rx ry ⟨rfl,by rw [qas h1];exact q _ H (Same.refl H) (.bool _)⟩
 ·cases e;cases h1;cases h2
  cases (show v=Vt _ from rx);cases (show u=Vt _ from ry)
  exact isnot_bool (jE I (q _ H (Same.refl H) (.bool _)) rfl)
 ·cases e
end
section
variable {X:Cx}{G:Gm}{M M' Mb L:List Nat}{fr:Fr}{a b c:KD}{es:List KD}{f g:'&'}{p:Rho->Option Bool}{pos:Pos}{u:Rho->Option Out}
noncomputable def Jc (t:Rho->Option Bool)(body:Rho->Option Out):Nat->Rho->Option Out
 | 0,_=>none
 | n+1,ρ=>ob (t ρ) λb=>if b=true then ob (body ρ) λo=>match o with
   | .nx ρ'=>Jc t body n ρ'
   | .ct ρ'=>Jc t body n ρ'
   | .bk ρ'=>some (.nx ρ')
   | .rt r=>some (.rt r)
  else some (.nx ρ)
noncomputable def Ym (t:Rho->Option Bool)(body:Rho->Option Out):Rho->Option Out:=Jc t body 1000000
theorem Wg (hp:EE (model X.prog X.w) X.A X.env X.xe)(hc:PDT X [] c p)(hb:PDSs X G M L M M fr body u):PDS X G M L M Mb fr (.While c body [] pos) (Ym p u) :=
 (qiz hp hc hb).weak λD σ H ⟨S,ρ,o,os,e,q⟩=>by
  refine ⟨λm σ' H'=>∃ S' ρ' o',OwnS X.K G M L H' S' σ' ρ'/\Jc p u m ρ'=some o'/\OutQ X.K G M Mb L fr D o',⟨1000000,S,ρ,o,os,e,q⟩,?_⟩
  rintro m σ' H' ⟨S',ρ',o',os',e',q'⟩
  cases m with
  | zero=>cases e'
  | succ m =>
   obtain ⟨b,e1,e'⟩:=qd e'
   refine ⟨G.S0,ρ',b,os'.den,e1,λH1 g1=>?_⟩
   have os1:=os'.same g1
   cases b with
   | false =>
    cases e'
    exact iteF (q' σ' H1 S' os1)
   | true =>
    rw [ag rfl] at e'
    obtain ⟨o1,e2,e'⟩:=qd e'
    refine iteT ?_
    have next:∀ ρ2,Jc p u m ρ2=some o'->∃ N:St->Hp->Prop,(∀ σ' H'',N σ' H''->∃ m',m'<m+1/\∃ S' ρ' o',OwnS X.K G M L H'' S' σ' ρ'/\Jc p u m' ρ'=some o'/\OutQ X.K G M Mb L fr D o')/\∀ σ2 H2 S2,OwnS X.K G M L H2 S2 σ2 ρ2->N σ2 H2:=λρ2 e4 =>
     ⟨λσ2 H2=>∃ S2,OwnS X.K G M L H2 S2 σ2 ρ2,λσ2 H2 ⟨S2,hs3⟩=>⟨m,UF m,S2,ρ2,o',hs3,e4,q'⟩,λσ2 H2 S2 hs3=>⟨S2,hs3⟩⟩
    cases o1 with
    | nx ρ2 =>
     obtain ⟨N,n1,n2⟩:=next ρ2 e'
     exact ⟨N,n1,S',ρ',_,os1,e2,λσ3 H3 S3 hs3=>n2 σ3 H3 S3 hs3⟩
    | ct ρ2 =>
     obtain ⟨N,n1,n2⟩:=next ρ2 e'
     exact ⟨N,n1,S',ρ',_,os1,e2,λσ3 H3 S3 hs3=>n2 σ3 H3 S3 hs3⟩
    | bk ρ2 =>
     cases e'
     exact ⟨λ_ _=>False,λ_ _ z=>z.elim,S',ρ',_,os1,e2,λσ3 H3 S3 hs3=>q' σ3 H3 S3 hs3⟩
    | rt r =>
     cases e'
     have q2:OutQ X.K G M Mb L fr D (.rt r):=q'
     exact ⟨λ_ _=>False,λ_ _ z=>z.elim,S',ρ',_,os1,e2,q2⟩
noncomputable def intD:Ka->Option Int
 | .int i=>some i
 | _=>none
def PDO (X:Cx)(M:List Nat)(e:Option KD)(f:Rho->Option (Option Int)):Prop:=PO X e (λσ H Q=>∃ S ρ i,DenS X.K H S M σ ρ/\f ρ=some i/\∀ H',Same H H'->Q i H')
noncomputable def oN:Rho->Option (Option Int):=λ_=>some none
noncomputable def oS (f:'&'):Rho->Option (Option Int):=λρ=>ob (f ρ) λd=>ob (intD d) λi=>some (some i)
theorem qge (h:intD d=some i):d=.int i:=by cases d<;>first|(cases h;rfl)|cases h
theorem yp:PDO X M none oN:=λaa s σ H Q I ⟨S,ρ,i,hs,e,q⟩=>by
 cases e
 exact qkl aa s σ H Q I (q H (Same.refl H))
theorem jK (h:PD X M a f):PDO X M (some a) (oS f):=λaa s σ H Q I ⟨S,ρ,i,hs,e,q⟩=>by
 obtain ⟨d,e1,e⟩:=qd e
 obtain ⟨j,e2,e⟩:=qd e
 cases e
 cases qge e2
 exact qkm h aa s σ H Q I ⟨S,ρ,_,hs,e1,λv H' g d=>⟨j,d.int_inv,q H' g⟩⟩
noncomputable def cutD (ds:'(')(lo hi:Option Int):List Ka:=(ds.drop (HT.sIx ds.length 0 lo)).take (HT.sIx ds.length ds.length hi-HT.sIx ds.length 0 lo)
noncomputable def sliD (x:Ka)(lo hi:Option Int):Option Ka:=match x with
 | .list ds=>some (.list (cutD ds lo hi))
 | .tuple ds=>if HT.sIx ds.length 0 lo=0/\HT.sIx ds.length ds.length hi=ds.length then none else some (.tuple (cutD ds lo hi))
 | _=>none
noncomputable def evS (fa:'&')(fl fh:Rho->Option (Option Int)):Rho->Option Ka:=λρ=>ob (fa ρ) λx=>ob (fl ρ) λl=>ob (fh ρ) λh=>sliD x l h
theorem qan {K:Kb}{H:Hp}{S:Av}{vs:List V}{ds:'('}(t:DenL K H S vs ds)(lo hi:Option Int):DenL K H S (cutV vs lo hi) (cutD ds lo hi):=by
 unfold cutV cutD
 rw [t.length]
 exact (t.drop _).take _
theorem yo {lo hi:Option KD}{fl fh:Rho->Option (Option Int)}{p2:Pos}(ha:PD X M a f)(hl:PDO X M lo fl)(hh:PDO X M hi fh):PD X M (.Subscript a (.Slice lo hi none p2) pos) (evS f fl fh) :=
 (qdM (r:=λx lo hi H Q=>rSlL X.K x lo hi H Q\/rSlT X.K x lo hi H Q) (qfT.or qmN) ha hl hh).weak λσ H Q ⟨S,ρ,d,hs,e,q⟩=>by
  obtain ⟨x,e1,e⟩:=qd e
  obtain ⟨l,e2,e⟩:=qd e
  obtain ⟨h,e3,e⟩:=qd e
  refine ⟨S,ρ,x,hs,e1,λv H1 g1 d1=>⟨S,ρ,l,hs.same g1,e2,λH2 g2=>⟨S,ρ,h,hs.same (g1.trans g2),e3,λH3 g3=>?_⟩⟩⟩
  have g13:=g1.trans (g2.trans g3)
  have d3:=d1.same (g2.trans g3)
  cases d3 with
  | list hq t =>
   cases e
   exact .inl ⟨_,_,rfl,hq.sq,λp hp=>q _ _ (g13.lay' hp) (.list (SqLS.new qY ((hs.1.same g13).free hp)) ((qan t l h).same (Same.lay hp)))⟩
  | @tuple a' xs ds hq t =>
   have e:(if HT.sIx ds.length 0 l=0/\HT.sIx ds.length ds.length h=ds.length then none else some (Vi (cutD ds l h)))=some d:=e
   split at e
   ·cases e
   ·rename_i hc
    cases e
    refine .inr ⟨_,_,rfl,hq,by rw [t.length];exact hc,λp hp=>q _ _ (g13.lay' hp) (.tuple (SqT.of qY) ((qan t l h).same (Same.lay hp)))⟩
  | _=>cases e
noncomputable def qeV (x y:Ka):Option Ka:=match x,y with
 | .int i,.int j=>some (.int (i+j))
 | .tuple ds,.tuple es=>if ds.length+es.length<=1000 then some (.tuple (ds++es)) else none
 | _,_=>none
theorem qhf {prog:KJ}{w:K1}{A:KY}{E:Kd->Kh->Prop}{s:Kh}{t b:Ke}{vs ws:List Kd}{Q:Kd->Kh->Prop}(ht:bE s.heap t vs.toArray)(hb:bE s.heap b ws.toArray)(hv:vs=[])(h:Q (.ref b) s) :
  ai (model prog w) A (aF .Add (.ref t) (.ref b)) Q E s:=by
 obtain ⟨⟨cls,dd,data,sl⟩,ho,hc,n,hd⟩:=id ht
 obtain ⟨⟨cls2,dd2,data2,sl2⟩,ho2,hc2,n2,hd2⟩:=id hb
 simp only at hc hd hc2 hd2
 subst hc hd hc2 hd2
 exact Eo ⟨_,ho,rfl⟩ ⟨_,ho2,rfl⟩ Ep seq_tuple_add Nd Nb (X2 _ _) (tuple_addW0 t b vs.toArray ws.toArray n n2 dd dd2 sl sl2 (by simp [hv])) ⟨ho,ho2,h⟩
theorem qj4:OpR X (aF .Add) (λx y H Q=>∃ a b ys,x=.ref a/\y=.ref b/\SqT X.K H a []/\SqT X.K H b ys/\Q (.ref b) H):=by
 intro aa s σ H x y v u Q I rx ry h
 obtain ⟨a,b,ys,rfl,rfl,ha,hb,q⟩:=h
 cases rx
 cases ry
 obtain ⟨its,r1,p1,_⟩:=I.tuple ha
 obtain ⟨its2,r2,p2,_⟩:=I.tuple hb
 exact qhf p1 p2 (r1.nil_iff.mpr rfl) ⟨.ref b,H,I,rfl,q⟩
theorem qhm:OpD X (aF .Add) qeV:=by
 refine Yj (r:=λx y H Q=>rI0 (λi j=>.int (i+j)) x y H Q\/(qk3 X.K x y H Q\/(∃ a b ys,x=.ref a/\y=.ref b/\SqT X.K H a []/\SqT X.K H b ys/\Q (.ref b) H))) (ql5.or (qj6.or qj4)) λx y dx dy d H S Q m h1 h2 e q=>?_
 unfold qeV at e
 split at e
 ·cases e;cases h1;cases h2
  exact .inl ⟨_,_,rfl,rfl,q _ H (Same.refl H) (.int _)⟩
 ·split at e
  ·rename_i ds es hc
   cases e
   cases h1 with
   | tuple a1 t1 =>
    cases h2 with
    | tuple a2 t2 =>
     cases ds with
     | nil =>
      cases t1
      exact .inr (.inr ⟨_,_,_,rfl,rfl,a1,a2,q _ H (Same.refl H) (.tuple a2 t2)⟩)
     | cons d0 ds =>
      refine .inr (.inl ⟨_,_,_,_,rfl,rfl,a1,a2,λz=>?_,?_,λz=>?_,λz p hp=>q _ _ (Same.lay hp) (.tuple (SqT.of qY) ((t1.append t2).same (Same.lay hp)))⟩)
      ·subst z;cases t1
      ·rw [t1.length,t2.length]
       exact VP (zO hc)
      ·subst z;cases t2
       rw [VL] at q
       exact q _ H (Same.refl H) (.tuple a1 t1)
  ·cases e
 ·cases e
end
section
variable {X:Cx}{G:Gm}{M M1 M' Mb L:List Nat}{fr:Fr}{a b c:KD}{es:List KD}{f g:'&'}{p:Rho->Option Bool}{pos:Pos}{u:Rho->Option Out}{ss:List KS}{s1:KS}
def PDR (X:Cx)(tg iter:KD)(f:Rho->Option (List Ka)):Prop:=PI X tg iter (λσ H R=>∃ S ρ ds,DenS X.K H S [] σ ρ/\f ρ=some ds/\∀ J H',Same H H'->(∀ H2 S2,IsIt X.K S2 J H2 ds)->R J H')
theorem JB {tg:KD}{fs:Rho->Option (List Ka)}{p:Pos}(hg:Gl X "range")(hm:X.mg "range" = none)(ha:PDA X [] [a] fs)(hs:af [a] X.env=[(false,eval a X.env)]:=by rfl):PDR X tg (.Call (.Name "range" p) [a] [] pos) (evR fs Q0) :=
 (qbL hg hm ha hs).weak λσ H R ⟨S,ρ,ds,hs,e,w⟩=>by
  obtain ⟨xs,e1,e⟩:=qd e
  refine ⟨S,ρ,xs,hs,e1,λvs H1 g1 d1=>?_⟩
  unfold Q0 at e
  split at e
  ·rename_i j
   split at e
   ·rename_i hj
    cases e
    obtain ⟨v,rfl,q⟩:=d1.inv1
    cases q
    exact ⟨j,rfl,by omega,by omega,w _ _ g1 λ_ _=>IsIt.rng 0 _⟩
   ·cases e
  ·cases e
theorem qeC {tg:KD}{fs:Rho->Option (List Ka)}{p:Pos}(hg:Gl X "range")(hm:X.mg "range" = none)(ha:PDA X [] [a,b] fs)(hs:af [a,b] X.env=[(false,eval a X.env),(false,eval b X.env)]:=by rfl)(hs2:af [b] X.env=[(false,eval b X.env)]:=by rfl):PDR X tg (.Call (.Name "range" p) [a,b] [] pos) (evR fs qdY) :=
 (qgJ hg hm ha hs hs2).weak λσ H R ⟨S,ρ,ds,hs,e,w⟩=>by
  obtain ⟨xs,e1,e⟩:=qd e
  refine ⟨S,ρ,xs,hs,e1,λvs H1 g1 d1=>?_⟩
  unfold qdY at e
  split at e
  ·rename_i i j
   split at e
   ·rename_i hj
    cases e
    obtain ⟨v,w',rfl,q,q'⟩:=d1.inv2
    cases q;cases q'
    exact ⟨i,j,rfl,⟨by omega,by omega,by omega,by omega⟩,w _ _ g1 λ_ _=>IsIt.rng i _⟩
   ·cases e
  ·cases e
theorem yq {tg iter:KD}{body:List KS}{fi:Rho->Option (List Ka)}{g:Ka->Rho->Option Rho}(hp:EE (model X.prog X.w) X.A X.env X.xe)(hc:X.calm=true)(hi:PDR X tg iter fi)(hg:PDG X G M L tg g)(hb:PDSs X G M L M M fr body u)
  (hs:∀ x,az iter X.env x=pure x:=by intro _;rfl):PDS X G M L M Mb fr (.For tg iter body [] pos) (sFor fi g u):=by
 refine (qix hp hc hi hg hb hs).weak λD σ H ⟨S,ρ,o,os,e,q⟩=>?_
 obtain ⟨ds,e1,e⟩:=qd e
 refine ⟨G.S0,ρ,ds,os.den,e1,λJ H1 g1 hJ=>?_⟩
 refine ⟨λi m σ' H'=>m=ds.length-i/\i<=ds.length/\∃ S' ρ o,OwnS X.K G M L H' S' σ' ρ/\forD g u (ds.drop i) ρ=some o/\OutQ X.K G M Mb L fr D o,⟨ds.length,by simp,Vj _,S,ρ,o,os.same g1,e,q⟩,?_⟩
 rintro i m σ' H' ⟨rfl,hi,S',ρ',o',hs',e',q'⟩
 by_cases hlt:i<ds.length
 ·rw [VT hlt] at e'
  obtain ⟨ρ1,e2,e'⟩:=qd e'
  obtain ⟨o1,e3,e'⟩:=qd e'
  have key:∀ N:St->Hp->Prop,OutQ X.K G M M L fr { D with nx:=N,ct:=N,bk:=D.nx } o1->∀ x H2,J.yld i H' x H2->tDG X.K G M L g x σ' H2 λσ2 H2=>tDS X.K G M L M M fr u { D with nx:=N,ct:=N,bk:=D.nx } σ2 H2:=λN hN x H2 y=>by
   obtain ⟨e4,yd⟩:=(hJ H' S').yld i H' x H2 (Same.refl _) y
   exact ⟨S',ρ',_,ρ1,hs'.same e4,yd _ (Kl hlt) S' λy e q=>q.same e4,e2,λσ2 H3 g3 hs3=>⟨S',ρ1,o1,hs3,e3,hN⟩⟩
  refine .inr ⟨(hJ H' S').go i H' (Same.refl _) hlt,?_⟩
  have next:∀ ρ2,forD g u (ds.drop (i+1)) ρ2=some o'->∃ N:St->Hp->Prop,(∀ σ' H'',N σ' H''->∃ m',m'<ds.length-i/\(m'=ds.length-(i+1)/\i+1<=ds.length/\∃ S' ρ o,OwnS X.K G M L H'' S' σ' ρ/\forD g u (ds.drop (i+1)) ρ=some o/\OutQ X.K G M Mb L fr D o))/\∀ σ2 H2 S2,OwnS X.K G M L H2 S2 σ2 ρ2->N σ2 H2:=λρ2 e4 =>
   ⟨λσ2 H2=>∃ S2,OwnS X.K G M L H2 S2 σ2 ρ2,λσ2 H2 ⟨S2,hs3⟩=>⟨ds.length-(i+1),by omega,rfl,hlt,S2,ρ2,o',hs3,e4,q'⟩,λσ2 H2 S2 hs3=>⟨S2,hs3⟩⟩
  cases o1 with
  | nx ρ2 =>
   obtain ⟨N,n1,n2⟩:=next ρ2 e'
   exact ⟨N,n1,key N λσ3 H3 S3 hs3=>n2 σ3 H3 S3 hs3⟩
  | ct ρ2 =>
   obtain ⟨N,n1,n2⟩:=next ρ2 e'
   exact ⟨N,n1,key N λσ3 H3 S3 hs3=>n2 σ3 H3 S3 hs3⟩
  | bk ρ2 =>
   cases e'
   exact ⟨λ_ _=>False,λ_ _ z=>z.elim,key _ λσ3 H3 S3 hs3=>q' σ3 H3 S3 hs3⟩
  | rt r =>
   cases e'
   have q2:OutQ X.K G M Mb L fr D (.rt r):=q'
   exact ⟨λ_ _=>False,λ_ _ z=>z.elim,key _ q2⟩
 ·have hi':i=ds.length:=by omega
  subst hi'
  rw [Nl] at e'
  cases e'
  exact .inl ⟨(hJ H' S').stop H' (Same.refl _),q' σ' H' S' hs'⟩
theorem qdJ (M1:List Nat)(h:PDSs X G M L M' Mb fr ss u)(h1:subB M1 M'=true)(h2:subB L M1=true):PDSs X G M L M1 Mb fr ss u:=qkf h h1 h2
theorem qgE (M1:List Nat)(h1:subB M1 M=true)(h2:subB L M1=true)(h:PDS X G M1 L M' Mb fr s1 u):PDS X G M L M' Mb fr s1 u:=qgD h h1 h2
end
noncomputable def intsOf:List Ka->Option (List Int)
 | []=>some []
 | .int i::r=>ob (intsOf r) λns=>some (i::ns)
 | _::_=>none
noncomputable def boolsOf:List Ka->Option (List Bool)
 | []=>some []
 | .bool i::r=>ob (boolsOf r) λns=>some (i::ns)
 | _::_=>none
theorem Wu:∀ {ds:'('} {ns:List Int},intsOf ds=some ns->ds=ns.map .int
 | [],_,h=>by cases h;rfl
 | .int i::r,ns,h=>by
  obtain ⟨ms,e1,e2⟩:=qd h
  cases e2
  rw [Wu e1]
  rfl
 | .none::_,_,h=>by cases h
 | .bool _::_,_,h=>by cases h
 | .str _::_,_,h=>by cases h
 | .list _::_,_,h=>by cases h
 | .tuple _::_,_,h=>by cases h
 | .dict _::_,_,h=>by cases h
theorem YG:∀ {ds:'('} {ns:List Bool},boolsOf ds=some ns->ds=ns.map .bool
 | [],_,h=>by cases h;rfl
 | .bool i::r,ns,h=>by
  obtain ⟨ms,e1,e2⟩:=qd h
  cases e2
  rw [YG e1]
  rfl
 | .none::_,_,h=>by cases h
 | .int _::_,_,h=>by cases h
 | .str _::_,_,h=>by cases h
 | .list _::_,_,h=>by cases h
 | .tuple _::_,_,h=>by cases h
 | .dict _::_,_,h=>by cases h
noncomputable def inOk (ds:'(')(x:Ka):Bool:=Kp ds&&(x.canLay0&&decide (x.depth<=63))
noncomputable def inL (ds:'(')(x:Ka):Bool:=ds.any λy=>Ks y x
noncomputable def inD (x y:Ka):Option Ka:=match y with
 | .list ds=>if inOk ds x=true then some (.bool (inL ds x)) else none
 | .tuple ds=>if inOk ds x=true then some (.bool (inL ds x)) else none
 | _=>none
noncomputable def ninD (x y:Ka):Option Ka:=match y with
 | .list ds=>if inOk ds x=true then some (.bool (!inL ds x)) else none
 | .tuple ds=>if inOk ds x=true then some (.bool (!inL ds x)) else none
 | _=>none
noncomputable def allD:List Ka->Option Ka
 | [.list ds]=>ob (boolsOf ds) λbs=>some (.bool (bs.all id))
 | _=>none
section
variable {X:Cx}
theorem ZV {x:Ka}(h:inOk ds x=true):Kp ds=true/\x.canLay0=true/\x.depth<=63:=by
 unfold inOk at h
 rw [KI,KI] at h
 exact ⟨h.1,h.2.1,ao h.2.2⟩
theorem yP {A:KY}{x:Ka}(hd:x.depth<=63)(hu:A.units+64<aI):A.units+1+min (KC ds) x.depth<aI:=by
 have:=Nat.min_le_right (KC ds) x.depth
 omega
theorem d_in (hr:Room k X.A):OpD X (au .In) inD:=by
 intro aa s σ H x y v u Q I rx ry h
 obtain ⟨S,dx,dy,d,m,h1,h2,e,q⟩:=h
 unfold inD at e
 split at e
 ·split at e
  ·rename_i hc
   obtain ⟨c1,c2,c3⟩:=ZV hc
   cases e
   obtain ⟨as,q1⟩:=h1.reads I c2 rx
   obtain ⟨bs,q2⟩:=h2.reads I (by rw [KM];exact c1) ry
   exact SeqAt.in_list_reads q2 q1 c1 c2 (yP c3 hr.units) (jE I (q _ H (Same.refl H) (.bool _)) rfl)
  ·cases e
 ·split at e
  ·rename_i hc
   obtain ⟨c1,c2,c3⟩:=ZV hc
   cases e
   obtain ⟨as,q1⟩:=h1.reads I c2 rx
   obtain ⟨bs,q2⟩:=h2.reads I (by rw [KM];exact c1) ry
   exact SeqAt.in_tuple_reads q2 q1 c1 c2 (yP c3 hr.units) (jE I (q _ H (Same.refl H) (.bool _)) rfl)
  ·cases e
 ·cases e
theorem YK (hr:Room k X.A):OpD X (au .NotIn) ninD:=by
 intro aa s σ H x y v u Q I rx ry h
 obtain ⟨S,dx,dy,d,m,h1,h2,e,q⟩:=h
 unfold ninD at e
 split at e
 ·split at e
  ·rename_i hc
   obtain ⟨c1,c2,c3⟩:=ZV hc
   cases e
   obtain ⟨as,q1⟩:=h1.reads I c2 rx
   obtain ⟨bs,q2⟩:=h2.reads I (by rw [KM];exact c1) ry
   exact SeqAt.notIn_list_reads q2 q1 c1 c2 (yP c3 hr.units) (jE I (q _ H (Same.refl H) (.bool _)) rfl)
  ·cases e
 ·split at e
  ·rename_i hc
   obtain ⟨c1,c2,c3⟩:=ZV hc
   cases e
   obtain ⟨as,q1⟩:=h1.reads I c2 rx
   obtain ⟨bs,q2⟩:=h2.reads I (by rw [KM];exact c1) ry
   exact SeqAt.notIn_tuple_reads q2 q1 c1 c2 (yP c3 hr.units) (jE I (q _ H (Same.refl H) (.bool _)) rfl)
  ·cases e
 ·cases e
theorem DenL.bools_inv {K:Kb}{H:Hp}{S:Av}:∀ {vs:List V} {ns:List Bool},DenL K H S vs (ns.map UC)->vs=ns.map V.bl
 | _,[],h=>by cases h;rfl
 | _,n::ns,h=>by
  cases h with
  | cons a t=>cases a;rw [t.bools_inv];rfl
theorem Wr:∀ {ns:List Bool} {us:List Kd},Vals (ns.map V.bl) us->LSm.BoolsAre us ns
 | [],_,h=>by cases h;exact .nil
 | n::ns,_,h=>by
  cases h with
  | cons r t=>cases (show _=Vt n from r);exact .cons n (Wr t)
theorem qg2 (hc:X.calm=true):CallD X (.builtin "all") allD:=by
 intro aa s σ H xs us Q I r h
 obtain ⟨S,ds,d,m,h1,e,q⟩:=h
 unfold allD at e
 split at e
 ·rename_i ds
  obtain ⟨bs,e1,e2⟩:=qd e
  cases e2
  rw [YG e1] at h1
  obtain ⟨v,rfl,hv⟩:=h1.inv1
  obtain ⟨a,ys,rfl,hs,ht⟩:=hv.list_inv
  rw [ht.bools_inv] at hs
  obtain ⟨u,rfl,ru⟩:=vals1 r
  cases (show u=Ve a from ru)
  obtain ⟨its,rv,p,_⟩:=I.list hs.sq
  have hb:=Wr rv
  have hl:=p.isList
  have hlt:a<s.heap.objs.size:=by obtain ⟨_,e,_⟩:=hl;exact KF e
  refine call_all_walk (wpAny_pyIter_list hl ?_)
  refine ⟨s.heap.objs.size,[s.heap.objs.size,a],[s.heap.objs.size],its.toArray.size,_,_,λi=>(bs[i]?).getD true,rfl,Walks.list (A:=X.A.in1) (I.ok.hd hc) _ a (KW hlt) its.toArray,
   ⟨⟨_,Kv _ rfl,rfl,rfl⟩,hl.push _⟩,λi v s' Q' E' hP hQ=>?_,λh' tk hk=>?_⟩
  ·obtain ⟨b,e,rfl⟩:=hb.get i v (by simpa using hP)
   simp only [e,Option.getD_some] at hQ
   exact Ub hQ
  ·have e:((KG its.toArray.size).all λi=>(bs[i]?).getD true)=bs.all id:=by
    rw [KA,hb.length];exact LSm.range_all bs
   rw [e]
   exact ⟨.bl (bs.all id),H,I.kept (LSm.kept_iter hk),rfl,q _ H (Same.refl H) (.bool _)⟩
 ·cases e
end
section
variable {X:Cx}{G:Gm}{M M' Mb L:List Nat}{fr:Fr}{f:'&'}{p:Rho->Option Bool}{pos:Pos}
theorem qmR {K:Kb}{n k:Nat}{fi:Rho->Option (List Ka)}{g:Ka->Rho->Option Rho}(hg:GIn n k g):∀ σ H Q,tF K M (ZL n k fi g p f) σ H Q->qbQ k (tDI K M fi) (tDGc K M g) (tDT K M p) (tD K M f) σ H Q:=by
 intro σ H Q ⟨S,ρ,d,hs,e,q⟩
 obtain ⟨ds,ys,e1,hn,hz,e2,rfl⟩:=Yd e
 exact qfV hg σ H Q S ρ ds ys hs e1 hn hz e2 λH' zs g2 dl D hD=>q _ _ (g2.lay' hD) (g2.free hD) (OwnO.laid hD dl)
variable {elt iter tg:KD}{ifs:List KD}{x:Str}{N':List Str}{px:Pos}{sc:Ua}{n k:Nat}{fi:Rho->Option (List Ka)}{g:Ka->Rho->Option Rho}
noncomputable def swB (sc₀ sc:Ua)(t:Str)(pt p:Pos):Bool:=decide (sc₀.names.lookup t=some .local)&&(pt.line==p.line)&&!(sc.names.any λ(n,k)=>n==t&&(k==.local||k==.cell))
theorem qa2  (hsc:X.env.scope=sc₀) (h:swB sc₀ sc y py pos=true):X.env.scope.names.lookup y=some .local:=by
 subst hsc
 unfold swB at h
 rw [KI,KI] at h
 exact ao h.1.1
theorem qk7    (hsc:X.env.scope=sc₀) (h:swB sc₀ sc y py pos=true) (hbk:X.env.blockKind=.function):aK (.ListComp elt gens sc pos) (some (.Name y py)) line X.env=pure true:=by
 have h0:=qa2 hsc h
 subst hsc
 unfold swB at h
 rw [KI,KI] at h
 show pure (X.env.blockKind==.function&&X.env.kindOf y==some .local&&py.line==pos.line&&!(sc.names.any λ(n,k)=>n==y&&(k==.local||k==.cell)))=pure true
 have e1:(X.env.blockKind==Uo)=true:=by rw [hbk];rfl
 have e2:(X.env.kindOf y==some aE.local)=true:=by
  show (X.env.scope.names.lookup y==some aE.local)=true
  rw [h0];rfl
 rw [e1,e2,h.1.2,h.2]
 rfl
theorem qgB (j:Nat){py spos:Pos}(O:CompOk X N' k sc)(gi:GIn n k g)(sc₀:Ua)(hsc:X.env.scope=sc₀)(hB:swB sc₀ sc y py pos=true)(hM:Out0 M j)(hL:j∉L)(hi:PDI X M tg iter fi)(hg:∀ cl C fp aa s H,PDGc (q9 X N' sc cl C fp aa s H) M tg g)(hq:∀ cl C fp aa s H,PDTs (q9 X N' sc cl C fp aa s H) M ifs p)(he:∀ cl C fp aa s H,PD (q9 X N' sc cl C fp aa s H) M elt f)
  (hj:X.N[j]?=some y:=by rfl) (hbk:X.env.blockKind=.function:=by rfl)
  (hs:∀ v,az iter X.env v=pure v:=by intro _;rfl):PDS X G M L (j::M) Mb fr (.Assign [.Name y py] (.ListComp elt [⟨tg,iter,ifs,0⟩] sc pos) spos) (QJ j (ZL n k fi g p f)) :=
 (qfJ (wg:=tDGc X.K M g) (tt:=tDT X.K M p) (te:=tD X.K M f) O hj (qa2 hsc hB) hi hg hq he (qk7 hsc hB hbk) hs).weak λD σ H ⟨S,ρ,o,hs,e,q⟩=>by
  unfold QJ at e
  split at e
  ·rename_i hz
   obtain ⟨d,e1,e⟩:=qd e
   cases e
   exact qmR gi σ H _ ⟨S,ρ,d,hs.ds,e1,λp H1 g1 n o=>q _ H1 _ (hs.take n g1 o hM hL hz)⟩
  ·cases e
theorem qdI (j:Nat){py spos:Pos}(O:CompOk X N' 1 sc)(hx:N'[n]?=some x)(hl:lc1 sc x=true)(sc₀:Ua)(hsc:X.env.scope=sc₀)(hB:swB sc₀ sc y py pos=true)(hM:Out0 M j)(hL:j∉L)(hi:PDI X M (.Name x px) iter fi)(hq:∀ cl C fp aa s H,PDTs (q9 X N' sc cl C fp aa s H) M ifs p)(he:∀ cl C fp aa s H,PD (q9 X N' sc cl C fp aa s H) M elt f)
  (hj:X.N[j]?=some y:=by rfl) (hbk:X.env.blockKind=.function:=by rfl)
  (hs:∀ v,az iter X.env v=pure v:=by intro _;rfl):PDS X G M L (j::M) Mb fr (.Assign [.Name y py] (.ListComp elt [⟨.Name x px,iter,ifs,0⟩] sc pos) spos) (QJ j (Zr n fi p f)):=by
 rw [qaj]
 exact qgB j O (Q9 (Kq _)) sc₀ hsc hB hM hL hi (Z3 O hx hl) hq he hj hbk hs
end
noncomputable def qe9 (N N':List Str)(k:Nat)(sc₀ sc:Ua):Bool :=
 decide (sc.kind=.function)&&decide N.Nodup&&decide N'.Nodup&&decide (N'.length=N.length+k)&&sc.names.all (λy=>decide (y.2≠.cell)||decide (sc.names.lookup y.1=some .cell))&&sc.names.all (λy=>decide (y.2≠.local)||decide (sc.names.lookup y.1=some .local)) &&
 (N.zip N').all (λy=>(decide (y.1=y.2)&&(decide (sc.names.lookup y.2≠some .local)&&decide (sc.names.lookup y.2≠some .cell)))||decide (sc.names.lookup y.2=none)) &&
 sc.names.all (λy=>decide (y.2≠.free)||decide (sc₀.names.lookup y.1=some .cell)||decide (sc₀.names.lookup y.1=some .free))
theorem CompOk.of {X:Cx}  (N N':List Str) (sc₀:Ua) (hc:X.calm=true) (hN:X.N=N) (hs:X.env.scope=sc₀) (h:qe9 N N' k sc₀ sc=true):CompOk X N' k sc:=by
 subst hN
 subst hs
 unfold qe9 at h
 simp only [KI,aD,K4,NC] at h
 obtain ⟨⟨⟨⟨⟨⟨⟨h1,h2⟩,h2'⟩,h2l⟩,h3⟩,h4⟩,h7⟩,h8⟩:=h
 refine ⟨hc,h1,h2,h2',h2l,λy hy q=>(h3 y hy).resolve_left (λz=>z q),λy hy q=>(h4 y hy).resolve_left (λz=>z q),λi y hi e=>?_,λy hy q=>?_⟩
 ·have hz:(X.N.zip N')[i]?=some (X.N[i],y):=by
   rw [XU]
   exact ⟨Kl hi,e⟩
  rcases h7 _ (KN hz) with ⟨q,w⟩|q
  ·refine .inl ⟨?_,w⟩
   rw [Kl hi]
   exact congrArg some q
  ·exact .inr q
 ·rcases h8 y hy with (z|z)|z
  ·exact absurd q z
  ·exact .inl z
  ·exact .inr z
theorem qa7:∀ {ns:List Int} {n:Int},n∈ns->PySem.W.WData.weight (.int n)<=PySem.W.WData.weightAll (ns.map .int)
 | m::ns,n,h=>by
  rw [Kt,PySem.W.WData.weightAll]
  rcases Kr.mp h with rfl|h
  ·omega
  ·have:=qa7 h
   omega
theorem qag {ns:List Int}(h:PySem.W.WData.layableAll [.list (ns.map .int)]=true):∀ n∈ns,Vz n<=2 ^ 20:=by
 intro n hn
 have h1:PySem.W.WData.layable (.list (ns.map .int))=true:=by
  unfold PySem.W.WData.layableAll at h
  simpa using h
 unfold PySem.W.WData.layable at h1
 rw [KI] at h1
 have h2:=ao h1.2
 rw [PySem.W.WData.weight] at h2
 have h3:=Vg (qa7 hn) h2
 rw [PySem.W.WData.weight] at h3
 exact h3
end L2
namespace Att
open PySem PySem.W PySem.Calls PyProof.Rows
theorem attach_callB {l:Ef}{n:Nat}{q:KJ}{loose:List Str}{XP:(Str->Option Kd)->KU->Prop}{YP:K1->KU->Prop}{d:DefRec}
  (hn:l.most=some n) (hdf:d.params.defaults=[])
  (call:∀ (w:K1) (s₀ s₁:Kh) (mg mb:Str->Option Kd) (fa:Ke) (o:Obj) (pm cd doc:Kd) (a:Ke) (vs:List Kd) (ns:List Int),
   Ground q loose [] XP w s₀ mg mb s₁.heap->YP w s₁.heap->
   s₁.heap.get? fa=some o->o.data=.func (docDef d.name d.params d.body d.scope pm cd doc)->s₁.heap.CodeRec cd d.name->mg d.name=some (.ref fa)->
   s₁.heap.get? a=some { cls:=.type "list", data:=.seq vs.toArray }->IntsAre vs ns->ns.length<=n->(∀ k∈ns,Vz k<=2 ^ 20)->s₁.gens=#[]->
   aT (model l.prog w) callerA (.call (.ref fa) ⟨[.ref a],[]⟩) (λr s'=>r=.ok (.ret (.bool true))/\OldK s₁.heap s'.heap/\s'.os=s₁.os/\XR s'.gens) s₁) :
  WalkO q loose XP YP l.row.toRowW d [] (λf vs=>PySem.call f vs):=by
 intro w s₀ s₁ mg mb G Y fa o pm cd doc dV kV ho hd hcd hD hmg hg args vals as hpre hlay hrd hwl hlo
 obtain rfl:dV=.none:=Dflts.none hD hdf
 obtain rfl:kV=.none:=Dflts.noKw hD
 obtain ⟨a,vs,ns,rfl,rfl,hobj,hints,hlen⟩:=qgP hn hpre hwl
 refine enter_call (codeAny_mono (call w s₀ s₁ mg mb fa o pm cd doc a vs ns G Y ho (fd_plain hd) hcd hmg hobj hints hlen (L2.qag hlay) hg) λr s' hq=>?_)
 obtain ⟨rfl,h2,h3,h4⟩:=hq
 exact ⟨.inl ⟨.bool true,.bool true,[],rfl,λ_=>rfl,.bool true,qgM l _,λ_=>⟨List.Pairwise.nil,λ_ hm=>(nomatch hm)⟩⟩,h2,h3,h4⟩
end Att
namespace L2
open PySem PySem.Spec PyProof.Rows
noncomputable def qeK (K:Kb)(n:Nat):Sp:=λvs H Q _=>∃ (a:Ke) (ns:List Int),vs=[.ref a]/\SqL K H a (ns.map V.int)/\ns.length<=n/\(∀ k∈ns,Vz k<=2 ^ 20)/\∀ H',Q (.bl true) H'
theorem qhT {P:KJ}{w:K1}{K:Kb}{mg:Str->Option Kd}{base:KU}{CX:CXT}{k n:Nat}{f:Ke}{fd:VD}{ps:List Str}{h:List Ka->Option Ka}(F:FnOk P w K mg base CX k f fd ps (spF K 1 h))
  (e:∀ ns:List Int,ns.length<=n->(∀ k∈ns,Vz k<=2 ^ 20)->h [.list (ns.map .int)]=some (.bool true)):FnOk P w K mg base CX k f fd ps (qeK K n) :=
 F.imp λvs H Q E ⟨a,ns,h1,h2,h3,h4,q⟩=>by
  subst h1
  exact ⟨λ_=>False,[.list (ns.map .int)],.bool true,(λ_ z=>z.elim),.cons (.list (h2.imp (λy=>⟨y,id⟩) id) (DenL.ints ns)) .nil,rfl,e ns h3 h4,λv H' _ d=>by rw [d.bool_inv];exact q H'⟩
theorem qgU {l:Ef}{n k:Nat}{q:KJ}{loose:List Str}{XP:(Str->Option Kd)->KU->Prop}{YP:K1->KU->Prop}{d:DefRec}{K:Params->Kb}{x:Str}
  (hn:l.most=some n) (hn2:n<=ak) (hdf:d.params.defaults=[]) (hr:Room k callerA)
  (hY:∀ (w:K1) (h:KU),YP w h->(K w.params).In h)
  (F:∀ (w:K1) (mg:Str->Option Kd) (fa:Ke) (h:KU),(K w.params).In h->h.Ns aj mg->mg d.name=some (.ref fa)->
   ∃ fd:VD,(∀ (s:Kh) (u:Kd),BindsTo s fd ⟨[u],[]⟩ [(x,u)])/\
    ∀ base:KU,(K w.params).In base->base.Ns aj mg->FnOk l.prog w (K w.params) mg base CX0 k fa fd [x] (qeK (K w.params) n)) :
  PySem.W.WalkO q loose XP YP l.row.toRowW d [] (λf vs=>PySem.call f vs):=by
 refine Att.attach_callB hn hdf λw s₀ s₁ mg mb fa o pm cd doc a vs ns G Y ho hd hcd hmg hobj hints hlen hbits hg=>?_
 have KX:=hY w _ Y
 obtain ⟨fd,hb,hF⟩:=F w mg fa _ KX G.T.g hmg
 exact qhS KX G.T.g G.T.b G.T.builtins G.T.nolimit hg hobj hints (Vg hlen hn2) hr hF hb (λH hO hS=>⟨a,ns,rfl,hS,hlen,hbits,λ_=>rfl⟩) λH e s' h=>h
mutual
def ltX:Ka->Ka->Option Bool
 | .int i,.int j=>some (decide (i<j))
 | .tuple xs,.tuple ys=>ltXs xs ys
 | .list xs,.list ys=>ltXs xs ys
 | _,_=>none
def ltXs:List Ka->List Ka->Option Bool
 | [],[]=>some false
 | [],_::_=>some true
 | _::_,[]=>some false
 | x::xs,y::ys=>if Ks x y=true then ltXs xs ys else ltX x y
end
def LtAt (A:KY)(s:Kh)(y x:Kd)(b:Bool):Prop:=∀ (prog:KJ) (w:K1) (E Q:Kd->Kh->Prop),Q (.bool b) s->ai (model prog w) A (aP .Lt y x) Q E s
noncomputable def Wl (A:KY)(s:Kh):List Kd->List Kd->Bool->Prop
 | [],[],r=>r=false
 | [],_::_,r=>r=true
 | _::_,[],r=>r=false
 | y::ys,x::xs,r=>∃ e,SeqAt.EqAt A s y x e/\(e=true->Wl A s ys xs r)/\(e=false->LtAt A s y x r)
section
open PySem.SeqAt
open PySem.AutoSeq1 (wpAny_loadPart')
open PySem.MeetsSeq PySem.MeetsSeq2 PySem.MeetsSeq3
theorem qcK (l b:Ke)(items items2:Array Kd)(n n2:Nat)(dd dd2:Option Ke)(sl sl2:Array (Option Kd)) :
  Meets (UP.«tuple.__lt__» ⟨[.ref l,.ref b],[]⟩)
   (λA R s=>s.heap.get? l=some { cls:=.type "tuple", dict:=dd,data:=.seq items n,slots:=sl }/\s.heap.get? b=some { cls:=.type "tuple", dict:=dd2,data:=.seq items2 n2,slots:=sl2 }/\
    ∃ r,Wl A.in1 s items.toList items2.toList r/\R (.ok (.ret (.bool r))) s) :=
 .of_wp λprog w A R s h=>by
  obtain ⟨hp,g,d,tk,os⟩:=s;obtain ⟨hl,hb,r,hx,h⟩:=h
  have f2:=AutoSeq1.sub_tuple_tuple
  wp_walk using aq hl,aq hb,XJ _ (λrest b s'=>b.1=none/\s'=⟨hp,g,d,tk,os⟩/\∃ (vs ws:List Kd),rest=vs.zip ws/\
   Wl A.in1 ⟨hp,g,d,tk,os⟩ vs ws r/\vs.length+items2.size=ws.length+items.size) _
  case turn =>
   rintro ⟨y,x⟩ rest b s' ⟨hb',rfl,vs,ws,hz,hlx,hlen⟩
   cases vs with
   | nil=>rw [Eh] at hz;cases hz
   | cons v vs =>
    cases ws with
    | nil=>rw [NZ] at hz;cases hz
    | cons u ws =>
     rw [Xu] at hz
     injection hz with hyx hrest
     injection hyx with hy hx'
     subst hy hx'
     simp only [Kz] at hlen
     obtain ⟨e,he,h1,h2⟩:=hlx
     refine Kc (he prog w _ _ ?_)
     cases e with
     | true =>
      wp_walk
      exact ⟨rfl,rfl,_,_,hrest,h1 rfl,by omega⟩
     | false =>
      have hri:=h2 rfl prog w
      wp_walk using hri
      exact ⟨_,rfl,by simpa using h⟩
  case fin =>
   rintro ⟨b1,b2⟩ s' ⟨hb',rfl,vs,ws,hz,hlx,hlen⟩
   simp only at hb'
   subst hb'
   have hv:r=decide (items.size<items2.size):=by
    cases vs with
    | nil =>
     cases ws with
     | nil =>
      simp only [V5] at hlen
      rw [show r=false from hlx]
      exact (ab '$').symm
     | cons c hw =>
      simp only [V5,Kz] at hlen
      rw [show r=true from hlx]
      exact (ae '$').symm
    | cons a hv =>
     cases ws with
     | nil =>
      simp only [V5,Kz] at hlen
      rw [show r=false from hlx]
      exact (ab '$').symm
     | cons c hw =>
      rw [Xu] at hz
      cases hz
   rw [hv] at h
   wp_walk
   exact ⟨_,rfl,by simpa [Nv] using h⟩
  case h =>
   exact ⟨rfl,rfl,items.toList,items2.toList,rfl,hx,by simp [Fh]⟩
end
theorem qhX {A:KY}{s:Kh}{items items2:Array Kd}(hl:bE s.heap l items)(hb:bE s.heap b items2)(hu:A.units<aI)(h:Wl A.in1 s items.toList items2.toList r):LtAt A s (.ref l) (.ref b) r:=λprog w E Q q=>by
 obtain ⟨⟨cls,dd,data,sl⟩,ho,hc,n,hd⟩:=id hl
 obtain ⟨⟨cls2,dd2,data2,sl2⟩,ho2,hc2,n2,hd2⟩:=id hb
 simp only at hc hd hc2 hd2
 subst hc hd hc2 hd2
 exact Nf (op:=.Lt) ⟨_,ho,rfl⟩ ⟨_,ho2,rfl⟩ PySem.F.slot_tuple_lt PySem.F.entry_tuple_lt (PySem.F.args_tuple_lt_2 _ _) (qcK l b items items2 n n2 dd dd2 sl sl2)
  ⟨ho,ho2,r,h,show Vt r≠ND/\Q (.bool r) s from ⟨(λx=>nomatch x),q⟩⟩ hu
section
open PySem.SeqAt
open PySem.AutoSeq1 (wpAny_loadPart')
open PySem.MeetsSeq PySem.MeetsSeq2 PySem.MeetsSeq3
theorem qcr (l b:Ke)(xs ys:Array Kd)(n n2:Nat)(dd dd2:Option Ke)(sl sl2:Array (Option Kd)):∀ (k i:Nat),xs.size=i+k->i<=ys.size->Meets (UP.«list.__eq__.loop» ⟨[.ref l,.ref b,be i,be 0],[]⟩)
   (λA R s=>s.heap.get? l=some ⟨.type "list", dd,.seq xs n,sl⟩/\s.heap.get? b=some ⟨.type "list", dd2,.seq ys n2,sl2⟩/\∃ r,Wl A.in1 s (xs.toList.drop i) (ys.toList.drop i) r/\R (.ok (.ret (.bool r))) s):=by
 intro k
 induction k with
 | zero =>
  intro i hx hy prog w A R s ⟨hl,hb,r,hq,hR⟩
  obtain ⟨hp,g,d,tk,os⟩:=s
  have e1:xs.toList.drop i=[]:=Ng (by rw [KR];omega)
  have e2:xs[((i:Nat):Int).toNat]?=none:=by rw [Vl];exact UZ '$'
  rw [e1] at hq
  have hr:r=decide (xs.size<ys.size):=by
   by_cases h:i<ys.size
   ·have e3:ys.toList.drop i=ys[i]::ys.toList.drop (i+1):=by rw [VT (by rw [KR];exact h),NF]
    rw [e3] at hq
    rw [show r=true from hq];exact (ae '$').symm
   ·rw [Ng (by rw [KR];omega)] at hq
    rw [show r=false from hq];exact (ab '$').symm
  rw [hr] at hR
  wp_walk using aq hl,aq hb
  rw [e2]
  wp_walk using aq hl,aq hb
  exact hR
 | succ k ih =>
  intro i hx hy prog w A R s ⟨hl,hb,r,hq,hR⟩
  obtain ⟨hp,g,d,tk,os⟩:=s
  have h1:i<xs.size:=by omega
  have e1:xs.toList.drop i=xs[i]::xs.toList.drop (i+1):=by rw [VT (by rw [KR];exact h1),NF]
  have e2:xs[((i:Nat):Int).toNat]?=some xs[i]:=by rw [Vl];exact VU h1
  rw [e1] at hq
  wp_walk using aq hl,aq hb
  by_cases h2:i<ys.size
  ·have e3:ys.toList.drop i=ys[i]::ys.toList.drop (i+1):=by rw [VT (by rw [KR];exact h2),NF]
   have e4:ys[((i:Nat):Int).toNat]?=some ys[i]:=by rw [Vl];exact VU h2
   rw [e3] at hq
   obtain ⟨e,he,q1,q2⟩:=hq
   rw [e2,e4]
   refine Kc (he prog w _ _ ?_)
   cases e with
   | true =>
    wp_walk
    refine ⟨Ur plain_eq_loop _,Uy entry_eq_loop ?_⟩
    rw [Ui plain_eq_loop _]
    exact ih (i+1) '$' h2 prog w A R _ ⟨hl,hb,r,q1 rfl,hR⟩
   | false =>
    wp_walk using aq hl,aq hb
    rw [e2,e4]
    have hri:=q2 rfl prog w
    wp_walk using hri
    exact hR
  ·rw [Ng (as:=ys.toList) (by rw [KR];omega)] at hq
   have e4:ys[((i:Nat):Int).toNat]?=none:=by rw [Vl];exact UZ '$'
   have hr:r=decide (xs.size<ys.size):=by rw [show r=false from hq];exact (ab '$').symm
   rw [hr] at hR
   rw [e2,e4]
   wp_walk using aq hl,aq hb
   exact hR
theorem qdt (l b:Ke)(xs ys:Array Kd)(n n2:Nat)(dd dd2:Option Ke)(sl sl2:Array (Option Kd)):Meets (UP.«list.__lt__» ⟨[.ref l,.ref b],[]⟩)
   (λA R s=>s.heap.get? l=some ⟨.type "list", dd,.seq xs n,sl⟩/\s.heap.get? b=some ⟨.type "list", dd2,.seq ys n2,sl2⟩/\∃ r,Wl A.in1 s xs.toList ys.toList r/\R (.ok (.ret (.bool r))) s):=by
 intro prog w A R s ⟨hl,hb,r,hq,hR⟩
 obtain ⟨hp,g,d,tk,os⟩:=s
 have f3:=AutoSeq1.sub_list_list
 wp_walk using aq hl,aq hb
 refine ⟨Ur plain_eq_loop _,Uy entry_eq_loop ?_⟩
 rw [Ui plain_eq_loop _]
 exact qcr l b xs ys n n2 dd dd2 sl sl2 xs.size 0 (Fi _).symm (Vj _) prog w A R _ ⟨hl,hb,r,hq,hR⟩
end
theorem qgu {A:KY}{s:Kh}{o o2:Obj}{xs ys:Array Kd}  (h1:s.heap.get? l=some o) (c1:o.cls=.type "list") (d1:o.data=.seq xs n) (h2:s.heap.get? b=some o2) (c2:o2.cls=.type "list") (d2:o2.data=.seq ys n2) (hu:A.units<aI) (h:Wl A.in1 s xs.toList ys.toList r):LtAt A s (.ref l) (.ref b) r:=λprog w E Q q=>by
 obtain ⟨cls,dd,data,sl⟩:=o
 obtain ⟨cls2,dd2,data2,sl2⟩:=o2
 simp only at c1 d1 c2 d2
 subst c1 d1 c2 d2
 exact Nf (op:=.Lt) ⟨_,h1,rfl⟩ ⟨_,h2,rfl⟩ PySem.F.slot_list_lt PySem.F.entry_list_lt (PySem.F.args_list_lt_2 _ _) (qdt l b xs ys n n2 dd dd2 sl sl2)
  ⟨h1,h2,r,h,show Vt r≠ND/\Q (.bool r) s from ⟨(λx=>nomatch x),q⟩⟩ hu
theorem Wv {A:KY}{s:Kh}(hu:A.units+m+1<aI)(hit:∀ (x y:Ka) (a b:Kd) (as bs:List Ke) (r:Bool),x.depth<=m->UY s.heap a x as->UY s.heap b y bs->x.canLay0=true->y.canLay0=true->ltX x y=some r->LtAt A s a b r) :
  ∀ (xs ys:'(') (vs ws:List Kd) (as bs:List Ke) (r:Bool),KC xs<=m->Uk s.heap vs xs as->Uk s.heap ws ys bs->Kp xs=true->Kp ys=true->ltXs xs ys=some r->Wl A s vs ws r:=by
 intro xs
 induction xs with
 | nil =>
  intro ys vs ws as bs r _ h1 h2 _ _ e
  cases h1
  cases ys with
  | nil=>cases h2;rw [ltXs] at e;cases e;rfl
  | cons y ys=>cases h2;rw [ltXs] at e;cases e;rfl
 | cons x xs ih =>
  intro ys vs ws as bs r hm h1 h2 c1 c2 e
  cases h1 with
  | cons rx rxs =>
   cases ys with
   | nil=>cases h2;rw [ltXs] at e;cases e;rfl
   | cons y ys =>
    cases h2 with
    | cons ry rys =>
     have c1':x.canLay0=true/\Kp xs=true:=by simpa [Kp] using c1
     have c2':y.canLay0=true/\Kp ys=true:=by simpa [Kp] using c2
     have hd:max x.depth (KC xs)<=m:=by rw [KC] at hm;exact hm
     have m1:=Vg (NG x.depth (KC xs)) hd
     have m2:=Vg (Nn x.depth (KC xs)) hd
     rw [ltXs] at e
     refine ⟨Ks x y,Nk x y A s _ _ _ _ rx ry c1'.1 c2'.1 (by have:=NA x.depth y.depth;omega),λq=>?_,λq=>?_⟩
     ·rw [ag q] at e
      exact ih ys _ _ _ _ r m2 rxs rys c1'.2 c2'.2 e
     ·rw [ah (by rw [q];exact VI)] at e
      exact hit x y _ _ _ _ r m1 rx ry c1'.1 c2'.1 e
theorem Yi:∀ (n:Nat) (da db:Ka) (A:KY) (s:Kh) (a b:Kd) (as bs:List Ke) (r:Bool),da.depth<=n->UY s.heap a da as->UY s.heap b db bs->da.canLay0=true->db.canLay0=true->A.units+n+1<aI->ltX da db=some r->LtAt A s a b r:=by
 intro n
 induction n with
 | zero =>
  intro da db A s a b as bs r hd ra rb ca cb hu e
  cases da with
  | int i =>
   cases db with
   | int j =>
    cases ra;cases rb
    rw [ltX] at e
    cases e
    exact λprog w E Q q=>HT.qdX A s i _ j _ prog w E Q q
   | _=>simp [ltX] at e
  | tuple xs =>
   rw [UD] at hd
   omega
  | list xs =>
   rw [UD] at hd
   omega
  | _=>simp [ltX] at e
 | succ n ih =>
  intro da db A s a b as bs r hd ra rb ca cb hu e
  cases da with
  | int i =>
   cases db with
   | int j =>
    cases ra;cases rb
    rw [ltX] at e
    cases e
    exact λprog w E Q q=>HT.qdX A s i _ j _ prog w E Q q
   | _=>simp [ltX] at e
  | tuple xs =>
   cases db with
   | tuple ys =>
    rw [UD] at hd
    rw [ltX] at e
    cases ra with
    | tuple e1 c1 d1 t1 =>
     cases rb with
     | tuple e2 c2 d2 t2 =>
      refine qhX ⟨_,e1,c1,_,d1⟩ ⟨_,e2,c2,_,d2⟩ '$' ?_
      exact Wv (m:=n) (by show A.units+1+n+1<aI;omega) (λx y a b as bs r hx r1 r2 k1 k2 e=>ih x y A.in1 s a b as bs r hx r1 r2 k1 k2 (by show A.units+1+n+1<aI;omega) e)
       xs ys _ _ _ _ r '$' t1 t2 (by simpa [KM] using ca) (by simpa [KM] using cb) e
   | _=>simp [ltX] at e
  | list xs =>
   cases db with
   | list ys =>
    rw [UD] at hd
    rw [ltX] at e
    cases ra with
    | list e1 c1 d1 t1 =>
     cases rb with
     | list e2 c2 d2 t2 =>
      refine qgu e1 c1 d1 e2 c2 d2 '$' ?_
      exact Wv (m:=n) (by show A.units+1+n+1<aI;omega) (λx y a b as bs r hx r1 r2 k1 k2 e=>ih x y A.in1 s a b as bs r hx r1 r2 k1 k2 (by show A.units+1+n+1<aI;omega) e)
       xs ys _ _ _ _ r '$' t1 t2 (by simpa [KM] using ca) (by simpa [KM] using cb) e
   | _=>simp [ltX] at e
  | _=>simp [ltX] at e
noncomputable def ltD2 (x y:Ka):Option Ka:=if K7 x=true/\K7 y=true/\x.depth<=60 then ob (ltX x y) λr=>some (.bool r) else none
theorem qc0 {X:Cx}(hr:Room k X.A):OpD X (au .Lt) ltD2:=by
 intro aa s σ H x y v u Q I rx ry ⟨S,dx,dy,d,m,h1,h2,e,q⟩
 unfold ltD2 at e
 split at e
 ·rename_i hc
  obtain ⟨as,q1⟩:=h1.reads I (K5 hc.1) rx
  obtain ⟨bs,q2⟩:=h2.reads I (K5 hc.2.1) ry
  obtain ⟨r,e1,e⟩:=qd e
  cases e
  have hu:=hr.units
  exact Yi 60 dx dy X.A s v u as bs r hc.2.2 q1 q2 (K5 hc.1) (K5 hc.2.1) '$' e1 X.prog X.w X.xe _ (jE I (q _ H (Same.refl H) (.bool r)) rfl)
 ·cases e
end L2
namespace L2
open PySem PySem.Spec PyProof.Rows PySem.W
noncomputable def runC {α:Type}(lt:Nat->Nat->Option Bool):KasT α->Option α
 | .ret a=>some a
 | .ask i j k=>ob (lt i j) λb=>runC lt (k b)
theorem qfQ {α:Type}  {Q:α->Kh->Prop} (hc:∀ i j b C,lt i j=some b->C b s->cmp i j C s) :
  ∀ (t:KasT α) (a:α),runC lt t=some a->Q a s->t.kasWp cmp Q s
 | .ret x,a,e,q=>by cases e;exact q
 | .ask i j k,a,e,q=>by
  obtain ⟨b,e1,e2⟩:=qd e
  exact hc i j b _ e1 (qfQ hc (k b) a e2 q)
section
variable {prog:KJ}{w:K1}{A:KY}{E:Kd->Kh->Prop}{s:Kh}
def Kept (a:Ke)(s s':Kh):Prop:=∀ b o,b≠a->s.heap.get? b=some o->s'.heap.get? b=some o
theorem qeI {vs:List Kd}{P:PySem.Fin->Kh->Prop}{κ:SortKind}{p:Array Nat}(ho:s.heap.get? a=some (aJ "list" vs.toArray n))(h2:2<=vs.length)(h64:vs.length<64)
  (hk:∀ (s':Kh) (Q:SortKind->Kh->Prop),Kept a s s'->Q κ s'->ai (model prog w) A (keyKind' vs.toArray) Q E s')
  (hr:∀ (s':Kh) (G:Array Nat->Kh->Prop),Kept a s s'->G p s'->(Eu vs.length).kasWp (kas_ask prog w A κ vs) G s')
  (h:P (.done (.ret .none)) { s with heap:=sortedHeap s.heap a vs (p.toList.map λi=>vs.getD i VF).toArray }) :
  ai (model prog w) A (UP.«list.sort» ⟨[.ref a],[]⟩) P E s:=by
 have small:vs.length<=ak:=by rw [Xh];omega
 have lt:=KF ho
 obtain ⟨e1,o1⟩:∃ e1,(s.heap.update a (Uc λ_=>#[])).get? a=some (aJ "list" #[] e1):=⟨_,get?_update_seq ho λ_=>#[]⟩
 rw [list_sort_plain]
 refine Kc (listItems_at ho rfl (Kc (N8 ho rfl (Kc (EK o1 rfl (Kc ?_))) (by simpa using small) (Vj _))))
 refine EU (Kc (N9 (V2 ?_) (Vj _))) (by simpa using small)
 obtain ⟨h6,hE⟩:∃ h6,h6=((s.heap.update a (Uc λ_=>(#[]:Array Kd))).push (aJ "tuple" vs.toArray 0)).push (aJ "list" #[] 0):=⟨_,rfl⟩
 have kp:Kept a s { s with heap:=h6 }:=λb o ne e=>by
  show h6.get? b=some o
  rw [hE]
  refine Ki _ (Ki _ ?_)
  rw [Heap.get?_update_ne _ _ _ _ ne]
  exact e
 have o6:h6.get? a=some (aJ "list" #[] e1):=by
  rw [hE]
  exact Ki _ (Ki _ o1)
 show ai (model prog w) A _ P E { s with heap:=((s.heap.update a (Uc λ_=>(#[]:Array Kd))).push (aJ "tuple" vs.toArray 0)).push (aJ "list" #[] 0) }
 rw [← hE]
 have n2:¬ vs.toArray.size<2:=by rw [KA];omega
 dsimp only
 rw [ah n2,ah n2]
 refine Kc (hk _ _ kp ?_)
 refine Kc (UE (kat_run (Q:=λst' s'=>s'={ s with heap:=h6 }/\arrOf st'=p.map (kas_item (vs.toArray.zip vs.toArray))/\failedOf st'=none/\p.size=vs.length) rfl h2 h64
  (λp' st' s' z har hf hg=>⟨hg.1,by rw [← hg.2];exact har,hf,by rw [← hg.2];exact z⟩) (hr _ (λp' s'=>s'={ s with heap:=h6 }/\p'=p) kp ⟨rfl,rfl⟩)) ?_ λ_ _ e=>e)
 rintro ⟨⟨⟩,st'⟩ s' ⟨rfl,har,hf,hz⟩
 dsimp only
 rw [kat_snds rfl har]
 refine Kc (EK o6 rfl (Kc (N8 o6 rfl ?_ (Vj _) (by rw [KA,Kf,KR,hz];omega))))
 rw [hf]
 simp only [bne_self_eq_false,VJ,aM]
 refine Kn ?_
 rw [hE]
 exact h
theorem qeJ {vs:List Kd}{P:PySem.Fin->Kh->Prop}(ho:s.heap.get? a=some (aJ "list" vs.toArray n))(h2:vs.length<2)
  (h:P (.done (.ret .none)) { s with heap:=sortedHeap s.heap a vs vs.toArray }):ai (model prog w) A (UP.«list.sort» ⟨[.ref a],[]⟩) P E s:=by
 have small:vs.length<=ak:=by rw [Xh];omega
 obtain ⟨e1,o1⟩:∃ e1,(s.heap.update a (Uc λ_=>#[])).get? a=some (aJ "list" #[] e1):=⟨_,get?_update_seq ho λ_=>#[]⟩
 rw [list_sort_plain]
 refine Kc (listItems_at ho rfl (Kc (N8 ho rfl (Kc (EK o1 rfl (Kc ?_))) (by simpa using small) (Vj _))))
 refine EU (Kc (N9 (V2 ?_) (Vj _))) (by simpa using small)
 obtain ⟨h6,hE⟩:∃ h6,h6=((s.heap.update a (Uc λ_=>(#[]:Array Kd))).push (aJ "tuple" vs.toArray 0)).push (aJ "list" #[] 0):=⟨_,rfl⟩
 have o6:h6.get? a=some (aJ "list" #[] e1):=by
  rw [hE]
  exact Ki _ (Ki _ o1)
 show ai (model prog w) A _ P E { s with heap:=((s.heap.update a (Uc λ_=>(#[]:Array Kd))).push (aJ "tuple" vs.toArray 0)).push (aJ "list" #[] 0) }
 rw [← hE]
 have n2:vs.toArray.size<2:=by rw [KA];omega
 dsimp only
 rw [ag n2,ag n2]
 refine Kc (Kn ?_)
 rw [StateT.run_pure]
 refine Kc (Kn ?_)
 dsimp only
 have eo:Array.map (λx=>x.2) (vs.toArray.zip vs.toArray)=vs.toArray:=by
  apply Array.toList_inj.mp
  simp [List.map_snd_zip]
 show ai (model prog w) A (seqEpoch a >>= _) P E { s with heap:=h6 }
 refine Kc (EK o6 rfl (Kc ?_))
 rw [show Array.map (λx=>x.2) (arrOf (SortSt.mk' general' (vs.toArray.zip vs.toArray) #[] 7 none))=vs.toArray from eo]
 refine N8 o6 rfl ?_ (Vj _) (by rw [KA];omega)
 simp only [bne_self_eq_false,VJ,aM]
 refine Kn ?_
 rw [hE]
 exact h
theorem qcG {vs:List Kd}{Q:Kd->Kh->Prop}{κ:SortKind}{p:Array Nat}(hl:s.heap.IsList l vs.toArray)(h2:2<=vs.length)(h64:vs.length<64)
  (hk:∀ (s':Kh) (Q:SortKind->Kh->Prop),(∀ b o,s.heap.get? b=some o->s'.heap.get? b=some o)->Q κ s'->ai (model prog w) A.in1.in1 (keyKind' vs.toArray) Q (λ_ _=>False) s')
  (hr:∀ (s':Kh) (G:Array Nat->Kh->Prop),(∀ b o,s.heap.get? b=some o->s'.heap.get? b=some o)->G p s'->(Eu vs.length).kasWp (kas_ask prog w A.in1.in1 κ vs) G s')
  (h:Q (.ref (s.heap.objs.size+1)) { s with heap:=sortedAll s.heap vs (p.toList.map λi=>vs.getD i VF).toArray }) :
  ai (model prog w) A (call (.builtin "sorted") [.ref l]) Q E s:=by
 have small:vs.length<=ak:=by rw [Xh];omega
 refine Calls.call_function_entry kind_sorted plain_sorted entry_sorted (args_sorted1 _) ?_
 unfold UP.«sorted»
 refine Kc (m:=checkCount "sorted" 1 1 _) (Kn (Kc (collect_list hl (Kc (N9 ?_ (by simpa using small))) (by simpa using small))))
 have zz:((s.heap.push (aJ "list" #[] 0)).update s.heap.objs.size (Uc (·++vs.toArray))).objs.size=s.heap.objs.size+1:=by rw [Heap.size_update,size_push']
 obtain ⟨h3,hH⟩:∃ h3,h3=((s.heap.push (aJ "list" #[] 0)).update s.heap.objs.size (Uc (·++vs.toArray))).push (aJ "list" vs.toArray 0):=⟨_,rfl⟩
 have oL:h3.get? (s.heap.objs.size+1)=some (aJ "list" vs.toArray 0):=by
  rw [hH,← zz]
  exact Kv _ rfl
 have keep:∀ b o,s.heap.get? b=some o->h3.get? b=some o:=λb o e=>by
  rw [hH]
  have hlt:=KF e
  refine Ki _ ?_
  rw [Heap.get?_update_ne _ _ _ _ (KW hlt)]
  exact Ki _ e
 show ai _ _ _ _ _ { s with heap:=((s.heap.push (aJ "list" #[] 0)).update s.heap.objs.size (Uc (·++vs.toArray))).push (aJ "list" vs.toArray 0) }
 rw [zz,← hH]
 have k2:∀ s':Kh,Kept (s.heap.objs.size+1) { s with heap:=h3 } s'->∀ b o,s.heap.get? b=some o->s'.heap.get? b=some o:=λs' kp b o e=>kp b o (KW (Vm (KF e))) (keep b o e)
 refine Kc (V2 (V6 slot_list_sort ⟨_,oL,rfl⟩ entry_list_sort (qeI (κ:=κ) (p:=p) oL h2 h64 (λs' Q kp q=>UE (hk s' Q (k2 s' kp) q) (λ_ _ z=>z) λ_ _ z=>z.elim) (λs' G kp q=>hr s' G (k2 s' kp) q) ⟨_,rfl,?_⟩) (args_list_sort _)))
 refine Kn ⟨_,rfl,?_⟩
 have hA:sortedHeap h3 (s.heap.objs.size+1) vs (p.toList.map λi=>vs.getD i VF).toArray=sortedAll s.heap vs (p.toList.map λi=>vs.getD i VF).toArray:=by
  rw [hH]
  rfl
 rw [hA]
 exact h
theorem qcH {vs:List Kd}{Q:Kd->Kh->Prop}(hl:s.heap.IsList l vs.toArray)(h2:vs.length<2)
  (h:Q (.ref (s.heap.objs.size+1)) { s with heap:=sortedAll s.heap vs vs.toArray }) :
  ai (model prog w) A (call (.builtin "sorted") [.ref l]) Q E s:=by
 have small:vs.length<=ak:=by rw [Xh];omega
 refine Calls.call_function_entry kind_sorted plain_sorted entry_sorted (args_sorted1 _) ?_
 unfold UP.«sorted»
 refine Kc (m:=checkCount "sorted" 1 1 _) (Kn (Kc (collect_list hl (Kc (N9 ?_ (by simpa using small))) (by simpa using small))))
 have zz:((s.heap.push (aJ "list" #[] 0)).update s.heap.objs.size (Uc (·++vs.toArray))).objs.size=s.heap.objs.size+1:=by rw [Heap.size_update,size_push']
 obtain ⟨h3,hH⟩:∃ h3,h3=((s.heap.push (aJ "list" #[] 0)).update s.heap.objs.size (Uc (·++vs.toArray))).push (aJ "list" vs.toArray 0):=⟨_,rfl⟩
 have oL:h3.get? (s.heap.objs.size+1)=some (aJ "list" vs.toArray 0):=by
  rw [hH,← zz]
  exact Kv _ rfl
 show ai _ _ _ _ _ { s with heap:=((s.heap.push (aJ "list" #[] 0)).update s.heap.objs.size (Uc (·++vs.toArray))).push (aJ "list" vs.toArray 0) }
 rw [zz,← hH]
 refine Kc (V2 (V6 slot_list_sort ⟨_,oL,rfl⟩ entry_list_sort (qeJ oL h2 ⟨_,rfl,?_⟩) (args_list_sort _)))
 refine Kn ⟨_,rfl,?_⟩
 have hA:sortedHeap h3 (s.heap.objs.size+1) vs vs.toArray=sortedAll s.heap vs vs.toArray:=by
  rw [hH]
  rfl
 rw [hA]
 exact h
end
noncomputable def qdv (ds:'(')(i j:Nat):Option Bool:=match ds[i]?,ds[j]? with
 | some x,some y=>ltX x y
 | _,_=>none
noncomputable def keyD:Ka->Nat
 | .tuple (.int _::_)=>0
 | .tuple (.tuple _::_)=>1
 | .int _=>2
 | _=>3
noncomputable def qdQ (ds:'(')(p:Array Nat):Option Ka:=if (p.toList.all λi=>decide (i<ds.length))=true/\p.toList.length<=1000 then some (.list (p.toList.map λi=>ds.getD i .none)) else none
noncomputable def j8 (k:Nat)(ds:'('):Bool:=(ds.all λd=>keyD d==k)&&(decide (2<=ds.length)&&(decide (ds.length<64)&&(Kp ds&&decide (KC ds<=50))))
noncomputable def Z4:List Ka->Option Ka
 | [.list ds]=>if ds.length<2 then some (.list ds) else if j8 0 ds=true\/j8 1 ds=true then ob (runC (qdv ds) (Eu ds.length)) λp=>qdQ ds p else none
 | _=>none
section
variable {prog:KJ}{w:K1}{A:KY}{s:Kh}
theorem qcm {b fin:Bool}  (hu:A.units+m+1<aI) (q:Q r s) :
  ∀ (xs ys:'(') (vs ws:List Kd) (as bs:List Ke) (i:Nat),KC xs<=m->Uk s.heap vs xs as->Uk s.heap ws ys bs->Kp xs=true->Kp ys=true->ltXs xs ys=some r->
   (b=true->i=0->∀ x y,xs.head?=some x->ys.head?=some y->∃ n k,x=.int n/\y=.int k)->fin=decide (xs.length<ys.length)->KatLex prog w A b fin Q (vs.zip ws) i s:=by
 intro xs
 induction xs with
 | nil =>
  intro ys vs ws as bs i _ h1 h2 _ _ e _ hf
  cases h1
  rw [Eh]
  refine kat_nil ?_
  cases ys with
  | nil=>rw [ltXs] at e;cases e;rw [hf];simpa using q
  | cons y ys=>rw [ltXs] at e;cases e;rw [hf];simpa using q
 | cons x xs ih =>
  intro ys vs ws as bs i hm h1 h2 c1 c2 e hb hf
  cases h1 with
  | cons rx rxs =>
   cases ys with
   | nil =>
    cases h2
    rw [NZ]
    refine kat_nil ?_
    rw [ltXs] at e;cases e;rw [hf];simpa using q
   | cons y ys =>
    cases h2 with
    | cons ry rys =>
     have c1':x.canLay0=true/\Kp xs=true:=by simpa [Kp] using c1
     have c2':y.canLay0=true/\Kp ys=true:=by simpa [Kp] using c2
     have hd:max x.depth (KC xs)<=m:=by rw [KC] at hm;exact hm
     have m1:=Vg (NG x.depth (KC xs)) hd
     have m2:=Vg (Nn x.depth (KC xs)) hd
     rw [ltXs] at e
     rw [Xu]
     refine kat_cons (Nk x y A s _ _ _ _ rx ry c1'.1 c2'.1 (by have:=NA x.depth y.depth;omega) prog w _ _ (kat_go (λz=>?_) λz=>?_))
     ·rw [ag z] at e
      refine kat_yes (ih ys _ _ _ _ (i+1) m2 rxs rys c1'.2 c2'.2 e (λ_ z=>by omega) ?_)
      rw [hf,Kz,Kz]
      exact decide_eq_decide.mpr '$'
     ·rw [ah (by rw [z];exact VI)] at e
      refine kat_no ?_
      cases hbi:(b&&i==0) with
      | true =>
       rw [KI] at hbi
       obtain ⟨n,k,rfl,rfl⟩:=hb hbi.1 (by simpa using hbi.2) x y rfl rfl
       cases rx;cases ry
       rw [ltX] at e
       cases e
       exact oneLt_int q
      | false =>
       exact kat_one _ _ (Yi m x y A s _ _ _ _ r m1 rx ry c1'.1 c2'.1 hu e prog w _ _ q)
theorem wB:∀ {vs:List Kd} {ds:'('} {as:List Ke},Uk h vs ds as->vs.length=ds.length
 | _,_,_,.nil=>rfl
 | _,_,_,.cons _ t=>by rw [Kz,Kz,wB t]
theorem wA:∀ {vs:List Kd} {ds:'('} {as:List Ke} {i:Nat} {d:Ka},Uk h vs ds as->ds[i]?=some d->∃ v bs,vs[i]?=some v/\UY h v d bs
 | _,_,_,_,_,.nil,e=>by simp at e
 | _,_,_,0,_,.cons r _,e=>by simp at e;subst e;exact ⟨_,_,rfl,r⟩
 | _,_,_,i+1,d,.cons _ t,e=>by
  obtain ⟨v,bs,h1,h2⟩:=wA (i:=i) (d:=d) t (by simpa using e)
  exact ⟨v,bs,by simpa using h1,h2⟩
theorem Yc:∀ {ds:'('} {i:Nat} {d:Ka},Kp ds=true->ds[i]?=some d->d.canLay0=true/\d.depth<=KC ds
 | [],_,_,_,e=>by simp at e
 | x::xs,0,d,h,e=>by
  have h':x.canLay0=true/\Kp xs=true:=by simpa [Kp] using h
  simp at e
  subst e
  exact ⟨h'.1,by rw [KC];exact NG _ _⟩
 | x::xs,i+1,d,h,e=>by
  have h':x.canLay0=true/\Kp xs=true:=by simpa [Kp] using h
  obtain ⟨h1,h2⟩:=Yc (i:=i) (d:=d) h'.2 (by simpa using e)
  exact ⟨h1,Vg h2 (by rw [KC];exact Nn _ _)⟩
theorem qaC (hk:k<2):∀ {vs:List Kd} {ds:'('} {as:List Ke},Uk h vs ds as->(ds.all λd=>keyD d==k)=true->∃ fs:List Kd,KatTups h vs fs/\fs.length=vs.length/\∀ (M:Model),∀ f∈fs,Em M h (typeOf f) (if k=0 then Vs "int" else Vs "tuple")
 | _,_,_,.nil,_=>⟨[],trivial,rfl,λ_ _ z=>nomatch z⟩
 | _,d::ds,_,.cons (d:=_) r t,e=>by
  rw [List.all_cons,KI] at e
  obtain ⟨fs,h1,h2,h3⟩:=qaC hk t e.2
  have e1:keyD d=k:=by simpa using e.1
  cases d with
  | tuple xs =>
   cases r with
   | @tuple a o its n xs' as' g1 g2 g3 g4 =>
    cases xs with
    | nil=>rw [show keyD (.tuple [])=3 from rfl] at e1;omega
    | cons x xs =>
     obtain ⟨v,rv,q1,rx⟩:=wA (i:=0) g4 rfl
     have h0:its[0]?=some v:=by rw [← Um];exact q1
     refine ⟨v::fs,KatTups.cons g1 g2 g3 h0 h1,by rw [Kz,Kz,h2],λM f hf=>?_⟩
     rcases Kr.mp hf with rfl|hf
     ·cases x with
      | int n =>
       cases rx
       rw [show keyD (.tuple (.int n::xs))=0 from rfl] at e1
       rw [ag e1.symm]
       exact Looks.of_pure rfl
      | tuple ys =>
       rw [show keyD (.tuple (.tuple ys::xs))=1 from rfl] at e1
       cases rx with
       | tuple k1 k2 k3 k4 =>
        rw [ah '$',← k2]
        exact (Looks.ld k1).andThen .now
      | none=>rw [show keyD (.tuple (.none::xs))=3 from rfl] at e1;omega
      | bool _=>rw [show keyD (.tuple (.bool _::xs))=3 from rfl] at e1;omega
      | str _=>rw [show keyD (.tuple (.str _::xs))=3 from rfl] at e1;omega
      | list _=>rw [show keyD (.tuple (.list _::xs))=3 from rfl] at e1;omega
      | dict _=>rw [show keyD (.tuple (.dict _::xs))=3 from rfl] at e1;omega
     ·exact h3 M f hf
  | int n=>rw [show keyD (.int n)=2 from rfl] at e1;omega
  | none=>rw [show keyD .none=3 from rfl] at e1;omega
  | bool _=>rw [show keyD (.bool _)=3 from rfl] at e1;omega
  | str _=>rw [show keyD (.str _)=3 from rfl] at e1;omega
  | list _=>rw [show keyD (.list _)=3 from rfl] at e1;omega
  | dict _=>rw [show keyD (.dict _)=3 from rfl] at e1;omega
end
section
variable {h h':KU}
mutual
theorem qgN (k:∀ b o,h.get? b=some o->h'.get? b=some o):∀ {d:Ka} {v:Kd} {as:List Ke},UY h v d as->d.canLay0=true->UY h' v d as
 | .none,_,_,r,_=>by cases r;exact .none
 | .bool _,_,_,r,_=>by cases r;exact .bool _
 | .int _,_,_,r,_=>by cases r;exact .int _ _
 | .str _,_,_,r,_=>by cases r;exact .str _ _
 | .list xs,_,_,r,c=>by
  cases r with
  | list e q g t=>exact .list (k _ _ e) q g (ZJ k t (by simpa [KM] using c))
 | .tuple xs,_,_,r,c=>by
  cases r with
  | tuple e q g t=>exact .tuple (k _ _ e) q g (ZJ k t (by simpa [KM] using c))
 | .dict _,_,_,_,c=>by simp [KM] at c
theorem ZJ (k:∀ b o,h.get? b=some o->h'.get? b=some o):∀ {ds:'('} {vs:List Kd} {as:List Ke},Uk h vs ds as->Kp ds=true->Uk h' vs ds as
 | [],_,_,r,_=>by cases r;exact .nil
 | d::ds,_,_,r,c=>by
  have c':d.canLay0=true/\Kp ds=true:=by simpa [Kp] using c
  cases r with
  | cons r t=>exact .cons (qgN k r c'.1) (ZJ k t c'.2)
end
end
theorem qhZ (hx:keyD x<2)(e:ltX x y=some r):∃ xs ys,x=.tuple xs/\y=.tuple ys/\ltXs xs ys=some r:=by
 cases x with
 | tuple xs =>
  cases y with
  | tuple ys=>rw [ltX] at e;exact ⟨xs,ys,rfl,rfl,e⟩
  | _=>simp [ltX] at e
 | int n=>simp [keyD] at hx
 | list xs=>simp [keyD] at hx
 | _=>simp [ltX] at e
theorem qbx {xs:'('}(e:keyD (.tuple xs)=k)(h0:k=0):∀ x,xs.head?=some x->∃ n,x=.int n:=by
 intro x hx
 cases xs with
 | nil=>cases hx
 | cons y ys =>
  cases hx
  cases x with
  | int n=>exact ⟨n,rfl⟩
  | _=>(first|(simp [keyD] at e;omega)|(simp only [keyD] at e;omega))
theorem getD_some {α:Type}{xs:List α}{i:Nat}{x d:α}(e:xs[i]?=some x):xs.getD i d=x:=by rw [V3,e];rfl
theorem qaL {X:Cx}{k:Nat}(hr:Room k X.A):qkM X (.builtin "sorted") Z4:=by
 intro aa s σ H xs us Q I r ⟨S,ds,d,m,h1,e,q⟩
 unfold Z4 at e
 split at e
 ·rename_i ds
  split at e
  ·rename_i hlt
   cases e
   obtain ⟨v,rfl,hv⟩:=h1.inv1
   obtain ⟨a,ys,rfl,hs,ht⟩:=hv.list_inv
   obtain ⟨u,rfl,ru⟩:=vals1 r
   cases (show u=Ve a from ru)
   obtain ⟨its,rv,pl,hz⟩:=I.list hs.sq
   have hlen:=rv.length
   have hl2:=ht.length
   refine qcH pl.isList '$' ?_
   obtain ⟨en,ob⟩:=sortedAll_at s.heap its its.toArray
   have hfr:H (s.heap.objs.size+1)=none:=I.hok.fresh (UN _)
   exact ⟨.ref (s.heap.objs.size+1),_,I.laid (t':=s.toks) (o:=.lst ys) (λb o e=>sortedAll_old e) (UN _) ⟨hz,_,en,rv,ob⟩,rfl,q _ _ (Same.lay hfr) hfr (OwnO.laid hfr ht)⟩
  split at e
  ·rename_i hok
   obtain ⟨p,e1,e2⟩:=qd e
   obtain ⟨v,rfl,hv⟩:=h1.inv1
   obtain ⟨a,ys,rfl,hs,ht⟩:=hv.list_inv
   obtain ⟨u,rfl,ru⟩:=vals1 r
   cases (show u=Ve a from ru)
   obtain ⟨its,rv,pl,hz⟩:=I.list hs.sq
   obtain ⟨kk,hk2,hk⟩:∃ kk,kk<2/\j8 kk ds=true:=hok.elim (λz=>⟨0,by decide,z⟩) λz=>⟨1,by decide,z⟩
   unfold j8 at hk
   simp only [KI,aD] at hk
   obtain ⟨hall,l2,l64,hcan,hdep⟩:=hk
   obtain ⟨as,ra⟩:=ht.reads I hcan rv
   have hlen:=wB ra
   unfold qdQ at e2
   split at e2
   ·rename_i hin
    cases e2
    have hin':∀ i∈p.toList,i<ds.length:=λi hi=>by
     have:=K4.mp hin.1 i hi
     simpa using this
    have hu:=hr.units
    obtain ⟨T,hT⟩:∃ T,T=(if kk=0 then Vs "int" else Vs "tuple"):=⟨_,rfl⟩
    have hT2:(T==T)=true:=by rw [hT];split<;>rfl
    have hb:(T != Vs "tuple")=true->kk=0:=λz=>by
     rw [hT] at z
     by_cases h0:kk=0
     ·exact h0
     ·rw [ah h0] at z;exact absurd z '#'
    refine qcG (κ:=tuples' (T != Vs "tuple")) (p:=p) pl.isList '$' '$' (λs' Q' keep q'=>?_) (λs' G keep g=>?_) ?_
    ·obtain ⟨fs,t1,t2,t3⟩:=qaC hk2 (ZJ keep ra hcan) hall
     exact kat_kind t1 '$' (λf hf=>by rw [hT];exact t3 _ f hf) hT2 q'
    ·have ra':=ZJ keep ra hcan
     rw [hlen]
     refine qfQ (λi j b C el hC=>?_) _ p e1 g
     unfold qdv at el
     split at el
     ·rename_i x y ex ey
      obtain ⟨vx,bx,gx,rx⟩:=wA ra' ex
      obtain ⟨vy,byy,gy,ry⟩:=wA ra' ey
      obtain ⟨cx,dx⟩:=Yc hcan ex
      obtain ⟨cy,dy⟩:=Yc hcan ey
      have kx:keyD x=kk:=by
       have:=K4.mp hall x (KN ex)
       simpa using this
      have ky:keyD y=kk:=by
       have:=K4.mp hall y (KN ey)
       simpa using this
      obtain ⟨xs,ys',rfl,rfl,elx⟩:=qhZ '$' el
      show kas_ask X.prog X.w X.A.in1.in1 _ its i j C s'
      unfold kas_ask
      rw [getD_some gx,getD_some gy]
      cases rx with
      | @tuple ax ox ax1 nx _ _ x1 x2 x3 x4 =>
       cases ry with
       | @tuple ay oy ay1 ny _ _ y1 y2 y3 y4 =>
        have dxs:KC xs<=50:=by rw [UD] at dx;omega
        refine kat_lt x1 x3 y1 y3 (qcm (m:=50) (by show X.A.units+1+1+50+1<aI;omega) hC xs ys' _ _ _ _ 0 dxs x4 y4 (by simpa [KM] using cx) (by simpa [KM] using cy) elx (λhbb _ x y hx hy=>?_) ?_)
        ·have h0:=hb hbb
         obtain ⟨n1,rfl⟩:=qbx kx h0 x hx
         obtain ⟨n2,rfl⟩:=qbx ky h0 y hy
         exact ⟨n1,n2,rfl,rfl⟩
        ·have z1:=wB x4
         have z2:=wB y4
         rw [KR] at z1 z2
         rw [z1,z2]
     ·cases el
    ·obtain ⟨en,ob⟩:=sortedAll_at s.heap its (p.toList.map λi=>its.getD i VF).toArray
     have hfr:H (s.heap.objs.size+1)=none:=I.hok.fresh (UN _)
     have dl:DenL X.K H S (p.toList.map λi=>ys.getD i .non) (p.toList.map λi=>ds.getD i .none):=by
      generalize p.toList=pl at hin'
      induction pl with
      | nil=>exact .nil
      | cons i pl ih =>
       have hi:=hin' i (.head _)
       obtain ⟨vy,gy,dy⟩:=ht.get (Kl hi)
       rw [Kt,Kt,getD_some gy,getD_some (Kl hi)]
       exact .cons dy (ih λj hj=>hin' j (.tail _ hj))
     have vl:Vals (p.toList.map λi=>ys.getD i .non) (p.toList.map λi=>its.getD i VF):=by
      generalize p.toList=pl at hin'
      induction pl with
      | nil=>exact .nil
      | cons i pl ih =>
       have hi:i<ys.length:=by rw [ht.length];exact hin' i (.head _)
       obtain ⟨w,gw,rw'⟩:=rv.get (Kl hi)
       rw [Kt,Kt,getD_some (Kl hi),getD_some gw]
       exact .cons rw' (ih λj hj=>hin' j (.tail _ hj))
     have zz:(p.toList.map λi=>ys.getD i V.non).length<=ak:=by rw [Kf];exact VP (zO hin.2)
     refine ⟨.ref (s.heap.objs.size+1),_,I.laid (t':=s.toks) (o:=.lst (p.toList.map λi=>ys.getD i .non)) (λb o e=>sortedAll_old e) (UN _) ⟨zz,_,en,vl,ob⟩,rfl,q _ _ (Same.lay hfr) hfr (OwnO.laid hfr dl)⟩
   ·cases e2
  ·cases e
 ·cases e
end L2
namespace L2
open PySem PySem.Spec PyProof.Rows
def W6 (K:Kb)(mg:Str->Option Kd)(x:Str)(d:Ka):Prop:=∃ v u,mg x=some u/\RelV v u/\∀ H S,Den K H S v d
theorem qdF {X:Cx}   (C:W6 X.K X.mg x d) (hg:Gl X x) (hdb:(x==("__debug__" : Str))=false:=by decide +kernel):PD X M (.Name x pos) (kd d):=by
 obtain ⟨v,u,m,r,hd⟩:=C
 exact qkb hg m r hd hdb
end L2
namespace L2
open PySem
theorem Jr:aw "sorted" = some (.builtin "sorted"):=by decide +kernel
end L2
namespace L2
open PySem PySem.Spec PyProof.Rows
theorem ob_s {α β:Type}(x:α)(f:α->Option β):ob (some x) f=f x:=rfl
theorem vr_z (o:Option Ka)(ρ:Rho):vr 0 (o::ρ)=o:=rfl
theorem vr_s (n:Nat)(o:Option Ka)(ρ:Rho):vr (n+1) (o::ρ)=vr n ρ:=rfl
theorem atI0 {α:Type}(x:α)(xs:List α):atI (x::xs) 0=some x:=by simp [atI,ixN]
theorem J6 {α:Type}(x:α)(xs:List α)(k:Nat):atI (x::xs) ((k:Int)+1)=atI xs (k:Int):=by
 unfold atI ixN
 have h1:(0:Int)<=(k:Int)+1:=by omega
 have h2:(0:Int)<=(k:Int):=by omega
 rw [ag h1,ag h2]
 by_cases h:(k:Int)<xs.length
 ·have h':(k:Int)+1<((x::xs).length:Int):=by rw [Kz];omega
  rw [ag h,ag h']
  have e1:((k:Int)+1).toNat=k+1:=by omega
  have e2:(k:Int).toNat=k:=by omega
  rw [e1,e2]
  rfl
 ·have h':¬ (k:Int)+1<((x::xs).length:Int):=by rw [Kz];omega
  rw [ah h,ah h']
  rfl
theorem atI1 {α:Type}(x y:α)(xs:List α):atI (x::y::xs) 1=some y:=(J6 x (y::xs) 0).trans (atI0 y xs)
theorem atI2 {α:Type}(x y z:α)(xs:List α):atI (x::y::z::xs) 2=some z:=(J6 x (y::z::xs) 1).trans (atI1 y z xs)
theorem atI3 {α:Type}(x y z a:α)(xs:List α):atI (x::y::z::a::xs) 3=some a:=(J6 x (y::z::a::xs) 2).trans (atI2 y z a xs)
theorem atI4 {α:Type}(x y z a b:α)(xs:List α):atI (x::y::z::a::b::xs) 4=some b:=(J6 x (y::z::a::b::xs) 3).trans (atI3 y z a b xs)
theorem atI5 {α:Type}(x y z a b c:α)(xs:List α):atI (x::y::z::a::b::c::xs) 5=some c:=(J6 x (y::z::a::b::c::xs) 4).trans (atI4 y z a b c xs)
theorem zf (h:NR i j):mulD (.int i) (.int j)=some (.int (i*j)):=by
 show (if NR i j then some (Kj (i*j)) else none)=_
 rw [ag h]
def Bd (n:Nat)(i:Int):Prop:=Vz i<=n
theorem Bd.ok (h:Bd n i)(g:Bd m j)(e:n+m<=134217728:=by decide):NR i j:=IntMulOk.of_le h g e
theorem Bd.mul (h:Bd n i)(g:Bd m j):Bd (n+m) (i*j):=intBits_mul_le h g
theorem Bd.add (h:Bd n i)(g:Bd m j):Bd (max n m+1) (i+j):=intBits_add_le h g
theorem Bd.neg (h:Bd n i):Bd n (-i):=intBits_neg_le h
theorem Bd.mono (h:Bd n i)(e:n<=m:=by decide):Bd m i:=Vg h e
theorem Bd.of {i:Int}(h:i.natAbs<2 ^ n):Bd n i:=EV.mpr h
theorem natLit (n:Nat):((no_index (OfNat.ofNat n):Nat):Int)=(OfNat.ofNat n:Int):=rfl
theorem qjt (i j:Int):eqD (.int i) (.int j)=some (.bool (i==j)):=rfl
theorem qjY (i j:Int):neD (.int i) (.int j)=some (.bool (!(i==j))):=rfl
theorem pow_a:powD (.int 7919) (.int 8)=some (.int (7919 ^ 8)):=rfl
theorem pow_b:powD (.int 10) (.int 30)=some (.int (10 ^ 30)):=rfl
theorem ZC (i:Int)(h:0<j):modD (.int i) (.int j)=some (.int (i % j)):=by
 show (if 0<j then some (Kj (i % j)) else none)=_
 rw [ag h]
theorem qhw (i:Int)(h:0<j)(h2:j<1073741824):yX (.int i) (.int j)=some (.int (i / j)):=by
 show (if CDiv i j then some (Kj (i / j)) else none)=_
 rw [ag ⟨h,h2⟩]
noncomputable def qbr (o:Option Out)(w:Rho->Option Out):Option Out:=match o with | some (.nx ρ')=>w ρ'|o=>o
theorem qeH (u w:Rho->Option Out)(ρ:Rho):seqO u w ρ=qbr (u ρ) w:=by
 unfold seqO ob qbr
 cases u ρ with
 | none=>rfl
 | some o=>cases o<;>rfl
theorem qcV (ρ:Rho)(w:Rho->Option Out):qbr (some (.nx ρ)) w=w ρ:=rfl
theorem qcW (d:Ka)(w:Rho->Option Out):qbr (some (.rt d)) w=some (.rt d):=rfl
theorem qg5 (ρ:Rho)(w:Rho->Option Out):qbr (some (.bk ρ)) w=some (.bk ρ):=rfl
theorem qg6 (ρ:Rho)(w:Rho->Option Out):qbr (some (.ct ρ)) w=some (.ct ρ):=rfl
noncomputable def ifO {α:Type}(b:Option Bool)(u w:Rho->Option α)(ρ:Rho):Option α:=match b with | some true=>u ρ|some false=>w ρ|none=>none
theorem ifO_t {α:Type}(u w:Rho->Option α)(ρ:Rho):ifO (some true) u w ρ=u ρ:=rfl
theorem ifO_f {α:Type}(u w:Rho->Option α)(ρ:Rho):ifO (some false) u w ρ=w ρ:=rfl
theorem sIf_b (p:Rho->Option Bool)(u w:Rho->Option Out)(ρ:Rho):sIf p u w ρ=ifO (p ρ) u w ρ:=by
 unfold sIf ob ifO
 cases p ρ with
 | none=>rfl
 | some b=>cases b<;>rfl
theorem qlc (p:Rho->Option Bool)(u w:'&')(ρ:Rho):vIf p u w ρ=ifO (p ρ) u w ρ:=by
 unfold vIf ob ifO
 cases p ρ with
 | none=>rfl
 | some b=>cases b<;>rfl
theorem tA_b (p q:Rho->Option Bool)(ρ:Rho):tA p q ρ=ifO (p ρ) q (λ_=>some false) ρ:=by
 unfold tA ob ifO
 cases p ρ with
 | none=>rfl
 | some b=>cases b<;>rfl
theorem tO_b (p q:Rho->Option Bool)(ρ:Rho):tO p q ρ=ifO (p ρ) (λ_=>some true) q ρ:=by
 unfold tO ob ifO
 cases p ρ with
 | none=>rfl
 | some b=>cases b<;>rfl
theorem vA_b (f g:'&')(ρ:Rho):vA f g ρ=ifO (ob (f ρ) YF) g (λ_=>some (.bool false)) ρ:=by
 unfold vA ob ifO
 cases f ρ with
 | none=>rfl
 | some x =>
  dsimp only
  cases YF x with
  | none=>rfl
  | some b=>cases b<;>rfl
noncomputable def setO (o:Option Ka)(i:Nat)(ρ:Rho):Option Out:=match o with | some d=>some (.nx (ρ.set i (some d)))|none=>none
theorem qmI (i:Nat)(f:'&')(ρ:Rho):sSet i f ρ=setO (f ρ) i ρ:=by
 unfold sSet ob setO
 cases f ρ<;>rfl
theorem qmM (d:Ka)(i:Nat)(ρ:Rho):setO (some d) i ρ=some (.nx (ρ.set i (some d))):=rfl
noncomputable def binO (a b:Option Ka)(g:Ka->Ka->Option Ka):Option Ka:=match a,b with | some x,some y=>g x y|_,_=>none
theorem ev2_b (fa fb:'&')(g:Ka->Ka->Option Ka)(ρ:Rho):ev2 fa fb g ρ=binO (fa ρ) (fb ρ) g:=by
 unfold ev2 ob binO
 cases fa ρ<;>cases fb ρ<;>rfl
theorem qln (x y:Ka)(g:Ka->Ka->Option Ka):binO (some x) (some y) g=g x y:=rfl
noncomputable def yW (a:Option Ka)(b:Option (List Ka)):Option (List Ka):=match a,b with | some x,some xs=>some (x::xs)|_,_=>none
theorem aC_b (fa:'&')(fs:Rho->Option (List Ka))(ρ:Rho):aC fa fs ρ=yW (fa ρ) (fs ρ):=by
 unfold aC ob yW
 cases fa ρ<;>cases fs ρ<;>rfl
theorem qjm (x:Ka)(xs:'('):yW (some x) (some xs)=some (x::xs):=rfl
noncomputable def qg8 (n:Nat)(a:Option (List Ka))(h:List Ka->Option Ka):Option Ka:=match a with | some ds=>if ds.length=n then h ds else none|none=>none
theorem evC_b (n:Nat)(fs:Rho->Option (List Ka))(h:List Ka->Option Ka)(ρ:Rho):evC n fs h ρ=qg8 n (fs ρ) h:=by
 unfold evC ob qg8
 cases fs ρ<;>rfl
theorem qjd (n:Nat)(ds:'(')(h:List Ka->Option Ka):qg8 n (some ds) h=if ds.length=n then h ds else none:=rfl
noncomputable def qe6 (b:Option Bool)(tt:Rho->Option Bool)(te:'&')(ρ:Rho)(d:Ka)(ds:'('):Option (List Ka):=match b with | some true=>yW (te (ρ++[some d])) (QR tt te ρ ds)|some false=>QR tt te ρ ds|none=>none
theorem qe5 (tt:Rho->Option Bool)(te:'&')(ρ:Rho)(d:Ka)(ds:'('):QR tt te ρ (d::ds)=qe6 (tt (ρ++[some d])) tt te ρ d ds:=by
 rw [QR]
 unfold ob qe6 yW
 cases tt (ρ++[some d]) with
 | none=>rfl
 | some b =>
  cases b with
  | false=>rfl
  | true =>
   dsimp only [aR]
   rw [ag rfl]
   cases te (ρ++[some d])<;>cases QR tt te ρ ds<;>rfl
theorem qji (tt:Rho->Option Bool)(te:'&')(ρ:Rho):QR tt te ρ []=some []:=rfl
theorem qe8 (tt:Rho->Option Bool)(te:'&')(ρ:Rho)(d:Ka)(ds:'('):qe6 (some true) tt te ρ d ds=yW (te (ρ++[some d])) (QR tt te ρ ds):=rfl
theorem qe7 (tt:Rho->Option Bool)(te:'&')(ρ:Rho)(d:Ka)(ds:'('):qe6 (some false) tt te ρ d ds=QR tt te ρ ds:=rfl
noncomputable def qaG (a:Option (List Ka)):Option Ka:=match a with | some ys=>some (.list ys)|none=>none
noncomputable def qhj (a:Option (List Ka))(n:Nat)(tt:Rho->Option Bool)(te:'&')(ρ:Rho):Option Ka:=match a with | some ds=>if ρ.length=n/\ds.length<=1000 then qaG (QR tt te ρ ds) else none|none=>none
theorem qjk (n:Nat)(fi:Rho->Option (List Ka))(tt:Rho->Option Bool)(te:'&')(ρ:Rho):Zr n fi tt te ρ=qhj (fi ρ) n tt te ρ:=by
 unfold Zr ob qhj qaG
 cases fi ρ with
 | none=>rfl
 | some ds =>
  dsimp only
  split
  ·cases QR tt te ρ ds<;>rfl
  ·rfl
theorem qjg (ds:'(')(n:Nat)(tt:Rho->Option Bool)(te:'&')(ρ:Rho):qhj (some ds) n tt te ρ=if ρ.length=n/\ds.length<=1000 then qaG (QR tt te ρ ds) else none:=rfl
theorem qjV (ds:'('):qaG (some ds)=some (.list ds):=rfl
noncomputable def forI (a:Option (List Ka))(g:Ka->Rho->Option Rho)(u:Rho->Option Out)(ρ:Rho):Option Out:=match a with | some ds=>forD g u ds ρ|none=>none
theorem qmF (fi:Rho->Option (List Ka))(g:Ka->Rho->Option Rho)(u:Rho->Option Out)(ρ:Rho):sFor fi g u ρ=forI (fi ρ) g u ρ:=by
 unfold sFor ob forI
 cases fi ρ<;>rfl
theorem qly (ds:'(')(g:Ka->Rho->Option Rho)(u:Rho->Option Out)(ρ:Rho):forI (some ds) g u ρ=forD g u ds ρ:=rfl
noncomputable def forO (o:Option Out)(g:Ka->Rho->Option Rho)(u:Rho->Option Out)(ds:'('):Option Out:=match o with
 | some (.nx ρ')=>forD g u ds ρ'
 | some (.ct ρ')=>forD g u ds ρ'
 | some (.bk ρ')=>some (.nx ρ')
 | some (.rt r)=>some (.rt r)
 | none=>none
theorem jd (g:Ka->Rho->Option Rho)(u:Rho->Option Out)(d:Ka)(ds:'(')(ρ:Rho):forD g u (d::ds) ρ=forO (ob (g d ρ) u) g u ds:=by
 rw [forD]
 unfold ob forO
 cases g d ρ with
 | none=>rfl
 | some ρ1 =>
  dsimp only
  cases u ρ1 with
  | none=>rfl
  | some o=>cases o<;>rfl
theorem qcb (g:Ka->Rho->Option Rho)(u:Rho->Option Out)(ρ:Rho):forD g u [] ρ=some (.nx ρ):=rfl
theorem yN (ρ:Rho)(g:Ka->Rho->Option Rho)(u:Rho->Option Out)(ds:'('):forO (some (.nx ρ)) g u ds=forD g u ds ρ:=rfl
theorem qjC (ρ:Rho)(g:Ka->Rho->Option Rho)(u:Rho->Option Out)(ds:'('):forO (some (.ct ρ)) g u ds=forD g u ds ρ:=rfl
theorem qjB (ρ:Rho)(g:Ka->Rho->Option Rho)(u:Rho->Option Out)(ds:'('):forO (some (.bk ρ)) g u ds=some (.nx ρ):=rfl
theorem qfk (d:Ka)(g:Ka->Rho->Option Rho)(u:Rho->Option Out)(ds:'('):forO (some (.rt d)) g u ds=some (.rt d):=rfl
noncomputable def nxO (o:Option Rho):Option Out:=match o with | some ρ=>some (.nx ρ)|none=>none
noncomputable def asgO (o:Option Ka)(g:Ka->Rho->Option Rho)(ρ:Rho):Option Out:=match o with | some d=>nxO (g d ρ)|none=>none
theorem qmE (f:'&')(g:Ka->Rho->Option Rho)(ρ:Rho):sAsg f g ρ=asgO (f ρ) g ρ:=by
 unfold sAsg ob asgO nxO
 cases f ρ with
 | none=>rfl
 | some d=>dsimp only;cases g d ρ<;>rfl
theorem qlj (d:Ka)(g:Ka->Rho->Option Rho)(ρ:Rho):asgO (some d) g ρ=nxO (g d ρ):=rfl
theorem nxO_s (ρ:Rho):nxO (some ρ)=some (.nx ρ):=rfl
noncomputable def retO (o:Option Ka):Option Out:=match o with | some d=>some (.rt d)|none=>none
theorem qmH (f:'&')(ρ:Rho):sRet f ρ=retO (f ρ):=by
 unfold sRet ob retO
 cases f ρ<;>rfl
theorem qmA (d:Ka):retO (some d)=some (.rt d):=rfl
theorem gsN_n (ρ:Rho):gsN [] ρ=some ρ:=rfl
theorem gsC_c (g1:Ka->Rho->Option Rho)(g2:List Ka->Rho->Option Rho)(d:Ka)(r:'(')(ρ:Rho):gsC g1 g2 (d::r) ρ=ob (g1 d ρ) (g2 r):=rfl
theorem qmZ (n:Nat)(g:List Ka->Rho->Option Rho)(ds:'(')(ρ:Rho):unpD n g (.tuple ds) ρ=if ds.length=n then g ds ρ else none:=rfl
theorem qmJ (ds:'('):seqD (.list ds)=some ds:=rfl
theorem qmK (ds:'('):seqD (.tuple ds)=some ds:=rfl
theorem ixD_l (ds:'(')(i:Int):ixD (.list ds) (.int i)=atI ds i:=rfl
theorem ixD_t (ds:'(')(i:Int):ixD (.tuple ds) (.int i)=atI ds i:=rfl
theorem qlS (ds:'('):lenD [.list ds]=some (.int ds.length):=rfl
theorem qlT (ds:'('):lenD [.tuple ds]=some (.int ds.length):=rfl
theorem qiX (ds:'('):Yo [.list ds]=some (.tuple ds):=rfl
theorem qiY (ds:'('):Yo [.tuple ds]=some (.tuple ds):=rfl
theorem qjT (ds:'('):qbB [.list ds]=some (.list ds):=rfl
theorem qjU (ds:'('):qbB [.tuple ds]=some (.list ds):=rfl
theorem qjc (b:Bool):YF (.bool b)=some b:=rfl
theorem qmd (d:Ka):outD (.rt d)=some d:=rfl
theorem qmc (ρ:Rho):outD (.nx ρ)=some .none:=rfl
theorem qle (i j:Int):qeV (.int i) (.int j)=some (.int (i+j)):=rfl
noncomputable def takO (b:Bool)(o:Option Ka)(i:Nat)(ρ:Rho):Option Out:=match b,o with | true,some d=>some (.nx (ρ.set i (some d)))|_,_=>none
theorem qkC (i:Nat)(f:'&')(ρ:Rho):QJ i f ρ=takO (decide (i<ρ.length)) (f ρ) i ρ:=by
 unfold QJ ob takO
 by_cases h:i<ρ.length
 ·rw [ag h,ae h]
  cases f ρ<;>rfl
 ·rw [ah h,ab h]
theorem qmT (d:Ka)(i:Nat)(ρ:Rho):takO true (some d) i ρ=some (.nx (ρ.set i (some d))):=rfl
noncomputable def flaO (o:Option Ka):Option Ka:=match o with | some d=>if flat d=true then some d else none|none=>none
theorem qjy (f:'&')(ρ:Rho):qbs f ρ=flaO (f ρ):=by
 unfold qbs ob flaO
 cases f ρ<;>rfl
theorem qlw (d:Ka):flaO (some d)=if flat d=true then some d else none:=rfl
noncomputable def appO (l d:Option Ka)(i:Nat)(ρ:Rho):Option Out:=match l,d with | some x,some y=>setO (appD x y) i ρ|_,_=>none
theorem qmD (i:Nat)(f:'&')(ρ:Rho):sApp i f ρ=appO (vr i ρ) (f ρ) i ρ:=by
 unfold sApp ob appO setO
 cases vr i ρ with
 | none=>rfl
 | some x =>
  cases f ρ with
  | none=>rfl
  | some y=>dsimp only;cases appD x y<;>rfl
theorem qli (x y:Ka)(i:Nat)(ρ:Rho):appO (some x) (some y) i ρ=setO (appD x y) i ρ:=rfl
theorem qd7 (ds:'(')(d:Ka):appD (.list ds) d=if ds.length<1000 then some (.list (ds++[d])) else none:=rfl
theorem qme (d:Ka):outF (.rt d)=some d:=rfl
theorem isD_n (x:Ka):isD x .none=some (.bool (isNone x)):=by cases x<;>rfl
theorem qlK (x:Ka):isnD x .none=some (.bool (!isNone x)):=by cases x<;>rfl
theorem isD_b (b c:Bool):isD (.bool b) (.bool c)=some (.bool (b==c)):=rfl
theorem qlJ (b c:Bool):isnD (.bool b) (.bool c)=some (.bool (!(b==c))):=rfl
noncomputable def sliO (a:Option Ka)(l h:Option (Option Int)):Option Ka:=match a,l,h with | some x,some l,some h=>sliD x l h|_,_,_=>none
theorem evS_b (fa:'&')(fl fh:Rho->Option (Option Int))(ρ:Rho):evS fa fl fh ρ=sliO (fa ρ) (fl ρ) (fh ρ):=by
 unfold evS ob sliO
 cases fa ρ<;>cases fl ρ<;>cases fh ρ<;>rfl
theorem qmO (x:Ka)(l h:Option Int):sliO (some x) (some l) (some h)=sliD x l h:=rfl
noncomputable def prtO (a:Option Ka):Option (Option Int):=match a with | some (.int i)=>some (some i)|_=>none
theorem oS_b (f:'&')(ρ:Rho):oS f ρ=prtO (f ρ):=by
 unfold oS ob prtO
 cases f ρ with
 | none=>rfl
 | some d=>cases d<;>rfl
theorem qmt (i:Int):prtO (some (.int i))=some (some i):=rfl
theorem qmP (i j:Int):subD (.int i) (.int j)=some (.int (i-j)):=rfl
theorem ql0 (i:Int):negD (.int i)=some (.int (-i)):=rfl
theorem qlU (i j:Int):ltD2 (.int i) (.int j)=some (.bool (decide (i<j))):=by
 show (if _ then ob (ltX (.int i) (.int j)) _ else none)=_
 rw [ag ⟨rfl,rfl,Vj 60⟩,ltX]
 rfl
theorem leD_i (i j:Int):leD (.int i) (.int j)=some (.bool (decide (i<=j))):=rfl
theorem gtD_i (i j:Int):gtD (.int i) (.int j)=some (.bool (decide (j<i))):=rfl
theorem qlI (T:String)(ds:'('):isiT T (.tuple ds)=(T == "tuple" || T == "object"):=rfl
theorem qlF (T:String)(ds:'('):isiT T (.list ds)=(T == "list" || T == "object"):=rfl
theorem qlE (T:String)(i:Int):isiT T (.int i)=(T == "int" || T == "object"):=rfl
theorem qlD (T:String)(b:Bool):isiT T (.bool b)=(T == "bool" || T == "int" || T == "object"):=rfl
theorem qlH (T:String)(x:Str):isiT T (.str x)=(T == "str" || T == "object"):=rfl
theorem qlG (T:String):isiT T .none=(T == "NoneType" || T == "object"):=rfl
theorem qkx (j:Int):Q0 [.int j]=if -1000<=j/\j<=1000 then some (rngL 0 j.toNat) else none:=rfl
theorem qky (i j:Int):qdY [.int i,.int j]=if (-1000<=i/\i<=1000)/\(-1000<=j/\j<=1000) then some (rngL i (j-i).toNat) else none:=rfl
noncomputable def S3 (a b c:Int):Ka:=.tuple [.int a,.int b,.int c]
noncomputable def T3 (p q r:Ka):Ka:=.tuple [p,q,r]
theorem qls (a b c:Int):Ks (S3 a b c) (S3 a b c)=true:=by
 show ((a==a)&&((b==b)&&((c==c)&&true)))=true
 simp
section
variable {X:Cx}{G:Gm}{M M' Mb L:List Nat}{fr:Fr}{a b c:KD}{es:List KD}{f fk g:'&'}{pos:Pos}{u:Rho->Option Out}
theorem DenL.set {K:Kb}{H:Hp}{S:Av}:∀ {vs:List V} {ds:'('} {v:V} {d:Ka} (j:Nat),DenL K H S vs ds->Den K H S v d->DenL K H S (vs.set j v) (ds.set j d)
 | _,_,_,_,_,.nil,_=>.nil
 | _,_,_,_,0,.cons _ t,q=>.cons q t
 | _,_,_,_,j+1,.cons h t,q=>.cons h (t.set j q)
theorem DenL.dropLast {K:Kb}{H:Hp}{S:Av}:∀ {vs:List V} {ds:'('},DenL K H S vs ds->DenL K H S vs.dropLast ds.dropLast
 | _,_,.nil=>.nil
 | _,_,.cons h .nil=>.nil
 | _,_,.cons h (.cons h2 t)=>.cons h (DenL.dropLast (.cons h2 t))
theorem DenL.erase {K:Kb}{H:Hp}{S:Av}:∀ {vs:List V} {ds:'('} (j:Nat),DenL K H S vs ds->DenL K H S (vs.eraseIdx j) (ds.eraseIdx j)
 | _,_,_,.nil=>.nil
 | _,_,0,.cons _ t=>t
 | _,_,j+1,.cons h t=>.cons h (t.erase j)
noncomputable def setD:Ka->Ka->Ka->Option Ka
 | .list ds,.int k,d=>ob (ixN ds.length k) λj=>some (.list (ds.set j d))
 | _,_,_=>none
noncomputable def popD:Ka->Option (Ka×PyData)
 | .list ds=>ob (ds[ds.length-1]?) λd=>some (d,.list ds.dropLast)
 | _=>none
theorem qgL (e:popD l=some r):∃ ds d,l=.list ds/\ds[ds.length-1]?=some d/\r=(d,.list ds.dropLast):=by
 unfold popD at e
 split at e
 ·obtain ⟨d,e1,e⟩:=qd e
  cases e
  exact ⟨_,d,rfl,e1,rfl⟩
 ·cases e
noncomputable def Yl:Ka->Ka->Option (Ka×PyData)
 | .list ds,.int k=>ob (if -1000<=k/\k<=1000 then bu k ds.length else none) λn=>ob (ds[n]?) λd=>some (d,.list (ds.eraseIdx n))
 | _,_=>none
noncomputable def qcD (i j:Nat)(fk:'&'):Rho->Option Out:=λρ=>ob (vr i ρ) λl=>ob (fk ρ) λk=>ob (Yl l k) λr=>some (.nx ((ρ.set i (some r.2)).set j (some r.1)))
theorem qdS (e:Yl l k=some r):∃ ds m n d,l=.list ds/\k=.int m/\(-1000<=m/\m<=1000)/\bu m ds.length=some n/\ds[n]?=some d/\r=(d,.list (ds.eraseIdx n)):=by
 unfold Yl at e
 split at e
 ·obtain ⟨n,e1,e⟩:=qd e
  obtain ⟨d,e2,e⟩:=qd e
  cases e
  split at e1
  ·rename_i hm
   exact ⟨_,_,n,d,rfl,rfl,hm,e1,e2,rfl⟩
  ·cases e1
 ·cases e
theorem qgF (i j:Nat){px py apos cpos:Pos}(hv:Vis X.env.scope x)(hM:Flt M i)(hL:i∉L)(hj:j∉M)(hN2:X.N.Nodup)(hy:Loc X.env.scope y)(hk:PD X [] b fk)(hN:X.N[i]?=some x:=by rfl)(hjN:X.N[j]?=some y:=by rfl)(hd:(x==("__debug__" : Str))=false:=by decide +kernel)(hcd:(x==("__classdict__" : Str))=false:=by decide +kernel)
  (hf:X.fn y=true\/X.env.scope.names.lookup y=some .local:=by first|exact .inl rfl|exact .inr rfl|assumption)
  (hbase:aG (.Name x px) "pop" X.env (eval (.Name x px) X.env)=eval (.Name x px) X.env:=by rfl)
  (hfew:((aA cpos (af [b] X.env)).all (λx=>!x.1)&&(aZ cpos (aQ [] X.env)).all (λx=>x.1.isSome)
   && decide ([b].length+([]:List UJ).length+(if ([]:List UJ).isEmpty then 0 else 1)<30))=true:=by rfl)
  (hline:(apos.endLine==cpos.line)=true:=by rfl) (hs:af [b] X.env=(false,eval b X.env)::af [] X.env:=by rfl) (hplain:(aA cpos (af [] X.env)).any (·.1)=false:=by rfl)
  (hsw:aK (.Call (.Attribute (.Name x px) "pop" apos) [b] [] cpos) (some (.Name y py)) pos.line X.env=pure false:=by rfl) :
  PDS X G M L M Mb fr (.Assign [.Name y py] (.Call (.Attribute (.Name x px) "pop" apos) [b] [] cpos) pos) (qcD i j fk) :=
 (qaX hN2 hjN hy (qbK Uv X3 EW qh5 (JC i hv hN hd hcd) (qF hk zJ hs) hbase hfew hline hs hplain) hsw hf).weak λD σ H ⟨S,ρ,o,os,e,q⟩=>by
  obtain ⟨l,e1,e⟩:=qd e
  obtain ⟨k,e2,e⟩:=qd e
  obtain ⟨r,e3,e⟩:=qd e
  cases e
  obtain ⟨ds,m,n,d,rfl,rfl,hm,en,ed,rfl⟩:=qdS e3
  obtain ⟨pp,a1,b1,c1,n1,w1,_⟩:=os.own i hM _ (Qm e1)
  cases b1 with
  | @lst xs _ h t =>
   refine ⟨_,a1,.inl ⟨rfl,_,SqL.of h⟩,G.S0,ρ,[.int m],os.den,by show ob (fk ρ) _=_;rw [e2];rfl,λvs H2 g2 dl=>?_⟩
   obtain ⟨kv,rfl,dk⟩:=dl.inv1
   have os2:=os.same g2
   obtain ⟨v,hv1,dv⟩:=(t.same g2).get ed
   refine ⟨pp,xs,m,n,v,rfl,by rw [dk.int_inv],g2 _ _ h,by omega,by omega,by rw [t.length];exact en,hv1,?_⟩
   have os3:=os2.write hM hL (Qm e1) a1 (d:=.list (ds.eraseIdx n)) (o:=.lst (xs.eraseIdx n)) rfl (.lst qY (((t.same g2).erase n).off os2.ds.1 (Off.upd c1)))
   exact q _ _ _ (os3.set (dv.off os2.ds.1 (Off.upd c1)) hj)
end
end L2
namespace L2
open PySem
noncomputable def putO (d l k:Option Ka)(i:Nat)(ρ:Rho):Option Out:=match d,l,k with | some d,some l,some k=>setO (setD l k d) i ρ|_,_,_=>none
noncomputable def popO (r:Option (Ka×PyData))(i j:Nat)(ρ:Rho):Option Out:=match r with | some r=>some (.nx ((ρ.set i (some r.2)).set j (some r.1)))|none=>none
noncomputable def popA (l k:Option Ka):Option (Ka×PyData):=match l,k with | some l,some k=>Yl l k|_,_=>none
theorem qiJ (i j:Nat)(fk:'&')(ρ:Rho):qcD i j fk ρ=popO (popA (vr i ρ) (fk ρ)) i j ρ:=by
 unfold qcD ob popO popA
 cases vr i ρ with
 | none=>rfl
 | some l =>
  cases fk ρ with
  | none=>rfl
  | some k=>dsimp only;cases Yl l k<;>rfl
theorem qmq (r:Ka×PyData)(i j:Nat)(ρ:Rho):popO (some r) i j ρ=some (.nx ((ρ.set i (some r.2)).set j (some r.1))):=rfl
theorem qmp (l k:Ka):popA (some l) (some k)=Yl l k:=rfl
end L2
namespace L2
open PySem PySem.Spec PyProof.Rows
section
variable {X:Cx}
noncomputable def absD:List Ka->Option Ka
 | [.int i]=>some (.int (if i<0 then -i else i))
 | _=>none
theorem b_abs:CallD X (.builtin "abs") absD:=λaa s σ H xs us Q I r ⟨S,ds,d,m,h1,e,q⟩=>qg9 aa s σ H xs us Q I r (by
 unfold absD at e
 split at e
 ·cases e
  obtain ⟨v,rfl,hv⟩:=h1.inv1
  exact ⟨_,by rw [hv.int_inv],q _ H (Same.refl H) (.int _)⟩
 ·cases e)
theorem qfZ:aw "abs" = some (.builtin "abs"):=by decide +kernel
theorem qf0:aw "max" = some (.builtin "max"):=by decide +kernel
theorem qf1:aw "min" = some (.builtin "min"):=by decide +kernel
theorem qld (i:Int):absD [.int i]=some (.int (if i<0 then -i else i)):=rfl
end
noncomputable def evCh (fa fb fc:'&')(g g':Ka->Ka->Option Ka):Rho->Option Ka:=λρ=>ob (fa ρ) λx=>ob (fb ρ) λy=>ob (g x y) λz=>ob (YF z) λk=>if k=true then ob (fc ρ) λw=>g' y w else some (.bool false)
section
variable {X:Cx}{M:List Nat}{a b c:KD}{fa fb fc:'&'}{pos:Pos}{op op':CmpOp}{g g':Ka->Ka->Option Ka}
theorem tChD {K:Kb}:∀ σ H Q,tD K M (evCh fa fb fc g g') σ H Q->qiP (rD2 K g) (rD2 K g') (tD K M fa) (tD K M fb) (tD K M fc) σ H Q:=by
 intro σ H Q ⟨S,ρ,d,hs,e,q⟩
 obtain ⟨x,e1,e⟩:=qd e
 obtain ⟨y,e2,e⟩:=qd e
 obtain ⟨z,e3,e⟩:=qd e
 obtain ⟨k,e4,e⟩:=qd e
 cases ZR e4
 refine ⟨S,ρ,x,hs,e1,λv H1 g1 d1=>⟨S,ρ,y,hs.same g1,e2,λw H2 g2 d2=>⟨S,x,y,_,hs.1.same (g1.trans g2),d1.same g2,d2,e3,λzv H3 g3 dz=>⟨k,dz.bool_inv,?_⟩⟩⟩⟩
 have g123:=g1.trans (g2.trans g3)
 cases k with
 | true =>
  have e:(ob (fc ρ) λw=>g' y w)=some d:=e
  obtain ⟨w',e5,e⟩:=qd e
  exact iteT ⟨S,ρ,w',hs.same g123,e5,λwv H4 g4 d4=>⟨S,y,w',d,hs.1.same (g123.trans g4),d2.same (g3.trans g4),d4,e,λv5 H5 g5 d5=>q v5 H5 (g123.trans (g4.trans g5)) d5⟩⟩
 | false =>
  cases e
  exact iteF (q _ H3 g123 (.bool false))
theorem qgH (ho:OpD X (au op) g)(ho':OpD X (au op') g')(ha:PD X M a fa)(hb:PD X M b fb)(hc:PD X M c fc)(hm:lastMarks [op,op'] [b,c]=false:=by with_unfolding_all rfl):PDT X M (.Compare a [op,op'] [b,c] pos) (tV (evCh fa fb fc g g')) :=
 (qiA ho ho' ha hb hc hm).weak λσ H Q ⟨S,ρ,d,hs,e,q⟩=>by
  obtain ⟨x,e1,e⟩:=qd e
  cases ZR e
  exact tChD σ H _ ⟨S,ρ,_,hs,e1,λv H1 g1 d1=>⟨d,d1.bool_inv,q H1 g1⟩⟩
end
noncomputable def chO (y:Option Ka)(k:Option Ka)(fc:'&')(g':Ka->Ka->Option Ka)(ρ:Rho):Option Ka:=match y,k with
 | some y,some (.bool true)=>ob (fc ρ) (g' y)
 | some _,some (.bool false)=>some (.bool false)
 | _,_=>none
theorem qlt (fa fb fc:'&')(g g':Ka->Ka->Option Ka)(ρ:Rho):evCh fa fb fc g g' ρ=chO (fb ρ) (binO (fa ρ) (fb ρ) g) fc g' ρ:=by
 unfold evCh ob chO binO YF
 cases fa ρ with
 | none=>cases fb ρ<;>rfl
 | some x =>
  cases fb ρ with
  | none=>rfl
  | some y =>
   dsimp only
   cases g x y with
   | none=>rfl
   | some z =>
    cases z with
    | bool k=>cases k<;>rfl
    | _=>rfl
theorem chO_t (y:Ka)(fc:'&')(g':Ka->Ka->Option Ka)(ρ:Rho):chO (some y) (some (.bool true)) fc g' ρ=ob (fc ρ) (g' y):=rfl
theorem chO_f (y:Ka)(fc:'&')(g':Ka->Ka->Option Ka)(ρ:Rho):chO (some y) (some (.bool false)) fc g' ρ=some (.bool false):=rfl
noncomputable def Jt (l x:Ka):Option Ka:=match l with
 | .list ds=>if inOk ds x=true/\ds.length<=1000 then ob (ds.findIdx? λy=>Ks y x) λj=>some (.int (j:Nat)) else none
 | _=>none
section
variable {X:Cx}{G:Gm}{M M' Mb L:List Nat}{fr:Fr}{a b c:KD}{es:List KD}{f fk g:'&'}{pos:Pos}{u:Rho->Option Out}
noncomputable def qku (K:Kb):V->List V->Hp->VK->Prop:=λx vs H Q=>∃ S dx y dy d,vs=[y]/\Den K H S x dx/\Den K H S y dy/\Jt dx dy=some d/\Dm S H/\∀ v H',Same H H'->Den K H' S v d->Q v H'
theorem qh4 (hr:Room k X.A):MtR X "list.index" (qku X.K):=by
 intro aa s σ H x vs v us Q I rx rv h
 obtain ⟨S,dx,y,dy,d,rfl,h1,h2,e,m,q⟩:=h
 obtain ⟨u,rfl,ru⟩:=rv.one
 unfold Jt at e
 split at e
 ·rename_i ds
  split at e
  ·rename_i hc
   obtain ⟨⟨c1,c2,c3⟩,hz⟩:=And.intro (ZV hc.1) hc.2
   obtain ⟨j,ej,e⟩:=qd e
   cases e
   obtain ⟨bs,q2⟩:=h2.reads I c2 ru
   obtain ⟨as,q1⟩:=h1.reads I (by rw [KM];exact c1) rx
   obtain ⟨a,xs,rfl,hsq,ht⟩:=h1.list_inv
   cases (show v=Ve a from rx)
   cases q1 with
   | @list _ o items n _ _ g1 g2 g3 g4 =>
    obtain ⟨cls,dd,data,sl⟩:=o
    simp only at g2 g3
    subst g2 g3
    have hm:=SeqAt.readsAll_map _ _ _ c1 g4
    obtain ⟨hj,hp,hno⟩:=Nh.mp ej
    have hlen:items.size=ds.length:=by
     have:=congrArg Xy hm
     simpa using this
    have hat:∀ i (h:i<items.size),X5 s.heap items[i]=ds[i]''$':=λi h=>by
     have:=congrArg (λl=>l[i]?) hm
     simp only [Kw] at this
     rw [Kl (by simpa using h),Kl '$'] at this
     simpa using this
    refine Ek EC ⟨_,g1,rfl⟩ PySem.F.entry_list_index (PySem.F.args_list_index_2 _ _) (SeqAt.list_indexAt a items n dd sl u (λy=>Ks (X5 s.heap y) dy) j '$' '$' ?_ ?_) ⟨g1,SeqAt.items_eqAt g4 q2 c1 c2 (yP c3 hr.units),?_⟩
    ·rw [hat j '$'];exact hp
    ·intro i hi hij
     rw [hat i hi]
     simpa using hno i hij
    ·exact ⟨.int j,H,I.tok _,⟨_,rfl⟩,q _ H (Same.refl H) (.int _)⟩
  ·cases e
 ·cases e
theorem qdG {apos cpos:Pos}(hr:Room k X.A)(ho:PD X M o f)(he:PD X M a g)
  (hbase:aG o "index" X.env (eval o X.env)=eval o X.env:=by rfl)
  (hfew:((aA cpos (af [a] X.env)).all (λx=>!x.1)&&(aZ cpos (aQ [] X.env)).all (λx=>x.1.isSome)
   && decide ([a].length+([]:List UJ).length+(if ([]:List UJ).isEmpty then 0 else 1)<30))=true:=by rfl)
  (hline:(apos.endLine==cpos.line)=true:=by rfl) (hs:af [a] X.env=(false,eval a X.env)::af [] X.env:=by rfl) (hplain:(aA cpos (af [] X.env)).any (·.1)=false:=by rfl) :
  PD X M (.Call (.Attribute o "index" apos) [a] [] cpos) (ev2 f g Jt) :=
 (qbK Uv EC PySem.F.type_list_index (qh4 hr) ho (qF he zJ hs) hbase hfew hline hs hplain).weak λσ H Q ⟨S,ρ,d,hs,e,q⟩=>by
  obtain ⟨dx,e1,e⟩:=qd e
  obtain ⟨dy,e2,e⟩:=qd e
  refine ⟨S,ρ,dx,hs,e1,λv H1 g1 d1=>?_⟩
  have:∃ ds,dx=.list ds:=by
   unfold Jt at e
   split at e
   ·exact ⟨_,rfl⟩
   ·cases e
  obtain ⟨ds,rfl⟩:=this
  obtain ⟨p,xs,rfl,hsq,ht⟩:=d1.list_inv
  refine ⟨.inl ⟨rfl,_,hsq.sq⟩,S,ρ,[dy],hs.same g1,by show ob (g ρ) _=_;rw [e2];rfl,λvs H2 g2 dl=>?_⟩
  obtain ⟨w,rfl,dw⟩:=dl.inv1
  exact ⟨S,_,w,dy,d,rfl,d1.same g2,dw,e,hs.1.same (g1.trans g2),λv3 H3 g3 d3=>q v3 H3 (g1.trans (g2.trans g3)) d3⟩
noncomputable def Qq (x y:Ka):Option Ka:=match x,y with
 | .int i,.int j=>some (.int (i+j))
 | .list ds,.list es=>if ds.length+es.length<=1000 then some (.list (ds++es)) else none
 | x,y=>qeV x y
noncomputable def rCatL (K:Kb):R2:=λx y H Q=>∃ l b xs zs,x=.ref l/\y=.ref b/\SqL K H l xs/\SqL K H b zs/\xs.length+zs.length<=ak/\∀ p,H p=none->Q (.ref p) (upd H p (.lst (xs++zs)))
theorem qj5:OpR X (aF .Add) (rCatL X.K):=by
 intro aa s σ H x y v u Q I rx ry h
 obtain ⟨l,b,xs,zs,rfl,rfl,hH,hB,hz,q⟩:=h
 cases rx
 cases ry
 obtain ⟨its,r,⟨⟨cls,dd,data,sl⟩,n,g1,g2,_,g3⟩,_⟩:=I.list hH
 obtain ⟨its2,r2,⟨⟨cls2,dd2,data2,sl2⟩,n2,k1,k2,_,k3⟩,_⟩:=I.list hB
 simp only at g2 g3 k2 k3
 subst g2 g3 k2 k3
 have ea:its.toArray++its2.toArray=(its++its2).toArray:=by simp
 have l1:=r.length
 have l2:=r2.length
 refine Eo ⟨_,g1,rfl⟩ ⟨_,k1,rfl⟩ noFill_list_add seq_list_add PySem.F.slot_list_add PySem.F.entry_list_add (PySem.F.args_list_add_2 _ _) (list_addW l b its.toArray its2.toArray n n2 dd dd2 sl sl2 (by rw [KA,KA];omega)) ⟨g1,k1,?_⟩
 rw [ea]
 exact ⟨.ref _,_,I.lnew (t':=s.toks) (r.append r2) (by rw [Km];omega),rfl,q _ I.fresh⟩
theorem qlp:OpD X (aF .Add) (λx y=>match x,y with | .list ds,.list es=>if ds.length+es.length<=1000 then some (.list (ds++es)) else none|_,_=>none):=by
 refine Yj qj5 λx y dx dy d H S Q m h1 h2 e q=>?_
 split at e
 ·split at e
  ·rename_i ds es hc
   cases e
   cases h1 with
   | list a1 t1 =>
    cases h2 with
    | list a2 t2 =>
     exact ⟨_,_,_,_,rfl,rfl,a1.sq,a2.sq,by rw [t1.length,t2.length];exact VP (zO hc),λp hp=>q _ _ (Same.lay hp) (.list (SqLS.new qY (m.free hp)) ((t1.append t2).same (Same.lay hp)))⟩
  ·cases e
 ·cases e
theorem Qc:OpD X (aF .Add) Qq:=by
 intro aa s σ H x y v u Q I rx ry h
 obtain ⟨S,dx,dy,d,m,h1,h2,e,q⟩:=h
 unfold Qq at e
 split at e
 ·exact qhm aa s σ H x y v u Q I rx ry ⟨S,_,_,d,m,h1,h2,e,q⟩
 ·exact qlp aa s σ H x y v u Q I rx ry ⟨S,_,_,d,m,h1,h2,e,q⟩
 ·exact qhm aa s σ H x y v u Q I rx ry ⟨S,_,_,d,m,h1,h2,e,q⟩
theorem qi6 (i j:Int):Qq (.int i) (.int j)=some (.int (i+j)):=rfl
noncomputable def qcI:List Ka->Option Ka
 | [.int i]=>some (.int i)
 | [.bool k]=>some (.int (if k then 1 else 0))
 | _=>none
theorem b_int:CallD X (.type "int") qcI:=λaa s σ H xs us Q I r ⟨S,ds,d,m,h1,e,q⟩=>qf2 aa s σ H xs us Q I r (by
 unfold qcI at e
 split at e
 ·cases e
  obtain ⟨v,rfl,hv⟩:=h1.inv1
  exact .inl ⟨_,by rw [hv.int_inv],q _ H (Same.refl H) (.int _)⟩
 ·cases e
  obtain ⟨v,rfl,hv⟩:=h1.inv1
  exact .inr ⟨_,by rw [hv.bool_inv],q _ H (Same.refl H) (.int _)⟩
 ·cases e)
noncomputable def wG (i:Nat):Rho->Option Out:=λρ=>ob (vr i ρ) λl=>ob (popD l) λr=>some (.nx (ρ.set i (some r.2)))
theorem qdK (i:Nat){px apos cpos:Pos}(hv:Vis X.env.scope x)(hM:Flt M i)(hL:i∉L)(hN:X.N[i]?=some x:=by rfl)(hd:(x==("__debug__" : Str))=false:=by decide +kernel)(hcd:(x==("__classdict__" : Str))=false:=by decide +kernel)
  (hbase:aG (.Name x px) "pop" X.env (eval (.Name x px) X.env)=eval (.Name x px) X.env:=by rfl)
  (hline:(apos.endLine==cpos.line)=true:=by rfl) (hsw:aK (.Call (.Attribute (.Name x px) "pop" apos) [] [] cpos) none pos.line X.env=pure false:=by rfl) :
  PDS X G M L M Mb fr (.Expr (.Call (.Attribute (.Name x px) "pop" apos) [] [] cpos) pos) (wG i) :=
 (wz (qmh Uv X3 EW qlX (JC i hv hN hd hcd) hbase hline) hsw).weak λD σ H ⟨S,ρ,o,os,e,q⟩=>by
  obtain ⟨l,e1,e⟩:=qd e
  obtain ⟨r,e2,e⟩:=qd e
  cases e
  obtain ⟨ds,d,rfl,ed,rfl⟩:=qgL e2
  obtain ⟨pp,a1,b1,c1,n1,w1,_⟩:=os.own i hM _ (Qm e1)
  cases b1 with
  | @lst xs _ h t =>
   obtain ⟨v,hv1,dv⟩:=t.get ed
   refine ⟨_,a1,.inl ⟨rfl,_,SqL.of h⟩,pp,xs,v,rfl,rfl,h,by rw [t.length];exact hv1,?_⟩
   exact q _ _ _ (os.write hM hL (Qm e1) a1 (d:=.list ds.dropLast) (o:=.lst xs.dropLast) rfl (.lst qY ((DenL.dropLast t).off os.ds.1 (Off.upd c1))))
end
noncomputable def popS (r:Option (Ka×PyData))(i:Nat)(ρ:Rho):Option Out:=match r with | some r=>some (.nx (ρ.set i (some r.2)))|none=>none
theorem qkB (i:Nat)(ρ:Rho):wG i ρ=popS (ob (vr i ρ) popD) i ρ:=by
 unfold wG ob popS
 cases vr i ρ with
 | none=>rfl
 | some l=>dsimp only;cases popD l<;>rfl
theorem qmr (r:Ka×PyData)(i:Nat)(ρ:Rho):popS (some r) i ρ=some (.nx (ρ.set i (some r.2))):=rfl
theorem qd2 (k:Bool):qcI [.bool k]=some (.int (if k then 1 else 0)):=rfl
section
variable {prog:KJ}{w:K1}{A:KY}{E:Kd->Kh->Prop}{s:Kh}
theorem qdz  {Q:Kd->Kh->Prop} (hit:s.heap.IsTupleIter it t i) (ht:s.heap.IsTuple t items) (hx:items[i]?=some x)
  (hQ:∀ h',h'.IsTupleIter it t (i+1)->UA it s.heap h'->Q x { s with heap:=h' }):ai (model prog w) A (Xe (.ref it)) Q E s:=by
 obtain ⟨o,ho,hc,hd⟩:=id hit
 obtain ⟨ol,hol,_,nl,hdl⟩:=ht
 unfold Xe
 refine Kc (US (name:=Kg "__next__") hit.typeIs Xa (V6 Xa hit.typeIs N0 ?_ (NS _)))
 refine (Kc (UM ho hd (x:=.ref t) rfl ?_):ai _ _ (field (.ref it) 0 >>= _) _ _ s)
 refine (id ?_:ai _ _ (if (Ve t==VF)=true then _ else _) _ _ s)
 rw [ah (λz=>VI z:¬ ((Ve t==VF)=true))]
 refine (Kc (UM ho hd (x:=.int i 0) rfl ?_):ai _ _ (field (.ref it) 1 >>= _) _ _ s)
 refine (Kc (Ut hol hdl ?_):ai _ _ (aY (.ref t) >>= _) _ _ s)
 simp only [hx,Vl]
 refine Kc (EX ho hd (by simp) (Kn ⟨x,rfl,Kn (hQ _ ⟨_,UK _ ho (Obj.isFreed_of_fields (Obj.data_mapFields hd _)),(Obj.cls_mapFields ..).trans hc,by rw [Obj.data_mapFields hd];simp [be]⟩ (Heap.SameBut.update ..))⟩))
theorem qeA  {Q:Kd->Kh->Prop} (hh:A.handled=none) (hit:s.heap.IsTupleIter it t i) (ht:s.heap.IsTuple t items) (hx:items[i]?=none)
  (hE:∀ h' e,Heap.ExtBut it s.heap h'->(∃ o,h'.get? e=some o/\o.cls=.type "StopIteration")->E (.ref e) { s with heap:=h' }):ai (model prog w) A (Xe (.ref it)) Q E s:=by
 obtain ⟨o,ho,hc,hd⟩:=id hit
 obtain ⟨ol,hol,_,nl,hdl⟩:=ht
 unfold Xe
 refine Kc (US (name:=Kg "__next__") hit.typeIs Xa (V6 Xa hit.typeIs N0 ?_ (NS _)))
 refine (Kc (UM ho hd (x:=.ref t) rfl ?_):ai _ _ (field (.ref it) 0 >>= _) _ _ s)
 refine (id ?_:ai _ _ (if (Ve t==VF)=true then _ else _) _ _ s)
 rw [ah (λz=>VI z:¬ ((Ve t==VF)=true))]
 refine (Kc (UM ho hd (x:=.int i 0) rfl ?_):ai _ _ (field (.ref it) 1 >>= _) _ _ s)
 refine (Kc (Ut hol hdl ?_):ai _ _ (aY (.ref t) >>= _) _ _ s)
 simp only [hx,Vl]
 refine Kc (wpAny_rule (Kc (EX ho hd (by simp) (Kc (?_:ai _ _ (newExc (.type "StopIteration") []) _ _ _)))))
 simp only [newExc,newTuple]
 refine Kc (Vv (Kc (m:=bw _ _) (EL (a:=VF) (by first|rfl|(simp only [bw];rfl)) (Vv ?_ (by size_fits)))) (by size_fits))
 simp only [raiseNew]
 refine Kc (wpAny_handled ?_)
 first|rw [show A.in1.handled=none from hh]|rw [hh]
 exact Kc (Kn (wpAny_throw (hE _ _ (((Heap.SameBut.update ..).extBut.push _).push _) ⟨_,Kv _ rfl,rfl⟩)))
end
theorem qc3 {prog:KJ}{w:K1}{A:KY}(hh:A.handled=none)(it l:Ke)(hne:l≠it)(items:Array Kd) :
  Draws prog w A it [it,l] items.size (λi v=>items[i]?=some v) (λi h=>h.IsTupleIter it l i/\h.IsTuple l items) where
 live:=λ_ _ ⟨⟨o,ho,_⟩,_⟩=>⟨o,ho⟩
 frame:=λ_ _ _ ⟨a,b⟩ hk=>⟨a.at λo e=>hk it (by simp) o e,let ⟨o,ho,r⟩:=b;⟨o,hk l (by simp) o ho,r⟩⟩
 item:=λi s Q E hi ⟨a,b⟩ hQ=>qdz a b (x:=items[i]) (by simp [hi]) λh' a' hs'=>hQ _ h' s.toks (by simp [hi]) ⟨a',b.extBut hs'.extBut hne⟩ hs'
 done:=λs Q E ⟨a,b⟩ hE=>qeA hh a b (by simp) hE
open AutoSeq1 (wpAny_loadPart') in
theorem qga (l:Ke)(items:Array Kd)(n:Nat)(dct:Option Ke)(sl:Array (Option Kd)) :
  Meets (UP.«enumerate.__new__» ⟨[.type "enumerate", .ref l],[]⟩) (λ_ R s=>s.heap.get? l=some { cls:=.type "tuple", dict:=dct,data:=.seq items n,slots:=sl }/\
   R (.ok (.ret (.ref (s.heap.push { cls:=.type "tuple_iterator", data:=.fields #[.ref l,.int 0 0] }).objs.size))) { s with heap:=(s.heap.push { cls:=.type "tuple_iterator", data:=.fields #[.ref l,.int 0 0] }).push { cls:=.type "enumerate", data:=.fields #[.none,.bool false,.ref s.heap.objs.size,be 0,.none,.none] } }) :=
 .of_wp λprog w A R s h=>by
  obtain ⟨hp,g,d,tk,os⟩:=s
  obtain ⟨hl,h⟩:=h
  have hsub:=sub_enumerate
  have hT:Heap.IsTuple (Shared.heap ⟨hp,g,d,tk,os⟩) l items:=⟨_,hl,rfl,n,rfl⟩
  wp_walk using aq hl
  refine wpAny_stack_any λst=>Kn ?_
  split
  ·rename_i c _ _ _ _ _
   cases (c==Vs "enumerate")<;>(wp_walk using aq hl,Xt hT;exact ⟨_,rfl,h⟩)
  ·wp_walk using aq hl,Xt hT
   exact ⟨_,rfl,h⟩
section
variable {X:Cx}{aa:List (Ke×Obj)}{σ:St}{H:Hp}{s:Kh}
theorem Inv.turned2 {h':KU}{t':Nat}(I:Inv X aa σ H s)(k:∀ b o,b≠e->b≠it->s.heap.get? b=some o->h'.get? b=some o)(fe:FpOk X aa H e)(fi:FpOk X aa H it):Inv X aa σ H { s with heap:=h',toks:=t' }:=by
 have nit:∀ b u,H b=some u->b≠e/\b≠it:=λb u q=>⟨λz=>by (rw [z,fe.1] at q;cases q),λz=>by (rw [z,fi.1] at q;cases q)⟩
 have out:∀ {b},b∉[e,it]->b≠e/\b≠it:=λhc=>⟨λz=>hc (by simp [z]),λz=>hc (by simp [z])⟩
 refine I.step (g':=s.gens) (d':=s.drawn) (ch:=[e,it]) (λb hb=>?_) (λb o _ _ hc e _=>k b o (out hc).1 (out hc).2 e) (λb o _ _ hc e _=>⟨o.slots,k b o (out hc).1 (out hc).2 e⟩) (λ_ _ _ _ n=>n)
  (λb o hc e=>⟨o,k b o (out hc).1 (out hc).2 e⟩) (λ_ _ e=>e) (λ_ _ _ e=>e) (λb ps e=>⟨#[],by rw [e];simp⟩) (λm hm=>?_) (λb u q=>?_) I.bare
 ·rcases Kr.mp hb with rfl|hb
  ·exact ⟨fe.2.2.2.1,fe.2.1,fe.2.2.2.2.1,fe.2.2.2.2.2⟩
  ·have:=Ky.mp hb
   subst this
   exact ⟨fi.2.2.2.1,fi.2.1,fi.2.2.2.2.1,fi.2.2.2.2.2⟩
 ·obtain ⟨o,es,ep,ho,r⟩:=hm
  exact ⟨o,es,ep,k _ o (Ul fe.2.1) (Ul fi.2.1) ho,r⟩
 ·refine (I.hok b u q).stay (λc v hc q'=>?_) (λ_ q=>q) λ_ _ q=>q
  have n:c≠e/\c≠it:=by
   rcases hc with z|z
   ·rw [z];exact nit b u q
   ·exact nit c _ z
  exact k c v n.1 n.2 q'
end
def SqB (K:Kb)(H:Hp)(b:Bool)(a:Ke)(xs:List V):Prop:=if b=true then SqT K H a xs else SqL K H a xs
def ItB (h:KU)(b:Bool)(it a:Ke)(i:Nat):Prop:=if b=true then h.IsTupleIter it a i else h.IsListIter it a i
noncomputable def Iten (K:Kb)(b:Bool)(a:Ke):It :=
 ⟨λi H=>∃ xs x,SqB K H b a xs/\xs[i]?=some x,
  λi H x H'=>∃ p y,H p=none/\x=.ref p/\H'=upd H p (.tup [.int i,y])/\∀ xs,SqB K H b a xs->xs[i]?=some y,
  λi H=>∃ xs,SqB K H b a xs/\xs.length=i⟩
def tnE (b:Bool)(e it a:Ke)(i:Nat)(h:KU):Prop:=(∃ old,IsEnum h e it i old)/\ItB h b it a i
section
variable {X:Cx}{aa:List (Ke×Obj)}{σ:St}{H:Hp}{s:Kh}
theorem SqB.draws {b:Bool}{a e it:Ke}{i:Nat}{xs:List V}{old:Kd}(I:Inv X aa σ H s)(hh:X.A.handled=none)(hq:SqB X.K H b a xs)(he:IsEnum s.heap e it i old)(hi:ItB s.heap b it a i) :
  ∃ (its:List Kd) (St':Nat->KU->Prop),Vals xs its/\e≠it/\e∉[it,a]/\St' i s.heap/\Draws X.prog X.w X.A.in1 it [it,a] its.length (λi v=>its[i]?=some v) St'/\(∀ j h,St' j h->ItB h b it a j):=by
 have hh1:X.A.in1.handled=none:=hh
 cases b with
 | true =>
  have hq:SqT X.K H a xs:=hq
  have hi:s.heap.IsTupleIter it a i:=hi
  obtain ⟨its,rv,p,hz⟩:=I.tuple hq
  have p:s.heap.IsTuple a its.toArray:=p
  obtain ⟨o1,e1,c1,d1⟩:=id hi
  obtain ⟨o2,e2,c2,n2,d2⟩:=id p
  have n1:e≠it:=λz=>by rw [z] at he;rw [he] at e1;cases e1;exact absurd (show Vs "enumerate" = Vs "tuple_iterator" from c1) '#'
  have n2:a≠it:=λz=>by rw [z] at e2;rw [e2] at e1;cases e1;rw [c1] at c2;exact absurd c2 '#'
  have n3:e≠a:=λz=>by rw [z] at he;rw [he] at e2;cases e2;exact absurd (show Vs "enumerate" = Vs "tuple" from c2) '#'
  refine ⟨its,λj h=>h.IsTupleIter it a j/\h.IsTuple a its.toArray,rv,n1,by simp [n1,n3],⟨hi,p⟩,?_,λj h q=>q.1⟩
  have:=qc3 (prog:=X.prog) (w:=X.w) hh1 it a n2 its.toArray
  simpa using this
 | false =>
  have hq:SqL X.K H a xs:=hq
  have hi:s.heap.IsListIter it a i:=hi
  obtain ⟨its,rv,p0,hz⟩:=I.list hq
  have p:=p0.isList
  obtain ⟨o1,e1,c1,d1⟩:=id hi
  obtain ⟨o2,e2,c2,n2,d2⟩:=id p
  have n1:e≠it:=λz=>by rw [z] at he;rw [he] at e1;cases e1;exact absurd (show Vs "enumerate" = Vs "list_iterator" from c1) '#'
  have n2:a≠it:=λz=>by rw [z] at e2;rw [e2] at e1;cases e1;rw [c1] at c2;exact absurd c2 '#'
  have n3:e≠a:=λz=>by rw [z] at he;rw [he] at e2;cases e2;exact absurd (show Vs "enumerate" = Vs "list" from c2) '#'
  refine ⟨its,λj h=>h.IsListIter it a j/\h.IsList a its.toArray,rv,n1,by simp [n1,n3],⟨hi,p⟩,?_,λj h q=>q.1⟩
  have:=Draws.list (prog:=X.prog) (w:=X.w) hh1 it a n2 its.toArray
  simpa using this
theorem SqB.inj  (I:Inv X aa σ H s) (h1:SqB X.K H b a xs) (h2:SqB X.K H b a ys):xs=ys:=by
 cases b with
 | true=>exact I.tuple_inj h1 h2
 | false=>exact I.list_inj h1 h2
theorem ItB.but {h h':KU}  (q:ItB h b it a i) (n:it≠e) (hs:∀ c o,c≠e->h.get? c=some o->h'.get? c=some o):ItB h' b it a i:=by
 cases b with
 | true=>obtain ⟨o,ho,r⟩:=(show h.IsTupleIter it a i from q);exact (show h'.IsTupleIter it a i from ⟨o,hs _ o n ho,r⟩)
 | false=>obtain ⟨o,ho,r⟩:=(show h.IsListIter it a i from q);exact (show h'.IsListIter it a i from ⟨o,hs _ o n ho,r⟩)
theorem ItB.obj {h:KU}  (q:ItB h b it a i):∃ o,h.get? it=some o/\∀ v,o.data≠.cell v:=by
 cases b with
 | true=>obtain ⟨o,ho,c,d⟩:=(show h.IsTupleIter it a i from q);exact ⟨o,ho,λv z=>by rw [d] at z;cases z⟩
 | false=>obtain ⟨o,ho,c,d⟩:=(show h.IsListIter it a i from q);exact ⟨o,ho,λv z=>by rw [d] at z;cases z⟩
end
theorem qgS {P:KJ}{w:K1}{K:Kb}{ts:List KD}{kk:Nat}{tp:Pos}(b:Bool)(a e it:Ke):Turn P w K (.Tuple ts kk tp) (Iten K b a) [e,it] e (tnE b e it a) where
 mem:=by simp
 obj:=λi h ⟨⟨old,he⟩,hi⟩ c hc=>by
  rcases Kr.mp hc with rfl|hc
  ·exact ⟨_,he,λv z=>by cases z⟩
  ·have:=Ky.mp hc
   subst this
   exact hi.obj
 keep:=λi h h' ⟨⟨old,he⟩,hi⟩ k=>by
  refine ⟨⟨old,k e (by simp) _ he⟩,?_⟩
  cases b with
  | true=>obtain ⟨o,ho,r⟩:=(show h.IsTupleIter it a i from hi);exact (show h'.IsTupleIter it a i from ⟨o,k it (by simp) o ho,r⟩)
  | false=>obtain ⟨o,ho,r⟩:=(show h.IsListIter it a i from hi);exact (show h'.IsListIter it a i from ⟨o,k it (by simp) o ho,r⟩)
 item:=by
  intro X hP hw hK hc i aa s σ H E I hf st hg
  subst hP hw hK
  obtain ⟨xs,x,hq,hx⟩:=hg
  obtain ⟨⟨old,he⟩,hi⟩:=st
  obtain ⟨its,St',rv,n1,n2,st,D,back⟩:=SqB.draws I (I.ok.hd hc) hq he hi
  obtain ⟨u,hu,ru⟩:=rv.get hx
  have hlt:i<its.length:=by
   rcases Fj i its.length with z|z
   ·exact z
   ·rw [V0 z] at hu;cases hu
  refine wpAny_pyNext_enum_itemD D he st hlt n1 n2 λx' h' tk hP heo st' ht hsz hk=>?_
  have ex:x'=u:=by rw [hu] at hP;cases hP;rfl
  subst ex
  refine ⟨_,rfl,wpAny_letOwnedTupleGo_enum heo λh2 he2 hs2=>?_⟩
  have hs2:UA e h' h2:=hs2
  have k2:∀ c o,c≠e->h'.get? c=some o->h2.get? c=some o:=λc o hc q=>(hs2.2 c hc).trans q
  have I1:Inv X aa σ H { s with heap:=h2,toks:=tk+1 }:=I.turned2 (λc o hc1 hc2 q=>k2 c o hc1 (hk c o hc1 hc2 q)) (hf e (by simp)) (hf it (by simp))
  have hn:H s.heap.objs.size=none:=I.hok.fresh (Kq _)
  have fT:FpOk X aa H s.heap.objs.size:=I.fpOk (Kq _) hn
  have neT:s.heap.objs.size≠e:=UB (KF he)
  have hit:it≠s.heap.objs.size:=by
   obtain ⟨o,ho,_⟩:=hi.obj
   exact KW (KF ho)
  have ok:Qt X.prog X.w (upd H s.heap.objs.size (.tup [.int i,x])) h2 s.heap.objs.size (.tup [.int i,x]) :=
   ⟨VP (zO (show 2<=1000 by decide)),[.int i tk,x'],.cons ⟨tk,rfl⟩ (.cons ru .nil),⟨_,k2 _ _ neT ht,rfl,_,rfl⟩⟩
  refine ⟨.ref s.heap.objs.size,upd H s.heap.objs.size (.tup [.int i,x]),I1.track hn fT.2.1 fT.2.2.2.1 fT.2.2.2.2.1 fT.2.2.2.2.2 ok,rfl,⟨_,x,hn,rfl,rfl,λys hy=>by rw [SqB.inj I hy hq];exact hx⟩,⟨⟨x',he2⟩,(back _ _ st').but (Ul n1) k2⟩,λc hc=>?_⟩
  rcases Kr.mp hc with rfl|hc
  ·rw [qW (Ul neT)];exact (hf _ (by simp)).1
  ·have:=Ky.mp hc
   subst this
   rw [qW hit];exact (hf _ (by simp)).1
 done:=by
  intro X hP hw hK hc i aa s σ H E I hf st hg
  subst hP hw hK
  obtain ⟨xs,hq,hx⟩:=hg
  obtain ⟨⟨old,he⟩,hi⟩:=st
  obtain ⟨its,St',rv,n1,n2,st,D,back⟩:=SqB.draws I (I.ok.hd hc) hq he hi
  have hl:=rv.length
  have hi':i=its.length:=by omega
  subst hi'
  obtain ⟨f0,f1,f2,f3,f4,f5⟩:=hf it (by simp)
  exact wpAny_pyNext_enum_endD D he st λh' eb=>⟨rfl,I.turned (t':=s.toks) (λc o hc e=>eb c o hc e) f0 f1 f3 f4 f5⟩
 self:=λ_ _ _ _ _ ⟨⟨old,he⟩,_⟩ h=>wpAny_pyIter_enum he h
theorem Wz:aw "enumerate" = some (.type "enumerate"):=by decide +kernel
section
variable {X:Cx}{aa:List (Ke×Obj)}{σ:St}{H:Hp}{s:Kh}
theorem qf9  {E:Kd->Kh->Prop} {Q:Kd->Kh->Prop} (I:Inv X aa σ H s) (hq:SqB X.K H b a xs)
  (h:∀ (h':KU) (t':Nat),tnE b (s.heap.objs.size+1) s.heap.objs.size a 0 h'->(∀ c o,s.heap.get? c=some o->h'.get? c=some o)->Q (.ref (s.heap.objs.size+1)) { s with heap:=h',toks:=t' }) :
  ai (model X.prog X.w) X.A (call (.type "enumerate") [.ref a]) Q E s:=by
 cases b with
 | true =>
  have hq:SqT X.K H a xs:=hq
  obtain ⟨its,rv,⟨⟨cls,dd,data,sl⟩,g1,g2,n,g3⟩,hz⟩:=I.tuple hq
  simp only at g2 g3
  subst g2 g3
  have hz:(s.heap.push { cls:=.type "tuple_iterator", data:=.fields #[.ref a,.int 0 0] }).objs.size=s.heap.objs.size+1:=by rw [Vp]
  refine callType_new F.called_enumerate '#' (F.typeCall_enumerate_1 _) (F.newCall_enumerate_1 _) (λobj=>F.args_object_init_2 obj _) F.entry_enumerate_new (qga a its.toArray n dd sl) ⟨g1,?_⟩
  refine (id ?_:_/\_)
  rw [hz]
  have he:IsEnum ((s.heap.push { cls:=.type "tuple_iterator", data:=.fields #[.ref a,.int 0 0] }).push { cls:=.type "enumerate", data:=.fields #[.none,.bool false,.ref s.heap.objs.size,be 0,.none,.none] }) (s.heap.objs.size+1) s.heap.objs.size 0 .none:=by
   have z:=Kv (s.heap.push { cls:=.type "tuple_iterator", data:=.fields #[.ref a,.int 0 0] }) (o:={ cls:=.type "enumerate", data:=.fields #[.none,.bool false,.ref s.heap.objs.size,be 0,.none,.none] }) rfl
   rw [hz] at z
   exact z
  exact ⟨⟨_,he,rfl⟩,h _ s.toks ⟨⟨_,he⟩,(show Heap.IsTupleIter _ _ _ _ from ⟨_,Ki _ (Kv _ rfl),rfl,rfl⟩)⟩ λc o x=>Ki _ (Ki _ x)⟩
 | false =>
  have hq:SqL X.K H a xs:=hq
  obtain ⟨its,rv,⟨⟨cls,dd,data,sl⟩,n,g1,g2,_,g3⟩,hz⟩:=I.list hq
  simp only at g2 g3
  subst g2 g3
  have hz:(s.heap.push { cls:=.type "list_iterator", data:=.fields #[.ref a,.int 0 0] }).objs.size=s.heap.objs.size+1:=by rw [Vp]
  refine callType_new F.called_enumerate '#' (F.typeCall_enumerate_1 _) (F.newCall_enumerate_1 _) (λobj=>F.args_object_init_2 obj _) F.entry_enumerate_new (meets_enumerate_newL a its.toArray n dd sl) ⟨g1,?_⟩
  refine (id ?_:_/\_)
  rw [hz]
  have he:IsEnum ((s.heap.push { cls:=.type "list_iterator", data:=.fields #[.ref a,.int 0 0] }).push { cls:=.type "enumerate", data:=.fields #[.none,.bool false,.ref s.heap.objs.size,be 0,.none,.none] }) (s.heap.objs.size+1) s.heap.objs.size 0 .none:=by
   have z:=Kv (s.heap.push { cls:=.type "list_iterator", data:=.fields #[.ref a,.int 0 0] }) (o:={ cls:=.type "enumerate", data:=.fields #[.none,.bool false,.ref s.heap.objs.size,be 0,.none,.none] }) rfl
   rw [hz] at z
   exact z
  exact ⟨⟨_,he,rfl⟩,h _ s.toks ⟨⟨_,he⟩,(show Heap.IsListIter _ _ _ _ from ⟨_,Ki _ (Kv _ rfl),rfl,rfl⟩)⟩ λc o x=>Ki _ (Ki _ x)⟩
end
noncomputable def iEnum (K:Kb)(ta:TA):TI:=λσ H R=>ta σ H λvs H1=>∃ a b xs,vs=[.ref a]/\SqB K H1 b a xs/\R (Iten K b a) H1
section
variable {X:Cx}{M:List Nat}{a:KD}{es:List KD}{f:'&'}{pos:Pos}
theorem qkk   (hg:Gl X "enumerate") (hm:X.mg "enumerate" = none) (ha:PA X [a] ta) (hs:af [a] X.env=[(false,eval a X.env)]:=by rfl):PI X (.Tuple ts kk tp) (.Call (.Name "enumerate" p) [a] [] pos) (iEnum X.K ta):=by
 intro aa s σ H R I h
 refine Call_ (yj I hg hm Wz (Uh (thn (ha pos aa s σ H _ I h) λus s1 ⟨vs,H1,I1,r1,q1⟩=>?_) hs rfl) '%' '%')
 obtain ⟨p',b,xs,e,hq,q⟩:=q1
 subst e
 obtain ⟨u,rfl,ru⟩:=r1.one
 cases ru
 refine qf9 I1 hq λh' t' tn k=>wpAny_pyIter_enum tn.1.choose_spec ?_
 have I2:Inv X aa σ H1 { s1 with heap:=h',toks:=t' }:=I1.kept (t':=t') k
 refine ⟨_,[s1.heap.objs.size+1,s1.heap.objs.size],tnE b (s1.heap.objs.size+1) s1.heap.objs.size p',Iten X.K b p',H1,rfl,I2,qgS b p' _ _,tn,λc hc=>?_,q⟩
 rcases Kr.mp hc with rfl|hc
 ·exact I1.fpOk (UN _) (I1.hok.fresh (UN _))
 ·have:=Ky.mp hc
  subst this
  exact I1.fpOk (Kq _) (I1.hok.fresh (Kq _))
noncomputable def enL:Nat->List Ka->List Ka
 | _,[]=>[]
 | n,d::ds=>.tuple [.int (n:Nat),d]::enL (n+1) ds
theorem Ye:∀ (n:Nat) (ds:'('),(enL n ds).length=ds.length
 | _,[]=>rfl
 | n,_::ds=>by rw [enL,Kz,Kz,Ye]
theorem qff:∀ (n i:Nat) (ds:'(') (d:Ka),(enL n ds)[i]?=some d->∃ e,ds[i]?=some e/\d=.tuple [.int ((n+i:Nat)),e]
 | _,_,[],_,h=>by simp [enL] at h
 | n,0,e::ds,d,h=>by simp [enL] at h;subst h;exact ⟨e,rfl,rfl⟩
 | n,i+1,e::ds,d,h=>by
  obtain ⟨e',h1,h2⟩:=qff (n+1) i ds d (by simpa [enL] using h)
  refine ⟨e',by simpa using h1,?_⟩
  rw [h2]
  congr 3
  congr 1
  omega
theorem SqB.same {K:Kb}{H H':Hp}{b:Bool}{l:Ke}{xs:List V}(e:Same H H')(h:SqB K H b l xs):SqB K H' b l xs:=by
 cases b with
 | true=>exact e.sqT h
 | false=>exact e.seq h
theorem IsIt.enum {K:Kb}{H:Hp}{S:Av}{b:Bool}{l:Ke}{xs:List V}{ds:'('}(h:SqB K H b l xs)(t:DenL K H S xs ds):IsIt K S (Iten K b l) H (enL 0 ds) where
 go:=λi H' e hi=>by
  rw [Ye] at hi
  have hi':i<xs.length:=by rw [t.length];exact hi
  exact ⟨xs,xs[i],h.same e,Kl hi'⟩
 yld:=λi H' x H2 e ⟨p,y,hp,ex,e2,q⟩=>by
  subst ex e2
  refine ⟨Same.lay hp,λd hd S' w=>?_⟩
  obtain ⟨de,h1,rfl⟩:=qff 0 i ds d hd
  obtain ⟨v,h2,h3⟩:=t.get h1
  have:=q xs (h.same e)
  rw [h2] at this
  cases this
  rw [Fi]
  exact .tuple (SqT.of qY) (.cons (.int _) (.cons (w _ _ h3) .nil))
 stop:=λH' e=>⟨xs,h.same e,by rw [Ye,t.length]⟩
noncomputable def qc4:Ka->Option (List Ka)
 | .list ds=>some (enL 0 ds)
 | .tuple ds=>some (enL 0 ds)
 | _=>none
theorem qii  (hg:Gl X "enumerate") (hm:X.mg "enumerate" = none) (ha:PD X M a f) (hs:af [a] X.env=[(false,eval a X.env)]:=by rfl):PDI X M (.Tuple ts kk tp) (.Call (.Name "enumerate" p) [a] [] pos) (evI f qc4) :=
 (qkk hg hm (qF ha zJ hs) hs).weak λσ H R ⟨S,ρ,ds,hs,e,w⟩=>by
  obtain ⟨x,e1,e⟩:=qd e
  refine ⟨S,ρ,[x],hs,by show ob (f ρ) _=_;rw [e1];rfl,λvs H1 g1 dl=>?_⟩
  obtain ⟨v,rfl,dv⟩:=dl.inv1
  cases dv with
  | list h t=>cases e;exact ⟨_,false,_,rfl,h.sq,w _ _ g1 λH2 o=>IsIt.enum (b:=false) (h.off o).sq (t.off (hs.1.same g1) o)⟩
  | tuple h t=>cases e;exact ⟨_,true,_,rfl,h,w _ _ g1 λH2 o=>IsIt.enum (b:=true) (h.off (hs.1.same g1) o) (t.off (hs.1.same g1) o)⟩
  | _=>cases e
theorem qjr (ds:'('):qc4 (.list ds)=some (enL 0 ds):=rfl
theorem qjs (ds:'('):qc4 (.tuple ds)=some (enL 0 ds):=rfl
theorem enL_n (n:Nat):enL n []=[]:=rfl
theorem enL_c (n:Nat)(d:Ka)(ds:'('):enL n (d::ds)=.tuple [.int (n:Nat),d]::enL (n+1) ds:=rfl
noncomputable def qe3 (o:Option Rho)(k:Nat)(g:Ka->Rho->Option Rho)(tt:Rho->Option Bool)(te:'&')(ρ:Rho)(ds:'('):Option (List Ka):=match o with
 | some ρ1=>(match tt ρ1 with | some true=>yW (te ρ1) (Qx k g tt te ρ ds)|some false=>Qx k g tt te ρ ds|none=>none)
 | none=>none
theorem qfa (k:Nat)(g:Ka->Rho->Option Rho)(tt:Rho->Option Bool)(te:'&')(ρ:Rho)(d:Ka)(ds:'('):Qx k g tt te ρ (d::ds)=qe3 (g d (ρ++Vf k none)) k g tt te ρ ds:=by
 rw [Qx]
 unfold ob qe3 yW
 cases g d (ρ++Vf k none) with
 | none=>rfl
 | some ρ1 =>
  dsimp only
  cases tt ρ1 with
  | none=>rfl
  | some b =>
   cases b with
   | false=>rfl
   | true=>cases te ρ1<;>cases Qx k g tt te ρ ds<;>rfl
theorem qjl (k:Nat)(g:Ka->Rho->Option Rho)(tt:Rho->Option Bool)(te:'&')(ρ:Rho):Qx k g tt te ρ []=some []:=rfl
noncomputable def qcZ (b:Option Bool)(y:Option Ka)(r:Option (List Ka)):Option (List Ka):=match b with | some true=>yW y r|some false=>r|none=>none
theorem qe4 (ρ1:Rho)(k:Nat)(g:Ka->Rho->Option Rho)(tt:Rho->Option Bool)(te:'&')(ρ:Rho)(ds:'('):qe3 (some ρ1) k g tt te ρ ds=qcZ (tt ρ1) (te ρ1) (Qx k g tt te ρ ds):=by
 unfold qe3 qcZ
 rfl
theorem qe2 (y:Option Ka)(r:Option (List Ka)):qcZ (some true) y r=yW y r:=rfl
theorem qjh (y:Option Ka)(r:Option (List Ka)):qcZ (some false) y r=r:=rfl
noncomputable def qhi (a:Option (List Ka))(n k:Nat)(g:Ka->Rho->Option Rho)(tt:Rho->Option Bool)(te:'&')(ρ:Rho):Option Ka:=match a with | some ds=>if ρ.length=n/\ds.length<=1000 then qaG (Qx k g tt te ρ ds) else none|none=>none
theorem qjj (n k:Nat)(fi:Rho->Option (List Ka))(g:Ka->Rho->Option Rho)(tt:Rho->Option Bool)(te:'&')(ρ:Rho):ZL n k fi g tt te ρ=qhi (fi ρ) n k g tt te ρ:=by
 unfold ZL ob qhi qaG
 cases fi ρ with
 | none=>rfl
 | some ds =>
  dsimp only
  split
  ·cases Qx k g tt te ρ ds<;>rfl
  ·rfl
theorem qjf (ds:'(')(n k:Nat)(g:Ka->Rho->Option Rho)(tt:Rho->Option Bool)(te:'&')(ρ:Rho):qhi (some ds) n k g tt te ρ=if ρ.length=n/\ds.length<=1000 then qaG (Qx k g tt te ρ ds) else none:=rfl
end
noncomputable def k1Of:Ka->Option (Int ⊕ List Int)
 | .int i=>some (.inl i)
 | .tuple ds=>ob (intsOf ds) λjs=>some (.inr js)
 | _=>none
noncomputable def qhM:List Ka->Option K2
 | []=>some []
 | d::ds=>ob (k1Of d) λk=>ob (qhM ds) λks=>some (k::ks)
noncomputable def k2Of:Ka->Option K2
 | .tuple ds=>qhM ds
 | _=>none
theorem qgh (e:k1Of d=some k):d=k2D k:=by
 unfold k1Of at e
 split at e
 ·cases e;rfl
 ·obtain ⟨js,e1,e⟩:=qd e
  cases e
  rw [Wu e1];rfl
 ·cases e
theorem qat:∀ {ds:'('} {ks:K2},qhM ds=some ks->ds=ks.map k2D
 | [],_,e=>by cases e;rfl
 | d::ds,_,e=>by
  obtain ⟨k,e1,e⟩:=qd e
  obtain ⟨ks,e2,e⟩:=qd e
  cases e
  rw [qgh e1,qat e2];rfl
theorem qgi (e:k2Of d=some ks):d=k2T ks:=by
 unfold k2Of at e
 split at e
 ·rw [qat e];rfl
 ·cases e
noncomputable def kxOf:Ka->Option KX
 | .int i=>some (.inl i)
 | d=>ob (k2Of d) λks=>some (.inr ks)
theorem yQ (e:kxOf d=some k):d=kxD k:=by
 unfold kxOf at e
 split at e
 ·cases e;rfl
 ·obtain ⟨ks,e1,e⟩:=qd e
  cases e
  exact qgi e1
noncomputable def kOk (kvs:List (Ka×PyData))(k:KX):Bool:=kvs.all λp=>qhJ p.1==kxI k
theorem qdf:∀ js:List Int,Kp (js.map .int)=true
 | []=>rfl
 | j::js=>by rw [Kt,Kp,KM,qdf js];rfl
theorem qen:∀ ks:K2,Kp (ks.map k2D)=true
 | []=>rfl
 | .inl i::ks=>by rw [Kt,Kp,qen ks];rfl
 | .inr js::ks=>by
  rw [Kt,Kp,qen ks]
  show (KM (.tuple (js.map .int))&&true)=true
  rw [KM,qdf];rfl
theorem qfq (ks:K2):(k2T ks).canLay0=true:=by unfold k2T;rw [KM];exact qen ks
theorem qjN (c:Str)(z:Int)(d:Ka)(ks:KX):kOk [(.str c,d),(.int z,.none)] ks=false:=by
 cases ks with
 | inl i=>rfl
 | inr k=>rfl
theorem Js {α β:Type}{a:Option β}{g:β->KX}{F:β->Option α}{c:Str}{z:Int}{d:Ka}{r:α}(e:(ob a λks=>if kOk [(.str c,d),(.int z,.none)] (g ks)=true then F ks else none)=some r):False:=by
 obtain ⟨ks,_,e⟩:=qd e
 rw [qjN] at e
 cases e
noncomputable def zB (kvs:List (Ka×PyData))(ks:KX):Option Ka:=(kvs.find? λp=>Ks p.1 (kxD ks)).map (·.2)
noncomputable def putD (kvs:List (Ka×PyData))(ks:KX)(v:Ka):List (Ka×PyData) :=
 if (zB kvs ks).isSome=true then kvs.map (λp=>if Ks p.1 (kxD ks)=true then (p.1,v) else p) else kvs++[(kxD ks,v)]
noncomputable def putV (kvs:List (KX×Addr×V))(ks:KX)(b:Ke)(v:V):List (KX×Addr×V) :=
 if (kvs.any λp=>decide (p.1=ks))=true then kvs.map (λp=>if p.1=ks then (p.1,p.2.1,v) else p) else kvs++[(ks,b,v)]
section
variable {K:Kb}{H:Hp}{S:Av}
theorem Jh (p:KX×Addr×V)(kvs:List (KX×Addr×V))(d:Ka)(ds:'('):dkv (p::kvs) (d::ds)=(kxD p.1,d)::dkv kvs ds:=rfl
theorem wX  (e:k=ks):zB ((kxD k,d)::kvs) ks=some d:=by
 unfold zB
 rw [VB,qb5,ae e];rfl
theorem wW  (e:k≠ks):zB ((kxD k,d)::kvs) ks=zB kvs ks:=by
 unfold zB
 rw [VB,qb5,ab e]
theorem Yn {α β:Type}{R:α->β->Prop}{a:α}{b:β}:∀ {as:List α} {bs:List β},VO R as bs->R a b->VO R (as++[a]) (bs++[b])
 | _,_,.nil,h=>.cons h .nil
 | _,_,.cons h t,q=>.cons h (Yn t q)
theorem qfM  (dv:Den K H S v d):∀ {kvs:List (KX×Addr×V)} {ds:'('},DenL K H S (kvs.map (·.2.2)) ds->∃ ds',DenL K H S ((kvs.map λp=>if p.1=ks then (p.1,p.2.1,v) else p).map (·.2.2)) ds'/\dkv (kvs.map λp=>if p.1=ks then (p.1,p.2.1,v) else p) ds'=(dkv kvs ds).map (λp=>if Ks p.1 (kxD ks)=true then (p.1,d) else p)
 | [],_,t=>by cases t;exact ⟨[],.nil,rfl⟩
 | p::kvs,_,t=>by
  cases t with
  | @cons _ d0 _ ds dv0 t' =>
   obtain ⟨ds',h1,h2⟩:=qfM dv t'
   rw [Kt,Kt,Jh,Kt,qb5]
   by_cases e:p.1=ks
   ·refine ⟨d::ds',?_,?_⟩
    ·rw [ag e];exact .cons dv h1
    ·rw [ag e,Jh,h2,ag (ae e)]
   ·refine ⟨d0::ds',?_,?_⟩
    ·rw [ah e];exact .cons dv0 h1
    ·rw [ah e,Jh,h2,ah (λz=>e (ao z))]
theorem qhs {kvs:List (KX×Addr×V)}{ds:'('}(hl:kvs.length=ds.length)(p:KX×Addr×V)(d:Ka):dkv (kvs++[p]) (ds++[d])=dkv kvs ds++[(kxD p.1,d)]:=by
 unfold dkv
 rw [Kx,List.zip_append (by rw [Kf,hl])]
 rfl
theorem qiG {b:Ke}  {kvs:List (KX×Addr×V)} (t:DenL K H S (kvs.map (·.2.2)) ds) (dv:Den K H S v d) (he:(kvs.any λp=>decide (p.1=ks))=(zB (dkv kvs ds) ks).isSome) :
  ∃ ds',DenL K H S ((putV kvs ks b v).map (·.2.2)) ds'/\dkv (putV kvs ks b v) ds'=putD (dkv kvs ds) ks d:=by
 have hl:kvs.length=ds.length:=by
  have:=t.length
  rwa [Kf] at this
 unfold putV putD
 rw [he]
 split
 ·exact qfM dv t
 ·refine ⟨ds++[d],?_,qhs hl _ _⟩
  rw [Kx]
  exact t.append (.cons dv .nil)
theorem qiD  {kvs:List (KX×Addr×V)} (k:DenL K H S (kvs.map λp=>kxV p.1 p.2.1) (kvs.map λp=>kxD p.1)) (dk:Den K H S (kxV ks b) (kxD ks)):DenL K H S ((putV kvs ks b v).map λp=>kxV p.1 p.2.1) ((putV kvs ks b v).map λp=>kxD p.1):=by
 unfold putV
 split
 ·have e1:(kvs.map λp=>if p.1=ks then (p.1,p.2.1,v) else p).map (λp=>kxV p.1 p.2.1)=kvs.map λp=>kxV p.1 p.2.1:=by
   rw [K6]
   refine V9 λp _=>?_
   show kxV (if p.1=ks then (p.1,p.2.1,v) else p).1 (if p.1=ks then (p.1,p.2.1,v) else p).2.1=_
   split<;>rfl
  have e2:(kvs.map λp=>if p.1=ks then (p.1,p.2.1,v) else p).map (λp=>kxD p.1)=kvs.map λp=>kxD p.1:=by
   rw [K6]
   refine V9 λp _=>?_
   show kxD (if p.1=ks then (p.1,p.2.1,v) else p).1=_
   split<;>rfl
  rw [e1,e2];exact k
 ·rw [Kx,Kx]
  exact k.append (.cons dk .nil)
end
section
variable {K:Kb}{H:Hp}{S:Av}
theorem Y4 {kvs:List (KX×Addr×V)}{ds:'('}(hl:kvs.length=ds.length)(h:kOk (dkv kvs ds) k=true):∀ p∈kvs,kxI p.1=kxI k:=by
 intro p hp
 have hm:kxD p.1∈(dkv kvs ds).map (·.1):=by rw [qhr hl];exact KQ.mpr ⟨p,hp,rfl⟩
 obtain ⟨q,hq,e⟩:=KQ.mp hm
 have:=K4.mp h q hq
 rw [e,qek] at this
 simpa using this
theorem Jj (ks:K2):∀ {kvs:List (KX×Addr×V)} {xs:List (K2×Addr×Value)} {ds:'('},VO PkT kvs xs->DenL K H S (kvs.map (·.2.2)) ds->
  (zB (dkv kvs ds) (.inr ks)=none/\atKey xs ks=none/\(kvs.any λp=>decide (p.1=.inr ks))=false)\/∃ d b y u,zB (dkv kvs ds) (.inr ks)=some d/\atKey xs ks=some (b,u)/\RelV y u/\Den K H S y d/\(kvs.any λp=>decide (p.1=.inr ks))=true
 | [],_,_,r,t=>by
  cases r
  cases t
  exact .inl ⟨rfl,rfl,rfl⟩
 | p::kvs,_,_,r,t=>by
  cases r with
  | @cons _ q _ qs h r' =>
   cases t with
   | @cons _ d _ ds dv t' =>
    rw [Jh]
    by_cases e:p.1=.inr ks
    ·refine .inr ⟨d,q.2.1,p.2.2,q.2.2,wX e,?_,h.2.2,dv,by rw [UR,ae e,NH]⟩
     unfold atKey
     have eq:q.1=ks:=Sum.inr.inj (h.1.symm.trans e)
     rw [VB,ae eq];rfl
    ·have e':¬ q.1=ks:=λz=>e (by rw [h.1,z])
     have ea:atKey (q::qs) ks=atKey qs ks:=by
      unfold atKey
      rw [VB,ab e']
     rw [wW e,ea,UR,ab e,XO]
     exact Jj ks r' t'
theorem yK (i:Int):∀ {kvs:List (KX×Addr×V)} {vs:List (Int×Value)} {ds:'('},VO PkI kvs vs->DenL K H S (kvs.map (·.2.2)) ds->
  (zB (dkv kvs ds) (.inl i)=none/\valueAt vs i=none/\(kvs.any λp=>decide (p.1=.inl i))=false)\/∃ d y u,zB (dkv kvs ds) (.inl i)=some d/\valueAt vs i=some u/\RelV y u/\Den K H S y d/\(kvs.any λp=>decide (p.1=.inl i))=true
 | [],_,_,r,t=>by
  cases r
  cases t
  exact .inl ⟨rfl,rfl,rfl⟩
 | p::kvs,_,_,r,t=>by
  cases r with
  | @cons _ q _ qs h r' =>
   cases t with
   | @cons _ d _ ds dv t' =>
    rw [Jh]
    by_cases e:p.1=.inl i
    ·refine .inr ⟨d,p.2.2,q.2,wX e,?_,h.2,dv,by rw [UR,ae e,NH]⟩
     unfold valueAt
     have eq:q.1=i:=Sum.inl.inj (h.1.symm.trans e)
     rw [VB,ae eq];rfl
    ·have e':¬ q.1=i:=λz=>e (by rw [h.1,z])
     have ea:valueAt (q::qs) i=valueAt qs i:=by
      unfold valueAt
      rw [VB,ab e']
     rw [wW e,ea,UR,ab e,XO]
     exact yK i r' t'
theorem qaZ  (rv:RelV v u):∀ {kvs:List (KX×Addr×V)} {xs:List (K2×Addr×Value)},VO PkT kvs xs->VO PkT (kvs.map λp=>if p.1=.inr ks then (p.1,p.2.1,v) else p) (xs.map (putAt ks u))
 | [],_,r=>by cases r;exact .nil
 | p::kvs,_,r=>by
  cases r with
  | @cons _ q _ qs h r' =>
   rw [Kt,Kt]
   refine .cons ?_ (qaZ rv r')
   unfold putAt
   by_cases e:p.1=.inr ks
   ·have eq:q.1=ks:=Sum.inr.inj (h.1.symm.trans e)
    rw [ag e,ag eq];exact ⟨h.1,h.2.1,rv⟩
   ·rw [ah e,ah (λz=>e (by rw [h.1,z]))];exact h
theorem qiF {ks:K2}{b:Ke}{v:V}{u:Kd}{kvs:List (KX×Addr×V)}{xs:List (K2×Addr×Value)}(r:VO PkT kvs xs)(rv:RelV v u)(he:(kvs.any λp=>decide (p.1=.inr ks))=(atKey xs ks).isSome):VO PkT (putV kvs (.inr ks) b v) (storedH xs ks b u):=by
 unfold putV storedH
 rw [he]
 split
 ·exact qaZ rv r
 ·exact Yn r ⟨rfl,rfl,rv⟩
theorem qaY  (rv:RelV v u):∀ {kvs:List (KX×Addr×V)} {xs:List (Int×Value)},VO PkI kvs xs->VO PkI (kvs.map λp=>if p.1=.inl i then (p.1,p.2.1,v) else p) (xs.map λq=>if q.1=i then (q.1,u) else q)
 | [],_,r=>by cases r;exact .nil
 | p::kvs,_,r=>by
  cases r with
  | @cons _ q _ qs h r' =>
   rw [Kt,Kt]
   refine .cons ?_ (qaY rv r')
   by_cases e:p.1=.inl i
   ·have eq:q.1=i:=Sum.inl.inj (h.1.symm.trans e)
    rw [ag e,ag eq];exact ⟨h.1,rv⟩
   ·rw [ah e,ah (λz=>e (by rw [h.1,z]))];exact h
theorem qeX (i:Int):∀ {kvs:List (KX×Addr×V)} {xs:List (Int×Value)},VO PkI kvs xs->(kvs.any λp=>decide (p.1=.inl i))=xs.any λq=>decide (q.1=i)
 | _,_,.nil=>rfl
 | _,_,@Paired.cons _ _ _ p q _ _ h t=>by
  rw [UR,UR,qeX i t]
  by_cases e:p.1=.inl i
  ·rw [ae e,ae (Sum.inl.inj (h.1.symm.trans e):q.1=i)]
  ·rw [ab e,ab (λz=>e (by rw [h.1,z]):¬ q.1=i)]
theorem qiE {i:Int}{b:Ke}{v:V}{u:Kd}{kvs:List (KX×Addr×V)}{xs:List (Int×Value)}(r:VO PkI kvs xs)(rv:RelV v u):VO PkI (putV kvs (.inl i) b v) (stored xs i u):=by
 unfold putV stored
 rw [qeX i r]
 split
 ·exact qaY rv r
 ·exact Yn r ⟨rfl,rv⟩
end
section
variable {X:Cx}{aa:List (Ke×Obj)}{σ:St}{H:Hp}{s:Kh}{S:Av}
theorem qfs (I:Inv X aa σ H s):∀ {kvs:List (KX×Addr×V)} {xs:List (K2×Addr×Value)},VO PkT kvs xs->DenL X.K H S (kvs.map λp=>kxV p.1 p.2.1) (kvs.map λp=>kxD p.1)->∀ x∈xs,Is2 s.heap x.1 x.2.1
 | _,_,.nil,_,x,hx=>by cases hx
 | _,_,@Paired.cons _ _ _ p q kvs qs h t,k,x,hx=>by
  cases k with
  | cons dk k' =>
   have dk:Den X.K H S (kxV p.1 p.2.1) (kxD p.1):=dk
   rcases Kr.mp hx with rfl|hx
   ·rw [h.1] at dk
    obtain ⟨as,r⟩:=Den.reads I dk (qfq _) (u:=Ve x.2.1) (by rw [h.2.1];rfl)
    exact ⟨as,r⟩
   ·exact qfs I t k' x hx
theorem WW (I:Inv X aa σ H s){kvs:List (KX×Addr×V)}(h:H a=some (DctO a kvs ep))(k:DenL X.K H S (kvs.map λp=>kxV p.1 p.2.1) (kvs.map λp=>kxD p.1))(hk:∀ p∈kvs,kxI p.1=false) :
  kvs.length<=ak/\(a==aV)=false/\∃ xs:List (K2×Addr×Value),VO PkT kvs xs/\s.heap.DictOfH (qdo X.prog X.w) a xs:=by
 have d:=QD.of (I.hok a _ h)
 obtain ⟨xs,pk,o,es,h1,h2,h3,h4,h5⟩:=d.tup hk
 exact ⟨d.1,d.2.1,xs,pk,o,es,ep,h1,h2,h3,h4,qfs I pk k,h5⟩
theorem qdC:∀ {es:List Xn} {vs:List (Int×Value)},VO EnI es vs->Pairs (bA P w) es vs
 | _,_,.nil=>.nil
 | _,_,.cons h t=>by
  obtain ⟨_,⟨tk,h2⟩,h3⟩:=h
  exact .cons (by rw [h2];exact X8 P w _ tk) h3 (qdC t)
theorem qgn {es:Array Xn}(h:VO EnI es.toList vs):PySem.KeysOf (bA P w) es:=by
 intro e he
 have he:e∈es.toList:=XH.mpr he
 generalize es.toList=l at h he
 induction h with
 | nil=>cases he
 | @cons a b as bs h t ih =>
  rcases Kr.mp he with rfl|he
  ·obtain ⟨h1,⟨tk,h2⟩,_⟩:=h
   exact ⟨b.1,by rw [h2];exact X8 P w _ tk,h1⟩
  ·exact ih he
theorem Yk:∀ {es:List Xn} {vs:List (Int×Value)},Pairs (bA P w) es vs->(∀ e∈es,∃ k,(bA P w).is k e.key=true/\e.hash=(bA P w).hash k)->VO EnI es vs
 | _,_,.nil,_=>.nil
 | _,_,.cons h1 h2 t,hk=>by
  refine .cons ?_ (Yk t λe he=>hk e (.tail _ he))
  obtain ⟨k,g1,g2⟩:=hk _ (.head _)
  obtain ⟨tk,e⟩:=Value.isInt_shape h1
  have hkk:=(bA P w).inj _ _ _ g1 h1
  exact ⟨by rw [g2,hkk];rfl,⟨tk,e⟩,h2⟩
theorem YL (I:Inv X aa σ H s)  (h:H a=some (DctO a kvs ep)) (hk:∀ p∈kvs,kxI p.1=true) :
  kvs.length<=ak/\(a==aV)=false/\∃ vs:List (Int×Value),VO PkI kvs vs/\s.heap.DictOf (bA X.prog X.w) a vs:=by
 have d:=QD.of (I.hok a _ h)
 obtain ⟨vs,pk,o,es,h1,h2,h3,h4,h5⟩:=d.int hk
 exact ⟨d.1,d.2.1,vs,pk,o,es,ep,h1,h2,h3,qgn h4,qdC h4,h5⟩
theorem key_is (I:Inv X aa σ H s)  (d:Den X.K H S y (k2T ks)) (r:RelV y u):∃ b,y=.ref b/\u=.ref b/\Is2 s.heap ks b:=by
 obtain ⟨a,xs,e,_,_⟩:=d.tuple_inv
 subst e
 cases (show u=Ve a from r)
 obtain ⟨as,q⟩:=d.reads I (qfq ks) (u:=.ref a) rfl
 exact ⟨a,rfl,rfl,as,q⟩
theorem Y7  (d:Den X.K H S y (.int i)) (r:RelV y u):y=.int i/\∃ t,u=.int i t:=by
 cases d
 exact ⟨rfl,r⟩
end
noncomputable def dgetD (d k:Ka):Option Ka:=match d with
 | .dict kvs=>ob (kxOf k) λks=>if kOk kvs ks=true then zB kvs ks else none
 | _=>none
noncomputable def ix2D (d k:Ka):Option Ka:=match d with
 | .dict kvs=>dgetD (.dict kvs) k
 | d=>ixD d k
noncomputable def in2D (k d:Ka):Option Ka:=match d with
 | .dict kvs=>ob (kxOf k) λks=>if kOk kvs ks=true then some (.bool (zB kvs ks).isSome) else none
 | d=>inD k d
noncomputable def qh9 (k d:Ka):Option Ka:=match d with
 | .dict kvs=>ob (kxOf k) λks=>if kOk kvs ks=true then some (.bool (!(zB kvs ks).isSome)) else none
 | d=>ninD k d
noncomputable def YQ (d k v:Ka):Option Ka:=match d with
 | .dict kvs=>ob (kxOf k) λks=>if kOk kvs ks=true/\kvs.length<1000 then some (.dict (putD kvs ks v)) else none
 | _=>none
section
variable {X:Cx}{aa:List (Ke×Obj)}{σ:St}{H:Hp}{s:Kh}{S:Av}{A:KY}{E:Kd->Kh->Prop}{a:Ke}{kvs:List (KX×Addr×V)}{ep:Nat}{ds:'('}{ks:KX}{y x v:V}{u r:Kd}{d dx:Ka}
theorem qfP {A:KY}(hu:A.units+64<aI):A.in1.units+3<aI:=by show A.units+1+3<aI;omega
theorem qho (I:Inv X aa σ H s)(h:H a=some (DctO a kvs ep)):s.TypeIs (.ref a) "dict"/\∃ o,s.heap.get? a=some o/\o.dict=none:=by
 obtain ⟨o,es,h1,h2,_⟩:=(QD.of (I.hok a _ h)).vals
 exact ⟨⟨o,h1,h2.1⟩,o,h1,h2.2.1⟩
theorem qjo {Q:Kd->Kh->Prop}(hu:A.units+64<aI)(I:Inv X aa σ H s)(h:H a=some (DctO a kvs ep))(k:DenL X.K H S (kvs.map λp=>kxV p.1 p.2.1) (kvs.map λp=>kxD p.1))(t:DenL X.K H S (kvs.map (·.2.2)) ds)(hk:∀ p∈kvs,kxI p.1=kxI ks)
  (dy:Den X.K H S y (kxD ks)) (ry:RelV y u) (e:zB (dkv kvs ds) ks=some d) (q:∀ v w' s',Inv X aa σ H s'->RelV v w'->Den X.K H S v d->Q w' s'):ai (model X.prog X.w) A (getItem (.ref a) u) Q E s:=by
 cases ks with
 | inr ks =>
  obtain ⟨z,hs,xs,pk,dd⟩:=WW I h k hk
  obtain ⟨b,rfl,rfl,hk⟩:=key_is I dy ry
  rcases Jj ks pk t with ⟨e1,_,_⟩|⟨d',b',v,w',e1,e2,rv,dv,_⟩
  ·rw [e] at e1;cases e1
  ·rw [e] at e1
   cases e1
   exact wpAny_getItem_heap (knd:=qdo X.prog X.w) (qfP hu) hk dd e2 (q v w' _ (I.tok _) rv dv)
 | inl i =>
  obtain ⟨z,hs,vs,pk,dd⟩:=YL I h hk
  obtain ⟨rfl,t',rfl⟩:=Y7 dy ry
  rcases yK i pk t with ⟨e1,_,_⟩|⟨d',v,w',e1,e2,rv,dv,_⟩
  ·rw [e] at e1;cases e1
  ·rw [e] at e1
   cases e1
   exact wpAny_getItem_of (X8 _ _ i t') dd.mapOf e2 (q v w' _ (I.tok _) rv dv)
theorem dg_in {Q:Kd->Kh->Prop}(hu:A.units+64<aI)(I:Inv X aa σ H s)(h:H a=some (DctO a kvs ep))(k:DenL X.K H S (kvs.map λp=>kxV p.1 p.2.1) (kvs.map λp=>kxD p.1))(t:DenL X.K H S (kvs.map (·.2.2)) ds)(hk:∀ p∈kvs,kxI p.1=kxI ks)
  (dy:Den X.K H S y (kxD ks)) (ry:RelV y u) (q:∀ s',Inv X aa σ H s'->Q (.bool (zB (dkv kvs ds) ks).isSome) s'):ai (model X.prog X.w) A (au .In u (.ref a)) Q E s:=by
 cases ks with
 | inr ks =>
  obtain ⟨z,hs,xs,pk,dd⟩:=WW I h k hk
  obtain ⟨b,rfl,rfl,hk⟩:=key_is I dy ry
  refine wpAny_in_heap (knd:=qdo X.prog X.w) (qfP hu) hk hs dd ?_
  rcases Jj ks pk t with ⟨e1,e2,_⟩|⟨d',b',v,w',e1,e2,rv,dv,_⟩
  ·rw [e1] at q;rw [e2];exact q _ (I.tok _)
  ·rw [e1] at q;rw [e2];exact q _ (I.tok _)
 | inl i =>
  obtain ⟨z,hs,vs,pk,dd⟩:=YL I h hk
  obtain ⟨rfl,t',rfl⟩:=Y7 dy ry
  refine wpAny_in_of (X8 _ _ i t') hs dd.mapOf ?_
  rcases yK i pk t with ⟨e1,e2,_⟩|⟨d',v,w',e1,e2,rv,dv,_⟩
  ·rw [e1] at q;rw [e2];exact q _ (I.tok _)
  ·rw [e1] at q;rw [e2];exact q _ (I.tok _)
theorem qhq {Q:Kd->Kh->Prop}(hu:A.units+64<aI)(I:Inv X aa σ H s)(h:H a=some (DctO a kvs ep))(k:DenL X.K H S (kvs.map λp=>kxV p.1 p.2.1) (kvs.map λp=>kxD p.1))(t:DenL X.K H S (kvs.map (·.2.2)) ds)(hk:∀ p∈kvs,kxI p.1=kxI ks)
  (dy:Den X.K H S y (kxD ks)) (ry:RelV y u) (q:∀ s',Inv X aa σ H s'->Q (.bool (!(zB (dkv kvs ds) ks).isSome)) s'):ai (model X.prog X.w) A (au .NotIn u (.ref a)) Q E s:=by
 cases ks with
 | inr ks =>
  obtain ⟨z,hs,xs,pk,dd⟩:=WW I h k hk
  obtain ⟨b,rfl,rfl,hk⟩:=key_is I dy ry
  refine wpAny_notIn_heap (knd:=qdo X.prog X.w) (qfP hu) hk hs dd ?_
  rcases Jj ks pk t with ⟨e1,e2,_⟩|⟨d',b',v,w',e1,e2,rv,dv,_⟩
  ·rw [e1] at q;rw [e2];exact q _ (I.tok _)
  ·rw [e1] at q;rw [e2];exact q _ (I.tok _)
 | inl i =>
  obtain ⟨z,hs,vs,pk,dd⟩:=YL I h hk
  obtain ⟨rfl,t',rfl⟩:=Y7 dy ry
  refine wpAny_notIn_of (X8 _ _ i t') hs dd.mapOf ?_
  rcases yK i pk t with ⟨e1,e2,_⟩|⟨d',v,w',e1,e2,rv,dv,_⟩
  ·rw [e1] at q;rw [e2];exact q _ (I.tok _)
  ·rw [e1] at q;rw [e2];exact q _ (I.tok _)
noncomputable def qmz (K:Kb):TSet:=λo i v H Q=>∃ S p kvs ep ks ds d,o=.ref p/\H p=some (DctO p kvs ep)/\DenL K H S (kvs.map λp=>kxV p.1 p.2.1) (kvs.map λp=>kxD p.1)/\DenL K H S (kvs.map (·.2.2)) ds/\(∀ p∈kvs,kxI p.1=kxI ks)/\Den K H S i (kxD ks)/\Den K H S v d/\kvs.length<1000/\∀ b ep',i=kxV ks b->Q (upd H p (DctO p (putV kvs ks b v) ep'))
theorem qdU (kvs:List (KX×Addr×V))(ks:KX)(b:Ke)(v:V):(putV kvs ks b v).length<=kvs.length+1:=by
 unfold putV
 split
 ·rw [Kf];omega
 ·rw [Km,Ku];omega
theorem set_dict (hu:X.A.units+64<aI):PSet X (qmz X.K):=by
 intro aa s σ H o i v ov iv u Q I ro ri rv h
 obtain ⟨S,p,kvs,ep,ks,ds,d,rfl,hp,k,t,hk,di,dv,hz,q⟩:=h
 cases ro
 have z1000:1000<ak:=zO (Kq _)
 cases ks with
 | inr ks =>
  obtain ⟨z,hs,xs,pk,dd⟩:=WW I hp k hk
  obtain ⟨b,rfl,rfl,hk⟩:=key_is I di ri
  have hxl:xs.length<=ak:=by rw [← Paired.length pk];exact z
  have he:(kvs.any λp=>decide (p.1=.inr ks))=(atKey xs ks).isSome:=by
   rcases Jj ks pk t with ⟨_,e2,e3⟩|⟨_,_,_,_,_,e2,_,_,e3⟩
   ·rw [e2,e3];rfl
   ·rw [e2,e3];rfl
  refine wpAny_setItem_heap (knd:=qdo X.prog X.w) (hsz:=hxl) (qfP hu) hk dd λh' dd' hs'=>?_
  obtain ⟨o,es,ep',g1,g2,g3,g4,_,g5⟩:=dd'
  have dct:QD p (putV kvs (.inr ks) b v) ep' h':=⟨by have:=qdU kvs (.inr ks) b v;omega,hs,.inl ⟨_,qiF pk rv he,o,es,g1,g2,g3,g4,g5⟩⟩
  exact ⟨_,I.write (x:=p) (e:=p) (by rw [hp];exact Us) (.inl rfl) (λc o' hc e=>(hs'.2 c hc).trans e) ⟨o,g1⟩ dct.ok,q b ep' rfl⟩
 | inl i =>
  obtain ⟨z,hs,vs,pk,dd⟩:=YL I hp hk
  obtain ⟨rfl,t',rfl⟩:=Y7 di ri
  have hxl:vs.length<=ak:=by rw [← Paired.length pk];exact z
  refine wpAny_setItem_pairs (hsz:=hxl) (X8 _ _ i t') dd λh' dd' hs'=>?_
  obtain ⟨o,es,ep',g1,g2,g3,g4,g4',g5⟩:=dd'
  have dct:QD p (putV kvs (.inl i) 0 v) ep' h':=⟨by have:=qdU kvs (.inl i) 0 v;omega,hs,.inr ⟨_,qiE pk rv,o,es,g1,g2,g3,Yk g4' λe he=>g4 e (XH.mp he),g5⟩⟩
  exact ⟨_,I.write (x:=p) (e:=p) (by rw [hp];exact Us) (.inl rfl) (λc o' hc e=>(hs'.2 c hc).trans e) ⟨o,g1⟩ dct.ok,q 0 ep' rfl⟩
end
theorem yc {h:KU}{kvs:List (KX×Addr×V)}(d:QD a kvs ep h):∃ o es,h.get? a=some o/\o.ExactDict/\o.data=.dict es ep/\es.size=kvs.length/\∀ (i:Nat) p,kvs[i]?=some p->∃ e,es[i]?=some e/\RelV (kxV p.1 p.2.1) e.key/\RelV p.2.2 e.val:=by
 obtain ⟨o,es,h1,h2,h3,vk,vv⟩:=d.vals
 have hsz:es.size=kvs.length:=by
  have:=vk.length
  rw [Kf,Kf,KR] at this
  exact this.symm
 refine ⟨o,es,h1,h2,h3,hsz,λi p hp=>?_⟩
 have hi:i<es.size:=by rw [hsz];exact (Kk.mp hp).1
 refine ⟨es[i],VU hi,?_,?_⟩
 ·obtain ⟨u,hu,ru⟩:=vk.get (i:=i) (x:=kxV p.1 p.2.1) (by rw [Kw,hp];rfl)
  rw [Kw,Um,VU hi] at hu
  cases hu
  exact ru
 ·obtain ⟨u,hu,ru⟩:=vv.get (i:=i) (x:=p.2.2) (by rw [Kw,hp];rfl)
  rw [Kw,Um,VU hi] at hu
  cases hu
  exact ru
noncomputable def qk6 (K:Kb):R2:=λx y H Q=>∃ S a kvs ep ks ds d,x=.ref a/\H a=some (DctO a kvs ep)/\DenL K H S (kvs.map λp=>kxV p.1 p.2.1) (kvs.map λp=>kxD p.1)/\DenL K H S (kvs.map (·.2.2)) ds/\(∀ p∈kvs,kxI p.1=kxI ks)/\Den K H S y (kxD ks)/\zB (dkv kvs ds) ks=some d/\∀ v,Den K H S v d->Q v H
section
variable {X:Cx}{G:Gm}{M M' Mb L:List Nat}{fr:Fr}{a b c:KD}{es:List KD}{f fk fx g fa fb:'&'}{pos:Pos}{u:Rho->Option Out}
theorem qjI (hu:X.A.units+64<aI):IxR X (qk6 X.K):=by
 intro value slice aa s σ H x y v u Q I rx ry h hs
 obtain ⟨S,p,kvs,ep,ks,ds,d,rfl,hp,k,t,hk,dy,e,q⟩:=h
 cases rx
 exact tail_any (qho I hp).1 PySem.F.slot_dict_getitem.lookup (qjo hu I hp k t hk dy ry e λv' w' s' I' r' d'=>⟨v',H,I',r',q v' d'⟩) hs
theorem ym (hr:Room k X.A)(ha:PD X M a fa)(hb:PD X M b fb)(hs:WM b:=by intro _ _;rfl):PD X M (.Subscript a b pos) (ev2 fa fb ix2D) :=
 (qin (r:=λx y H Q=>(rIxL X.K x y H Q\/rIxT X.K x y H Q)\/qk6 X.K x y H Q) ((qcd.or qem).or (qjI hr.units)) ha hb hs).weak λσ H Q ⟨S,ρ,d,hs,e,q⟩=>by
  obtain ⟨x,e1,e⟩:=qd e
  obtain ⟨y,e2,e⟩:=qd e
  refine ⟨S,ρ,x,hs,e1,λv H1 g1 d1=>⟨S,ρ,y,hs.same g1,e2,λw H2 g2 d2=>?_⟩⟩
  have d1':=d1.same g2
  cases d1' with
  | list h t =>
   cases d2 with
   | int i =>
    obtain ⟨z,h1,h2⟩:=t.atI e
    exact .inl (.inl ⟨_,_,i,z,rfl,rfl,h.sq,h1,q z H2 (g1.trans g2) h2⟩)
   | _=>cases e
  | tuple h t =>
   cases d2 with
   | int i =>
    obtain ⟨z,h1,h2⟩:=t.atI e
    exact .inl (.inr ⟨_,_,i,z,rfl,rfl,h,h1,q z H2 (g1.trans g2) h2⟩)
   | _=>cases e
  | @dict p kvs ep ds h k t =>
   have e:ob (kxOf y) (λks=>if kOk (dkv kvs ds) ks=true then zB (dkv kvs ds) ks else none)=some d:=e
   obtain ⟨ks,e3,e⟩:=qd e
   have hl:kvs.length=ds.length:=by
    have:=t.length
    rwa [Kf] at this
   split at e
   case isFalse=>cases e
   rename_i hok
   rw [yQ e3] at d2
   exact .inr ⟨S,p,kvs,ep,ks,ds,d,rfl,h.1,k,t,Y4 hl hok,d2,e,λv' d'=>q v' H2 (g1.trans g2) d'⟩
  | exc0 h o=>exact (Js (g:=id) e).elim
  | exc1 h o x z t=>exact (Js (g:=id) e).elim
  | ins h o=>exact (Js (g:=id) e).elim
  | _=>cases e
theorem d_in2 (hr:Room k X.A):OpD X (au .In) in2D:=by
 intro aa s σ H x y v u Q I rx ry h
 obtain ⟨S,dx,dy,d,m,h1,h2,e,q⟩:=h
 cases h2 with
 | @dict p kvs ep ds hp kk t =>
  have e:ob (kxOf dx) (λks=>if kOk (dkv kvs ds) ks=true then some (UC (zB (dkv kvs ds) ks).isSome) else none)=some d:=e
  obtain ⟨ks,e3,e⟩:=qd e
  have hl:kvs.length=ds.length:=by
   have:=t.length
   rwa [Kf] at this
  split at e
  case isFalse=>cases e
  rename_i hok
  cases e
  rw [yQ e3] at h1
  cases (show u=Ve p from ry)
  exact dg_in hr.units I hp.1 kk t (Y4 hl hok) h1 rx λs' I'=>⟨.bl _,H,I',rfl,q _ H (Same.refl H) (.bool _)⟩
 | list a b=>exact d_in hr aa s σ H x _ v u Q I rx ry ⟨S,dx,_,d,m,h1,.list a b,e,q⟩
 | tuple a b=>exact d_in hr aa s σ H x _ v u Q I rx ry ⟨S,dx,_,d,m,h1,.tuple a b,e,q⟩
 | exc0 h o=>exact (Js (g:=id) e).elim
 | exc1 h o x z t=>exact (Js (g:=id) e).elim
 | ins h o=>exact (Js (g:=id) e).elim
 | _=>cases e
theorem qhn (hr:Room k X.A):OpD X (au .NotIn) qh9:=by
 intro aa s σ H x y v u Q I rx ry h
 obtain ⟨S,dx,dy,d,m,h1,h2,e,q⟩:=h
 cases h2 with
 | @dict p kvs ep ds hp kk t =>
  have e:ob (kxOf dx) (λks=>if kOk (dkv kvs ds) ks=true then some (UC (!(zB (dkv kvs ds) ks).isSome)) else none)=some d:=e
  obtain ⟨ks,e3,e⟩:=qd e
  have hl:kvs.length=ds.length:=by
   have:=t.length
   rwa [Kf] at this
  split at e
  case isFalse=>cases e
  rename_i hok
  cases e
  rw [yQ e3] at h1
  cases (show u=Ve p from ry)
  exact qhq hr.units I hp.1 kk t (Y4 hl hok) h1 rx λs' I'=>⟨.bl _,H,I',rfl,q _ H (Same.refl H) (.bool _)⟩
 | list a b=>exact YK hr aa s σ H x _ v u Q I rx ry ⟨S,dx,_,d,m,h1,.list a b,e,q⟩
 | tuple a b=>exact YK hr aa s σ H x _ v u Q I rx ry ⟨S,dx,_,d,m,h1,.tuple a b,e,q⟩
 | exc0 h o=>exact (Js (g:=id) e).elim
 | exc1 h o x z t=>exact (Js (g:=id) e).elim
 | ins h o=>exact (Js (g:=id) e).elim
 | _=>cases e
theorem qaW:PF X M (.Dict [] [] pos) (kd (.dict [])):=λaa s σ H Q I ⟨S,ρ,d,hs,e,q⟩=>by
 cases e
 have hb:aV<s.heap.objs.size:=Es '#' (show aj<s.heap.objs.size from (I.mod.glob.keeps I.bk).lt)
 have hn:=I.hok.fresh (Kq s.heap.objs.size)
 have dct:QD s.heap.objs.size [] 0 (s.heap.push { cls:=.type "dict", data:=.dict #[] }):=⟨Vj _,ar.mpr (Ul (KW hb)),.inl ⟨[],.nil,_,#[],Kv _ rfl,⟨rfl,rfl,rfl⟩,rfl,rfl,X7⟩⟩
 exact wpAny_Dict_empty ⟨.ref s.heap.objs.size,_,I.laid (a:=s.heap.objs.size) (o:=DctO s.heap.objs.size [] 0) (t':=s.toks) (λ_ _ q=>Ki _ q) (Kq _) dct.ok,rfl,q _ _ (Same.lay hn) hn (.dct (kvs:=[]) (ds:=[]) qY .nil .nil)⟩
noncomputable def Wx (i:Nat)(fk f:'&'):Rho->Option Out:=λρ=>ob (f ρ) λd=>ob (vr i ρ) λl=>ob (fk ρ) λk=>ob (YQ l k d) λl'=>some (.nx (ρ.set i (some l')))
theorem qjA (js:List Int):YW (js.map .int)=true:=by
 induction js with
 | nil=>rfl
 | cons j js ih=>exact ih
theorem qca:∀ ks:K2,YW (ks.map k2D)=true
 | []=>rfl
 | .inl _::ks=>qca ks
 | .inr js::ks=>by
  show (YW (js.map .int)&&YW (ks.map k2D))=true
  rw [qjA,qca];rfl
theorem qc7 (k:KX):flat (kxD k)=true:=by
 cases k with
 | inl i=>rfl
 | inr ks=>exact qca ks
theorem qao (e:YQ l k d=some l'):∃ kvs ks,l=.dict kvs/\k=kxD ks/\kOk kvs ks=true/\kvs.length<1000/\l'=.dict (putD kvs ks d):=by
 unfold YQ at e
 split at e
 ·obtain ⟨ks,e1,e⟩:=qd e
  split at e
  ·rename_i hc;cases e;exact ⟨_,ks,rfl,yQ e1,hc.1,hc.2,rfl⟩
  ·cases e
 ·cases e
theorem qdB {kvs:List (KX×Addr×V)}{ep:Nat}{ds:'('}{S:Av}{σ:St}{ρ:Rho}{H:Hp}{i:Nat}{pp b:Ke}{ks:KX}{v:V}{d:Ka}{ep':Nat}(os:OwnS X.K G M L H S σ ρ)(hM:Flt M i)(hL:i∉L)(e0:ρ[i]?=some (some (.dict (dkv kvs ds))))(a1:σ[i]?=some (some (.ref pp)))(c1:S pp)(h:H pp=some (DctO pp kvs ep))(k:DenL X.K H S (kvs.map λp=>kxV p.1 p.2.1) (kvs.map λp=>kxD p.1))(t:DenL X.K H S (kvs.map (·.2.2)) ds)(dk:Den X.K H S (kxV ks b) (kxD ks))(dv:Den X.K H S v d)
  (he:(kvs.any λp=>decide (p.1=ks))=(zB (dkv kvs ds) ks).isSome):OwnS X.K G M L (upd H pp (DctO pp (putV kvs ks b v) ep')) S σ (ρ.set i (some (.dict (putD (dkv kvs ds) ks d)))):=by
 obtain ⟨ds',t',ed⟩:=qiG (b:=b) t dv he
 refine os.write hM hL e0 a1 rfl ?_
 rw [← ed]
 exact .dct qY ((qiD k dk).off os.ds.1 (Off.upd c1)) (t'.off os.ds.1 (Off.upd c1))
theorem qaf {K:Kb}{H:Hp}{S:Av}(ks:KX):∀ {kvs:List (KX×Addr×V)} {ds:'('},DenL K H S (kvs.map (·.2.2)) ds->(kvs.any λp=>decide (p.1=ks))=(zB (dkv kvs ds) ks).isSome
 | [],_,t=>by cases t;rfl
 | p::kvs,_,t=>by
  cases t with
  | @cons _ d _ ds dv t' =>
   rw [Jh,UR]
   by_cases e:p.1=ks
   ·rw [wX e,ae e];rfl
   ·rw [wW e,ab e,XO];exact qaf ks t'
theorem qfc {kvs:List (KX×Addr×V)}{ds:'('}(h:kvs.length=ds.length):(dkv kvs ds).length=kvs.length:=by
 unfold dkv
 rw [NI,Kf,h,Nat.min_self]
theorem qaR (hr:Room k X.A)(i:Nat){px sp:Pos}(hv:Vis X.env.scope x)(hM:Flt M i)(hL:i∉L)(hk:PD X [] b fk)(he:PD X M a f)(hN:X.N[i]?=some x:=by rfl)(hd:(x==("__debug__" : Str))=false:=by decide +kernel)(hcd:(x==("__classdict__" : Str))=false:=by decide +kernel)
  (ha:∀ v,assign (.Subscript (.Name x px) b sp) X.env v=(do
   let ov ← holding [v] (eval (.Name x px) X.env)
   let iv ← holding [v,ov] (eval b X.env)
   bG sp
   holding [v,ov,iv] (setItem ov iv v)
   release [v,ov,iv] []):=by intro _;rfl)
  (hs:bB [.Subscript (.Name x px) b sp] a pos.line X.env=pure false:=by rfl) (hw:bC [.Subscript (.Name x px) b sp] a X.env=pure none:=by rfl)
  (h1:(aB [.Subscript (.Name x px) b sp] X.env).map (·.2)=[assign (.Subscript (.Name x px) b sp) X.env]:=by rfl) :
  PDS X G M L M Mb fr (.Assign [.Subscript (.Name x px) b sp] a pos) (Wx i fk f) :=
 (qeF he (qis (JC i hv hN hd hcd) hk (set_dict hr.units) ha) hs hw h1).weak λD σ H ⟨S,ρ,o,os,e,q⟩=>by
  obtain ⟨d,e1,e⟩:=qd e
  obtain ⟨l,e2,e⟩:=qd e
  obtain ⟨kd,e3,e⟩:=qd e
  obtain ⟨l',e4,e⟩:=qd e
  cases e
  obtain ⟨kvs0,ks,rfl,rfl,hok,hz,rfl⟩:=qao e4
  refine ⟨S,ρ,d,os.ds,e1,λv H1 g1 d1=>?_⟩
  have os1:=os.same g1
  obtain ⟨pp,a1,b1,c1,n1,w1,_⟩:=os1.own i hM _ (Qm e2)
  cases b1 with
  | @dct kvs ep ds h kk t =>
   refine ⟨_,a1,G.S0,ρ,_,os1.den,e3,λkv H2 g2 dk=>?_⟩
   have os2:=os1.same g2
   have dk:Den X.K H2 S kv (kxD ks):=dk.flat (qc7 ks)
   have hl:kvs.length=ds.length:=by
    have:=t.length
    rwa [Kf] at this
   rw [qfc hl] at hz
   refine ⟨S,pp,kvs,ep,ks,ds,d,rfl,g2 _ _ h,kk.same g2,t.same g2,Y4 hl hok,dk,d1.same g2,hz,λb' ep' eb=>?_⟩
   subst eb
   exact q _ _ _ (qdB os2 hM hL (Qm e2) a1 c1 (g2 _ _ h) (kk.same g2) (t.same g2) dk (d1.same g2) (qaf ks t))
theorem qgC (hr:Room k X.A)(i:Nat){px sp:Pos}(hv:Vis X.env.scope x)(hM:Flt M i)(hL:i∉L)(hk:PD X [] b fk)(he:PD X [] a f)(hN:X.N[i]?=some x:=by rfl)(hd:(x==("__debug__" : Str))=false:=by decide +kernel)(hcd:(x==("__classdict__" : Str))=false:=by decide +kernel)
  (ha:∀ v,assign (.Subscript (.Name x px) b sp) X.env v=(do
   let ov ← holding [v] (eval (.Name x px) X.env)
   let iv ← holding [v,ov] (eval b X.env)
   bG sp
   holding [v,ov,iv] (setItem ov iv v)
   release [v,ov,iv] []):=by intro _;rfl)
  (hs:bB [.Subscript (.Name x px) b sp] a pos.line X.env=pure false:=by rfl) (hw:bC [.Subscript (.Name x px) b sp] a X.env=pure none:=by rfl)
  (h1:(aB [.Subscript (.Name x px) b sp] X.env).map (·.2)=[assign (.Subscript (.Name x px) b sp) X.env]:=by rfl) :
  PDS X G M L M Mb fr (.Assign [.Subscript (.Name x px) b sp] a pos) (Wx i fk (qbs f)) :=
 (qeF he (qis (JC i hv hN hd hcd) hk (set_dict hr.units) ha) hs hw h1).weak λD σ H ⟨S,ρ,o,os,e,q⟩=>by
  obtain ⟨d,e1,e⟩:=qd e
  obtain ⟨l,e2,e⟩:=qd e
  obtain ⟨kd,e3,e⟩:=qd e
  obtain ⟨l',e4,e⟩:=qd e
  cases e
  obtain ⟨kvs0,ks,rfl,rfl,hok,hz,rfl⟩:=qao e4
  obtain ⟨d',e5,e6⟩:=qd e1
  have hf:flat d'=true/\d'=d:=by
   split at e6
   ·rename_i hf;cases e6;exact ⟨hf,rfl⟩
   ·cases e6
  obtain ⟨hf,rfl⟩:=hf
  refine ⟨G.S0,ρ,d',os.den,e5,λv H1 g1 d1'=>?_⟩
  have d1:Den X.K H1 S v d':=d1'.flat hf
  have os1:=os.same g1
  obtain ⟨pp,a1,b1,c1,n1,w1,_⟩:=os1.own i hM _ (Qm e2)
  cases b1 with
  | @dct kvs ep ds h kk t =>
   refine ⟨_,a1,G.S0,ρ,_,os1.den,e3,λkv H2 g2 dk=>?_⟩
   have os2:=os1.same g2
   have dk:Den X.K H2 S kv (kxD ks):=dk.flat (qc7 ks)
   have hl:kvs.length=ds.length:=by
    have:=t.length
    rwa [Kf] at this
   rw [qfc hl] at hz
   refine ⟨S,pp,kvs,ep,ks,ds,d',rfl,g2 _ _ h,kk.same g2,t.same g2,Y4 hl hok,dk,d1.same g2,hz,λb' ep' eb=>?_⟩
   subst eb
   exact q _ _ _ (qdB os2 hM hL (Qm e2) a1 c1 (g2 _ _ h) (kk.same g2) (t.same g2) dk (d1.same g2) (qaf ks t))
end
section
variable {X:Cx}{G:Gm}{M M' Mb L:List Nat}{fr:Fr}{a b c:KD}{es:List KD}{f fk g:'&'}{pos:Pos}{u:Rho->Option Out}
noncomputable def sNo:Rho->Option Out:=λ_=>none
theorem qgG:PDS X G M L M' Mb fr (.Raise e1 e2 pos) sNo:=λaa s σ H D I ⟨S,ρ,o,os,e,q⟩=>by cases e
end
open AutoSeq1 (wpAny_loadPart') in
theorem qd3 (l:Ke)(items:Array Kd)(n:Nat)(dd:Option Ke)(sl:Array (Option Kd))(x:Kd)(e:Kd->Bool)(j:Nat)(hj:j<items.size)(hit:e items[j]=true)(hno:∀ m (hm:m<items.size),m<j->e items[m]=false) :
  Meets (UP.«tuple.index» ⟨[.ref l,x],[]⟩) (λA R s=>s.heap.get? l=some { cls:=.type "tuple", dict:=dd,data:=.seq items n,slots:=sl }/\(∀ y,y∈items->SeqAt.EqAt A.in1 s y x (e y))/\R (.ok (.ret (.int j s.toks))) { s with toks:=s.toks+1 }) :=
 .of_wp λprog w A R s h=>by
  obtain ⟨hp,g,d,tk,os⟩:=s
  obtain ⟨hl,he,h⟩:=h
  unfold UP.«tuple.index»
  simp only [Std.Legacy.Range.forIn_eq_forIn_range']
  wp_walk using aq hl,XJ _ (λrest b s'=>b.1=none/\s'=⟨hp,g,d,tk,os⟩/\∃ i,i<=j/\rest=List.range' i (items.size-i)) _
  case turn =>
   rintro k rest b s' ⟨hb,rfl,i,hi,hr⟩
   have hlt:i<items.size:=by omega
   have e1:items.size-i=(items.size-(i+1))+1:=by omega
   rw [e1,List.range'_succ] at hr
   injection hr with hk hr
   subst hk
   rw [VU hlt]
   refine Kc (he _ (Array.getElem_mem hlt) prog w _ _ (id ?_))
   by_cases hij:k=j
   ·subst hij
    rw [hit]
    wp_walk
    exact ⟨_,rfl,h⟩
   ·rw [hno k hlt '$']
    wp_walk
    exact ⟨rfl,rfl,k+1,by omega,hr⟩
  case fin =>
   rintro b s' ⟨hb,rfl,i,hi,hr⟩
   have:=congrArg Xy hr
   rw [List.length_range'] at this
   have:(0:Nat)=items.size-i:=this
   omega
  case h=>exact ⟨rfl,rfl,0,Vj _,by simp [Std.Legacy.Range.size]⟩
noncomputable def tVd (K:Kb)(M:List Nat)(f:'&'):TE:=λσ H Q=>∃ S ρ d,DenS K H S M σ ρ/\f ρ=some d/\∀ p fp H',Same H H'->(∀ q∈fp,H q=none)->DeepO K H' (insL S fp) fp p d->Q (.ref p) H'
noncomputable def qbw:Ka->Bool
 | .list _=>true
 | _=>false
theorem Kids.length {K:Kb}{H:Hp}{S:Av}:∀ {qs:List Ke} {ds:'('},Kids K H S qs ds->qs.length=ds.length
 | _,_,.nil=>rfl
 | _,_,.cons _ _ _ r=>by rw [Kz,Kz,r.length]
theorem Kids.get {K:Kb}{H:Hp}{S:Av}:∀ {qs:List Ke} {ds:'('} {i:Nat} {d:Ka},Kids K H S qs ds->ds[i]?=some d->∃ q xs es,qs[i]?=some q/\d=.list es/\H q=some (.lst xs)/\DenL K H S xs es
 | _,_,_,_,.nil,e=>by simp at e
 | _,_,0,_,.cons h t _ _,e=>by simp at e;subst e;exact ⟨_,_,_,rfl,rfl,h,t⟩
 | _,_,i+1,d,.cons _ _ _ r,e=>by
  obtain ⟨q,xs,es,h1,h2⟩:=Kids.get (i:=i) (d:=d) r (by simpa using e)
  exact ⟨q,xs,es,by simpa using h1,h2⟩
theorem Kids.put {K:Kb}{H:Hp}{S:Av}{q:Ke}{xs:List V}{es:'('}(m:Dm S H)(hq:S q)(t:DenL K (L2.upd H q (.lst xs)) S xs es):∀ {qs:List Ke} {ds:'('} {i:Nat},Kids K H S qs ds->qs[i]?=some q->Kids K (L2.upd H q (.lst xs)) S qs (ds.set i (.list es))
 | _,_,_,.nil,e=>by simp at e
 | _,_,0,.cons h t' n r,e=>by
  simp at e;subst e
  exact .cons qY t n (r.upd m hq n)
 | _,_,i+1,.cons h t' n r,e=>by
  have e':=(List.getElem?_cons_succ ..).symm.trans e
  have hm:q∈_:=KN e'
  refine .cons ?_ (t'.off m λb u z e=>by rw [qW (λy=>z (by rw [y];exact hq))];exact e) n (Kids.put m hq t r e')
  rw [qW (λz=>n (by rw [z];exact hm))];exact h
section
variable {X:Cx}{G:Gm}{M M' Mb L:List Nat}{fr:Fr}{a b c:KD}{es:List KD}{f fk g:'&'}{pos:Pos}{u:Rho->Option Out}{fs:Rho->Option (List Ka)}
theorem DenS.insO {K:Kb}{H H':Hp}{S:Av}{σ:St}{ρ:Rho}{p:Ke}{d:Ka}(hs:DenS K H S M σ ρ)(e:Same H H')(n:H p=none)(o:OwnO K H' (insA S p) p d):DenS K H' (insA S p) M σ ρ :=
 ⟨(hs.1.same e).ins o.mut,hs.2.1,λi d hi q=>let ⟨v,a,b⟩:=hs.2.2 i d hi q;⟨v,a,(b.sub λa ha z=>z.elim id λy=>absurd (by rw [y];exact n) ha).same e⟩⟩
noncomputable def Wh (i:Nat)(f:'&'):Rho->Option Out:=λρ=>if i<ρ.length/\ρ.length<=1000 then ob (f ρ) λd=>some (.nx (ρ.set i (some d))) else none
noncomputable def yh:Ka->Ka->Option Nat
 | .tuple ds,.int k=>ixN ds.length k
 | .list ds,.int k=>ixN ds.length k
 | _,_=>none
noncomputable def qaD:Ka->Nat->Option Ka
 | .tuple ds,j=>ds[j]?
 | .list ds,j=>ds[j]?
 | _,_=>none
noncomputable def qaE:Ka->Nat->Ka->Ka
 | .tuple ds,j,l=>.tuple (ds.set j l)
 | .list ds,j,l=>.list (ds.set j l)
 | d,_,_=>d
theorem DeepF.same {K:Kb}{H H':Hp}{S:Av}{σ:St}{ρ:Rho}{F:Nat->List Ke}(e:Same H H')(f:DeepF K G M H S σ ρ F):DeepF K G M H' S σ ρ F :=
 ⟨λi hi d q=>let ⟨p,a,b,c⟩:=f.own i hi d q;⟨p,a,b.same e,c⟩,f.disj,f.flat⟩
theorem QG {qs:List Ke}{j:Nat}{k:Int}{q:Ke}{n:Nat}(h:n=qs.length)(e:ixN n k=some j)(e':qs[j]?=some q):atI (qs.map V.ref) k=some (.ref q):=by
 unfold atI
 rw [Kf,← h,e]
 show (qs.map V.ref)[j]?=_
 rw [Kw,e'];rfl
theorem DeepO.kid {K:Kb}{H:Hp}{S:Av}{fp:List Ke}{p:Ke}{d0 l:Ka}{j:Nat}(b:DeepO K H S fp p d0)(e:qaD d0 j=some l):∃ q xs es,q∈fp/\l=.list es/\H q=some (.lst xs)/\DenL K H S xs es/\
  (∀ k,yh d0 (.int k)=some j->∀ Q:VK,Q (.ref q) H->(rIxL K (.ref p) (.int k) H Q\/rIxT K (.ref p) (.int k) H Q))/\
  ∀ H2,Same H H2->∀ xs' es',S q->Dm S H2->DenL K (L2.upd H2 q (.lst xs')) S xs' es'->DeepO K (L2.upd H2 q (.lst xs')) S fp p (qaE d0 j (.list es')):=by
 cases b with
 | @tpl _ qs ds h t =>
  obtain ⟨q,xs,es,h1,rfl,h2,h3⟩:=t.get (show ds[j]?=some l from e)
  refine ⟨q,xs,es,KN h1,rfl,h2,h3,λk hk Q hQ=>.inr ⟨p,_,k,_,rfl,rfl,.inl (.inl h),QG t.length.symm hk h1,hQ⟩,λH2 g xs' es' hS m t'=>?_⟩
  exact .tpl (by rw [qW (λz=>m.tup (.inl (g _ _ h)) (by rw [z];exact hS))];exact g _ _ h) (Kids.put m hS t' (t.same g) h1)
 | @lst _ qs ds h n t =>
  obtain ⟨q,xs,es,h1,rfl,h2,h3⟩:=t.get (show ds[j]?=some l from e)
  have hm:=KN h1
  refine ⟨q,xs,es,.tail _ hm,rfl,h2,h3,λk hk Q hQ=>.inl ⟨p,_,k,_,rfl,rfl,SqL.of h,QG t.length.symm hk h1,hQ⟩,λH2 g xs' es' hS m t'=>?_⟩
  exact .lst (by rw [qW (λz=>n (by rw [z];exact hm))];exact g _ _ h) n (Kids.put m hS t' (t.same g) h1)
 | dct h k v n t=>cases e
noncomputable def qa0 (i:Nat)(fk f:'&'):Rho->Option Out:=λρ=>ob (vr i ρ) λc=>ob (fk ρ) λk=>ob (yh c k) λj=>ob (qaD c j) λl=>ob (f ρ) λd=>ob (appD l d) λl'=>some (.nx (ρ.set i (some (qaE c j l'))))
theorem qgo {c k:Ka}{j:Nat}(e:yh c k=some j):∃ n,k=.int n:=by
 unfold yh at e
 split at e
 ·exact ⟨_,rfl⟩
 ·exact ⟨_,rfl⟩
 ·cases e
theorem ww (i:Nat){x:Str}{px sp apos cpos:Pos}(hv:Vis X.env.scope x)(hM:Dp M i)(hb:PD X M b fk)(he:PD X M a f)(hpx:WM b:=by intro _ _;rfl)(hN:X.N[i]?=some x:=by rfl)(hd:(x==("__debug__" : Str))=false:=by decide +kernel)(hcd:(x==("__classdict__" : Str))=false:=by decide +kernel)
  (hbase:aG (.Subscript (.Name x px) b sp) "append" X.env (eval (.Subscript (.Name x px) b sp) X.env)=eval (.Subscript (.Name x px) b sp) X.env:=by rfl)
  (hfew:((aA cpos (af [a] X.env)).all (λx=>!x.1)&&(aZ cpos (aQ [] X.env)).all (λx=>x.1.isSome)
   && decide ([a].length+([]:List UJ).length+(if ([]:List UJ).isEmpty then 0 else 1)<30))=true:=by rfl)
  (hline:(apos.endLine==cpos.line)=true:=by rfl) (hs:af [a] X.env=(false,eval a X.env)::af [] X.env:=by rfl) (hplain:(aA cpos (af [] X.env)).any (·.1)=false:=by rfl)
  (hsw:aK (.Call (.Attribute (.Subscript (.Name x px) b sp) "append" apos) [a] [] cpos) none pos.line X.env=pure false:=by rfl) :
  PDS X G M L M Mb fr (.Expr (.Call (.Attribute (.Subscript (.Name x px) b sp) "append" apos) [a] [] cpos) pos) (qa0 i fk f) :=
 (wz (qbK Uv Xp X4 Wa (qin (r:=λx y H Q=>rIxL X.K x y H Q\/rIxT X.K x y H Q) (qcd.or qem) (JC i hv hN hd hcd) hb hpx) (qF he zJ hs) hbase hfew hline hs hplain) hsw).weak λD σ H ⟨S,ρ,o,os,e,q⟩=>by
  obtain ⟨c0,e1,e⟩:=qd e
  obtain ⟨k0,e2,e⟩:=qd e
  obtain ⟨j,e3,e⟩:=qd e
  obtain ⟨l,e4,e⟩:=qd e
  obtain ⟨d,e5,e⟩:=qd e
  obtain ⟨l',e6,e⟩:=qd e
  cases e
  obtain ⟨k,rfl⟩:=qgo e3
  obtain ⟨F,f0⟩:=os.deep
  obtain ⟨pp,a1,b1,c1⟩:=f0.own i hM _ (Qm e1)
  refine ⟨_,a1,S,ρ,.int k,os.ds,e2,λw H1 g1 d1=>?_⟩
  cases d1.int_inv
  obtain ⟨q0,xs,es,m0,rfl,h0,t0,ix,put⟩:=(b1.same g1).kid e4
  refine ix k e3 _ ⟨.inl ⟨rfl,_,SqL.of h0⟩,S,ρ,[d],os.ds.same g1,by show ob (f ρ) _=_;rw [e5];rfl,λvs H2 g2 dl=>?_⟩
  obtain ⟨v,rfl,dv⟩:=dl.inv1
  have os2:=os.same (g1.trans g2)
  obtain ⟨ds,e7,hz,rfl⟩:=wO e6
  cases e7
  refine ⟨q0,xs,v,rfl,rfl,g2 _ _ h0,KZ (by rw [t0.length];exact hz) (VP (zO (Kq _))),?_⟩
  exact q _ _ _ (os2.writeD (f0.same (g1.trans g2)) hM (Qm e1) a1 m0 rfl (put H2 g2 _ _ (c1 q0 m0).1 os2.ds.1 (((t0.same g2).snoc dv).off os2.ds.1 (Off.upd (c1 q0 m0).1))))
end
noncomputable def dfl (h:List Ka->Option Ka)(dds:'('):List Ka->Option Ka:=λds=>h (ds++dds)
theorem dfl_b (h:List Ka->Option Ka)(dds ds:'('):dfl h dds ds=h (ds++dds):=rfl
structure KnownX (P:KJ)(w:K1)(K:Kb)(mg:Str->Option Kd)(base:KU)(x:Str)(n k:Nat)(h:List Ka->Option Ka)(dds:'('):Prop where
 ex:∃ (f:Ke) (fd:VD) (ps:List Str) (us:List Kd) (dvs:List V),FnOk P w K mg base CX0 k f fd ps (spF K n h)/\mg x=some (.ref f)/\Vx K (.ref f)=true/\Binds K fd ps us/\Vals dvs us/\∀ (H:Hp) (S:Av),DenL K H S dvs dds
theorem Yb {K:Kb}{fd:VD}{ps:List Str}{us:List Kd}    (ht:K.lookup T=some ⟨oc,od,.seq items n,sl⟩) (hd:fd.defaults=.ref T) (hj:j+us.length=ps.length)
  (h:∀ xs:List Kd,xs.length=j->∃ k:Option (Array Kd)->Sem (List (Str×Value)),bindArgs fd ⟨xs,[]⟩=aY fd.defaults >>= k/\k (some items)=pure (ps.zip (xs++us))):Binds K fd ps us:=λs xs KX hl=>by
 obtain ⟨k,h1,h2⟩:=h xs (by rw [Km] at hl;omega)
 exact BindsTo.of_defaults hd (KX _ _ ht) rfl h1 h2
section
variable {X:Cx}{M:List Nat}{a:KD}{es:List KD}{pos:Pos}
theorem qbF {p:Pos}  {dds:'('} (F:KnownX X.prog X.w X.K X.mg X.base x n k h dds) (hr:Room k' X.A) (hk:k<=k') (hg:Gl X x) (ha:PDA X M (a::es) fs) (hl:(a::es).length=j) (hj:j+dds.length=n)
  (hdb:(x==("__debug__" : Str))=false:=by decide +kernel) (he:af (a::es) X.env=(false,eval a X.env)::af es X.env:=by rfl) (hpl:(aA pos (af es X.env)).any (·.1)=false:=by rfl) :
  PD X M (.Call (.Name x p) (a::es) [] pos) (evC j fs (dfl h dds)):=by
 obtain ⟨f,fd,ps,us,dvs,F,m,kp,b,v,t⟩:=F.ex
 refine (W0 F (hr.mono hk) hg m kp b v qdD ha hdb he hpl).weak λσ H Q ⟨S,ρ,d,hs,e,q⟩=>?_
 obtain ⟨ds,e1,e⟩:=qd e
 have e:(if ds.length=j then h (ds++dds) else none)=some d:=e
 split at e
 ·rename_i hn
  exact ⟨S,ρ,ds,hs,e1,λvs H1 g1 d1=>⟨S,ds++dds,d,hs.1.same g1,d1.append (t H1 S),by rw [Km,hn];exact hj,e,λv H' g2 d2=>q v H' (g1.trans g2) d2⟩⟩
 ·cases e
end
noncomputable def Itz (K:Kb)(a b:Ke):It :=
 ⟨λi H=>∃ xs ys x y,SqL K H a xs/\SqL K H b ys/\xs[i]?=some x/\ys[i]?=some y,
  λi H v H'=>∃ p x y,H p=none/\v=.ref p/\H'=upd H p (.tup [x,y])/\(∀ xs,SqL K H a xs->xs[i]?=some x)/\∀ ys,SqL K H b ys->ys[i]?=some y,
  λi H=>∃ xs ys,SqL K H a xs/\SqL K H b ys/\(xs[i]?=none\/ys[i]?=none)⟩
section
variable {X:Cx}{M:List Nat}{a b:KD}{es:List KD}{f fa fb:'&'}{pos:Pos}
noncomputable def zpL:List Ka->List Ka->List Ka
 | d::ds,e::es=>.tuple [d,e]::zpL ds es
 | _,_=>[]
theorem qcN:∀ (ds es:'(') (i:Nat) (d:Ka),(zpL ds es)[i]?=some d->∃ x y,ds[i]?=some x/\es[i]?=some y/\d=.tuple [x,y]
 | [],_,_,_,h=>by simp [zpL] at h
 | _::_,[],_,_,h=>by simp [zpL] at h
 | x::ds,y::es,0,d,h=>by simp [zpL] at h;exact ⟨x,y,rfl,rfl,h.symm⟩
 | x::ds,y::es,i+1,d,h=>by
  obtain ⟨x',y',h1,h2,h3⟩:=qcN ds es i d (by simpa [zpL] using h)
  exact ⟨x',y',by simpa using h1,by simpa using h2,h3⟩
theorem qfX:∀ (ds es:'('),ds[(zpL ds es).length]?=none\/es[(zpL ds es).length]?=none
 | [],_=>.inl rfl
 | _::_,[]=>.inr rfl
 | x::ds,y::es=>by
  rcases qfX ds es with h|h
  ·left;simpa [zpL] using h
  ·right;simpa [zpL] using h
theorem IsIt.zip {K:Kb}{H:Hp}{S:Av}{l m:Ke}{xs ys:List V}{ds es:'('}(h:SqL K H l xs)(t:DenL K H S xs ds)(h':SqL K H m ys)(t':DenL K H S ys es):IsIt K S (Itz K l m) H (zpL ds es) where
 go:=λi H' e hi=>by
  obtain ⟨d,hd⟩:∃ d,(zpL ds es)[i]?=some d:=⟨_,Kl hi⟩
  obtain ⟨x,y,h1,h2,_⟩:=qcN ds es i d hd
  obtain ⟨v,h3,_⟩:=t.get h1
  obtain ⟨w,h4,_⟩:=t'.get h2
  exact ⟨xs,ys,v,w,e.seq h,e.seq h',h3,h4⟩
 yld:=λi H' x H2 e ⟨p,y1,y2,hp,ex,e2,q1,q2⟩=>by
  subst ex e2
  refine ⟨Same.lay hp,λd hd S' w=>?_⟩
  obtain ⟨d1,d2,h1,h2,rfl⟩:=qcN ds es i d hd
  obtain ⟨v1,h3,r1⟩:=t.get h1
  obtain ⟨v2,h4,r2⟩:=t'.get h2
  have e3:=q1 xs (e.seq h)
  have e4:=q2 ys (e.seq h')
  rw [h3] at e3
  rw [h4] at e4
  cases e3
  cases e4
  exact .tuple (SqT.of qY) (.cons (w _ _ r1) (.cons (w _ _ r2) .nil))
 stop:=λH' e=>⟨xs,ys,e.seq h,e.seq h',by
  have a:=t.length
  have b:=t'.length
  rcases qfX ds es with z|z
  ·left;rw [El] at z ⊢;omega
  ·right;rw [El] at z ⊢;omega⟩
end
def qd5 (K:Kb)(mg:Str->Option Kd)(x:Str)(d:Ka):Prop:=∃ a o,mg x=some (.ref a)/\K.lookup a=some o/\o.cls=.type "tuple"/\o.dict=none/\∀ H S,Den K H S (.ref a) d
noncomputable def Z5 (l x:Ka):Option Ka:=match l with
 | .tuple ds=>if inOk ds x=true/\ds.length<=1000 then ob (ds.findIdx? λy=>Ks y x) λj=>some (.int (j:Nat)) else none
 | _=>none
section
variable {X:Cx}{G:Gm}{M M' Mb L:List Nat}{fr:Fr}{a b c:KD}{es:List KD}{f fk g:'&'}{pos:Pos}{u:Rho->Option Out}
noncomputable def qkv (K:Kb):V->List V->Hp->VK->Prop:=λx vs H Q=>∃ S dx y dy d,vs=[y]/\Den K H S x dx/\Den K H S y dy/\Z5 dx dy=some d/\Dm S H/\∀ v H',Same H H'->Den K H' S v d->Q v H'
theorem qgx (hr:Room k X.A):MtR X "tuple.index" (qkv X.K):=by
 intro aa s σ H x vs v us Q I rx rv h
 obtain ⟨S,dx,y,dy,d,rfl,h1,h2,e,m,q⟩:=h
 obtain ⟨u,rfl,ru⟩:=rv.one
 unfold Z5 at e
 split at e
 ·rename_i ds
  split at e
  ·rename_i hc
   obtain ⟨⟨c1,c2,c3⟩,hz⟩:=And.intro (ZV hc.1) hc.2
   obtain ⟨j,ej,e⟩:=qd e
   cases e
   obtain ⟨bs,q2⟩:=h2.reads I c2 ru
   obtain ⟨as,q1⟩:=h1.reads I (by rw [KM];exact c1) rx
   obtain ⟨a,xs,rfl,hsq,ht⟩:=h1.tuple_inv
   cases (show v=Ve a from rx)
   cases q1 with
   | @tuple _ o items n _ _ g1 g2 g3 g4 =>
    obtain ⟨cls,dd,data,sl⟩:=o
    simp only at g2 g3
    subst g2 g3
    have hm:=SeqAt.readsAll_map _ _ _ c1 g4
    obtain ⟨hj,hp,hno⟩:=Nh.mp ej
    have hlen:items.size=ds.length:=by
     have:=congrArg Xy hm
     simpa using this
    have hat:∀ i (h:i<items.size),X5 s.heap items[i]=ds[i]''$':=λi h=>by
     have:=congrArg (λl=>l[i]?) hm
     simp only [Kw] at this
     rw [Kl (by simpa using h),Kl '$'] at this
     simpa using this
    refine Ek Ew ⟨_,g1,rfl⟩ PySem.F.entry_tuple_index (PySem.F.args_tuple_index_2 _ _) (qd3 a items n dd sl u (λy=>Ks (X5 s.heap y) dy) j '$' ?_ ?_) ⟨g1,SeqAt.items_eqAt g4 q2 c1 c2 (yP c3 hr.units),?_⟩
    ·show Ks (X5 s.heap items[j]) dy=true
     rw [hat j '$'];exact hp
    ·intro i hi hij
     show Ks (X5 s.heap items[i]) dy=false
     rw [hat i hi]
     simpa using hno i hij
    ·exact ⟨.int j,H,I.tok _,⟨_,rfl⟩,q _ H (Same.refl H) (.int _)⟩
  ·cases e
 ·cases e
theorem qgz {px apos cpos:Pos}(C:qd5 X.K X.mg x d)(hr:Room k X.A)(hg:Gl X x)(he:PD X M a g)(hdb:(x==("__debug__" : Str))=false:=by decide +kernel)
  (hbase:aG (.Name x px) "index" X.env (eval (.Name x px) X.env)=eval (.Name x px) X.env:=by rfl)
  (hfew:((aA cpos (af [a] X.env)).all (λx=>!x.1)&&(aZ cpos (aQ [] X.env)).all (λx=>x.1.isSome)
   && decide ([a].length+([]:List UJ).length+(if ([]:List UJ).isEmpty then 0 else 1)<30))=true:=by rfl)
  (hline:(apos.endLine==cpos.line)=true:=by rfl) (hs:af [a] X.env=(false,eval a X.env)::af [] X.env:=by rfl) (hplain:(aA cpos (af [] X.env)).any (·.1)=false:=by rfl) :
  PD X M (.Call (.Attribute (.Name x px) "index" apos) [a] [] cpos) (ev1 g (Z5 d)):=by
 obtain ⟨l,o,hm,hl,hc,hd,hD⟩:=C
 refine (qbK PySem.F.plainAttrs_tuple Ew PySem.F.type_tuple_index (qgx hr) (qfG (v:=.ref l) hg hm rfl hdb) (qF he zJ hs) hbase hfew hline hs hplain).weak λσ H Q ⟨S,ρ,d',hs,e,q⟩=>?_
 obtain ⟨dy,e2,e⟩:=qd e
 refine ⟨.inr (.inl ⟨rfl,o,hl,hc,hd⟩),S,ρ,[dy],hs,by show ob (g ρ) _=_;rw [e2];rfl,λvs H2 g2 dl=>?_⟩
 obtain ⟨w,rfl,dw⟩:=dl.inv1
 exact ⟨S,_,w,dy,d',rfl,hD H2 S,dw,e,hs.1.same g2,λv3 H3 g3 d3=>q v3 H3 (g2.trans g3) d3⟩
end
theorem qdW (A:KY)(s:Kh)(a:Int)(t:Tok)(c:Int)(u:Tok)(prog:KJ)(w:K1)(E:Kd->Kh->Prop)(Q:Kd->Kh->Prop)(h:Q (.bool (decide (a > c))) s):ai (model prog w) A (aP .Gt (.int a t) (.int c u)) Q E s :=
 (PyProof.Rows.gt_int h:ai (model prog w) A (au .Gt (.int a t) (.int c u)) Q E s)
mutual
def gtX:Ka->Ka->Option Bool
 | .int i,.int j=>some (decide (i > j))
 | .tuple xs,.tuple ys=>gtXs xs ys
 | _,_=>none
def gtXs:List Ka->List Ka->Option Bool
 | [],[]=>some false
 | [],_::_=>some false
 | _::_,[]=>some true
 | x::xs,y::ys=>if Ks x y=true then gtXs xs ys else gtX x y
end
def GtAt (A:KY)(s:Kh)(y x:Kd)(b:Bool):Prop:=∀ (prog:KJ) (w:K1) (E Q:Kd->Kh->Prop),Q (.bool b) s->ai (model prog w) A (aP .Gt y x) Q E s
noncomputable def qcP (A:KY)(s:Kh):List Kd->List Kd->Bool->Prop
 | [],[],r=>r=false
 | [],_::_,r=>r=false
 | _::_,[],r=>r=true
 | y::ys,x::xs,r=>∃ e,SeqAt.EqAt A s y x e/\(e=true->qcP A s ys xs r)/\(e=false->GtAt A s y x r)
section
open PySem.SeqAt
open PySem.AutoSeq1 (wpAny_loadPart')
open PySem.MeetsSeq PySem.MeetsSeq2 PySem.MeetsSeq3
theorem qcJ (l b:Ke)(items items2:Array Kd)(n n2:Nat)(dd dd2:Option Ke)(sl sl2:Array (Option Kd)) :
  Meets (UP.«tuple.__gt__» ⟨[.ref l,.ref b],[]⟩)
   (λA R s=>s.heap.get? l=some { cls:=.type "tuple", dict:=dd,data:=.seq items n,slots:=sl }/\s.heap.get? b=some { cls:=.type "tuple", dict:=dd2,data:=.seq items2 n2,slots:=sl2 }/\∃ r,qcP A.in1 s items.toList items2.toList r/\R (.ok (.ret (.bool r))) s) :=
 .of_wp λprog w A R s h=>by
  obtain ⟨hp,g,d,tk,os⟩:=s;obtain ⟨hl,hb,r,hx,h⟩:=h
  have f2:=AutoSeq1.sub_tuple_tuple;wp_walk using aq hl,aq hb,XJ _ (λrest b s'=>b.1=none/\s'=⟨hp,g,d,tk,os⟩/\∃ (vs ws:List Kd),rest=vs.zip ws/\
   qcP A.in1 ⟨hp,g,d,tk,os⟩ vs ws r/\vs.length+items2.size=ws.length+items.size) _
  case turn =>
   rintro ⟨y,x⟩ rest b s' ⟨hb',rfl,vs,ws,hz,hlx,hlen⟩
   cases vs with
   | nil=>rw [Eh] at hz;cases hz
   | cons v vs =>
    cases ws with
    | nil=>rw [NZ] at hz;cases hz
    | cons u ws =>
     rw [Xu] at hz
     injection hz with hyx hrest
     injection hyx with hy hx'
     subst hy hx'
     simp only [Kz] at hlen
     obtain ⟨e,he,h1,h2⟩:=hlx
     refine Kc (he prog w _ _ ?_)
     cases e with
     | true =>
      wp_walk
      exact ⟨rfl,rfl,_,_,hrest,h1 rfl,by omega⟩
     | false =>
      have hri:=h2 rfl prog w
      wp_walk using hri
      exact ⟨_,rfl,by simpa using h⟩
  case fin =>
   rintro ⟨b1,b2⟩ s' ⟨hb',rfl,vs,ws,hz,hlx,hlen⟩
   simp only at hb'
   subst hb'
   have hv:r=decide (items.size > items2.size):=by
    cases vs with
    | nil =>
     cases ws with
     | nil =>
      simp only [V5] at hlen
      rw [show r=false from hlx]
      exact (ab '$').symm
     | cons c hw =>
      simp only [V5,Kz] at hlen
      rw [show r=false from hlx]
      exact (ab '$').symm
    | cons a hv =>
     cases ws with
     | nil =>
      simp only [V5,Kz] at hlen
      rw [show r=true from hlx]
      exact (ae '$').symm
     | cons c hw =>
      rw [Xu] at hz
      cases hz
   rw [hv] at h
   wp_walk
   exact ⟨_,rfl,by simpa [Nv] using h⟩
  case h =>
   exact ⟨rfl,rfl,items.toList,items2.toList,rfl,hx,by simp [Fh]⟩
end
theorem qhD {A:KY}{s:Kh}{items items2:Array Kd}(hl:bE s.heap l items)(hb:bE s.heap b items2)(hu:A.units<aI)(h:qcP A.in1 s items.toList items2.toList r):GtAt A s (.ref l) (.ref b) r:=λprog w E Q q=>by
 obtain ⟨⟨cls,dd,data,sl⟩,ho,hc,n,hd⟩:=id hl;obtain ⟨⟨cls2,dd2,data2,sl2⟩,ho2,hc2,n2,hd2⟩:=id hb
 simp only at hc hd hc2 hd2
 subst hc hd hc2 hd2
 exact Nf (op:=.Gt) ⟨_,ho,rfl⟩ ⟨_,ho2,rfl⟩ PySem.F.slot_tuple_gt PySem.F.entry_tuple_gt (PySem.F.args_tuple_gt_2 _ _) (qcJ l b items items2 n n2 dd dd2 sl sl2)
  ⟨ho,ho2,r,h,show Vt r≠ND/\Q (.bool r) s from ⟨(λx=>nomatch x),q⟩⟩ hu
theorem qdr {A:KY}{s:Kh}(hu:A.units+m+1<aI)(hit:∀ (x y:Ka) (a b:Kd) (as bs:List Ke) (r:Bool),x.depth<=m->UY s.heap a x as->UY s.heap b y bs->x.canLay0=true->y.canLay0=true->gtX x y=some r->GtAt A s a b r) :
  ∀ (xs ys:'(') (vs ws:List Kd) (as bs:List Ke) (r:Bool),KC xs<=m->Uk s.heap vs xs as->Uk s.heap ws ys bs->Kp xs=true->Kp ys=true->gtXs xs ys=some r->qcP A s vs ws r:=by
 intro xs
 induction xs with
 | nil =>
  intro ys vs ws as bs r _ h1 h2 _ _ e
  cases h1
  cases ys with
  | nil=>cases h2;rw [gtXs] at e;cases e;rfl
  | cons y ys=>cases h2;rw [gtXs] at e;cases e;rfl
 | cons x xs ih =>
  intro ys vs ws as bs r hm h1 h2 c1 c2 e
  cases h1 with
  | cons rx rxs =>
   cases ys with
   | nil=>cases h2;rw [gtXs] at e;cases e;rfl
   | cons y ys =>
    cases h2 with
    | cons ry rys =>
     have c1':x.canLay0=true/\Kp xs=true:=by simpa [Kp] using c1
     have c2':y.canLay0=true/\Kp ys=true:=by simpa [Kp] using c2
     have hd:max x.depth (KC xs)<=m:=by rw [KC] at hm;exact hm
     have m1:=Vg (NG x.depth (KC xs)) hd
     have m2:=Vg (Nn x.depth (KC xs)) hd
     rw [gtXs] at e
     refine ⟨Ks x y,Nk x y A s _ _ _ _ rx ry c1'.1 c2'.1 (by have:=NA x.depth y.depth;omega),λq=>?_,λq=>?_⟩
     ·rw [ag q] at e
      exact ih ys _ _ _ _ r m2 rxs rys c1'.2 c2'.2 e
     ·rw [ah (by rw [q];exact VI)] at e
      exact hit x y _ _ _ _ r m1 rx ry c1'.1 c2'.1 e
theorem qeg:∀ (n:Nat) (da db:Ka) (A:KY) (s:Kh) (a b:Kd) (as bs:List Ke) (r:Bool),da.depth<=n->UY s.heap a da as->UY s.heap b db bs->da.canLay0=true->db.canLay0=true->A.units+n+1<aI->gtX da db=some r->GtAt A s a b r:=by
 intro n
 induction n with
 | zero =>
  intro da db A s a b as bs r hd ra rb ca cb hu e
  cases da with
  | int i =>
   cases db with
   | int j =>
    cases ra;cases rb
    rw [gtX] at e
    cases e
    exact λprog w E Q q=>qdW A s i _ j _ prog w E Q q
   | _=>simp [gtX] at e
  | tuple xs =>
   rw [UD] at hd
   omega
  | _=>simp [gtX] at e
 | succ n ih =>
  intro da db A s a b as bs r hd ra rb ca cb hu e
  cases da with
  | int i =>
   cases db with
   | int j =>
    cases ra;cases rb
    rw [gtX] at e
    cases e
    exact λprog w E Q q=>qdW A s i _ j _ prog w E Q q
   | _=>simp [gtX] at e
  | tuple xs =>
   cases db with
   | tuple ys =>
    rw [UD] at hd
    rw [gtX] at e
    cases ra with
    | tuple e1 c1 d1 t1 =>
     cases rb with
     | tuple e2 c2 d2 t2 =>
      refine qhD ⟨_,e1,c1,_,d1⟩ ⟨_,e2,c2,_,d2⟩ '$' ?_
      exact qdr (m:=n) (by show A.units+1+n+1<aI;omega) (λx y a b as bs r hx r1 r2 k1 k2 e=>ih x y A.in1 s a b as bs r hx r1 r2 k1 k2 (by show A.units+1+n+1<aI;omega) e)
       xs ys _ _ _ _ r '$' t1 t2 (by simpa [KM] using ca) (by simpa [KM] using cb) e
   | _=>simp [gtX] at e
  | _=>simp [gtX] at e
noncomputable def bestOf (bt:Nat->Nat->Bool):Nat->Nat
 | 0=>0
 | k+1=>if bt (k+1) (bestOf bt k) then k+1 else bestOf bt k
theorem wQ (bt:Nat->Nat->Bool):∀ k,bestOf bt k<=k
 | 0=>Kq _
 | k+1=>by
  have:=wQ bt k
  rw [bestOf]
  split<;>omega
def qbh (prog:KJ)(w:K1)(A:KY)(h0:KU)(P:Nat->Kd->Prop)(bt:Nat->Nat->Bool):Prop :=
 ∀ (i j:Nat) (x y:Kd) (s:Kh) (Q E:Kd->Kh->Prop),j<i->(∀ b o,h0.get? b=some o->s.heap.get? b=some o)->P i x->P j y->Q (.bool (bt i j)) s->ai (model prog w) A (aP .Lt x y) Q E s
section
variable {prog:KJ}{w:K1}{A:KY}{R:Result->Kh->Prop}{it:Ke}{fp wr:List Ke}{n:Nat}{P:Nat->Kd->Prop}{St:Nat->KU->Prop}{h0:KU}
theorem qhW (W:Walks prog w A.in1 it fp wr n P St)(bt:Nat->Nat->Bool)(hc:qbh prog w A.in1 h0 P bt)(Z:Ke)(hZ:Z∉fp)(hw:∀ b o,h0.get? b=some o->b∉wr/\b≠Z)(kw:List (Str×Value)) :
  ∀ (m j:Nat) (s:Kh) (x:Kd) (c:Nat),n-(j+1)=m->j+1<=n->St (j+1) s.heap->P (bestOf bt j) x->(∀ b o,h0.get? b=some o->s.heap.get? b=some o)->
  s.heap.get? Z=some { cls:=.type "list", dict:=none,data:=.seq #[x,x] c,slots:=#[] }->
  (∀ v g tk,P (bestOf bt (n-1)) v->(∀ b o,b∉wr->b≠Z->s.heap.get? b=some o->g.get? b=some o)->R (.ok (.ret v)) { s with heap:=g,toks:=tk })->
  aT (model prog w) A (.builtin "min.loop" ⟨[.ref it,.none,.ref Z],kw⟩) R s:=by
 have zw:Z∉wr:=λh=>hZ (W.sub _ h)
 have nm:(toString "min" ++ toString ".loop" : String) = "min.loop" := by decide
 intro m
 induction m with
 | zero =>
  intro j s x c hm hj st hP hb hz hR
  have last:j+1=n:=by omega
  refine Uy Ex ?_;rw [Ui UU _]
  show ai _ A.in1 (aY (.ref Z) >>= _) _ _ s
  refine Kc (Ut hz rfl ?_)
  show ai _ A.in1 (tryCatch (bh (.ref it)) _ >>= _) _ _ s
  refine Kc (UV (W.done s _ _ (last ▸ st) λg tk k=>?_))
  have hz':=k Z _ zw hz
  show ai _ A.in1 (updateSeq Z (λ_=>#[]) >>= _) _ _ _
  refine Kc (U8 hz' rfl (Kc (U0 (Kn ?_))))
  exact hR x _ tk (by rw [← last];exact hP) λb o h1 h2 e=>(K3 _ _ (λz=>h2 z.symm)).trans (k b o h1 e)
 | succ m ih =>
  intro j s x c hm hj st hP hb hz hR
  have more:j+1<n:=by omega
  refine Uy Ex ?_;rw [Ui UU _]
  show ai _ A.in1 (aY (.ref Z) >>= _) _ _ s
  refine Kc (Ut hz rfl ?_)
  show ai _ A.in1 (tryCatch (bh (.ref it)) _ >>= _) _ _ s
  refine Kc (UV (W.item (j+1) s _ _ more st λy g tk hy st' k=>?_))
  have hz':=k Z _ zw hz
  have hb':∀ b o,h0.get? b=some o->g.get? b=some o:=λb o e=>k b o (hw b o e).1 (hb b o e)
  show ai _ A.in1 (tryCatch (holding [y,y] (aP .Lt y x >>= _)) _ >>= _) _ _ _
  refine Kc (UV (V2 (Kc (hc (j+1) (bestOf bt j) y x _ _ _ (Nat.lt_succ_of_le (wQ bt j)) hb' hy hP ?_))))
  refine Kc (V2 (Ub (Kc (U0 (Kn ?_)))))
  cases hh:bt (j+1) (bestOf bt j) with
  | true =>
   simp only [aR]
   refine Kc (U8 hz' rfl (Kc (U0 ?_)))
   rw [nm]
   refine Kn ⟨Ur UU _,ih (j+1) _ y _ '$' more (W.frame _ _ _ st' λb h1 o e=>(K3 _ _ (λh:Z=b=>hZ (by rw [h];exact h1))).trans e) (by simp only [bestOf,hh,aR];exact hy)
    (λb o e=>(K3 _ _ (λh:Z=b=>(hw b o e).2 h.symm)).trans (hb' b o e)) (UK _ hz' rfl) λv g2 tk2 h1 h2=>?_⟩
   exact hR v g2 tk2 h1 λb o n1 n2 e=>h2 b o n1 n2 ((K3 _ _ (λz=>n2 z.symm)).trans (k b o n1 e))
  | false =>
   simp only [VJ,aM];refine Kc (U0 ?_)
   rw [nm]
   refine Kn ⟨Ur UU _,ih (j+1) _ x c '$' more st' (by simp only [bestOf,hh,VJ,aM];exact hP) hb' hz' λv g2 tk2 h1 h2=>?_⟩
   exact hR v g2 tk2 h1 λb o n1 n2 e=>h2 b o n1 n2 (k b o n1 e)
theorem qgt (W:Walks prog w A.in1 it fp wr n P St)(bt:Nat->Nat->Bool)(hc:qbh prog w A.in1 h0 P bt)(Z:Ke)(hZ:Z∉fp)(hw:∀ b o,h0.get? b=some o->b∉wr/\b≠Z)(kw:List (Str×Value))(hn:0<n){s:Kh}{c:Nat}(st:St 0 s.heap)(hb:∀ b o,h0.get? b=some o->s.heap.get? b=some o)
  (hz:s.heap.get? Z=some { cls:=.type "list", dict:=none,data:=.seq #[] c,slots:=#[] })
  (hR:∀ v g tk,P (bestOf bt (n-1)) v->(∀ b o,b∉wr->b≠Z->s.heap.get? b=some o->g.get? b=some o)->R (.ok (.ret v)) { s with heap:=g,toks:=tk }) :
  aT (model prog w) A (.builtin "min.loop" ⟨[.ref it,.none,.ref Z],kw⟩) R s:=by
 have zw:Z∉wr:=λh=>hZ (W.sub _ h)
 have nm:(toString "min" ++ toString ".loop" : String) = "min.loop" := by decide
 refine Uy Ex ?_;rw [Ui UU _]
 show ai _ A.in1 (aY (.ref Z) >>= _) _ _ s
 refine Kc (Ut hz rfl ?_)
 show ai _ A.in1 (tryCatch (bh (.ref it)) _ >>= _) _ _ s
 refine Kc (UV (W.item 0 s _ _ hn st λy g tk hy st' k=>?_))
 have hz':=k Z _ zw hz
 show ai _ A.in1 (updateSeq Z (λ_=>#[y,y]) >>= _) _ _ _
 refine Kc (U8 hz' rfl ?_)
 rw [nm]
 refine Kn ⟨Ur UU _,qhW W bt hc Z hZ hw kw _ 0 _ y _ rfl hn (W.frame _ _ _ st' λb h1 o e=>(K3 _ _ (λh:Z=b=>hZ (by rw [h];exact h1))).trans e) hy
  (λb o e=>(K3 _ _ (λh:Z=b=>(hw b o e).2 h.symm)).trans (k b o (hw b o e).1 (hb b o e))) (UK _ hz' rfl) λv g2 tk2 h1 h2=>?_⟩
 exact hR v g2 tk2 h1 λb o n1 n2 e=>h2 b o n1 n2 ((K3 _ _ (λz=>n2 z.symm)).trans (k b o n1 e))
end
section
variable {s:Kh}{prog:KJ}{w:K1}{A:KY}{E:Kd->Kh->Prop}
theorem qkL {Q:Kd->Kh->Prop}(hh:A.handled=none)(hc:∀ (s':Kh) (Q' E':Kd->Kh->Prop),(∀ b o,s.heap.get? b=some o->s'.heap.get? b=some o)->Q' (.bool b) s'->ai (model prog w) A.in1 (aP .Lt y x) Q' E' s')
  (h:∀ g tk,(∀ b o,s.heap.get? b=some o->g.get? b=some o)->Q (if b=true then y else x) { s with heap:=g,toks:=tk }):ai (model prog w) A (call (.builtin "min") [x,y]) Q E s:=by
 have nm:(toString "min" ++ toString ".loop" : String) = "min.loop" := by decide
 have hT:(s.heap.push { cls:=.type "tuple", data:=.seq #[x,y] }).IsTuple s.heap.objs.size #[x,y]:=⟨_,Kv _ rfl,rfl,0,rfl⟩
 have z1:(s.heap.push { cls:=.type "tuple", data:=.seq #[x,y] }).objs.size=s.heap.objs.size+1:=Vp ..
 refine call_function_tree (id := "min") F.kind_min F.plain_min F.entry_min (F.args_min2 x y) ?_
 have par:U4 "min" ["key", "default"] 0 ⟨[],[]⟩=pure [none,none]:=rfl
 refine (Kc (EL par ?_):ai _ A.in1 (U4 "min" _ 0 _ >>= _) _ _ s)
 refine Kc (Vv ?_);refine Kc (Xt hT (Kc (Vv ?_)))
 rw [nm]
 have lt:∀ {b:Ke} {o:Obj},s.heap.get? b=some o->b<s.heap.objs.size:=λe=>KF e
 refine Kn ⟨Ur UU _,qgt (h0:=s.heap) (Walks.tuple (A:=A.in1) hh _ s.heap.objs.size (by rw [z1];exact KW (UF _)) #[x,y]) (λ_ _=>b) (λi j u v s' Q' E' hij k hu hv q=>?_) _ ?_ (λb o e=>?_) [] (by simp)
  ⟨⟨_,Ki _ (Kv _ rfl),rfl,rfl⟩,(hT.push _).push _⟩ (λb o e=>Ki _ (Ki _ (Ki _ e))) (Kv _ rfl) λv g tk hv k=>?_⟩
 ·dsimp only at hu hv
  have hi:i<2:=by
   rcases Fj i 2 with z|z
   ·exact z
   ·rw [UZ (by simpa using z)] at hu;cases hu
  obtain rfl:i=1:=by omega
  obtain rfl:j=0:=by omega
  cases hu
  cases hv
  exact hc s' Q' E' k q
 ·dsimp only
  simp only [Vp]
  intro hm;simp only [Kr,VN,aU] at hm
  rcases hm with hm|hm
  ·exact Ey _ hm
  ·exact absurd hm (UB (Vm (UF _)))
 ·have:=lt e
  simp only [Vp]
  exact ⟨λhm=>absurd (Ky.mp hm) (KW (Vm this)),KW (Vm (Vm this))⟩
 ·have hv':v=if b=true then y else x:=by
   cases b with
   | true=>cases hv;rfl
   | false=>cases hv;rfl
  rw [hv']
  refine h g tk λb o e=>k b o ?_ ?_ (Ki _ (Ki _ (Ki _ e)))
  ·have:=lt e
   simp only [Vp]
   exact λhm=>absurd (Ky.mp hm) (KW (Vm this))
  ·have:=lt e
   simp only [Vp]
   exact KW (Vm (Vm this))
end
def qbg (prog:KJ)(w:K1)(A:KY)(h0:KU)(P:Nat->Kd->Prop)(bt:Nat->Nat->Bool):Prop :=
 ∀ (i j:Nat) (x y:Kd) (s:Kh) (Q E:Kd->Kh->Prop),j<i->(∀ b o,h0.get? b=some o->s.heap.get? b=some o)->P i x->P j y->Q (.bool (bt i j)) s->ai (model prog w) A (aP .Gt x y) Q E s
section
variable {prog:KJ}{w:K1}{A:KY}{R:Result->Kh->Prop}{it:Ke}{fp wr:List Ke}{n:Nat}{P:Nat->Kd->Prop}{St:Nat->KU->Prop}{h0:KU}
theorem qhV (W:Walks prog w A.in1 it fp wr n P St)(bt:Nat->Nat->Bool)(hc:qbg prog w A.in1 h0 P bt)(Z:Ke)(hZ:Z∉fp)(hw:∀ b o,h0.get? b=some o->b∉wr/\b≠Z)(kw:List (Str×Value)) :
  ∀ (m j:Nat) (s:Kh) (x:Kd) (c:Nat),n-(j+1)=m->j+1<=n->St (j+1) s.heap->P (bestOf bt j) x->(∀ b o,h0.get? b=some o->s.heap.get? b=some o)->
  s.heap.get? Z=some { cls:=.type "list", dict:=none,data:=.seq #[x,x] c,slots:=#[] }->
  (∀ v g tk,P (bestOf bt (n-1)) v->(∀ b o,b∉wr->b≠Z->s.heap.get? b=some o->g.get? b=some o)->R (.ok (.ret v)) { s with heap:=g,toks:=tk })->
  aT (model prog w) A (.builtin "max.loop" ⟨[.ref it,.none,.ref Z],kw⟩) R s:=by
 have zw:Z∉wr:=λh=>hZ (W.sub _ h)
 have nm:(toString "max" ++ toString ".loop" : String) = "max.loop" := by decide
 intro m
 induction m with
 | zero =>
  intro j s x c hm hj st hP hb hz hR
  have last:j+1=n:=by omega
  refine Uy Ez ?_;rw [Ui UW _]
  show ai _ A.in1 (aY (.ref Z) >>= _) _ _ s
  refine Kc (Ut hz rfl ?_)
  show ai _ A.in1 (tryCatch (bh (.ref it)) _ >>= _) _ _ s
  refine Kc (UV (W.done s _ _ (last ▸ st) λg tk k=>?_))
  have hz':=k Z _ zw hz
  show ai _ A.in1 (updateSeq Z (λ_=>#[]) >>= _) _ _ _
  refine Kc (U8 hz' rfl (Kc (U0 (Kn ?_))))
  exact hR x _ tk (by rw [← last];exact hP) λb o h1 h2 e=>(K3 _ _ (λz=>h2 z.symm)).trans (k b o h1 e)
 | succ m ih =>
  intro j s x c hm hj st hP hb hz hR
  have more:j+1<n:=by omega
  refine Uy Ez ?_;rw [Ui UW _]
  show ai _ A.in1 (aY (.ref Z) >>= _) _ _ s
  refine Kc (Ut hz rfl ?_)
  show ai _ A.in1 (tryCatch (bh (.ref it)) _ >>= _) _ _ s
  refine Kc (UV (W.item (j+1) s _ _ more st λy g tk hy st' k=>?_))
  have hz':=k Z _ zw hz
  have hb':∀ b o,h0.get? b=some o->g.get? b=some o:=λb o e=>k b o (hw b o e).1 (hb b o e)
  show ai _ A.in1 (tryCatch (holding [y,y] (aP .Gt y x >>= _)) _ >>= _) _ _ _
  refine Kc (UV (V2 (Kc (hc (j+1) (bestOf bt j) y x _ _ _ (Nat.lt_succ_of_le (wQ bt j)) hb' hy hP ?_))))
  refine Kc (V2 (Ub (Kc (U0 (Kn ?_)))))
  cases hh:bt (j+1) (bestOf bt j) with
  | true =>
   simp only [aR]
   refine Kc (U8 hz' rfl (Kc (U0 ?_)))
   rw [nm]
   refine Kn ⟨Ur UW _,ih (j+1) _ y _ '$' more (W.frame _ _ _ st' λb h1 o e=>(K3 _ _ (λh:Z=b=>hZ (by rw [h];exact h1))).trans e) (by simp only [bestOf,hh,aR];exact hy)
    (λb o e=>(K3 _ _ (λh:Z=b=>(hw b o e).2 h.symm)).trans (hb' b o e)) (UK _ hz' rfl) λv g2 tk2 h1 h2=>?_⟩
   exact hR v g2 tk2 h1 λb o n1 n2 e=>h2 b o n1 n2 ((K3 _ _ (λz=>n2 z.symm)).trans (k b o n1 e))
  | false =>
   simp only [VJ,aM];refine Kc (U0 ?_)
   rw [nm]
   refine Kn ⟨Ur UW _,ih (j+1) _ x c '$' more st' (by simp only [bestOf,hh,VJ,aM];exact hP) hb' hz' λv g2 tk2 h1 h2=>?_⟩
   exact hR v g2 tk2 h1 λb o n1 n2 e=>h2 b o n1 n2 (k b o n1 e)
theorem qgs (W:Walks prog w A.in1 it fp wr n P St)(bt:Nat->Nat->Bool)(hc:qbg prog w A.in1 h0 P bt)(Z:Ke)(hZ:Z∉fp)(hw:∀ b o,h0.get? b=some o->b∉wr/\b≠Z)(kw:List (Str×Value))(hn:0<n){s:Kh}{c:Nat}(st:St 0 s.heap)(hb:∀ b o,h0.get? b=some o->s.heap.get? b=some o)
  (hz:s.heap.get? Z=some { cls:=.type "list", dict:=none,data:=.seq #[] c,slots:=#[] })
  (hR:∀ v g tk,P (bestOf bt (n-1)) v->(∀ b o,b∉wr->b≠Z->s.heap.get? b=some o->g.get? b=some o)->R (.ok (.ret v)) { s with heap:=g,toks:=tk }) :
  aT (model prog w) A (.builtin "max.loop" ⟨[.ref it,.none,.ref Z],kw⟩) R s:=by
 have zw:Z∉wr:=λh=>hZ (W.sub _ h)
 have nm:(toString "max" ++ toString ".loop" : String) = "max.loop" := by decide
 refine Uy Ez ?_;rw [Ui UW _]
 show ai _ A.in1 (aY (.ref Z) >>= _) _ _ s
 refine Kc (Ut hz rfl ?_)
 show ai _ A.in1 (tryCatch (bh (.ref it)) _ >>= _) _ _ s
 refine Kc (UV (W.item 0 s _ _ hn st λy g tk hy st' k=>?_))
 have hz':=k Z _ zw hz
 show ai _ A.in1 (updateSeq Z (λ_=>#[y,y]) >>= _) _ _ _
 refine Kc (U8 hz' rfl ?_)
 rw [nm]
 refine Kn ⟨Ur UW _,qhV W bt hc Z hZ hw kw _ 0 _ y _ rfl hn (W.frame _ _ _ st' λb h1 o e=>(K3 _ _ (λh:Z=b=>hZ (by rw [h];exact h1))).trans e) hy
  (λb o e=>(K3 _ _ (λh:Z=b=>(hw b o e).2 h.symm)).trans (k b o (hw b o e).1 (hb b o e))) (UK _ hz' rfl) λv g2 tk2 h1 h2=>?_⟩
 exact hR v g2 tk2 h1 λb o n1 n2 e=>h2 b o n1 n2 ((K3 _ _ (λz=>n2 z.symm)).trans (k b o n1 e))
end
section
variable {s:Kh}{prog:KJ}{w:K1}{A:KY}{E:Kd->Kh->Prop}
theorem qkK {Q:Kd->Kh->Prop}(hh:A.handled=none)(hc:∀ (s':Kh) (Q' E':Kd->Kh->Prop),(∀ b o,s.heap.get? b=some o->s'.heap.get? b=some o)->Q' (.bool b) s'->ai (model prog w) A.in1 (aP .Gt y x) Q' E' s')
  (h:∀ g tk,(∀ b o,s.heap.get? b=some o->g.get? b=some o)->Q (if b=true then y else x) { s with heap:=g,toks:=tk }):ai (model prog w) A (call (.builtin "max") [x,y]) Q E s:=by
 have nm:(toString "max" ++ toString ".loop" : String) = "max.loop" := by decide
 have hT:(s.heap.push { cls:=.type "tuple", data:=.seq #[x,y] }).IsTuple s.heap.objs.size #[x,y]:=⟨_,Kv _ rfl,rfl,0,rfl⟩
 have z1:(s.heap.push { cls:=.type "tuple", data:=.seq #[x,y] }).objs.size=s.heap.objs.size+1:=Vp ..
 refine call_function_tree (id := "max") F.kind_max F.plain_max F.entry_max (F.args_max2 x y) ?_
 have par:U4 "max" ["key", "default"] 0 ⟨[],[]⟩=pure [none,none]:=rfl
 refine (Kc (EL par ?_):ai _ A.in1 (U4 "max" _ 0 _ >>= _) _ _ s)
 refine Kc (Vv ?_);refine Kc (Xt hT (Kc (Vv ?_)))
 rw [nm]
 have lt:∀ {b:Ke} {o:Obj},s.heap.get? b=some o->b<s.heap.objs.size:=λe=>KF e
 refine Kn ⟨Ur UW _,qgs (h0:=s.heap) (Walks.tuple (A:=A.in1) hh _ s.heap.objs.size (by rw [z1];exact KW (UF _)) #[x,y]) (λ_ _=>b) (λi j u v s' Q' E' hij k hu hv q=>?_) _ ?_ (λb o e=>?_) [] (by simp)
  ⟨⟨_,Ki _ (Kv _ rfl),rfl,rfl⟩,(hT.push _).push _⟩ (λb o e=>Ki _ (Ki _ (Ki _ e))) (Kv _ rfl) λv g tk hv k=>?_⟩
 ·dsimp only at hu hv
  have hi:i<2:=by
   rcases Fj i 2 with z|z
   ·exact z
   ·rw [UZ (by simpa using z)] at hu;cases hu
  obtain rfl:i=1:=by omega
  obtain rfl:j=0:=by omega
  cases hu
  cases hv
  exact hc s' Q' E' k q
 ·dsimp only
  simp only [Vp]
  intro hm;simp only [Kr,VN,aU] at hm
  rcases hm with hm|hm
  ·exact Ey _ hm
  ·exact absurd hm (UB (Vm (UF _)))
 ·have:=lt e
  simp only [Vp]
  exact ⟨λhm=>absurd (Ky.mp hm) (KW (Vm this)),KW (Vm (Vm this))⟩
 ·have hv':v=if b=true then y else x:=by
   cases b with
   | true=>cases hv;rfl
   | false=>cases hv;rfl
  rw [hv']
  refine h g tk λb o e=>k b o ?_ ?_ (Ki _ (Ki _ (Ki _ e)))
  ·have:=lt e
   simp only [Vp]
   exact λhm=>absurd (Ky.mp hm) (KW (Vm this))
  ·have:=lt e
   simp only [Vp]
   exact KW (Vm (Vm this))
end
section
variable {X:Cx}
noncomputable def Jw:List Ka->Option Ka
 | [x,y]=>if K7 x=true/\K7 y=true/\y.depth<=50 then ob (ltX y x) λr=>some (if r=true then y else x) else none
 | _=>none
noncomputable def Jv:List Ka->Option Ka
 | [x,y]=>if K7 x=true/\K7 y=true/\y.depth<=50 then ob (gtX y x) λr=>some (if r=true then y else x) else none
 | _=>none
theorem qi8 (hr:Room k X.A):CallD X (.builtin "min") Jw:=λaa s σ H xs us Q I r ⟨S,ds,d,m,h1,e,q⟩=>by
 unfold Jw at e
 split at e
 ·split at e
  ·rename_i hc
   obtain ⟨b,e1,e⟩:=qd e
   cases e
   obtain ⟨v1,v2,rfl,d1,d2⟩:=h1.inv2
   obtain ⟨u1,u2,rfl,r1,r2⟩:=vals2 r
   obtain ⟨as,q1⟩:=d1.reads I (K5 hc.1) r1
   obtain ⟨bs,q2⟩:=d2.reads I (K5 hc.2.1) r2
   have hu:=hr.units
   refine qkL (b:=b) hr.hd (λs' Q' E' k q'=>Yi 50 _ _ X.A.in1 s' u2 u1 bs as b hc.2.2 (Reads.keeps k q2) (Reads.keeps k q1) (K5 hc.2.1) (K5 hc.1) (by show X.A.units+1+50+1<aI;omega) e1 X.prog X.w E' Q' q') λg tk k=>?_
   cases b with
   | true=>exact ⟨v2,H,I.kept k,r2,q _ H (Same.refl H) d2⟩
   | false=>exact ⟨v1,H,I.kept k,r1,q _ H (Same.refl H) d1⟩
  ·cases e
 ·cases e
theorem qi7 (hr:Room k X.A):CallD X (.builtin "max") Jv:=λaa s σ H xs us Q I r ⟨S,ds,d,m,h1,e,q⟩=>by
 unfold Jv at e
 split at e
 ·split at e
  ·rename_i hc
   obtain ⟨b,e1,e⟩:=qd e
   cases e
   obtain ⟨v1,v2,rfl,d1,d2⟩:=h1.inv2
   obtain ⟨u1,u2,rfl,r1,r2⟩:=vals2 r
   obtain ⟨as,q1⟩:=d1.reads I (K5 hc.1) r1
   obtain ⟨bs,q2⟩:=d2.reads I (K5 hc.2.1) r2
   have hu:=hr.units
   refine qkK (b:=b) hr.hd (λs' Q' E' k q'=>qeg 50 _ _ X.A.in1 s' u2 u1 bs as b hc.2.2 (Reads.keeps k q2) (Reads.keeps k q1) (K5 hc.2.1) (K5 hc.1) (by show X.A.units+1+50+1<aI;omega) e1 X.prog X.w E' Q' q') λg tk k=>?_
   cases b with
   | true=>exact ⟨v2,H,I.kept k,r2,q _ H (Same.refl H) d2⟩
   | false=>exact ⟨v1,H,I.kept k,r1,q _ H (Same.refl H) d1⟩
  ·cases e
 ·cases e
theorem qaJ (x y:Ka):Jw [x,y]=if K7 x=true/\K7 y=true/\y.depth<=50 then ob (ltX y x) λr=>some (if r=true then y else x) else none:=rfl
theorem qaI (x y:Ka):Jv [x,y]=if K7 x=true/\K7 y=true/\y.depth<=50 then ob (gtX y x) λr=>some (if r=true then y else x) else none:=rfl
theorem qh1 (i j:Int):Jw [.int i,.int j]=some (.int (if j<i then j else i)):=by
 have c:K7 (.int i)=true/\K7 (.int j)=true/\(Kj j).depth<=50:=⟨rfl,rfl,Vj _⟩
 rw [qaJ,ag c,ltX]
 by_cases h:j<i
 ·rw [ag h,ae h];rfl
 ·rw [ah h,ab h];rfl
theorem qh0 (i j:Int):Jv [.int i,.int j]=some (.int (if j > i then j else i)):=by
 have c:K7 (.int i)=true/\K7 (.int j)=true/\(Kj j).depth<=50:=⟨rfl,rfl,Vj _⟩
 rw [qaI,ag c,gtX]
 by_cases h:j > i
 ·rw [ag h,ae h];rfl
 ·rw [ah h,ab h];rfl
end
section
variable {prog:KJ}{w:K1}{A:KY}{E:Kd->Kh->Prop}{s:Kh}
theorem qd8 {od:Obj}  {Q:Kd->Kh->Prop} (hd:(d==aV)=false) (ho:s.heap.get? d=some od) (hx:od.ExactDict) (hdat:od.data=.dict es ep)
  (h:Q (.ref s.heap.objs.size) { s with heap:=s.heap.push { cls:=.type "dict_items", data:=.fields #[.ref d] } }):ai (model prog w) A (call (.builtin "dict.items") [.ref d]) Q E s:=by
 have hT:s.TypeIs (.ref d) "dict" := ⟨od,ho,hx.1⟩
 refine V6 E2 hT F.entry_dict_items (id ?_) (F.args_dict_items_1 _)
 unfold UP.«dict.items»
 refine Kc (id ?_)
 unfold Builtin.Dict.noArgs
 refine Kc (wpAny_notOrdered_dict hT (id ?_:ai _ _ (pure d) _ _ s))
 refine Kn (id ?_:ai _ _ (Builtin.Dict.showsAll d >>= _) _ _ s)
 unfold Builtin.Dict.showsAll
 rw [ah (λz=>by rw [hd] at z;cases z)]
 refine Kc (Kn (id ?_))
 exact Kc (Vv (Kn ⟨_,rfl,h⟩))
theorem qhL {od:Obj}  {Q:Kd->Kh->Prop} (hv:s.heap.IsItemsView v d) (ho:s.heap.get? d=some od) (hdat:od.data=.dict es ep)
  (hQ:Q (.ref s.heap.objs.size) { s with heap:=s.heap.push { cls:=.type "dict_itemiterator", data:=.fields #[.none,.bool false,.ref d,.int 0 0,.int es.size 0,.int ep 0,.none,.none] } }):ai (model prog w) A (pyIter (.ref v)) Q E s:=by
 obtain ⟨ov,hov,hcv,hdv⟩:=id hv
 refine wpAny_pyIter_slot hv.typeIs F.slot_dict_items_iter (V6 F.slot_dict_items_iter hv.typeIs F.entry_dict_items_iter (id ?_) (F.args_dict_items_iter_1 _))
 unfold UP.«dict_items.__iter__»
 refine Kc (Kn (Kc (id ?_)))
 unfold Builtin.Dict_items.dictOf
 refine Kc (UM hov hdv (x:=.ref d) rfl (Kn (Kc (id ?_))))
 unfold Builtin.Dict_items.newIterator
 refine Kc (Ei ho hdat (Kc (EI ho hdat (id ?_))))
 have hown:XD "dict_itemiterator" = true:=by decide
 simp only [hown,aR];refine Vv (Kn ⟨_,rfl, "dict_itemiterator", _,⟨_,Kv _ rfl,rfl⟩,V7.lookup,?_⟩) (by simp only [sizeOk,X9,KA,Km,Kz,V5,Xh];omega)
 simpa [be,X9] using hQ
theorem qbe {od:Obj}{es:Array Xn}  {Q:Option Kd->Kh->Prop} (hit:U1 s.heap it d i es.size ep ok ov) (hod:s.heap.get? d=some od) (hdd:od.data=.dict es ep) (hx:es[i]?=some en)
  (hQ:∀ h',IsItemIterOut h' it d (i+1) es.size ep en.key en.val s.heap.objs.size->h'.get? s.heap.objs.size=some { cls:=.type "tuple", data:=.seq #[en.key,en.val] }->
   (∀ b o,b≠it->s.heap.get? b=some o->h'.get? b=some o)->Q (some (.ref s.heap.objs.size)) { s with heap:=h' }):ai (model prog w) A (bh (.ref it)) Q E s:=by
 obtain ⟨hp,g,dr,tk,os⟩:=s
 have hT:Shared.TypeIs ⟨hp,g,dr,tk,os⟩ (.ref it) "dict_itemiterator" := ⟨_,hit,rfl⟩
 unfold bh
 refine Kc (wpAny_attempt (US (name:=Kg "__next__") hT V7 (V6 V7 hT NJ (Kc (Kn (Kc (Kc ?_)))) (Nw _))))
 first|refine Kc (UO hT (Kn (Kc (NT hit rfl ?_))))|refine Kc (Xf hT (Kn (Kc (NT hit rfl ?_))))
 have hown:XD "dict_itemiterator" = true:=by decide
 simp only [hown,aR];refine (id ?_:ai _ _ (if (Ve d==VF)=true then _ else _) _ _ _)
 rw [ah (λz=>VI z:¬ ((Ve d==VF)=true))]
 refine Kc (Kn (Kc (Ei hod hdd ?_)))
 rw [ah (by simp)];refine Kc (Kn (Kc (EI hod hdd ?_)))
 rw [ah (by simp)];refine Kn (id ?_)
 have hlt':i<es.size:=(Ea.mp hx).1
 have hee:es[i]=en:=(Ea.mp hx).2
 simp only [show ¬ ((i:Int)<0) from by omega,aM,Vl,VU hlt',hee];refine Kc (id ?_)
 first|refine Kc (UO hT (Kn (Kc (Xz hT ?_))))|refine Kc (Xf hT (Kn (Kc (Xz hT ?_))))
 refine (Kc (Xv hit (by simp) λh₁ he₁ hs₁=>?_):ai _ _ (setField (.ref it) 3 (be ((i:Int)+1)) >>= _) _ _ ⟨hp,g,dr,tk,os⟩)
 have hs₁:UA it hp h₁:=hs₁
 have he₁:U1 h₁ it d (i+1) es.size ep ok ov:=by
  have e:((i+1:Nat):Int)=(i:Int)+1:=by omega
  unfold U1;rw [e];simpa [be] using he₁
 have hT₁:Shared.TypeIs ⟨h₁,g,dr,tk,os⟩ (.ref it) "dict_itemiterator" := ⟨_,he₁,rfl⟩
 refine Kc (V2 (Kc (Xz hT₁ (Kc (Xz hT₁ ?_)))))
 refine (id ?_:ai _ _ (Np (.ref it) 6 en.key en.val) _ _ ⟨h₁,g,dr,tk,os⟩)
 unfold Np
 refine Kc (EU (id ?_))
 have he₂:U1 (h₁.push { cls:=.type "tuple", data:=.seq #[en.key,en.val] }) it d (i+1) es.size ep ok ov:=Ki _ he₁
 generalize hh₂:h₁.push { cls:=.type "tuple", data:=.seq #[en.key,en.val] }=h₂ at he₂
 have hz₁:h₁.objs.size=hp.objs.size:=hs₁.1
 have hil:it<hp.objs.size:=KF hit
 have ht₂:h₂.get? hp.objs.size=some { cls:=.type "tuple", data:=.seq #[en.key,en.val] }:=by rw [← hh₂,← hz₁];exact Kv _ rfl
 have hk₂:∀ b o,b≠it->hp.get? b=some o->h₂.get? b=some o:=λb o hb e=>by rw [← hh₂];exact Ki _ (hs₁.extBut b o hb e)
 refine (id ?_:ai _ _ (Na (.ref it) >>= _) _ _ ⟨h₂,g,dr,tk,os⟩)
 rw [hz₁]
 refine Kc (id ?_);unfold Na
 refine Kc (UM he₂ rfl (x:=.none) rfl (Kn (id ?_)));simp only [aR]
 refine Kc (UM he₂ rfl (x:=ok) rfl (Kc (UM he₂ rfl (x:=ov) rfl (Kc (Xv he₂ (by simp) λh₃ he₃ hs₃=>?_)))))
 have hs₃:UA it h₂ h₃:=hs₃
 have he₃:U1 h₃ it d (i+1) es.size ep en.key ov:=he₃
 refine Kc (Xv he₃ (by simp) λh₄ he₄ hs₄=>(id ?_))
 have hs₄:UA it h₃ h₄:=hs₄
 have he₄:U1 h₄ it d (i+1) es.size ep en.key en.val:=he₄
 refine Kc (Xv he₄ (by simp) λh₅ he₅ hs₅=>(id ?_))
 have hs₅:UA it h₄ h₅:=hs₅
 have he₅:IsItemIterOut h₅ it d (i+1) es.size ep en.key en.val hp.objs.size:=he₅
 refine Kc (Xv he₅ (by simp) λh₆ he₆ hs₆=>(id ?_))
 have hs₆:UA it h₅ h₆:=hs₆
 have he₆:IsItemIterOut h₆ it d (i+1) es.size ep en.key en.val hp.objs.size:=he₆
 have kk:∀ b o,b≠it->h₂.get? b=some o->h₆.get? b=some o:=λb o hb e=>hs₆.extBut b o hb (hs₅.extBut b o hb (hs₄.extBut b o hb (hs₃.extBut b o hb e)))
 exact Kc (U0 (Kn (Kn ⟨_,rfl,Kn (hQ h₆ he₆ (kk _ _ (UB hil) ht₂) λb o hb e=>kk b o hb (hk₂ b o hb e))⟩)))
theorem qcy {od:Obj}{es:Array Xn}  {Q:Option Kd->Kh->Prop} (hh:A.handled=none) (hit:U1 s.heap it d i es.size ep ok ov) (hod:s.heap.get? d=some od) (hdd:od.data=.dict es ep) (hge:es.size<=i)
  (hQ:∀ h',Heap.ExtBut it s.heap h'->Q none { s with heap:=h' }):ai (model prog w) A (bh (.ref it)) Q E s:=by
 have hT:s.TypeIs (.ref it) "dict_itemiterator" := ⟨_,hit,rfl⟩
 unfold bh
 refine Kc (wpAny_attempt (US (name:=Kg "__next__") hT V7 (V6 V7 hT NJ (Kc (Kn (Kc (Kc ?_)))) (Nw _))))
 first|refine Kc (UO hT (Kn (Kc (NT hit rfl ?_))))|refine Kc (Xf hT (Kn (Kc (NT hit rfl ?_))))
 have hown:XD "dict_itemiterator" = true:=by decide
 simp only [hown,aR];refine (id ?_:ai _ _ (if (Ve d==VF)=true then _ else _) _ _ s)
 rw [ah (λz=>VI z:¬ ((Ve d==VF)=true))]
 refine Kc (Kn (Kc (Ei hod hdd ?_)))
 rw [ah (by simp)];refine Kc (Kn (Kc (EI hod hdd ?_)))
 rw [ah (by simp)];refine Kn (id ?_)
 simp only [show ¬ ((i:Int)<0) from by omega,aM,Vl,UZ hge];refine Kc (id ?_)
 first|refine Kc (UO hT (Kn (id ?_)))|refine Kc (Xf hT (Kn (id ?_)))
 refine (Kc (EX hit rfl (by simp) ?_):ai _ _ (setField (.ref it) 2 .none >>= _) _ _ s)
 refine (Kc ?_:ai _ _ (newExc (.type "StopIteration") [] >>= _) _ _ _)
 simp only [newExc,newTuple]
 refine Kc (Vv (Kc (m:=bw _ _) (EL (a:=VF) (by first|rfl|(simp only [bw];rfl)) (Vv ?_ (by size_fits)))) (by size_fits))
 simp only [raiseNew];refine Kc (wpAny_handled (id ?_))
 rw [show A.in1.handled=none from hh];refine Kc (Kn (wpAny_throw (id ?_)))
 exact Kc (Et (T := "StopIteration") (b:=true) ⟨_,Kv _ rfl,rfl⟩ isSubtype_stop (Kn (hQ _ (((Heap.SameBut.update ..).extBut.push _).push _))))
theorem WD:entryFor table "dict_itemiterator.__iter__" = some UP.«dict_keyiterator.__iter__»:=entryFor_alias (id' := "dict_keyiterator.__iter__") (by kernel_rfl) rfl '%' (by kernel_rfl)
theorem qeG  (hit:U1 s.heap it d i n ep ok ov) (h:Q (.ref it) s):ai (model prog w) A (pyIter (.ref it)) Q E s:=by
 have hT:s.TypeIs (.ref it) "dict_itemiterator" := ⟨_,hit,rfl⟩
 refine wpAny_pyIter_slot hT NN (V6 NN hT WD (id ?_:ai _ _ (ret (.ref it)) _ _ s) (F.args_dict_itemiterator_iter_1 _))
 exact Kn ⟨_,rfl, "dict_itemiterator", _,hT,V7.lookup,h⟩
end
noncomputable def Itm (a:Ke)(kvs:List (KX×Addr×V))(ep:Nat):It :=
 ⟨λi H=>H a=some (DctO a kvs ep)/\i<kvs.length,λi H x H'=>∃ p q,H p=none/\x=.ref p/\kvs[i]?=some q/\H'=upd H p (.tup [kxV q.1 q.2.1,q.2.2]),λi H=>H a=some (DctO a kvs ep)/\kvs.length<=i⟩
theorem qeO {P:KJ}{w:K1}{K:Kb}{ts:List KD}{kk:Nat}{tp:Pos}(a it:Ke)(kvs:List (KX×Addr×V))(ep:Nat):Turn P w K (.Tuple ts kk tp) (Itm a kvs ep) [it] it (λi h=>∃ ok ov,U1 h it a i kvs.length ep ok ov) where
 mem:=by simp
 obj:=λi h ⟨ok,ov,st⟩ b hb=>by
  have e:b=it:=by simpa using hb
  subst e
  exact ⟨_,st,λv z=>by cases z⟩
 keep:=λi h h' ⟨ok,ov,st⟩ k=>⟨ok,ov,k it (by simp) _ st⟩
 item:=by
  intro X hP hw hK hc i aa s σ H E I hf st hg
  subst hP hw hK
  obtain ⟨hq,hlt⟩:=hg
  obtain ⟨ok,ov,st⟩:=st
  obtain ⟨o,es,h1,h2,h3,hsz,hkey⟩:=yc (QD.of (I.hok a _ hq))
  obtain ⟨en,he,hk,hv⟩:=hkey i kvs[i] (Kl hlt)
  obtain ⟨f0,f1,f2,f3,f4,f5⟩:=hf it (by simp)
  have st':U1 s.heap it a i es.size ep ok ov:=by rw [hsz];exact st
  refine qbe st' h1 h3 he λh' sto ht kb=>⟨_,rfl,wpAny_letOwnedTupleGo_items sto λh2 he2 hs2=>?_⟩
  have hs2:UA it h' h2:=hs2
  have k2:∀ c o,c≠it->h'.get? c=some o->h2.get? c=some o:=λc o hc q=>(hs2.2 c hc).trans q
  have I1:Inv X aa σ H { s with heap:=h2,toks:=s.toks }:=I.turned (t':=s.toks) (λb o hb e=>k2 b o hb (kb b o hb e)) f0 f1 f3 f4 f5
  have hn:H s.heap.objs.size=none:=I.hok.fresh (Kq _)
  have fT:FpOk X aa H s.heap.objs.size:=I.fpOk (Kq _) hn
  have neT:s.heap.objs.size≠it:=UB (KF st)
  have ok2:Qt X.prog X.w (upd H s.heap.objs.size (.tup [kxV kvs[i].1 kvs[i].2.1,kvs[i].2.2])) h2 s.heap.objs.size (.tup [kxV kvs[i].1 kvs[i].2.1,kvs[i].2.2]) :=
   ⟨VP (zO (show 2<=1000 by decide)),[en.key,en.val],.cons hk (.cons hv .nil),⟨_,k2 _ _ neT ht,rfl,_,rfl⟩⟩
  refine ⟨.ref s.heap.objs.size,_,I1.track hn fT.2.1 fT.2.2.2.1 fT.2.2.2.2.1 fT.2.2.2.2.2 ok2,rfl,⟨_,kvs[i],hn,rfl,Kl hlt,rfl⟩,⟨_,_,by rw [hsz] at he2;exact he2⟩,λc hc=>?_⟩
  have:=Ky.mp hc
  subst this
  rw [qW (Ul neT)];exact f0
 done:=by
  intro X hP hw hK hc i aa s σ H E I hf st hg
  subst hP hw hK
  obtain ⟨hq,hge⟩:=hg
  obtain ⟨ok,ov,st⟩:=st
  obtain ⟨o,es,h1,h2,h3,hsz,hkey⟩:=yc (QD.of (I.hok a _ hq))
  obtain ⟨f0,f1,f2,f3,f4,f5⟩:=hf it (by simp)
  have st':U1 s.heap it a i es.size ep ok ov:=by rw [hsz];exact st
  exact qcy (I.ok.hd hc) st' h1 h3 '$' λh' eb=>⟨rfl,I.turned (t':=s.toks) (λb o hb e=>eb b o hb e) f0 f1 f3 f4 f5⟩
 self:=λ_ _ _ _ _ st h=>qeG st.choose_spec.choose_spec h
noncomputable def iItm (tl:TE):TI:=λσ H R=>tl σ H λx H1=>∃ a kvs ep,x=.ref a/\H1 a=some (DctO a kvs ep)/\R (Itm a kvs ep) H1
section
variable {X:Cx}{M:List Nat}{a:KD}{f:'&'}{ts:List KD}{kk:Nat}{tp apos cpos:Pos}
theorem qiu {tl:TE}(hl:PE X a tl)(hbase:aG a "items" X.env (eval a X.env)=eval a X.env:=by rfl)
  (hfew:((aA cpos (af [] X.env)).all (λx=>!x.1)&&(aZ cpos (aQ [] X.env)).all (λx=>x.1.isSome)
   && decide (([]:List KD).length+([]:List UJ).length+(if ([]:List UJ).isEmpty then 0 else 1)<30))=true:=by rfl)
  (hline:(apos.endLine==cpos.line)=true:=by rfl) (htr:aA cpos (af [] X.env)=[]:=by rfl) :
  PI X (.Tuple ts kk tp) (.Call (.Attribute a "items" apos) [] [] cpos) (iItm tl):=by
 intro aa s σ H R I h
 refine wpAny_Call_method hbase hfew hline PySem.F.plainAttrs_dict E2 PySem.F.type_dict_items (thn (hl aa s σ H _ I h) λv s1 ⟨xv,H1,I1,rx,p,kvs,ep,ex,hq,q⟩=>?_)
 subst ex
 obtain rfl:v=Ve p:=rx
 have d:=QD.of (I1.hok p _ hq)
 obtain ⟨o,es,h1,h2,h3,hsz,_⟩:=yc d
 refine ⟨⟨o,h1,h2.1⟩,λa' q'=>?_,?_⟩
 ·cases q'
  exact ⟨o,h1,h2.2.1⟩
 rw [htr]
 refine Calls.callWith_builtin rfl (Fc ?_)
 refine qd8 d.2.1 h1 h2 h3 ?_
 have hp1:(s1.heap.push { cls:=.type "dict_items", data:=.fields #[.ref p] }).get? p=some o:=Ki _ h1
 refine qhL (d:=p) ⟨_,Kv _ rfl,rfl,rfl⟩ hp1 h3 ?_
 have I2:Inv X aa σ H1 { s1 with heap:=(s1.heap.push { cls:=.type "dict_items", data:=.fields #[.ref p] }) }:=I1.kept (t':=s1.toks) λb o e=>Ki _ e
 rw [hsz]
 refine ⟨(s1.heap.push { cls:=.type "dict_items", data:=.fields #[.ref p] }).objs.size,[(s1.heap.push { cls:=.type "dict_items", data:=.fields #[.ref p] }).objs.size],_,_,H1,rfl,I2.kept (t':=s1.toks) λb o e=>Ki _ e,qeO p _ kvs ep,⟨_,_,Kv _ rfl⟩,λb hb=>?_,q⟩
 have e:b=(s1.heap.push { cls:=.type "dict_items", data:=.fields #[.ref p] }).objs.size:=by simpa using hb
 subst e
 exact I2.fpOk (Kq _) (I2.hok.fresh (Kq _))
noncomputable def qel:Ka->Option (List Ka)
 | .dict kvs=>if excK kvs=true then none else some (kvs.map λp=>.tuple [p.1,p.2])
 | _=>none
theorem qjp {kvs:List (KX×Addr×V)}{ds:'('}{i:Nat}{d:Ka}(h:((dkv kvs ds).map λp=>Vi [p.1,p.2])[i]?=some d):∃ q e,kvs[i]?=some q/\ds[i]?=some e/\d=.tuple [kxD q.1,e]:=by
 unfold dkv at h
 rw [Kw] at h
 obtain ⟨z,hz,rfl⟩:=XA.mp h
 rw [XU,Kw] at hz
 obtain ⟨h1,h2⟩:=hz
 obtain ⟨q,hq,e⟩:=XA.mp h1
 exact ⟨q,z.2,hq,h2,by rw [e]⟩
theorem IsIt.itm {K:Kb}{H:Hp}{S:Av}{l:Ke}{kvs:List (KX×Addr×V)}{ep:Nat}{ds:'('}(h:H l=some (DctO l kvs ep))(k:DenL K H S (kvs.map λp=>kxV p.1 p.2.1) (kvs.map λp=>kxD p.1))(t:DenL K H S (kvs.map (·.2.2)) ds)(hl:kvs.length=ds.length):IsIt K S (Itm l kvs ep) H ((dkv kvs ds).map λp=>.tuple [p.1,p.2]) where
 go:=λi H' e hi=>⟨e _ _ h,by rw [Kf] at hi;unfold dkv at hi;rw [NI,Kf] at hi;omega⟩
 yld:=λi H' x H2 e ⟨p,q,hp,ex,hq,e2⟩=>by
  subst ex e2
  refine ⟨Same.lay hp,λd hd S' w=>?_⟩
  obtain ⟨q',de,g1,g2,rfl⟩:=qjp hd
  rw [hq] at g1
  cases g1
  obtain ⟨v,k1,k2⟩:=k.get (i:=i) (d:=kxD q.1) (by rw [Kw,hq];rfl)
  rw [Kw,hq] at k1
  cases k1
  obtain ⟨v,t1,t2⟩:=t.get g2
  rw [Kw,hq] at t1
  cases t1
  exact .tuple (SqT.of qY) (.cons (w _ _ k2) (.cons (w _ _ t2) .nil))
 stop:=λH' e=>⟨e _ _ h,by rw [Kf];unfold dkv;rw [NI,Kf];omega⟩
theorem qgA (ha:PD X M a f)(hbase:aG a "items" X.env (eval a X.env)=eval a X.env:=by rfl)
  (hfew:((aA cpos (af [] X.env)).all (λx=>!x.1)&&(aZ cpos (aQ [] X.env)).all (λx=>x.1.isSome)
   && decide (([]:List KD).length+([]:List UJ).length+(if ([]:List UJ).isEmpty then 0 else 1)<30))=true:=by rfl)
  (hline:(apos.endLine==cpos.line)=true:=by rfl) (htr:aA cpos (af [] X.env)=[]:=by rfl):PDI X M (.Tuple ts kk tp) (.Call (.Attribute a "items" apos) [] [] cpos) (evI f qel) :=
 (qiu ha hbase hfew hline htr).weak λσ H R ⟨S,ρ,ds,hs,e,w⟩=>by
  obtain ⟨x,e1,e⟩:=qd e
  refine ⟨S,ρ,x,hs,e1,λv H1 g1 d1=>?_⟩
  cases d1 with
  | @dict p kvs ep ds' h k t =>
   have hl:kvs.length=ds'.length:=by
    have:=t.length
    rwa [Kf] at this
   have e:(if excK (dkv kvs ds')=true then none else some ((dkv kvs ds').map λp=>Vi [p.1,p.2]))=some ds:=e
   rw [qc6] at e
   cases e
   exact ⟨p,kvs,ep,rfl,h.1,w _ _ g1 λH2 o=>IsIt.itm (o _ _ h.2 h.1) (k.off (hs.1.same g1) o) (t.off (hs.1.same g1) o) hl⟩
  | _=>cases e
end
section
variable {X:Cx}{M:List Nat}{a b:KD}{f fk:'&'}{pos:Pos}
noncomputable def qc1 (k v:Ka):Option Ka:=match k with
 | .int i=>some (.dict [(.int i,v)])
 | _=>none
theorem qeb (e:qc1 k v=some d):∃ i,k=.int i/\d=.dict [(.int i,v)]:=by
 unfold qc1 at e
 split at e
 ·cases e;exact ⟨_,rfl,rfl⟩
 ·cases e
theorem qiq (hk:PD X M a fk)(hv:PD X M b f):PF X M (.Dict [some a] [b] pos) (ev2 fk f qc1):=λaa s σ H Q I ⟨S,ρ,d,hs,e,q⟩=>by
 obtain ⟨x,e1,e⟩:=qd e
 obtain ⟨y,e2,e⟩:=qd e
 obtain ⟨i,rfl,rfl⟩:=qeb e
 have hb:aV<s.heap.objs.size:=Es '#' (show aj<s.heap.objs.size from (I.mod.glob.keeps I.bk).lt)
 have hn:=I.hok.fresh (Kq s.heap.objs.size)
 have dct:QD s.heap.objs.size [] 0 (s.heap.push { cls:=.type "dict", data:=.dict #[] }):=⟨Vj _,ar.mpr (Ul (KW hb)),.inl ⟨[],.nil,_,#[],Kv _ rfl,⟨rfl,rfl,rfl⟩,rfl,rfl,X7⟩⟩
 have I1:=I.laid (a:=s.heap.objs.size) (o:=DctO s.heap.objs.size [] 0) (t':=s.toks) (λ_ _ q=>Ki _ q) (Kq _) dct.ok
 have g0:Same H (upd H s.heap.objs.size (DctO s.heap.objs.size [] 0)):=Same.lay hn
 have o0:OwnO X.K (upd H s.heap.objs.size (DctO s.heap.objs.size [] 0)) (insA S s.heap.objs.size) s.heap.objs.size (.dict []):=.dct (kvs:=[]) (ds:=[]) qY .nil .nil
 have hs1:=hs.insO g0 hn o0
 refine wpAny_Dict_walk (knd:=bA X.prog X.w) rfl rfl (by simp) (show 1<=15 by decide) (pairTrees_cons_walk (thn (hk aa _ σ _ (λv H2=>Same (upd H s.heap.objs.size (DctO s.heap.objs.size [] 0)) H2/\Den X.K H2 (insA S s.heap.objs.size) v (.int i)) I1 ⟨_,ρ,_,hs1,e1,λv H2 g d=>⟨g,d⟩⟩) λu s1 ⟨kv,H2,I2,rk,g2,dk⟩ =>
  thn (hv aa s1 σ H2 (λv H3=>Same H2 H3/\Den X.K H3 (insA S s.heap.objs.size) v y) I2 ⟨_,ρ,_,hs1.same g2,e2,λv H3 g d=>⟨g,d⟩⟩) λw2 s2 ⟨vv,H3,I3,rv,g3,dv⟩=>pairTrees_nil_walk ?_))
 obtain ⟨rfl,t',rfl⟩:=Y7 dk rk
 have hp3:H3 s.heap.objs.size=some (DctO s.heap.objs.size [] 0):=g3 _ _ (g2 _ _ qY)
 obtain ⟨_,hsys,vs,pk,dd⟩:=YL I3 hp3 (λp hp=>by cases hp)
 cases pk
 refine ⟨[(i,w2)],⟨X8 _ _ i t',rfl,Us⟩,dd,λh' dd' hs'=>?_⟩
 obtain ⟨o,es,ep',k1,k2,k3,k4,k4',k5⟩:=dd'
 have dct':QD s.heap.objs.size [(.inl i,0,vv)] ep' h':=⟨VP (zO (show 1<=1000 by decide)),hsys,.inr ⟨[(i,w2)],.cons ⟨rfl,rv⟩ .nil,o,es,k1,k2,k3,Yk k4' λe he=>k4 e (XH.mp he),k5⟩⟩
 refine ⟨.ref s.heap.objs.size,_,I3.write (x:=s.heap.objs.size) (e:=s.heap.objs.size) (by rw [hp3];exact Us) (.inl rfl) (λc o' hc e=>(hs'.2 c hc).trans e) ⟨o,k1⟩ dct'.ok,rfl,?_⟩
 refine q _ _ (λc o' hc=>?_) hn ?_
 ·rw [qW (Qp hc hn)]
  exact g3 _ _ (g2 _ _ (g0 _ _ hc))
 ·refine .dct (kvs:=[(.inl i,0,vv)]) (ds:=[y]) qY (.cons (.int i) .nil) ((DenL.cons dv .nil).off ?_ (Off.upd (.inr rfl)))
  exact (hs1.1.same g2).same g3
end
noncomputable def truD:Ka->Option Bool
 | .bool b=>some b
 | .none=>some false
 | .int i=>some (i != 0)
 | .list ds=>some (!ds.isEmpty)
 | .tuple ds=>some (!ds.isEmpty)
 | _=>none
noncomputable def tW (f:'&'):Rho->Option Bool:=λρ=>ob (f ρ) truD
theorem qap {K:Kb}{H:Hp}{S:Av}{vs:List V}{ds:'('}(h:DenL K H S vs ds):vs.isEmpty=ds.isEmpty:=by cases h<;>rfl
section
variable {X:Cx}{M:List Nat}{a:KD}{f:'&'}
theorem qkg (h:PD X M a f)(he:∀ whole,isTrue a X.env whole=(do let v ← whole;bG a.pos;holding [v] (truthy v)):=by intro _;rfl):PDT X M a (tW f) :=
 (qiB h he).weak λσ H Q ⟨S,ρ,b,hs,e,q⟩=>by
  obtain ⟨x,e1,e⟩:=qd e
  refine ⟨S,ρ,x,hs,e1,λv H1 g1 d1=>⟨b,?_,q H1 g1⟩⟩
  cases d1 with
  | none=>cases e;exact rfl
  | bool c=>cases e;exact rfl
  | int i=>cases e;exact rfl
  | list s t=>cases e;exact .inl ⟨_,s.sq,by rw [qap t]⟩
  | tuple s t=>cases e;exact .inr (.inl ⟨_,s,by rw [qap t]⟩)
  | str x=>cases e
  | dict a b c=>cases e
  | exc0 a b=>cases e
  | exc1 a b c d f=>cases e
  | ins a b=>cases e
end
noncomputable def truO (d:Option Ka):Option Bool:=match d with | some d=>truD d|none=>none
theorem tW_b (f:'&')(ρ:Rho):tW f ρ=truO (f ρ):=by
 unfold tW truO ob
 cases f ρ<;>rfl
theorem qmV:truO (some (.list []))=some false:=rfl
theorem qiW (d:Ka)(ds:'('):truO (some (.list (d::ds)))=some true:=rfl
end L2
namespace L2
open PySem
theorem qiK (i:Nat)(f:'&')(ρ:Rho):Wh i f ρ=takO (decide (i<ρ.length/\ρ.length<=1000)) (f ρ) i ρ:=by
 unfold Wh ob takO
 by_cases h:i<ρ.length/\ρ.length<=1000
 ·rw [ag h,ae h]
  cases f ρ<;>rfl
 ·rw [ah h,ab h]
noncomputable def kapO (c k d:Option Ka)(i:Nat)(ρ:Rho):Option Out:=match c,k,d with
 | some c,some k,some d=>ob (yh c k) λj=>ob (qaD c j) λl=>ob (appD l d) λl'=>some (.nx (ρ.set i (some (qaE c j l'))))
 | _,_,_=>none
theorem qkA (i:Nat)(fk f:'&')(ρ:Rho):qa0 i fk f ρ=kapO (vr i ρ) (fk ρ) (f ρ) i ρ:=by
 unfold qa0 kapO
 cases vr i ρ with
 | none=>rfl
 | some c =>
  cases fk ρ with
  | none=>rfl
  | some k =>
   cases f ρ with
   | some d=>rfl
   | none =>
    show ob (yh c k) _=none
    cases yh c k with
    | none=>rfl
    | some j =>
     show ob (qaD c j) _=none
     cases qaD c j<;>rfl
noncomputable def nxdO (o:Option Ka)(i:Nat)(ρ:Rho):Option Out:=match o with | some l=>some (.nx (ρ.set i (some l)))|none=>none
theorem ql2 (l:Ka)(i:Nat)(ρ:Rho):nxdO (some l) i ρ=some (.nx (ρ.set i (some l))):=rfl
noncomputable def dpO (d l k:Option Ka)(i:Nat)(ρ:Rho):Option Out:=match d,l,k with | some d,some l,some k=>nxdO (YQ l k d) i ρ|_,_,_=>none
theorem dpO_s (d l k:Ka)(i:Nat)(ρ:Rho):dpO (some d) (some l) (some k) i ρ=nxdO (YQ l k d) i ρ:=rfl
theorem qkz (i:Nat)(fk f:'&')(ρ:Rho):Wx i fk f ρ=dpO (f ρ) (vr i ρ) (fk ρ) i ρ:=by
 unfold Wx dpO ob
 cases f ρ with
 | none=>rfl
 | some d =>
  cases vr i ρ with
  | none=>rfl
  | some l =>
   cases fk ρ with
   | none=>rfl
   | some k =>
    dsimp only
    unfold nxdO
    cases YQ l k d<;>rfl
theorem qjQ (a b:'(')(d:Ka)(i:Nat)(ρ:Rho):kapO (some (.tuple [.list a,.list b])) (some (.int 0)) (some d) i ρ=if a.length<1000 then some (.nx (ρ.set i (some (.tuple [.list (a++[d]),.list b])))) else none:=by
 show ob (appD (.list a) d) _=_
 rw [qd7]
 split<;>rfl
theorem qjR (a b:'(')(d:Ka)(i:Nat)(ρ:Rho):kapO (some (.tuple [.list a,.list b])) (some (.int 1)) (some d) i ρ=if b.length<1000 then some (.nx (ρ.set i (some (.tuple [.list a,.list (b++[d])])))) else none:=by
 show ob (appD (.list b) d) _=_
 rw [qd7]
 split<;>rfl
end L2
namespace L2
open PySem PySem.Spec PyProof.Rows
theorem Kids.snoc {K:Kb}{H:Hp}{S:Av}{p:Ke}{xs:List V}{es:'('}(h:H p=some (.lst xs))(t:DenL K H S xs es):∀ {qs:List Ke} {ds:'('},p∉qs->Kids K H S qs ds->Kids K H S (qs++[p]) (ds++[.list es])
 | _,_,_,.nil=>.cons h t (λz=>nomatch z) .nil
 | _,_,n,.cons h' t' n' r=>.cons h' t' (λz=>(K8.mp z).elim n' λz=>n (by rw [Ky.mp z];exact .head _)) (Kids.snoc h t (λz=>n (.tail _ z)) r)
theorem qkT  : insL S (qs++[p])=insA (insL S qs) p:=by
 funext a
 unfold insL insA
 rw [K8,Ky,or_assoc]
section
variable {X:Cx}{G:Gm}{M M' Mb L:List Nat}{fr:Fr}{f:'&'}{p:Rho->Option Bool}{pos:Pos}
noncomputable def qal (n k:Nat)(fi:Rho->Option (List Ka))(g:Ka->Rho->Option Rho)(p:Rho->Option Bool)(f:'&'):Rho->Option Ka:=λρ=>ob (ZL n k fi g p f ρ) λd=>match d with | .list ds=>if ds.all qbw=true then some (.list ds) else none|_=>none
theorem qkI {K:Kb}{n k:Nat}{fi:Rho->Option (List Ka)}{g:Ka->Rho->Option Rho}(hg:GIn n k g):∀ σ H Q,tVd K M (qal n k fi g p f) σ H Q->qbQ k (tDI K M fi) (tDGc K M g) (tDT K M p) (tF K M f) σ H Q:=by
 intro σ H Q ⟨S,ρ,d,hs,e,q⟩
 obtain ⟨d',e0,e⟩:=qd e
 obtain ⟨ds,ys,e1,hn,hz,e2,rfl⟩:=Yd e0
 have e:(if ys.all qbw=true then some (Vk ys) else none)=some d:=e
 split at e
 case isFalse=>cases e
 rename_i hall
 cases e
 refine ⟨S,ρ,ds,hs,e1,λJ H1 g1 hJ0=>?_⟩
 have hJ:=hJ0 H1 λ_ _ _ z=>z
 have z1000:1000<ak:=zO (Kq _)
 refine ⟨λi m zs σ' H'=>m=ds.length-i/\i<=ds.length/\zs.length<=i/\Same H1 H'/\∃ qs pre rest,zs=qs.map V.ref/\(∀ r∈qs,H1 r=none)/\DenS K H' (insL S qs) M σ' (ρ++Vf k none)/\Kids K H' (insL S qs) qs pre/\Qx k g p f ρ (ds.drop i)=some rest/\pre++rest=ys,
  ⟨ds.length,by simp,Vj _,Kq _,Same.refl _,[],[],ys,rfl,(λ_ z=>nomatch z),?_,.nil,e2,rfl⟩,?_⟩
 ·have h0:=(hs.same g1).more k
  have sb:∀ a,insL S [] a->S a:=λa z=>z.elim id λy=>absurd y (by simp)
  exact ⟨h0.1.sub sb,h0.2.1,λi d hi q=>let ⟨v,a,b⟩:=h0.2.2 i d hi q;⟨v,a,b.sub λa _ z=>sb a z⟩⟩
 rintro i m zs σ' H' ⟨rfl,hi,hzi,g2,qs,pre,rest,rfl,new,hS,kids,er,rfl⟩
 by_cases hlt:i<ds.length
 ·refine .inr ⟨hJ.go i H' g2 hlt,λx H2 y=>?_⟩
  obtain ⟨g2',yd⟩:=hJ.yld i H' x H2 g2 y
  have hd:=yd _ (Kl hlt) (insL S qs) λy e q=>(q.sub λa ha z=>z.elim id λy=>absurd (new a y) ha).same (g2.trans g2')
  rw [VT hlt] at er
  obtain ⟨ρ1,r1,er⟩:=qd er
  obtain ⟨bb,b1,er⟩:=qd er
  obtain ⟨r',hr',rfl⟩:=hg _ ρ _ ρ1 hn (VE) r1
  have g2:=g2.trans g2'
  have kids:=kids.same g2'
  refine ⟨insL S qs,_,_,_,hS.same g2',hd,r1,λσ3 H3 g3 hS3=>⟨insL S qs,_,bb,hS3,b1,λH4 g4=>?_⟩⟩
  cases bb with
  | true =>
   rw [ag rfl] at er
   obtain ⟨y1,e3,er⟩:=qd er
   obtain ⟨ys1,e4,er⟩:=qd er
   cases er
   refine iteT ⟨insL S qs,_,y1,hS3.same g4,e3,λr H5 g5 n5 o5=>⟨by rw [Kf] at hzi;rw [Kf];omega,ds.length-(i+1),by omega,rfl,hlt,?_,g2.trans (g3.trans (g4.trans g5)),qs++[r],pre++[y1],ys1,by simp,?_,?_,?_,e4,by simp⟩⟩
   ·rw [Km,Ku];exact Er hzi
   ·intro a ha
    rcases K8.mp ha with z|z
    ·exact new a z
    ·rw [Ky.mp z];exact (g2.trans (g3.trans g4)).free n5
   ·rw [qkT]
    exact ((hS3.same g4).insO g5 n5 o5).forget hr'
   ·rw [qkT]
    have k4:Kids K H5 (insA (insL S qs) r) qs pre:=((kids.same (g3.trans g4)).sub λa ha z=>z.elim id λy=>absurd (by rw [y];exact n5) ha).same g5
    have nr:r∉qs:=λz=>by
     obtain ⟨o,ho,_⟩:=(kids.same (g3.trans g4)).mut r z
     rw [n5] at ho;cases ho
    cases o5 with
    | lst h t=>exact Kids.snoc h t nr k4
    | dct h kk t =>
     rw [List.all_append,List.all_cons] at hall
     simp [qbw] at hall
  | false =>
   rw [ah VI] at er
   exact iteF ⟨ds.length-(i+1),by omega,rfl,hlt,by omega,g2.trans (g3.trans g4),qs,pre,rest,rfl,new,(hS3.same g4).forget hr',kids.same (g3.trans g4),er,rfl⟩
 ·have hi':i=ds.length:=by omega
  subst hi'
  rw [Nl] at er
  cases er
  refine .inl ⟨hJ.stop H' g2,λD hD=>?_⟩
  have nD:D∉qs:=λz=>by
   obtain ⟨o,ho,_⟩:=kids.mut D z
   rw [hD] at ho;cases ho
  refine q D (D::qs) _ ((g1.trans g2).lay' hD) (λr hr=>?_) ?_
  ·rcases Kr.mp hr with e|hr
   ·rw [e];exact (g1.trans g2).free hD
   ·exact g1.free (new r hr)
  ·rw [VL]
   refine .lst qY nD ((kids.sub λa ha z=>?_).same (Same.lay hD))
   rcases z with z|z
   ·exact .inl z
   ·rcases Kr.mp z with e|z
    ·rw [e] at ha;exact absurd hD ha
    ·exact .inr z
variable {elt iter tg:KD}{ifs:List KD}{x:Str}{N':List Str}{px:Pos}{sc:Ua}{n k:Nat}{fi:Rho->Option (List Ka)}{g:Ka->Rho->Option Rho}
theorem qbJ (j:Nat){py spos:Pos}(O:CompOk X N' k sc)(gi:GIn n k g)(sc₀:Ua)(hsc:X.env.scope=sc₀)(hB:swB sc₀ sc y py pos=true)(hM:Out0 M j)(hL:j∉L)(hi:PDI X M tg iter fi)(hg:∀ cl C fp aa s H,PDGc (q9 X N' sc cl C fp aa s H) M tg g)(hq:∀ cl C fp aa s H,PDTs (q9 X N' sc cl C fp aa s H) M ifs p)(he:∀ cl C fp aa s H,PF (q9 X N' sc cl C fp aa s H) M elt f)
  (hj:X.N[j]?=some y:=by rfl) (hbk:X.env.blockKind=.function:=by rfl)
  (hs:∀ v,az iter X.env v=pure v:=by intro _;rfl):PDS X G M L (j::(j+1000)::M) Mb fr (.Assign [.Name y py] (.ListComp elt [⟨tg,iter,ifs,0⟩] sc pos) spos) (Wh j (qal n k fi g p f)) :=
 (qfJ (wg:=tDGc X.K M g) (tt:=tDT X.K M p) (te:=tF X.K M f) O hj (qa2 hsc hB) hi hg hq he (qk7 hsc hB hbk) hs).weak λD σ H ⟨S,ρ,o,hs,e,q⟩=>by
  unfold Wh at e
  split at e
  ·rename_i hz
   obtain ⟨d,e1,e⟩:=qd e
   cases e
   exact qkI gi σ H _ ⟨S,ρ,d,hs.ds,e1,λp fp H1 g1 n o=>q _ H1 _ (hs.takeD n g1 o hM hL hz.1 hz.2)⟩
  ·cases e
end
noncomputable def scB (N P G:List Str)(sc:Ua):Bool :=
 decide (sc.kind=.function)&&(decide (sc.isCoroutine=false)&&(decide (sc.isGenerator=false)&&(decide N.Nodup&&(decide (N.take P.length=P)&&(P.all (locB sc)&&(sc.names.all (λy=>decide (y.2≠.free))&&(N.all (λx=>visB sc x&&locB sc x)&&(G.all (glB sc)&&N.all λx=>!(x==("__debug__" : Str))&&!(x==("__classdict__" : Str))))))))))
structure ScOk (N P G:List Str)(sc:Ua):Prop where
 fs:FnScope N P sc
 nm:∀ x∈N,visB sc x=true/\locB sc x=true
 gb:∀ x∈G,glB sc x=true
 db:∀ x∈N,(x==("__debug__" : Str))=false/\(x==("__classdict__" : Str))=false
theorem scmk (h:scB N P G sc=true):ScOk N P G sc:=by
 unfold scB at h
 simp only [KI,aD,K4,Bool.not_eq_true'] at h
 obtain ⟨h1,h2,h3,h4,h5,h6,h7,h8,h9,h10⟩:=h
 exact ⟨⟨h1,h2,h3,h4,h5,λx hx=>qhU (h6 x hx),h7⟩,h8,h9,h10⟩
section
variable {N P G:List Str}{sc:Ua}{x:Str}
theorem ScOk.vis (S:ScOk N P G sc)(i:Nat)(e:N[i]?=some x):Vis sc x:=qi3 (S.nm x (KN e)).1
theorem ScOk.loc (S:ScOk N P G sc)(i:Nat)(e:N[i]?=some x):Loc sc x:=qhU (S.nm x (KN e)).2
theorem ScOk.gl {X:Cx}(S:ScOk N P G sc)(i:Nat)(e:G[i]?=some x)(hs:X.env.scope=sc):Gl X x:=gl_fn sc hs (S.gb x (KN e))
end
section
variable {X:Cx}{G:Gm}{P Gn:List Str}{M L:List Nat}{x:Str}{pos:Pos}{a b c d:KD}{fa fb fc fd:'&'}
theorem pd_v (A:ScOk X.N P Gn X.env.scope)(i:Nat)(e:X.N[i]?=some x:=by rfl)(hM:i∉M:=by decide):PD X M (.Name x pos) (vr i):=q8 i (A.vis i e) hM e (A.db x (KN e)).1 (A.db x (KN e)).2
theorem zW (A:ScOk X.N P Gn X.env.scope)(i:Nat)(e:X.N[i]?=some x:=by rfl)(hM:i∉M:=by decide)(hf:X.fn x=true\/X.env.scope.names.lookup x=some .local:=by first|exact .inl rfl|exact .inr rfl|assumption):PDG X G M L (.Name x pos) (gNm i):=qih i A.fs.nd (A.loc i e) hM e hf
theorem pda1 (ha:PD X M a fa)(ea:af [a] X.env=(false,eval a X.env)::af [] X.env:=by rfl):PDA X M [a] (aC fa aN):=qF ha zJ ea
theorem pda2 (ha:PD X M a fa)(hb:PD X M b fb)(ea:af [a,b] X.env=(false,eval a X.env)::af [b] X.env:=by rfl)(eb:af [b] X.env=(false,eval b X.env)::af [] X.env:=by rfl):PDA X M [a,b] (aC fa (aC fb aN)):=qF ha (pda1 hb eb) ea
theorem pda3 (ha:PD X M a fa)(hb:PD X M b fb)(hc:PD X M c fc)(ea:af [a,b,c] X.env=(false,eval a X.env)::af [b,c] X.env:=by rfl)(eb:af [b,c] X.env=(false,eval b X.env)::af [c] X.env:=by rfl)(ec:af [c] X.env=(false,eval c X.env)::af [] X.env:=by rfl):PDA X M [a,b,c] (aC fa (aC fb (aC fc aN))):=qF ha (pda2 hb hc eb ec) ea
end
def FnK (K:Kb)(n:Str)(st:KS):Prop:=∃ (f:Ke) (fd:VD),KO K aj n=some (some (.ref f))/\Fun K n n st f fd
theorem FnK.of {K:Kb}{n:Str}{st:KS}{f:Ke}{oc:Kd}{od an:Option Ke}{osl:Array (Option Kd)}{kV doc pm cdv ct:Kd}(a:KO K aj n=some (some (.ref f)))(l:K.lookup f=some ⟨oc,od,.func (Ue n n (Za st) (Qa st) (qe st) .none kV doc pm an cdv ct),osl⟩)
  (c:UI K cdv n=true) (k:Vx K (.ref f)=true):FnK K n st:=⟨f,_,a,qee l c k⟩
structure TrD (h B:KU)(e:Ke)(cls a0:Kd)(dd:Option Ke)(fl:Kd):Prop where
 ex:∃ o fs T p ts,h.get? e=some o/\o.data=.fields fs/\o.cls=cls/\o.dict=dd/\fs[0]?=some a0/\fs[1]?=some (.ref T)/\T≠e/\B.get? T=none/\h.get? T=some p/\p.data=.fields ts/\ts[3]?=some fl
def FlyD (B:KU)(l:List Env)(e:Ke)(cls a0:Kd)(dd:Option Ke)(h:KU):Prop:=B.StaysIn h/\B.get? e=none/\h.FunFrames B l/\TrD h B e cls a0 dd .none
def HldD (B:KU)(l:List Env)(e:Ke)(cls a0:Kd)(dd:Option Ke)(L:Ke)(h:KU):Prop:=B.StaysIn h/\B.get? e=none/\h.FunFrames B l/\TrD h B e cls a0 dd (be L)
structure Fly (l:List Env)(H H':Hp)(g h B:KU)(a:Ke)(cls:Kd)(t:Ke)(dd:Option Ke):Prop where
 fl:FlyD B l a cls (.ref t) dd h
 trk:∀ b u,H' b=some u->∀ o,h.get? b=some o->B.get? b=some o
 old:∀ b o,g.get? b=some o->H b=none->b∉frs l->B.get? b=some o
 dom:∀ b o,g.get? b=some o->b∉frs l->∃ o',B.get? b=some o'
 un:Un (frs l) [] H H' g h
theorem Qt.ex  {h:KU}  (x:Qt P w H h a o):∃ ob,h.get? a=some ob:=by
 cases o with
 | lst xs=>obtain ⟨_,_,_,_,e⟩:=x;exact ⟨_,e⟩
 | tup xs=>obtain ⟨_,_,_,_,e,_⟩:=x;exact ⟨_,e⟩
 | dK kvs=>obtain ⟨_,_,_,_,o,_,_,e,_⟩:=x;exact ⟨_,e⟩
 | dT kvs=>obtain ⟨_,_,_,_,o,_,_,e,_⟩:=x;exact ⟨_,e⟩
 | set S n=>obtain ⟨o,_,_,_,e,_⟩:=x;exact ⟨_,e⟩
 | ins C dx fs=>obtain ⟨_,_,_,e,_⟩:=x;exact ⟨_,e⟩
 | own y=>obtain ⟨_,e⟩:=x;exact ⟨_,e⟩
 | xd fs=>obtain ⟨_,⟨_,_,_,e,_⟩,_⟩:=x;exact ⟨_,e⟩
 | rng lo hi=>obtain ⟨_,_,_,e⟩:=x;exact ⟨_,e⟩
 | frz ob u=>exact ⟨_,x.1⟩
 | tbl ps=>exact ⟨_,(show h.get? a=some _ from x)⟩
 | met f y=>exact ⟨_,(show h.get? a=some _ from x)⟩
 | ext φ=>exact x.2.1
section
variable {P:KJ}{w:K1}{l l':List Env}{H H':Hp}{g h h' B:KU}{a t:Ke}{cls:Kd}{dd:Option Ke}
theorem Fly.hok (F:Fly l H H' g h B a cls t dd)(k:HOk P w H' h)(fl':FlyD B l' a cls (.ref t) dd h'):HOk P w H' h':=λb u e =>
 (k b u e).stay (λc v hc q=>by
  have:H' c≠none:=by
   rcases hc with z|z
   ·rw [z,e];exact λy=>nomatch y
   ·rw [z];exact λy=>nomatch y
  obtain ⟨u',hu⟩:=Option.ne_none_iff_exists'.mp this
  exact fl'.1 _ _ (F.trk c u' hu v q)) (λ_ q=>q) λ_ _ q=>q
end
noncomputable abbrev exO (C:Ke)(od:Option Ke)(t:Ke):Obj:={ cls:=.ref C,dict:=od,data:=.fields #[.ref t,.none,.none,.none,.bool false,.none] }
def DxD (K:Kb)(H:Hp)(dd:Option Ke)(y:Ka):Prop:=y=.none\/∃ n d dx v,y=.tuple [.str n,d]/\flat d=true/\dd=some dx/\H dx=some (.xd [(n,v)])/\Den K H (λ_=>False) v d
def XMade (X:Cx)(aa:List (Ke×Obj))(G:Gm)(M L:List Nat)(ρ:Rho)(a C:Ke)(y:Ka)(s':Kh):Prop :=
 ∃ σ H S od t,Inv X aa σ H s'/\OwnS X.K G M L H S σ ρ/\DxD X.K H od y/\H a=none/\(X.ex=[]->X.s₀.heap.get? a=none)/\s'.heap.get? a=some (exO C od t)
def XCame (X:Cx)(aa:List (Ke×Obj))(G:Gm)(M L:List Nat)(ρ:Rho)(a C:Ke)(y:Ka)(s':Kh):Prop :=
 ∃ σ H S s1 H' B t dd,DxD X.K H' dd y/\Inv X aa σ H s1/\OwnS X.K G M L H S σ ρ/\Same H H'/\s'.os=s1.os/\XR s'.gens/\HOk X.prog X.w H' s'.heap/\Fly X.stack H H' s1.heap s'.heap B a (.ref C) t dd
def XHeld (X:Cx)(aa:List (Ke×Obj))(G:Gm)(M L:List Nat)(ρ:Rho)(a C:Ke)(y:Ka)(s':Kh):Prop :=
 ∃ s2 B t dd h',((∃ σ H S,Inv X aa σ H s2/\OwnS X.K G M L H S σ ρ/\DxD X.K H dd y/\H a=none/\(X.ex=[]->X.s₀.heap.get? a=none)/\s2.heap.get? a=some (exO C dd t)/\B=PySem.W.hideAll s2.heap (a::frs X.stack))\/
  ∃ σ H S s1 H',DxD X.K H' dd y/\Inv X aa σ H s1/\OwnS X.K G M L H S σ ρ/\Same H H'/\s2.os=s1.os/\XR s2.gens/\HOk X.prog X.w H' s2.heap/\Fly X.stack H H' s1.heap s2.heap B a (.ref C) t dd)/\
  s'={ s2 with heap:=h' }/\HldD B X.stack a (.ref C) (.ref t) dd X.env.locals h'/\s2.heap.UpToSlots h'
def XCls (K:Kb)(c:Str)(C:Ke):Prop:=KO K aj c=some (some (.ref C))/\xcB K C=true
def XAt (X:Cx)(o:Bool)(aa:List (Ke×Obj))(G:Gm)(M L:List Nat)(x:Ka)(ρ:Rho)(e:Kd)(s':Kh):Prop :=
 ∃ a c C y,e=.ref a/\x=excD c y/\XCls X.K c C/\((o=false/\(XMade X aa G M L ρ a C y s'\/XHeld X aa G M L ρ a C y s'))\/XCame X aa G M L ρ a C y s')
noncomputable def adr (mg:Str->Option Kd)(c:Str):Ke:=match mg c with
 | some (.ref C)=>C
 | _=>0
structure RoomM (k:Nat)(A:KY):Prop where
 dp:A.depth+3*k+5<recursionLimit
 un:A.units+16*k+200<aI
theorem Room.m {A:KY}(r:Room k A)(e:Option Kd):RoomM k (A.mark e):=⟨r.dp,r.un⟩
noncomputable def vBM:List Kd:=[.type "ValueError", .type "Exception", .type "BaseException", .type "object"]
noncomputable def excNm (K:Kb)(c:Str):Bool:=match KO K aj c with
 | some (some (.ref C))=>PySem.W.excIn K C vBM "ValueError.__new__"
 | _=>false
noncomputable def noTs:List String:=["NoneType", "int", "bool", "tuple", "list", "str"]
noncomputable def ctB (K:Kb)(CS:List (Str×List Str)):Bool:=CS.all λc=>match KO K aj c.1 with
 | some (some (.ref C))=>icB K C&&Nz K C&&(Vw K (.ref C) "__init__" == some (some (.builtin "object.__init__")))&&Vx K (.ref C)&&(noTs.all λT=>VC K (.type T) (.ref C)==some false)&&(CS.all λd=>match KO K aj d.1 with
   | some (some (.ref D))=>VC K (.ref C) (.ref D)==some (c.2.contains d.1)
   | _=>false)
 | _=>false
structure CTab (K:Kb)(mg:Str->Option Kd)(CS:List (Str×List Str)):Prop where
 nm:∀ c∈CS,mg c.1=some (.ref (adr mg c.1))
 ns:∀ c∈CS,KO K aj c.1=some (some (.ref (adr mg c.1)))
 ic:∀ c∈CS,icB K (adr mg c.1)=true
 mkk:∀ c∈CS,Nz K (adr mg c.1)=true
 ini:∀ c∈CS,Vw K (.ref (adr mg c.1)) "__init__" = some (some (.builtin "object.__init__"))
 kp:∀ c∈CS,Vx K (.ref (adr mg c.1))=true
 no:∀ c∈CS,∀ T∈noTs,VC K (.type T) (.ref (adr mg c.1))=some false
 kit:∀ c∈CS,∀ d∈CS,VC K (.ref (adr mg c.1)) (.ref (adr mg d.1))=some (c.2.contains d.1)
theorem qjn {K:Kb}{h:KU}  (X:K.In h) (G:h.Ns aj mg) (e:ctB K CS=true):CTab K mg CS:=by
 have at1:∀ c∈CS,∃ C,KO K aj c.1=some (some (.ref C))/\adr mg c.1=C/\mg c.1=some (.ref C)/\icB K C=true/\Nz K C=true/\Vw K (.ref C) "__init__" = some (some (.builtin "object.__init__"))/\Vx K (.ref C)=true/\(∀ T∈noTs,VC K (.type T) (.ref C)=some false)/\∀ d∈CS,∃ D,KO K aj d.1=some (some (.ref D))/\VC K (.ref C) (.ref D)=some (c.2.contains d.1):=λc hc=>by
  have:=K4.mp e c hc
  split at this
  ·rename_i C hC
   simp only [KI] at this
   obtain ⟨⟨⟨⟨⟨h1,h2⟩,h3⟩,h4⟩,h5⟩,h6⟩:=this
   have hm:=Ni X G hC
   refine ⟨C,hC,by unfold adr;rw [hm],hm,h1,h2,aS.mp h3,h4,λT hT=>aS.mp (K4.mp h5 T hT),λd hd=>?_⟩
   have:=K4.mp h6 d hd
   split at this
   ·rename_i D hD
    exact ⟨D,hD,aS.mp this⟩
   ·cases this
  ·cases this
 refine ⟨λc hc=>?_,λc hc=>?_,λc hc=>?_,λc hc=>?_,λc hc=>?_,λc hc=>?_,λc hc T hT=>?_,λc hc d hd=>?_⟩<;>obtain ⟨C,h1,h2,h3,h4,h5,h6,h7,h8,h9⟩:=at1 c hc
 ·rw [h2];exact h3
 ·rw [h2];exact h1
 ·rw [h2];exact h4
 ·rw [h2];exact h5
 ·rw [h2];exact h6
 ·rw [h2];exact h7
 ·rw [h2];exact h8 T hT
 ·obtain ⟨D,g1,g2,_⟩:=at1 d hd
  obtain ⟨D',k1,k2⟩:=h9 d hd
  rw [h2,g2]
  rw [g1] at k1
  cases k1
  exact k2
noncomputable def objN:Ka->Option Str
 | .dict ((.str c,.none)::(.int 1,.none)::[])=>some c
 | _=>none
theorem qgy (e:objN d=some c):d=objD c:=by
 unfold objN at e
 split at e
 ·cases e;rfl
 ·cases e
section
variable {X:Cx}{CS:List (Str×List Str)}{n:Str}{M:List Nat}{a b o e:KD}{es:List KD}{f fa fo:'&'}{fs:Rho->Option (List Ka)}{pos p1 p2 apos:Pos}
theorem qcz (T:CTab X.K X.mg CS)(hg:Gl X n)(hn:(CS.any λp=>p.1==n)=true:=by decide +kernel)(hd:(n==("__debug__" : Str))=false:=by decide +kernel):PD X M (.Call (.Name n p1) [] [] pos) (kd (objD n)):=by
 obtain ⟨p,hp,e⟩:=List.any_eq_true.mp hn
 have e:=aS.mp e
 subst e
 intro aa s σ H Q I ⟨S,ρ,d,hs,e,q⟩
 cases e
 refine U3 (qco I hg (T.nm p hp) ?_ hd)
 refine PySem.W.callWith_K0 I.kIn (T.kp p hp) (wpAny_call (qgw I.kIn (T.mkk p hp) (T.ini p hp) (λself=>PySem.W.Looks.of_pure (PySem.W.oi_bind self)) ?_))
 have I2:=Inv.made (C:=adr X.mg p.1) I
 have Y:=PySem.W.makes_of (M:=model X.prog X.w) I.kIn (T.mkk p hp)
 have hx:((s.heap.push VQ).push (V4 (adr X.mg p.1) s.heap.objs.size)).get? (s.heap.objs.size+1)=some (V4 (adr X.mg p.1) s.heap.objs.size):=by
  have:=Kv (s.heap.push VQ) (o:=V4 (adr X.mg p.1) s.heap.objs.size) rfl
  rwa [Vp] at this
 have t2:Em (model X.prog X.w) ((s.heap.push VQ).push (V4 (adr X.mg p.1) s.heap.objs.size)) (isInstance (.ref (s.heap.objs.size+1)) (.type "object")) true :=
  ((PySem.W.Looks.ld hx).andThen .now).andThen (Y.top.keeps λb o e=>Ki _ (Ki _ e))
 refine NB PySem.W.oi_plain PySem.W.entry_oi (@PySem.W.check_slot (model X.prog X.w) _ _ _ "object.__init__" "object" "__init__" (.ref (s.heap.objs.size+1)) [] [] _ PySem.W.oi_kind PySem.W.oi_split t2 (PySem.W.oi_args _) ?_)
 rw [PySem.W.oi_run]
 have n1:H s.heap.objs.size=none:=I.hok.fresh (Kq _)
 have n2:upd H s.heap.objs.size (.own (s.heap.objs.size+1)) (s.heap.objs.size+1)=none:=by
  rw [qW (Ey _)]
  exact I.hok.fresh (UN _)
 exact Kn ⟨rfl,⟨.ref (s.heap.objs.size+1),_,I2,rfl,q _ _ ((Same.lay n1).lay' n2) (.ins qY ⟨T.ns p hp,T.ic p hp⟩)⟩⟩
noncomputable def mtD (tab:List (Str×(List Ka->Option Ka))):List Ka->Option Ka
 | d::ds=>ob (objN d) λc=>ob (tab.find? λp=>p.1==c) λp=>p.2 (d::ds)
 | []=>none
theorem qh3  (e:mtD tab (d::ds)=some r):∃ c h,d=objD c/\(c,h)∈tab/\h (d::ds)=some r:=by
 obtain ⟨c,e1,e⟩:=qd (show ob (objN d) _=some r from e)
 obtain ⟨⟨c',h⟩,e2,e3⟩:=qd e
 have:=aS.mp (NK (p:=λp:Str×(List Ka->Option Ka)=>p.1==_) e2)
 dsimp only at this
 subst this
 exact ⟨c',h,qgy e1,UL e2,e3⟩
def qi5 (P:KJ)(w:K1)(K:Kb)(mg:Str->Option Kd)(base:KU)(m:Str)(n k:Nat)(c:Str)(h:List Ka->Option Ka):Prop :=
 ∃ (C f:Ke) (fd:VD) (ps:List Str) (k0:Nat),KO K aj c=some (some (.ref C))/\Meth K C m f/\k0<=k/\FnOk P w K mg base CX0 k0 f fd ps (spF K n h)/\Binds K fd ps []
structure KnownC (P:KJ)(w:K1)(K:Kb)(mg:Str->Option Kd)(base:KU)(m:Str)(n k:Nat)(tab:List (Str×(List Ka->Option Ka))):Prop where
 ex:∀ p∈tab,qi5 P w K mg base m n k p.1 p.2
theorem qif  {pl:Sem Bool} (F:KnownC X.prog X.w X.K X.mg X.base m j k tab) (hr:Room k' X.A) (hk:k<=k') (ho:PD X M o fo) (ha:PDA X M (e::es) fs)
  (hst:af (e::es) X.env=(false,eval e X.env)::af es X.env:=by rfl) (hpl:(aA pos (af es X.env)).any (·.1)=false:=by rfl)
  (ht:eval (.Call (.Attribute o m apos) (e::es) [] pos) X.env=(do
   let ov ← eval o X.env
   bG apos.atName
   let (f,first) ← holding [ov] (getMethod ov m pl)
   callWith pos f first (aA pos (af (e::es) X.env)) (aZ pos (aQ [] X.env))):=by rfl) :
  PD X M (.Call (.Attribute o m apos) (e::es) [] pos) (evC j (aC fo fs) (mtD tab)):=by
 intro aa s σ H Q I ⟨S,ρ,r,hs,e,q⟩
 obtain ⟨ds,e1,e⟩:=qd e
 obtain ⟨d,e2,e1⟩:=qd e1
 obtain ⟨ds',e3,e1⟩:=qd e1
 cases e1
 have e:(if (d::ds').length=j then mtD tab (d::ds') else none)=some r:=e
 split at e
 case isFalse=>cases e
 rename_i hl
 obtain ⟨c,h,rfl,hc,e⟩:=qh3 e
 obtain ⟨C,f,fd,ps,k0,hC,hm,hk0,F,hb⟩:=F.ex _ hc
 refine PySem.W.methodCall_KW (pl:=pl) (thn (ho aa s σ H (λv H1=>Same H H1/\Den X.K H1 S v (objD c)) I ⟨S,ρ,_,hs,e2,λv H1 g1 d1=>⟨g1,d1⟩⟩) λu s1 ⟨x,H1,I1,rx,g1,d1⟩=>?_) ht
 obtain ⟨a,dx,C',rfl,ea,hC',hic⟩:=d1.ins_inv
 rw [hC] at hC'
 cases hC'
 obtain rfl:u=Ve a:=rx
 refine qef I1 ea (qeh hic).cl hm rfl ?_
 refine Ff (first:=[.ref a]) (h₀:=X.base) I.ok.mod.kin hm.kp (thn (ha pos aa s1 σ H1 (λvs H2=>Same H1 H2/\DenL X.K H2 S vs ds') I1 ⟨S,ρ,_,hs.same g1,e3,λvs H2 g2 d2=>⟨g2,d2⟩⟩) λus s2 ⟨vs,H2,I2,r,g2,d2⟩=>⟨I2.kIn,?_⟩) hst hpl
 exact qiI (us:=.ref a::us) (vs:=.ref a::vs) F (hr.mono (Vg hk0 hk)) hb .nil qdD I2 (.cons rfl r) ⟨S,_,_,(hs.1.same g1).same g2,by rw [VL];exact .cons (d1.same g2) d2,hl,e,λv H' g3 d3=>q v H' ((g1.trans g2).trans g3) d3⟩
end
def MthK (K:Kb)(c m qual:Str)(st:KS):Prop:=∃ (C f:Ke) (fd:VD),KO K aj c=some (some (.ref C))/\Meth K C m f/\Fun K m qual st f fd
theorem MthK.of {K:Kb}{c m qual:Str}{st:KS}{C f:Ke}{oc:Kd}{od an:Option Ke}{osl:Array (Option Kd)}{kV doc pm cdv ct:Kd}(a:KO K aj c=some (some (.ref C)))(g:Vw K (.ref C) m=some (some (.ref f)))(i:Fd K (.ref f)=true)
  (l:K.lookup f=some ⟨oc,od,.func (Ue m qual (Za st) (Qa st) (qe st) .none kV doc pm an cdv ct),osl⟩) (d:UI K cdv qual=true) (k:Vx K (.ref f)=true):MthK K c m qual st:=⟨C,f,_,a,⟨g,i,k⟩,qee l d k⟩
noncomputable def clsB:KS->List KS
 | .ClassDef _ _ _ body ..=>body
 | _=>[]
section
variable {X:Cx}{M:List Nat}{a b:KD}{f g:'&'}{pos:Pos}
noncomputable def cutL (x:Ka)(lo hi:Option Int):Option Ka:=match x with
 | .list ds=>some (.list (cutD ds lo hi))
 | _=>none
noncomputable def evSL (fa:'&')(fl fh:Rho->Option (Option Int)):Rho->Option Ka:=λρ=>ob (fa ρ) λx=>ob (fl ρ) λl=>ob (fh ρ) λh=>cutL x l h
theorem qir {lo hi:Option KD}{fl fh:Rho->Option (Option Int)}{p2:Pos}(ha:PD X M a f)(hl:PDO X M lo fl)(hh:PDO X M hi fh):PF X M (.Subscript a (.Slice lo hi none p2) pos) (evSL f fl fh) :=
 (qdM (r:=rSlL X.K) qfT ha hl hh).weak λσ H Q ⟨S,ρ,d,hs,e,q⟩=>by
  obtain ⟨x,e1,e⟩:=qd e
  obtain ⟨l,e2,e⟩:=qd e
  obtain ⟨h,e3,e⟩:=qd e
  refine ⟨S,ρ,x,hs,e1,λv H1 g1 d1=>⟨S,ρ,l,hs.same g1,e2,λH2 g2=>⟨S,ρ,h,hs.same (g1.trans g2),e3,λH3 g3=>?_⟩⟩⟩
  have g13:=g1.trans (g2.trans g3)
  have d3:=d1.same (g2.trans g3)
  cases d3 with
  | list hq t =>
   cases e
   exact ⟨_,_,rfl,hq.sq,λp hp=>q p _ (g13.lay' hp) (g13.free hp) (OwnO.laid hp (qan t l h))⟩
  | _=>cases e
end
theorem qlu (fa:'&')(fl fh:Rho->Option (Option Int))(ρ:Rho)(ds:'(')(l h:Option Int)(h1:fa ρ=some (.list ds))(h2:fl ρ=some l)(h3:fh ρ=some h):evSL fa fl fh ρ=sliD (.list ds) l h:=by
 unfold evSL ob
 rw [h1,h2,h3]
 rfl
section
variable {X:Cx}{G G1:Gm}{M L:List Nat}{fr:Fr}{o:Bool}{aa pl:List (Ke×Obj)}{d:Ka}{ρ:Rho}{e:Kd}{s':Kh}
theorem XAt.un (bs:Same G.H0 G1.H0)(eS:G1.S0=G.S0)(eL:G1.lk=G.lk)(q:XAt X o (aa++pl) G1 M L d ρ e s'):XAt X o aa G M L d ρ e s':=by
 obtain ⟨a,c,C,y,rfl,rfl,hC,q⟩:=q
 refine ⟨a,c,C,y,rfl,rfl,hC,?_⟩
 rcases q with ⟨ho,⟨σ,H,S,od,t,I,os,m⟩|⟨s2,B,t,dd,h',q,r⟩⟩|⟨σ,H,S,s1,H',B,t,dd,dx,I,os,g,r⟩
 ·exact .inl ⟨ho,.inl ⟨σ,H,S,od,t,I.unpinned,os.unbase bs eS eL,m⟩⟩
 ·refine .inl ⟨ho,.inr ⟨s2,B,t,dd,h',?_,r⟩⟩
  rcases q with ⟨σ,H,S,I,os,m⟩|⟨σ,H,S,s1,H',dx,I,os,m⟩
  ·exact .inl ⟨σ,H,S,I.unpinned,os.unbase bs eS eL,m⟩
  ·exact .inr ⟨σ,H,S,s1,H',dx,I.unpinned,os.unbase bs eS eL,m⟩
 ·exact .inr ⟨σ,H,S,s1,H',B,t,dd,dx,I.unpinned,os.unbase bs eS eL,g,r⟩
end
noncomputable abbrev zpO (f0:Kd)(b:Bool)(ti to:Ke):Obj:={ cls:=.type "zip", dict:=none,data:=.fields #[f0,.bool b,.bool false,.ref ti,.ref to],slots:=#[] }
def Zs (h:KU)(z ti to:Ke):Prop:=∃ f0 b,h.get? z=some (zpO f0 b ti to)/\(f0=.none\/∃ T:Int,f0=be T)
def Zw (h:KU)(z ti to:Ke):Prop:=∃ f0 b,h.get? z=some (zpO f0 b ti to)
theorem Zs.w {h:KU}{z ti to:Ke}(q:Zs h z ti to):Zw h z ti to:=let ⟨f,b,e,_⟩:=q;⟨f,b,e⟩
noncomputable def GU (H:Hp)(S0:Av)(p:Ke):Gm:=⟨λa=>if a=p then none else H a,S0,λ_=>(0,.none)⟩
inductive DenU (K:Kb)(H:Hp)(S:Av)(p:Ke):Nat->List V->List Ka->Prop
 | here {vs:List V} {d:Ka} {ds:'('}:DenL K H S vs ds->DenU K H S p 0 (.ref p::vs) (d::ds)
 | there {i:Nat} {v:V} {d:Ka} {vs:List V} {ds:'('}:Den K H S v d->DenU K H S p i vs ds->DenU K H S p (i+1) (v::vs) (d::ds)
section
variable {K:Kb}{H H':Hp}{S:Av}{p:Ke}{i:Nat}{vs:List V}{ds:'('}
theorem DenU.length (h:DenU K H S p i vs ds):vs.length=ds.length:=by
 induction h with
 | here t=>rw [Kz,Kz,t.length]
 | there a t ih=>rw [Kz,Kz,ih]
theorem DenU.at (h:DenU K H S p i vs ds):vs[i]?=some (.ref p):=by
 induction h with
 | here t=>rfl
 | there a t ih=>exact ih
theorem DenU.off (h:DenU K H S p i vs ds):∀ (j:Nat) (d:Ka),j≠i->ds[j]?=some d->∃ v,vs[j]?=some v/\Den K H S v d:=by
 induction h with
 | here t =>
  intro j d n e
  cases j with
  | zero=>exact absurd rfl n
  | succ j=>exact t.get e
 | there a t ih =>
  intro j d n e
  cases j with
  | zero=>cases e;exact ⟨_,rfl,a⟩
  | succ j=>exact ih j d (λz=>n (by rw [z])) e
end
noncomputable def spU (K:Kb)(n i:Nat)(h:List Ka->Option Ka):Sp:=λvs H Q _=>∃ S0 p ds d d',Dm (insA S0 p) H/\¬ S0 p/\DenU K H (insA S0 p) p i vs ds/\ds.length=n/\ds[i]?=some d/\OwnO K H (insA S0 p) p d/\h ds=some d'/\
 ∀ H',(∀ a o,a≠p->H a=some o->H' a=some o)->OwnO K H' (insA S0 p) p d'->Q .non H'
theorem OwnS.startU {K:Kb}{H:Hp}{S0:Av}{p:Ke}{i:Nat}{vs:List V}{ds:'('}{d:Ka}(m:Dm (insA S0 p) H)(n0:¬ S0 p)(h:DenU K H (insA S0 p) p i vs ds)(e:ds[i]?=some d)(o:OwnO K H (insA S0 p) p d)(N:List Str)(hi:i<1000) :
  OwnS K (GU H S0 p) [i] [] H (insA S0 p) (L2.start N vs) (rho0 N.length ds):=by
 have hl:=h.length
 have get:∀ j e',(rho0 N.length ds)[j]?=some (some e')->ds[j]?=some e':=λj e' q=>by
  unfold rho0 at q
  by_cases hj:j<ds.length
  ·rw [KL (by rw [Kf];exact hj),Kw] at q
   cases z:ds[j]? with
   | none=>rw [z] at q;cases q
   | some x=>rw [z] at q;cases q;rfl
  ·rw [Vb (by rw [Kf];omega),Uu] at q
   split at q<;>cases q
 have put:∀ j v,vs[j]?=some v->(L2.start N vs)[j]?=some (some v):=λj v q=>by
  unfold L2.start
  have hj:=(Kk.mp q).1
  rw [KL (by rw [Kf];exact hj),Kw,q]
  rfl
 have one:∀ j,Flt [i] j->j=i:=λj q=>Ky.mp q.1
 have no:∀ j,Dp [i] j->False:=λj q=>by
  have a:=Ky.mp q.1
  have b:=Ky.mp q.2
  omega
 refine ⟨⟨m,?_,λj d' nj q=>?_⟩,λa z=>.inl z,λa o q=>?_,λj hj d' q=>?_,λj hj k hk _ _ _ _ _ _ _=>(one j hj).trans (one k hk).symm,λa z=>?_,(λ_ h=>nomatch h),λ_=>[],λj hj=>(no j hj).elim,λj hj=>(no j hj).elim,λj _ k hk=>(no k hk).elim⟩
 ·unfold L2.start rho0
  rw [Km,Km,Kf,Kf,VE,VE,hl]
 ·obtain ⟨v,a,b⟩:=h.off j d' (λz=>nj (by rw [z];exact .head _)) (get j d' q)
  exact ⟨v,put j v a,b⟩
 ·have q:(if a=p then none else H a)=some o:=q
  split at q
  ·cases q
  ·exact q
 ·have:=one j hj
  subst this
  have:=get _ d' q
  rw [e] at this
  cases this
  exact ⟨p,put _ _ h.at,o,.inr rfl,n0,λ_=>ag rfl,λz=>nomatch z⟩
 ·rcases z with z|z
  ·exact .inl z
  ·exact .inr (.inl (by rw [z];exact ag rfl))
noncomputable def tDP (K:Kb)(G:Gm)(i:Nat)(f:Rho->Option Out):TS:=λD σ H=>∃ S ρ ρ',OwnS K G [i] [] H S σ ρ/\f ρ=some (.nx ρ')/\∀ σ' H' S',σ'[i]?=σ[i]?->OwnS K G [i] [] H' S' σ' ρ'->D.nx σ' H'
def PDP (X:Cx)(G:Gm)(i:Nat)(s:KS)(f:Rho->Option Out):Prop:=PS X s (tDP X.K G i f)
def PDPs (X:Cx)(G:Gm)(i:Nat)(s:List KS)(f:Rho->Option Out):Prop:=PSs X s (tDP X.K G i f)
section
variable {X:Cx}{G:Gm}{i0:Nat}{a b c:KD}{es:List KD}{f g:'&'}{p:Rho->Option Bool}{pos:Pos}{s1:KS}{ss st1 st2:List KS}{u w:Rho->Option Out}
theorem qkd:PDPs X G i0 [] sN:=qfK.weak λD σ H ⟨S,ρ,ρ',hs,e,q⟩=>by cases e;exact q σ H S rfl hs
theorem qij (h1:PDP X G i0 s1 u)(h2:PDPs X G i0 ss w):PDPs X G i0 (s1::ss) (seqO u w) :=
 (qdT h1 h2).weak λD σ H ⟨S,ρ,ρ',hs,e,q⟩=>by
  obtain ⟨o1,e1,e⟩:=qd e
  cases o1 with
  | nx ρ1=>exact ⟨S,ρ,ρ1,hs,e1,λσ' H' S' k hs'=>⟨S',ρ1,ρ',hs',e,λσ2 H2 S2 k2 hs2=>q σ2 H2 S2 (k2.trans k) hs2⟩⟩
  | rt d=>cases e
  | bk d=>cases e
  | ct d=>cases e
theorem qfF (h1:PDP X G i0 s1 u):PDPs X G i0 [s1] u:=qfL h1
theorem qmf (hc:PDT X [] c p)(h1:PDPs X G i0 st1 u)(h2:PDPs X G i0 st2 w):PDP X G i0 (.If c st1 st2 pos) (sIf p u w) :=
 (qk2 hc h1 h2).weak λD σ H ⟨S,ρ,ρ',hs,e,q⟩=>by
  obtain ⟨d,e1,e⟩:=qd e
  refine ⟨G.S0,ρ,d,hs.den,e1,λH1 g1=>?_⟩
  cases d with
  | true=>exact iteT ⟨S,ρ,ρ',hs.same g1,e,q⟩
  | false=>exact iteF ⟨S,ρ,ρ',hs.same g1,e,q⟩
theorem qke (i:Nat){x:Str}{p':Pos}(hN:X.N.Nodup)(hx:Loc X.env.scope x)(hi:X.N[i]?=some x)(hs:aK a (some (.Name x p')) pos.line X.env=pure false)(hf:X.fn x=true\/X.env.scope.names.lookup x=some .local)(hM:i∉[i0])(he:PD X [i0] a f) :
  PDP X G i0 (.Assign [.Name x p'] a pos) (sSet i f) :=
 (qaX hN hi hx he hs hf).weak λD σ H ⟨S,ρ,o,hs,e,q⟩=>by
  obtain ⟨d,e1,e⟩:=qd e
  cases e
  exact ⟨S,ρ,d,hs.ds,e1,λv H1 g1 d1=>q _ H1 S (qx (λz=>hM (by rw [z];exact .head _))) ((hs.same g1).set d1 hM)⟩
theorem qkc {x:Str}{px apos cpos:Pos}(hv:Vis X.env.scope x)(he:PD X [i0] a f)(h1000:i0+1000∉[i0]:=by decide)(hN:X.N[i0]?=some x:=by rfl)(hd:(x==("__debug__" : Str))=false:=by decide +kernel)(hcd:(x==("__classdict__" : Str))=false:=by decide +kernel)
  (hbase:aG (.Name x px) "append" X.env (eval (.Name x px) X.env)=eval (.Name x px) X.env:=by rfl)
  (hfew:((aA cpos (af [a] X.env)).all (λx=>!x.1)&&(aZ cpos (aQ [] X.env)).all (λx=>x.1.isSome)
   && decide ([a].length+([]:List UJ).length+(if ([]:List UJ).isEmpty then 0 else 1)<30))=true:=by rfl)
  (hline:(apos.endLine==cpos.line)=true:=by rfl) (hs:af [a] X.env=(false,eval a X.env)::af [] X.env:=by rfl) (hplain:(aA cpos (af [] X.env)).any (·.1)=false:=by rfl)
  (hsw:aK (.Call (.Attribute (.Name x px) "append" apos) [a] [] cpos) none pos.line X.env=pure false:=by rfl) :
  PDP X G i0 (.Expr (.Call (.Attribute (.Name x px) "append" apos) [a] [] cpos) pos) (sApp i0 f) :=
 (wz (qbK Uv Xp X4 Wa (JC i0 hv hN hd hcd) (qF he zJ hs) hbase hfew hline hs hplain) hsw).weak λD σ H ⟨S,ρ,o,os,e,q⟩=>by
  obtain ⟨l,e1,e⟩:=qd e
  obtain ⟨d,e2,e⟩:=qd e
  obtain ⟨l',e3,e⟩:=qd e
  cases e
  obtain ⟨ds,rfl,hz,rfl⟩:=wO e3
  have hM:Flt [i0] i0:=⟨.head _,h1000⟩
  obtain ⟨pp,a1,b1,c1,n1,w1,_⟩:=os.own i0 hM _ (Qm e1)
  cases b1 with
  | @lst xs _ h t =>
   refine ⟨_,a1,.inl ⟨rfl,_,SqL.of h⟩,S,ρ,[d],os.ds,by show ob (f ρ) _=_;rw [e2];rfl,λvs H2 g2 dl=>?_⟩
   obtain ⟨v,rfl,dv⟩:=dl.inv1
   have os2:=os.same g2
   refine ⟨pp,xs,v,rfl,rfl,g2 _ _ h,KZ (by rw [t.length];exact hz) (VP (zO (Kq _))),?_⟩
   exact q _ _ _ rfl (os2.write hM (λz=>nomatch z) (Qm e1) a1 rfl (.lst qY (((t.same g2).snoc dv).off os2.ds.1 (Off.upd c1))))
end
noncomputable def outU (i:Nat):Out->Option Ka
 | .nx ρ=>vr i ρ
 | _=>none
section
variable {P:KJ}{w:K1}{K:Kb}{mg:Str->Option Kd}{base:KU}
theorem Fun.mutp {x qual:Str}{st:KS}{f:Ke}{fd:VD}{N ps:List Str}{k n i:Nat}{u:Rho->Option Out}(F:Fun K x qual st f fd)(S:FnScope N ps (qe st))(hn:ps.length=n)(hi:i<1000)
  (hbody:∀ (cdv:Kd) (A:KY) (outer:List Env) (s:Kh) (H:Hp) (E:XK),Room k (A.deeper (bg qual (qe st) s.heap.objs.size f cdv))->∀ G:Gm,
   PDPs (cxOf CX0 P w K mg base N qual (qe st) f cdv A outer s H E).nox G i (Qa st) u) :
  FnOk P w K mg base CX0 (k+1) f fd ps (spU K n i λds=>ob (u (rho0 N.length ds)) (outU i)):=by
 refine F.g.ok S (λvs H Q E h=>?_) (λcdv A outer s H vs Q E hr h=>?_)
 ·obtain ⟨_,_,ds,_,_,_,_,h1,h2,_⟩:=h
  rw [h1.length,h2,hn]
 ·obtain ⟨S0,p,ds,d,d',m,n0,h1,h2,h3,ow,e,q⟩:=h
  obtain ⟨o,e1,e⟩:=qd e
  cases o with
  | rt r=>cases e
  | bk ρ=>cases e
  | ct ρ=>cases e
  | nx ρ =>
   have hs0:=OwnS.startU m n0 h1 h3 ow N hi
   refine ⟨_,hbody cdv A outer s H E hr (GU H S0 p),insA S0 p,rho0 N.length ds,ρ,hs0,e1,λσ' H' S' k hs=>q H' (λa o na ha=>hs.h0 a o ((ah na).trans ha)) ?_⟩
   have sp:(L2.start N vs)[i]?=some (some (.ref p)):=by
    unfold L2.start
    rw [KL (by rw [Kf];exact (Kk.mp h1.at).1),Kw,h1.at]
    rfl
   obtain ⟨p',a,b,c,_⟩:=hs.own i ⟨.head _,λz=>by have:=Ky.mp z;omega⟩ d' (Qm e)
   rw [k,sp] at a
   cases a
   exact b.sub λa _ z=>z.elim (λz=>hs.s0 a z) λz=>by rw [z];exact c
structure KnownU (P:KJ)(w:K1)(K:Kb)(mg:Str->Option Kd)(base:KU)(x:Str)(n k i:Nat)(h:List Ka->Option Ka):Prop where
 ex:∃ (f:Ke) (fd:VD) (ps:List Str),FnOk P w K mg base CX0 k f fd ps (spU K n i h)/\mg x=some (.ref f)/\Vx K (.ref f)=true/\Binds K fd ps []
end
theorem OwnS.denU {K:Kb}{G:Gm}{M L:List Nat}{H:Hp}{S:Av}{σ:St}{ρ:Rho}(h:OwnS K G M L H S σ ρ){i:Nat}{d:Ka}{p:Ke}(hi:Flt M i)(e:ρ[i]?=some (some d))(es:σ[i]?=some (some (.ref p))):DenS K H (insA G.S0 p) [i] σ ρ:=by
 obtain ⟨p',a,b,c,n,_⟩:=h.own i hi d e
 rw [es] at a
 cases a
 have sub:∀ a,H a≠none->insA G.S0 p a->S a:=λa _ z=>z.elim (λz=>h.s0 a z) λz=>by rw [z];exact c
 refine ⟨λa z=>h.ds.1 a (z.elim (λz=>h.s0 a z) λz=>by rw [z];exact c),h.ds.2.1,λj d' nj q=>?_⟩
 have nji:j≠i:=λz=>nj (by rw [z];exact .head _)
 by_cases hj:j∈M
 ·by_cases hk:j+1000∈M
  ·obtain ⟨F,f⟩:=h.deep
   obtain ⟨p2,a2,b2,c2⟩:=f.own j ⟨hj,hk⟩ d' q
   exact ⟨_,a2,b2.den (λq hq z=>z.elim (c2 q hq).2.1 λz=>f.flat i hi j ⟨hj,hk⟩ ⟨_,e⟩ ⟨_,‹ρ[j]?=some (some d')›⟩ p es (by rw [← z];exact hq)) sub⟩
  ·obtain ⟨p2,a2,b2,c2,n2,_⟩:=h.own j ⟨hj,hk⟩ d' q
   exact ⟨_,a2,b2.den (λz=>z.elim n2 λz=>nji (h.apart j ⟨hj,hk⟩ i hi d' d p q e (by rw [← z];exact a2) es)) sub⟩
 ·obtain ⟨v,a2,b2⟩:=h.ds.2.2 j d' hj q
  exact ⟨v,a2,b2.sub sub⟩
noncomputable def tAU (K:Kb)(i n:Nat)(fs:Rho->Option (List Ka)):TA:=λσ H Q=>∃ S ρ ds p,DenS K H S [i] σ ρ/\σ[i]?=some (some (.ref p))/\fs ρ=some ds/\∀ vs H',Same H H'->DenU K H' S p n vs ds->Q vs H'
def PAU (X:Cx)(i n:Nat)(es:List KD)(fs:Rho->Option (List Ka)):Prop:=PA X es (tAU X.K i n fs)/\∀ ρ ds,fs ρ=some ds->∃ d,ρ[i]?=some (some d)/\ds[n]?=some d
section
variable {X:Cx}{G:Gm}{M M' Mb L:List Nat}{fr:Fr}{a b c:KD}{es:List KD}{f g:'&'}{fs:Rho->Option (List Ka)}{pos:Pos}
theorem qdE (i:Nat){x:Str}(hv:Vis X.env.scope x)(h:PDA X [i] es fs)(hN:X.N[i]?=some x:=by rfl)(hd:(x==("__debug__" : Str))=false:=by decide +kernel)(hcd:(x==("__classdict__" : Str))=false:=by decide +kernel)
  (he:af (.Name x pos::es) X.env=(false,eval (.Name x pos) X.env)::af es X.env:=by rfl):PAU X i 0 (.Name x pos::es) (aC (vr i) fs) :=
 ⟨(
  wj (JC i hv hN hd hcd) h he).weak λσ H Q ⟨S,ρ,ds,p,hs,e,ef,q⟩=>by
  obtain ⟨d,e1,ef⟩:=qd ef
  obtain ⟨es',e2,ef⟩:=qd ef
  cases ef
  exact ⟨_,e,S,ρ,es',hs,e2,λvs H' g dl=>q _ H' g (.here dl)⟩,λρ ds ef=>by
  obtain ⟨d,e1,ef⟩:=qd ef
  obtain ⟨es',e2,ef⟩:=qd ef
  cases ef
  exact ⟨d,Qm e1,rfl⟩⟩
theorem qbE {i n:Nat}(ha:PD X [i] a f)(h:PAU X i n es fs)(he:af (a::es) X.env=(false,eval a X.env)::af es X.env:=by rfl):PAU X i (n+1) (a::es) (aC f fs) :=
 ⟨(
  wj ha h.1 he).weak λσ H Q ⟨S,ρ,ds,p,hs,e,ef,q⟩=>by
  obtain ⟨d,e1,ef⟩:=qd ef
  obtain ⟨es',e2,ef⟩:=qd ef
  cases ef
  exact ⟨S,ρ,d,hs,e1,λv H1 g1 d1=>⟨S,ρ,es',p,hs.same g1,e,e2,λvs H2 g2 du=>q _ H2 (g1.trans g2) (.there (d1.same g2) du)⟩⟩,λρ ds ef=>by
  obtain ⟨d,e1,ef⟩:=qd ef
  obtain ⟨es',e2,ef⟩:=qd ef
  cases ef
  exact h.2 ρ es' e2⟩
noncomputable def yu (i n:Nat)(fs:Rho->Option (List Ka))(h:List Ka->Option Ka):Rho->Option Out:=λρ=>ob (fs ρ) λds=>ob (h ds) λd=>if ds.length=n/\qhx d=true then some (.nx (ρ.set i (some d))) else none
theorem qbI (i j:Nat){x:Str}{p cpos:Pos}{n k k':Nat}{h:List Ka->Option Ka}(F:KnownU X.prog X.w X.K X.mg X.base x n k j h)(hr:Room k' X.A)(hk:k<=k')(hg:Gl X x)(hM:Flt M i)(hL:i∉L)(ha:PAU X i j (a::es) fs)
  (hdb:(x==("__debug__" : Str))=false:=by decide +kernel) (he:af (a::es) X.env=(false,eval a X.env)::af es X.env:=by rfl) (hpl:(aA cpos (af es X.env)).any (·.1)=false:=by rfl)
  (hsw:aK (.Call (.Name x p) (a::es) [] cpos) none pos.line X.env=pure false:=by rfl) :
  PDS X G M L M Mb fr (.Expr (.Call (.Name x p) (a::es) [] cpos) pos) (yu i n fs h):=by
 obtain ⟨f,fd,ps,F,m,kp,b⟩:=F.ex
 refine (wz (W0 F (hr.mono hk) hg m kp b .nil qdD ha.1 hdb he hpl) hsw).weak λD σ H ⟨S,ρ,o,os,e,q⟩=>?_
 obtain ⟨ds,e1,e⟩:=qd e
 obtain ⟨d,e2,e⟩:=qd e
 split at e
 case isFalse=>cases e
 rename_i hc
 cases e
 obtain ⟨d0,r0,d0s⟩:=ha.2 ρ ds e1
 obtain ⟨pp,a1,b1,c1,n1,w1,_⟩:=os.own i hM d0 r0
 have du:=os.denU hM r0 a1
 refine ⟨insA G.S0 pp,ρ,ds,pp,du,a1,e1,λvs H1 g1 dl=>?_⟩
 have os1:=os.same g1
 refine ⟨G.S0,pp,ds,d0,d,du.1.same g1,n1,by rw [VL];exact dl,hc.1,d0s,(b1.same g1).sub λa _ z=>z.elim (λz=>os.s0 a z) λz=>by rw [z];exact c1,e2,λH' kp' ow=>q _ H' S ?_⟩
 obtain ⟨o',eo,mo⟩:=ow.mut
 have eH:H'=L2.upd (λa=>if a=pp then H1 a else H' a) pp o':=by
  funext a
  unfold L2.upd
  by_cases z:a=pp
  ·rw [ag z,z];exact eo
  ·rw [ah z];exact (ah z).symm
 have sm:Same H1 (λa=>if a=pp then H1 a else H' a):=λa o ha=>by
  show (if a=pp then H1 a else H' a)=some o
  by_cases z:a=pp
  ·rw [ag z];exact ha
  ·rw [ah z];exact kp' a o z ha
 have os2:=os1.same sm
 rw [eH] at ow ⊢
 exact os2.write hM hL r0 a1 mo (ow.flat hc.2)
end
section
variable {prog:KJ}{w:K1}{A:KY}{E:Kd->Kh->Prop}{s:Kh}
theorem qex:typeLookup (.type "list_reverseiterator") "__len__" = pure none:=by rw [typeLookup_type,builtinLookup_eq_fast];kernel_rfl
theorem qdu:typeLookup (.type "list_reverseiterator") "__length_hint__" = pure (some (.builtin "list_reverseiterator.__length_hint__")):=by rw [typeLookup_type,builtinLookup_eq_fast];kernel_rfl
theorem qhF {it l:Ke}{i:Int}{Q:Bool->Kh->Prop}(hit:s.heap.IsRevIter it l i)(h:Q false s):ai (model prog w) A (N1 (.ref it)) Q E s:=by
 unfold N1
 refine Kc (Xr hit.typeIs qex ?_)
 refine Xw (λhab=>absurd hab '#') (λ_=>?_)
 refine Xw (λhab=>absurd hab '#') (λ_=>?_)
 refine Kc (Xr hit.typeIs qdu ?_)
 generalize hid:("list_reverseiterator.__length_hint__" : String)=id0
 wp_delta
 rw [show splitId id0=some ("list_reverseiterator", "__length_hint__") from by subst hid;decide +kernel]
 subst hid
 refine Kc (Et (T := "list_reverseiterator") (b:=true) hit.typeIs (by rw [isSubtype_type];kernel_rfl) ?_)
 refine Xw (λhab=>absurd hab '#') (λ_=>?_)
 refine Xw (λ_=>?_) (λhab=>absurd '%' hab)
 refine Xw (λhab=>absurd hab '%') (λ_=>Kn h)
theorem qjv {R:Result->Kh->Prop}{r l:Ke}{items:Array Kd}(hh:A.handled=none)(hr:s.heap.IsRevIter r l ((items.size:Int)-1))(hl:s.heap.IsList l items)(hne:l≠r)(hlen:items.size<=2 ^ 24)(S:Ke)(res:Kd)(c₀:Nat)(hSr:S≠r)(hSl:S≠l)(hS:s.heap.get? S=some { cls:=.type "list", data:=.seq #[] c₀ })
  (hR:∀ h' tk acc' c',(∀ b o,b≠S->b≠r->s.heap.get? b=some o->h'.get? b=some o)->h'.get? S=some { cls:=.type "list", dict:=none,data:=.seq acc' c',slots:=#[] }->
   ItemsOf (λi v=>items[items.size-1-i]?=some v) acc' items.size->R (.ok (.ret res)) { s with heap:=h',toks:=tk }) :
  ai (model prog w) A.in1 (U5 (.ref S) (.ref r) res)
   (λfin s'=>match fin with | .done f=>R (.ok f) s' | .again c'=>c'.quiet=true/\aT (model prog w) A c' R s') (λe s'=>R (.error e) s') s:=by
 have W:=(Walks.listRev (prog:=prog) (w:=w) (A:=A.in1) hh r l hne items).toS
 have hT:=hr.typeIs
 unfold U5
 refine Kc (wpAny_typeOf (T := "list_reverseiterator") hT ?_)
 have h1:EA (.ref S) (.ref r)=false:=by simp [EA,hSr]
 have h2:(Vs "list_reverseiterator" == Vs "list")=false:=by decide
 have h3:(Vs "list_reverseiterator" == Vs "tuple")=false:=by decide
 simp only [h1,h2,h3,Bool.or_false,VJ,aM]
 refine Kc (wpAny_pyIter_revIter hr ?_);refine Kc (V2 (qhF hr ?_))
 refine Xw (λhab=>absurd hab '#') (λ_=>Kn ⟨Ur F.plain_extend_loop _,?_⟩)
 refine codeAny_extend_loopS W (by rw [Xh];omega) S (by simp [hSr,hSl]) res items.size 0 _ #[] c₀ rfl (Vj _) ⟨Vj _,by simpa using hr,hl⟩ hS (ItemsOf.nil _) λs' acc' c' hm hS' hacc=>?_
 rw [Moved.eq_with hm]
 exact hR s'.heap s'.toks acc' c' (λb o hb hb2 e=>hm.heap b o (λz=>by simp [hb,hb2] at z) e) hS' hacc
theorem qa8 {Q:Kd->Kh->Prop}{r l:Ke}{items:Array Kd}(hh:A.handled=none)(hr:s.heap.IsRevIter r l ((items.size:Int)-1))(hl:s.heap.IsList l items)(hne:l≠r)(hlen:items.size<=2 ^ 24)
  (hQ:∀ h' tk acc' c',(∀ b o,b≠r->s.heap.get? b=some o->h'.get? b=some o)->
   h'.get? s.heap.objs.size=some { cls:=.type "list", dict:=none,data:=.seq acc' c',slots:=#[] }->ItemsOf (λi v=>items[items.size-1-i]?=some v) acc' items.size->Q (.ref s.heap.objs.size) { s with heap:=h',toks:=tk }) :
  ai (model prog w) A (call (.type "list") [.ref r]) Q E s:=by
 have lr:r<s.heap.objs.size:=by obtain ⟨o,e,_⟩:=hr;exact KF e
 have ll:l<s.heap.objs.size:=by obtain ⟨o,e,_⟩:=hl;exact KF e
 refine callType_codes (Q₁:=λobj s₁=>obj=.ref s.heap.objs.size/\s₁={ s with heap:=s.heap.push { cls:=.type "list", data:=.seq #[] } }) F.called_list (F.typeCall_list_1 _) F.entry_list_init (code_list_new _ ⟨rfl,rfl⟩) λobj s₁ h₁=>?_
 obtain ⟨rfl,rfl⟩:=h₁
 have hS:(s.heap.push { cls:=.type "list", data:=.seq #[] }).get? s.heap.objs.size=some { cls:=.type "list", data:=.seq #[] }:=Kv _ rfl
 have hSr:s.heap.objs.size≠r:=UB lr
 have hSl:s.heap.objs.size≠l:=UB ll
 refine ⟨⟨_,hS,rfl⟩,F.args_list_init_2 _ _,?_⟩
 show ai _ _ (do let old ← EM (.ref s.heap.objs.size);Builtin.List.listUpdate (.ref s.heap.objs.size) (λ_=>#[]);letGo old.toList.reverse;U5 (.ref s.heap.objs.size) (.ref r) .none) _ _ _
 refine Kc ?_
 unfold EM
 refine Kc (Ut hS rfl (Kn ?_))
 show ai _ _ (updateSeq s.heap.objs.size (λ_=>#[]) >>= λ_=>letGo (#[]:Array Kd).toList.reverse >>= λ_=>U5 (.ref s.heap.objs.size) (.ref r) .none) _ _ _;refine Kc (U8 hS rfl ?_)
 have hS2:=UK (Uc (λ_=>(#[]:Array Kd))) hS rfl
 have oth:∀ b o,b≠s.heap.objs.size->s.heap.get? b=some o->((s.heap.push { cls:=.type "list", data:=.seq #[] }).update s.heap.objs.size (Uc (λ_=>(#[]:Array Kd)))).get? b=some o :=
  λb o hb e=>(K3 _ _ (Ul hb)).trans (Ki _ e)
 refine Kc (U0 ?_)
 refine qjv (s:={ s with heap:=(s.heap.push { cls:=.type "list", data:=.seq #[] }).update s.heap.objs.size (Uc (λ_=>(#[]:Array Kd))) }) (A:=A.in1) (items:=items) hh (hr.at λo e=>oth r o (Ul hSr) e) (hl.at λo e=>oth l o (Ul hSl) e) hne hlen _ .none _ hSr hSl hS2 λh' tk acc' c' hk hS' hacc=>?_
 exact ⟨rfl,hQ h' tk acc' c' (λb o hb e=>hk b o (KW (KF e)) hb (oth b o (KW (KF e)) e)) hS' hacc⟩
end
noncomputable def revD:Ka->Option Ka
 | .list ds=>if ds.length<=1000 then some (.list ds.reverse) else none
 | _=>none
theorem DenL.rev {K:Kb}{H:Hp}{S:Av}:∀ {vs:List V} {ds:'('},DenL K H S vs ds->DenL K H S vs.reverse ds.reverse
 | _,_,.nil=>.nil
 | _,_,.cons a t=>by rw [Uw,Uw];exact (DenL.rev t).snoc a
theorem Vals.rev:∀ {vs:List V} {us:List Kd},Vals vs us->Vals vs.reverse us.reverse
 | _,_,.nil=>.nil
 | _,_,.cons a t=>by rw [Uw,Uw];exact (Vals.rev t).append (.cons a .nil)
theorem qgO {items acc:Array Kd}(h:ItemsOf (λi v=>items[items.size-1-i]?=some v) acc items.size):acc.toList=items.toList.reverse:=by
 refine Ej λi=>?_
 by_cases hi:i<items.size
 ·have ha:acc[i]?=some (acc[i]'(by rw [h.1];exact hi)):=VU (by rw [h.1];exact hi)
  have hb:=h.2 i _ ha
  rw [List.getElem?_reverse (by rw [KR];exact hi),KR,Um,Um,ha,hb]
 ·rw [V0 (by rw [KR,h.1];omega),V0 (by rw [XS,KR];omega)]
theorem qeD {X:Cx}{M:List Nat}{a:KD}{fa:'&'}{p1 p2 pos rpos:Pos}{k:Nat}(hr:Room k X.A)(hg:Gl X "list")(hm:X.mg "list" = none)(hgr:Gl X "reversed")(hmr:X.mg "reversed" = none)(ha:PD X M a fa)
  (he:af [.Call (.Name "reversed" p2) [a] [] rpos] X.env=(false,eval (.Call (.Name "reversed" p2) [a] [] rpos) X.env)::af [] X.env:=by rfl) (hpl:(aA pos (af [] X.env)).any (·.1)=false:=by rfl) (he2:af [a] X.env=(false,eval a X.env)::af [] X.env:=by rfl) (hpl2:(aA rpos (af [] X.env)).any (·.1)=false:=by rfl) :
  PF X M (.Call (.Name "list" p1) [.Call (.Name "reversed" p2) [a] [] rpos] [] pos) (ev1 fa revD):=by
 intro aa s σ H Q I ⟨S,ρ,d,hs,e,q⟩
 obtain ⟨x,e1,e⟩:=qd e
 unfold revD at e
 split at e
 case h_2=>cases e
 rename_i ds
 split at e
 case isFalse=>cases e
 rename_i hz
 cases e
 have bl:aw "list" = some (.type "list"):=rfl
 have br:aw "reversed" = some (.type "reversed"):=by decide +kernel
 refine U3 (yj I hg hm bl ?_ '%' '%')
 refine Uh ?_ he hpl
 rw [he]
 refine Calls.spliced_cons ?_
 refine U3 (yj I hgr hmr br ?_ '%' '%')
 refine Uh ?_ he2 hpl2
 refine thn ((qF ha zJ he2) rpos aa s σ H (λvs H1=>Same H H1/\DenL X.K H1 S vs [.list ds]) I ⟨S,ρ,_,hs,by show ob (fa ρ) _=_;rw [e1];rfl,λvs H1 g1 d1=>⟨g1,d1⟩⟩) λus s1 ⟨vs,H1,I1,r,g1,d1⟩=>?_
 obtain ⟨v,rfl,dv⟩:=d1.inv1
 obtain ⟨u,rfl,ru⟩:=r.one
 obtain ⟨l,xs,rfl,hsq,hxs⟩:=dv.list_inv
 cases ru
 obtain ⟨its,rv,pl,_⟩:=I1.list hsq.sq
 have hl:=pl.isList
 have ll:l<s1.heap.objs.size:=by obtain ⟨o,e,_⟩:=hl;exact KF e
 have ln:its.toArray.size<=1000:=by rw [KA,← rv.length,hxs.length];exact hz
 refine call_reversed_list hl ?_
 have k1:∀ b o,s1.heap.get? b=some o->(s1.heap.push (revObj l ((its.toArray.size:Int)-1))).get? b=some o:=λb o y=>Ki _ y
 have I2:=I1.kept (t':=s1.toks) (h':=s1.heap.push (revObj l ((its.toArray.size:Int)-1))) k1
 refine Calls.spliced_nil ?_
 have hri:(s1.heap.push (revObj l ((its.toArray.size:Int)-1))).IsRevIter s1.heap.objs.size l ((its.toArray.size:Int)-1):=⟨_,Kv _ rfl,rfl,rfl⟩
 refine qa8 (s:={ s1 with heap:=s1.heap.push (revObj l ((its.toArray.size:Int)-1)) }) hr.hd hri (hl.at λo e=>k1 l o e) (KW ll) '$' λh' tk acc c' kp hget it=>?_
 have ea:=qgO it
 have vv:Vals xs.reverse acc.toList:=by rw [ea];exact Vals.rev rv
 have sz:(s1.heap.push (revObj l ((its.toArray.size:Int)-1))).objs.size=s1.heap.objs.size+1:=Vp ..
 have kk:∀ b o,s1.heap.get? b=some o->h'.get? b=some o:=λb o y=>kp b o (KW (KF y)) (k1 b o y)
 have fr:H1 (s1.heap.push (revObj l ((its.toArray.size:Int)-1))).objs.size=none:=I1.hok.fresh (by rw [sz];exact UN _)
 have I3:=I1.laid (a:=(s1.heap.push (revObj l ((its.toArray.size:Int)-1))).objs.size) (t':=tk) (o:=.lst xs.reverse) kk (by rw [sz];exact UN _) ⟨by rw [XS,hxs.length,Xh];omega,acc.toList,c',vv,by rw [Array.toArray_toList];exact hget⟩
 exact ⟨.ref _,_,I3,rfl,q _ _ (g1.lay' fr) (g1.free fr) (OwnO.laid fr (DenL.rev hxs))⟩
end L2
namespace L2
open PySem PySem.W PyProof.Rows
theorem jw {α β:Type}{lt:Nat->Nat->Option Bool}{f:α->KasT β}:∀ (t:KasT α),runC lt (t.bind f)=ob (runC lt t) λa=>runC lt (f a)
 | .ret _=>rfl
 | .ask i j k=>by
  show ob (lt i j) (λb=>runC lt ((k b).bind f))=ob (ob (lt i j) λb=>runC lt (k b)) _
  cases lt i j with
  | none=>rfl
  | some b=>exact jw (k b)
structure IOrd (n:Nat)(lt:Nat->Nat->Option Bool)(blt:Nat->Nat->Bool):Prop where
 ask:∀ i j,i<n->j<n->lt i j=some (blt i j)
 irr:∀ i,blt i i=false
 tr:∀ i j k,blt i j=true->blt j k=true->blt i k=true
 neg:∀ i j k,blt i k=true->blt i j=true\/blt j k=true
noncomputable def gp (p:Array Nat)(i:Nat):Nat:=p.getD i 0
def QF (n:Nat)(p:Array Nat):Prop:=p.toList.Perm (KG n)
def UpTo (blt:Nat->Nat->Bool)(p:Array Nat)(m:Nat):Prop:=∀ i j,i<=j->j<m->blt (gp p j) (gp p i)=false
section
variable {n:Nat}{lt:Nat->Nat->Option Bool}{blt:Nat->Nat->Bool}{p:Array Nat}
theorem QF.size (h:QF n p):p.size=n:=by
 have:=h.length_eq
 rw [KR,Vh] at this
 exact this
theorem QF.inb (h:QF n p)(hi:i<n):gp p i<n:=by
 have hs:=h.size
 have e:gp p i=p[i]''$':=by simp [gp,Array.getD,hs,hi]
 have hm:p[i]''$'∈p.toList:=by simp
 have:=h.mem_iff.mp hm
 rw [e]
 exact UT.mp this
theorem qda (h:q[i]?=p[j]?):gp q i=gp p j:=by
 unfold gp
 simp only [Array.getD_eq_getD_getElem?,h]
theorem IOrd.le_tr (O:IOrd n lt blt)(h1:blt b a=false)(h2:blt c b=false):blt c a=false:=by
 cases h:blt c a with
 | false=>rfl
 | true =>
  rcases O.neg c b a h with z|z
  ·rw [h2] at z;cases z
  ·rw [h1] at z;cases z
theorem IOrd.asym (O:IOrd n lt blt)(h:blt a b=true):blt b a=false:=by
 cases z:blt b a with
 | false=>rfl
 | true =>
  have:=O.tr a b a h z
  rw [O.irr] at this
  cases this
theorem qgK (O:IOrd n lt blt)(hp:QF n p)(hk:k<n)(hs:UpTo blt p k):∀ (f l r:Nat),r-l<=f->l<=r->r<=k->(∀ i,i<l->blt (gp p k) (gp p i)=false)->(∀ i,r<=i->i<k->blt (gp p k) (gp p i)=true)->
  ∃ m,runC lt (kas_place p k f l r)=some m/\m<=k/\(∀ i,i<m->blt (gp p k) (gp p i)=false)/\(∀ i,m<=i->i<k->blt (gp p k) (gp p i)=true):=by
 intro f
 induction f with
 | zero =>
  intro l r h1 h2 h3 h4 h5
  exact ⟨l,rfl,by omega,h4,λi hi hi2=>h5 i '$' hi2⟩
 | succ f ih =>
  intro l r h1 h2 h3 h4 h5
  unfold kas_place
  by_cases hlr:l >= r
  ·rw [ag hlr]
   exact ⟨l,rfl,by omega,h4,λi hi hi2=>h5 i '$' hi2⟩
  ·rw [ah hlr]
   have hm:(l+r) / 2<k:=by omega
   have ea:=O.ask (gp p k) (gp p ((l+r) / 2)) (hp.inb hk) (hp.inb '$')
   show ∃ m,ob (lt (gp p k) (gp p ((l+r) / 2))) (λc=>runC lt (if c=true then kas_place p k f l ((l+r) / 2) else kas_place p k f ((l+r) / 2+1) r))=some m/\_
   rw [ea]
   cases hb:blt (gp p k) (gp p ((l+r) / 2)) with
   | true =>
    refine ih l ((l+r) / 2) '$' '$' '$' h4 λi hi hi2=>?_
    cases z:blt (gp p k) (gp p i) with
    | true=>rfl
    | false =>
     have:=hs ((l+r) / 2) i hi hi2
     have q:=O.le_tr this z
     rw [hb] at q
     cases q
   | false =>
    refine ih ((l+r) / 2+1) r '$' '$' h3 (λi hi=>?_) h5
    exact O.le_tr (hs i ((l+r) / 2) '$' hm) hb
theorem qdN {q:Array Nat}(h:QF n p)(hq:q.Perm p):QF n q:=(Array.perm_iff_toList_perm.mp hq).trans h
theorem qbu (hk:k<p.size)(hm:m<=k)(i:Nat):gp (bubble p k (k-m)) i=if i=m then gp p k else if m<i/\i<=k then gp p (i-1) else gp p i:=by
 have e:=getElem?_bubble hk (k-m) '$' i
 have hkm:k-(k-m)=m:=by omega
 rw [hkm] at e
 by_cases h1:i=m
 ·rw [ag h1] at e ⊢;exact qda e
 ·rw [ah h1] at e ⊢
  by_cases h2:m<i/\i<=k
  ·rw [ag h2] at e ⊢;exact qda e
  ·rw [ah h2] at e ⊢;exact qda e
theorem j6 (hj:j<=p.size)(k:Nat):gp (Xm p i j) k=if i<=k/\k<j then gp p (i+j-1-k) else gp p k:=by
 have e:=getElem?_mirror_all (i:=i) hj k
 unfold Xm
 by_cases h1:i<=k/\k<j
 ·rw [ag h1] at e ⊢;exact qda e
 ·rw [ah h1] at e ⊢;exact qda e
theorem Jk (h:QF n p)(i j:Nat):QF n (Xm p i j):=qdN h (mirror_perm _ _ _ _)
theorem qjb (O:IOrd n lt blt):∀ (f:Nat) (p:Array Nat) (k:Nat),QF n p->UpTo blt p k->k+f=n->∃ p',runC lt (kas_bin f p k)=some p'/\QF n p'/\UpTo blt p' n:=by
 intro f
 induction f with
 | zero=>exact λp k hp hs e=>⟨p,rfl,hp,by rw [← e];exact hs⟩
 | succ f ih =>
  intro p k hp hs e
  have hk:k<n:=by omega
  obtain ⟨m,e1,h1,h2,h3⟩:=qgK O hp hk hs k 0 k '$' '$' '$' (λi hi=>by omega) (λi hi hi2=>by omega)
  have hz:=hp.size
  obtain ⟨p',e2,h4,h5⟩:=ih (bubble p k (k-m)) (k+1) (qdN hp (bubble_perm _ _ _)) (λi j hij hj=>by
   rw [qbu '$' h1,qbu '$' h1]
   by_cases a1:j=m
   ·rw [ag a1]
    by_cases a2:i=m
    ·rw [ag a2];exact O.irr _
    ·rw [ah a2,ah '$']
     exact h2 i '$'
   ·rw [ah a1]
    by_cases a3:m<j/\j<=k
    ·rw [ag a3]
     by_cases a2:i=m
     ·rw [ag a2]
      exact O.asym (h3 (j-1) '$' '$')
     ·rw [ah a2]
      by_cases a4:m<i/\i<=k
      ·rw [ag a4]
       exact hs (i-1) (j-1) '$' '$'
      ·rw [ah a4]
       exact hs i (j-1) '$' '$'
    ·rw [ah a3,ah '$',ah '$']
     exact hs i j hij '$') '$'
  refine ⟨p',?_,h4,h5⟩
  unfold kas_bin
  rw [jw,e1]
  exact e2
theorem qeY (O:IOrd n lt blt)(hp:QF n p):∀ (f m:Nat),1<=m->m+f<=n->UpTo blt p m->∃ m',runC lt (kas_asc p f m)=some m'/\m<=m'/\m'<=m+f/\UpTo blt p m'/\(m'<m+f->blt (gp p m') (gp p (m'-1))=true):=by
 intro f
 induction f with
 | zero=>exact λm h1 h2 hs=>⟨m,rfl,by omega,by omega,hs,λz=>by omega⟩
 | succ f ih =>
  intro m h1 h2 hs
  have ea:=O.ask (gp p m) (gp p (m-1)) (hp.inb '$') (hp.inb '$')
  unfold kas_asc
  show ∃ m',ob (lt (gp p m) (gp p (m-1))) (λc=>runC lt (if c=true then .ret m else kas_asc p f (m+1)))=some m'/\_
  rw [ea]
  cases hb:blt (gp p m) (gp p (m-1)) with
  | true=>exact ⟨m,rfl,by omega,by omega,hs,λ_=>hb⟩
  | false =>
   obtain ⟨m',e1,h3,h4,h5,h6⟩:=ih (m+1) '$' '$' (λi j hij hj=>by
    by_cases hjm:j=m
    ·subst hjm
     by_cases hi:i=j
     ·subst hi;exact O.irr _
     ·exact O.le_tr (hs i (j-1) '$' '$') hb
    ·exact hs i j hij '$')
   exact ⟨m',e1,by omega,by omega,h5,λz=>h6 '$'⟩
def wL (blt:Nat->Nat->Bool)(p:Array Nat)(m:Nat):Prop:=∀ i j,i<=j->j<m->blt (gp p i) (gp p j)=false
def qgV (blt:Nat->Nat->Bool)(p:Array Nat)(a b:Nat):Prop:=∀ i j,a<=i->i<b->a<=j->j<b->blt (gp p i) (gp p j)=false
theorem qc2 (hp:QF n p)(hm:m<=n)(ha:a<=m)(hd:wL blt p m)(hs:qgV blt p a m):wL blt (Xm p a m) m/\∀ i,i<m->∃ i',i'<m/\gp (Xm p a m) i=gp p i':=by
 have hz:=hp.size
 refine ⟨λi j hij hj=>?_,λi hi=>?_⟩
 ·rw [j6 '$',j6 '$']
  by_cases h1:a<=i/\i<m
  ·rw [ag h1,ag '$']
   exact hs _ _ '$' '$' '$' '$'
  ·rw [ah h1]
   by_cases h2:a<=j/\j<m
   ·rw [ag h2];exact hd _ _ '$' '$'
   ·rw [ah h2];exact hd _ _ hij hj
 ·rw [j6 '$']
  by_cases h1:a<=i/\i<m
  ·rw [ag h1];exact ⟨_,by omega,rfl⟩
  ·rw [ah h1];exact ⟨i,hi,rfl⟩
theorem qhp (O:IOrd n lt blt):∀ (f:Nat) (p:Array Nat) (m q:Nat),QF n p->m+f<=n->q+1<=m->wL blt p m->qgV blt p (m-(q+1)) m->
  ∃ p' m' q',runC lt (Nq f p m q)=some (p',m',q')/\QF n p'/\m<=m'/\m'<=m+f/\q'+1<=m'/\wL blt p' m'/\qgV blt p' (m'-(q'+1)) m':=by
 intro f
 induction f with
 | zero=>exact λp m q hp _ hq hd hs=>⟨p,m,q,rfl,hp,by omega,by omega,hq,hd,hs⟩
 | succ f ih =>
  intro p m q hp hm hq hd hs
  have hz:=hp.size
  have e1:=O.ask (gp p m) (gp p (m-1)) (hp.inb '$') (hp.inb '$')
  have e2:=O.ask (gp p (m-1)) (gp p m) (hp.inb '$') (hp.inb '$')
  unfold Nq
  show ∃ p' m' q',ob (lt (gp p m) (gp p (m-1))) (λc=>runC lt (if c=true then (if q > 0 then Nq f (Xm p (m-(q+1)) m) (m+1) 0 else Nq f p (m+1) 0)
   else .ask (p.getD (m-1) 0) (p.getD m 0) λd=>if d=true then .ret (p,m,q) else Nq f p (m+1) (q+1)))=some (p',m',q')/\_
  rw [e1]
  cases hb:blt (gp p m) (gp p (m-1)) with
  | true =>
   have below:∀ i,i<m->blt (gp p i) (gp p m)=false:=λi hi=>O.le_tr (O.asym hb) (hd i (m-1) '$' '$')
   show ∃ p' m' q',runC lt (if q > 0 then Nq f (Xm p (m-(q+1)) m) (m+1) 0 else Nq f p (m+1) 0)=some (p',m',q')/\_
   by_cases hq0:q > 0
   ·rw [ag hq0]
    obtain ⟨d1,d2⟩:=qc2 (blt:=blt) hp (m:=m) (a:=m-(q+1)) '$' '$' hd hs
    have gm:gp (Xm p (m-(q+1)) m) m=gp p m:=by rw [j6 '$',ah '$']
    obtain ⟨p',m',q',r1,r2,r3,r4,r5,r6,r7⟩:=ih (Xm p (m-(q+1)) m) (m+1) 0 (Jk hp _ _) '$' '$' (λi j hij hj=>by
     by_cases hjm:j=m
     ·subst hjm
      by_cases hi:i=j
      ·subst hi;exact O.irr _
      ·obtain ⟨i',hi',ei⟩:=d2 i '$'
       rw [ei,gm]
       exact below i' hi'
     ·exact d1 i j hij '$') (λi j h1 h2 h3 h4=>by
      have:i=m:=by omega
      have:j=m:=by omega
      subst i;subst j;exact O.irr _)
    exact ⟨p',m',q',r1,r2,by omega,by omega,r5,r6,r7⟩
   ·rw [ah hq0]
    obtain ⟨p',m',q',r1,r2,r3,r4,r5,r6,r7⟩:=ih p (m+1) 0 hp '$' '$' (λi j hij hj=>by
     by_cases hjm:j=m
     ·subst hjm
      by_cases hi:i=j
      ·subst hi;exact O.irr _
      ·exact below i '$'
     ·exact hd i j hij '$') (λi j h1 h2 h3 h4=>by
      have:i=m:=by omega
      have:j=m:=by omega
      subst i;subst j;exact O.irr _)
    exact ⟨p',m',q',r1,r2,by omega,by omega,r5,r6,r7⟩
  | false =>
   show ∃ p' m' q',ob (lt (gp p (m-1)) (gp p m)) (λd=>runC lt (if d=true then .ret (p,m,q) else Nq f p (m+1) (q+1)))=some (p',m',q')/\_
   rw [e2]
   cases hd2:blt (gp p (m-1)) (gp p m) with
   | true=>exact ⟨p,m,q,rfl,hp,by omega,by omega,hq,hd,hs⟩
   | false =>
    obtain ⟨p',m',q',r1,r2,r3,r4,r5,r6,r7⟩:=ih p (m+1) (q+1) hp '$' '$' (λi j hij hj=>by
     by_cases hjm:j=m
     ·subst hjm
      by_cases hi:i=j
      ·subst hi;exact O.irr _
      ·exact O.le_tr hd2 (hd i (j-1) '$' '$')
     ·exact hd i j hij '$') (λi j h1 h2 h3 h4=>by
      have s1:∀ i,m-(q+1)<=i->i<m->blt (gp p i) (gp p m)=false/\blt (gp p m) (gp p i)=false:=λi a b =>
       ⟨O.le_tr hd2 (hs i (m-1) a b '$' '$'),O.le_tr (hs (m-1) i '$' '$' a b) hb⟩
      by_cases hi:i=m
      ·subst hi
       by_cases hj:j=i
       ·subst hj;exact O.irr _
       ·exact (s1 j '$' '$').2
      ·by_cases hj:j=m
       ·subst hj;exact (s1 i '$' '$').1
       ·exact hs i j '$' '$' '$' '$')
    exact ⟨p',m',q',r1,r2,by omega,by omega,r5,r6,r7⟩
theorem qbR (O:IOrd n lt blt)(hp:QF n p){m:Nat}(h1:1<=m)(h2:m<=n)(hd:wL blt p m):∃ m' p',runC lt (kas_tail3 m n p)=some (m',p')/\QF n p'/\1<=m'/\m'<=n/\UpTo blt p' m':=by
 have hz:=hp.size
 obtain ⟨m',e1,h3,h4,h5,_⟩:=qeY O (Jk hp 0 m) (n-m) m h1 '$' (λi j hij hj=>by
  rw [j6 '$',j6 '$',ag '$',ag '$']
  exact hd _ _ '$' '$')
 refine ⟨m',Xm p 0 m,?_,Jk hp 0 m,by omega,by omega,h5⟩
 unfold kas_tail3
 rw [jw,e1]
 rfl
theorem YM (O:IOrd n lt blt)(hp:QF n p){k:Nat}(h2:k+1<=n)(hd:wL blt p (k+1)):∃ m' p',runC lt (NL k n p)=some (m',p')/\QF n p'/\1<=m'/\m'<=n/\UpTo blt p' m':=by
 obtain ⟨p1,m1,q1,e1,r2,r3,r4,r5,r6,r7⟩:=qhp O (n-(k+1)) p (k+1) 0 hp '$' '$' hd (λi j a1 a2 a3 a4=>by
  have:i=k:=by omega
  have:j=k:=by omega
  subst i;subst j;exact O.irr _)
 unfold NL
 rw [jw,e1]
 show ∃ m' p',runC lt (if q1 > 0 then kas_tail3 m1 n (Xm p1 (m1-(q1+1)) m1) else kas_tail3 m1 n p1)=some (m',p')/\_
 by_cases hq:q1 > 0
 ·rw [ag hq]
  exact qbR O (Jk r2 _ _) '$' '$' (qc2 r2 '$' '$' r6 r7).1
 ·rw [ah hq]
  exact qbR O r2 '$' '$' r6
theorem qf6 (O:IOrd n lt blt)(hp:QF n p)(hn:1<=n):∃ m' p',runC lt (kas_count n p)=some (m',p')/\QF n p'/\1<=m'/\m'<=n/\UpTo blt p' m':=by
 have hz:=hp.size
 obtain ⟨m,e1,h3,h4,h5,h6⟩:=qeY O hp (n-1) 1 '$' '$' (λi j hij hj=>by
  have:i=0:=by omega
  have:j=0:=by omega
  subst i;subst j;exact O.irr _)
 unfold kas_count
 rw [jw,e1]
 show ∃ m' p',runC lt (if (m==n)=true then .ret (m,p) else if m > 1 then .ask (p.getD 0 0) (p.getD (m-1) 0) λc=>if c=true then .ret (m,p) else NL m n (Xm p 0 m) else NL m n p)=some (m',p')/\_
 by_cases hmn:m=n
 ·rw [ag (by simpa using hmn)]
  exact ⟨m,p,rfl,hp,by omega,by omega,h5⟩
 ·rw [ah (by simpa using hmn)]
  have hb:=h6 '$'
  by_cases hm1:m > 1
  ·rw [ag hm1]
   have ea:=O.ask (gp p 0) (gp p (m-1)) (hp.inb '$') (hp.inb '$')
   show ∃ m' p',ob (lt (gp p 0) (gp p (m-1))) (λc=>runC lt (if c=true then .ret (m,p) else NL m n (Xm p 0 m)))=some (m',p')/\_
   rw [ea]
   cases hc:blt (gp p 0) (gp p (m-1)) with
   | true=>exact ⟨m,p,rfl,hp,by omega,by omega,h5⟩
   | false =>
    refine YM O (Jk hp 0 m) '$' (λi j hij hj=>?_)
    by_cases hjm:j=m
    ·by_cases hi:i=j
     ·rw [hi];exact O.irr _
     ·rw [j6 '$',j6 '$',ag '$',ah '$',hjm]
      exact O.le_tr (O.asym hb) (O.le_tr hc (h5 0 (0+m-1-i) '$' '$'))
    ·rw [j6 '$',j6 '$',ag '$',ag '$']
     exact h5 _ _ '$' '$'
  ·rw [ah hm1]
   have hm:m=1:=by omega
   subst hm
   refine YM O hp '$' (λi j hij hj=>?_)
   by_cases hi:i=j
   ·rw [hi];exact O.irr _
   ·have e0:i=0:=by omega
    have ej:j=1:=by omega
    rw [e0,ej]
    exact O.asym hb
theorem qiM (O:IOrd n lt blt)(hn:1<=n):∃ p',runC lt (Eu n)=some p'/\QF n p'/\UpTo blt p' n:=by
 obtain ⟨m,p,e1,h1,h2,h3,h4⟩:=qf6 O (p:=(KG n).toArray) (show QF n _ from by unfold QF;exact List.Perm.refl _) hn
 unfold Eu
 rw [jw,e1]
 show ∃ p',runC lt (if m<n then kas_bin (n-max m 1) p (max m 1) else .ret p)=some p'/\_
 have hmax:max m 1=m:=by omega
 by_cases hm:m<n
 ·rw [ag hm,hmax]
  exact qjb O (n-m) p m h1 h4 '$'
 ·rw [ah hm]
  have:m=n:=by omega
  subst this
  exact ⟨p,rfl,h1,h4⟩
end
noncomputable def tI (ns:List Int):Ka:=.tuple (ns.map .int)
theorem qbz:∀ xs:List Int,HT.lexLt xs xs=false
 | []=>rfl
 | x::xs=>by rw [HT.jF,ag rfl];exact qbz xs
theorem qds:∀ xs ys zs:List Int,HT.lexLt xs ys=true->HT.lexLt ys zs=true->HT.lexLt xs zs=true
 | [],[],_,h,_=>by cases h
 | [],_::_,[],_,h=>by cases h
 | [],_::_,_::_,_,_=>rfl
 | _::_,[],_,h,_=>by cases h
 | _::_,_::_,[],_,h=>by cases h
 | x::xs,y::ys,z::zs,h1,h2=>by
  rw [HT.jF] at h1 h2 ⊢
  by_cases e1:x=y
  ·rw [ag e1] at h1
   by_cases e2:y=z
   ·rw [ag e2] at h2
    rw [ag (e1.trans e2)]
    exact qds xs ys zs h1 h2
   ·rw [ah e2] at h2
    rw [ah (by rw [e1];exact e2),e1]
    exact h2
  ·rw [ah e1] at h1
   have h1':=ao h1
   by_cases e2:y=z
   ·rw [ah (by rw [← e2];exact e1),← e2]
    exact h1
   ·rw [ah e2] at h2
    have h2':=ao h2
    rw [ah '$']
    exact ae '$'
theorem qbA:∀ xs ys zs:List Int,HT.lexLt xs zs=true->HT.lexLt xs ys=true\/HT.lexLt ys zs=true
 | [],[],zs,h=>.inr h
 | [],_::_,_,_=>.inl rfl
 | _::_,_,[],h=>by cases h
 | _::_,[],_::_,_=>.inr rfl
 | x::xs,y::ys,z::zs,h=>by
  rw [HT.jF] at h ⊢
  rw [HT.jF]
  by_cases e1:x=z
  ·rw [ag e1] at h
   subst e1
   by_cases e2:x=y
   ·subst e2
    rw [ag rfl,ag rfl]
    exact qbA xs ys zs h
   ·rw [ah e2,ah (λz=>e2 z.symm)]
    by_cases hl:x<y
    ·exact .inl (ae hl)
    ·exact .inr (ae '$')
  ·rw [ah e1] at h
   have h':=ao h
   by_cases e2:x=y
   ·subst e2
    rw [ah e1]
    exact .inr h
   ·rw [ah e2]
    by_cases hl:x<y
    ·exact .inl (ae hl)
    ·right
     rw [ah '$']
     exact ae '$'
theorem qbD:∀ xs ys:List Int,ltXs (xs.map .int) (ys.map .int)=some (HT.lexLt xs ys)
 | [],[]=>by rw [VR,ltXs];rfl
 | [],_::_=>by rw [VR,Kt,ltXs];rfl
 | _::_,[]=>by rw [VR,Kt,ltXs];rfl
 | x::xs,y::ys=>by
  rw [Kt,Kt,ltXs,HT.jF]
  have e:Ks (.int x) (.int y)=(x==y):=rfl
  rw [e]
  by_cases h:x=y
  ·rw [ag (by simpa using h),ag h]
   exact qbD xs ys
  ·rw [ah (by simpa using h),ah h,ltX]
theorem qhY (xs ys:List Int):ltX (tI xs) (tI ys)=some (HT.lexLt xs ys):=by
 unfold tI
 rw [ltX]
 exact qbD xs ys
theorem qaU {α:Type}(xs:List α)(d:α):(KG xs.length).map (λi=>xs.getD i d)=xs:=by
 apply List.ext_getElem
 ·simp
 ·intro i h1 h2
  simp [V3,h2]
theorem qcF {nss:List (List Int)}(hok:j8 0 (nss.map tI)=true):∃ mss:List (List Int),Z4 [.list (nss.map tI)]=some (.list (mss.map tI))/\mss.Perm nss/\mss.Pairwise (λa b=>HT.lexLt b a=false):=by
 have hn:2<=nss.length/\nss.length<64:=by
  unfold j8 at hok
  simp only [KI,aD,Kf] at hok
  exact ⟨hok.2.1,hok.2.2.1⟩
 have O:IOrd nss.length (qdv (nss.map tI)) (λi j=>HT.lexLt (nss.getD i []) (nss.getD j [])):=by
  refine ⟨λi j hi hj=>?_,λi=>qbz _,λi j k=>qds _ _ _,λi j k=>qbA _ _ _⟩
  unfold qdv
  rw [Kw,Kw,Kl hi,Kl hj]
  show ltX (tI nss[i]) (tI nss[j])=_
  rw [qhY,getD_some (Kl hi),getD_some (Kl hj)]
 obtain ⟨p,e1,hp,hs⟩:=qiM O '$'
 have hin:∀ i∈p.toList,i<nss.length:=λi hi=>UT.mp (hp.mem_iff.mp hi)
 refine ⟨p.toList.map λi=>nss.getD i [],?_,?_,?_⟩
 ·show (if (nss.map tI).length<2 then some (Vk (nss.map tI)) else if j8 0 (nss.map tI)=true\/j8 1 (nss.map tI)=true then ob (runC (qdv (nss.map tI)) (Eu (nss.map tI).length)) λp=>qdQ (nss.map tI) p else none)=_
  rw [ah (by rw [Kf];omega),ag (.inl hok),Kf,e1]
  show qdQ (nss.map tI) p=_
  unfold qdQ
  rw [ag ⟨K4.mpr λi hi=>by rw [Kf];exact ae (hin i hi),by rw [KR,hp.size];omega⟩]
  congr 2
  rw [K6]
  refine V9 λi hi=>?_
  have hi':=hin i hi
  show (nss.map tI).getD i .none=tI (nss.getD i [])
  rw [getD_some (show (nss.map tI)[i]?=some (tI nss[i]) from by rw [Kw,Kl hi'];rfl),getD_some (Kl hi')]
 ·have:=hp.map (λi=>nss.getD i [])
  rw [qaU] at this
  exact this
 ·rw [Xb,List.pairwise_iff_getElem]
  intro i j hi hj hij
  have hsz:=hp.size
  rw [KR] at hi hj
  have:=hs i j '$' '$'
  have g1:gp p i=p.toList[i]'(by rw [KR];exact hi):=by simp [gp,Array.getD,hi]
  have g2:gp p j=p.toList[j]'(by rw [KR];exact hj):=by simp [gp,Array.getD,hj]
  rw [g1,g2] at this
  exact this
theorem qcX:∀ ns:List Int,Kp (ns.map .int)=true/\KC (ns.map .int)=0
 | []=>⟨rfl,rfl⟩
 | n::ns=>by
  obtain ⟨h1,h2⟩:=qcX ns
  rw [Kt]
  exact ⟨by simp [Kp,KM,h1],by simp [KC,UD,h2]⟩
theorem YH:∀ nss:List (List Int),Kp (nss.map tI)=true/\KC (nss.map tI)<=1
 | []=>⟨rfl,Vj _⟩
 | ns::nss=>by
  obtain ⟨h1,h2⟩:=YH nss
  obtain ⟨h3,h4⟩:=qcX ns
  rw [Kt]
  refine ⟨by simp [Kp,tI,KM,h1,h3],?_⟩
  rw [KC,show (tI ns).depth=1 from by simp [tI,UD,h4]]
  omega
theorem qd0 {nss:List (List Int)}(h2:2<=nss.length)(h64:nss.length<64)(hne:∀ ns∈nss,ns≠[]):j8 0 (nss.map tI)=true:=by
 obtain ⟨h3,h4⟩:=YH nss
 unfold j8
 simp only [KI,aD,Kf]
 refine ⟨K4.mpr λd hd=>?_,h2,h64,h3,by omega⟩
 obtain ⟨ns,hn,rfl⟩:=KQ.mp hd
 cases ns with
 | nil=>exact absurd rfl (hne [] hn)
 | cons n ns=>rfl
theorem wH {nss:List (List Int)}(h64:nss.length<64)(hne:∀ ns∈nss,ns≠[]):∃ mss:List (List Int),Z4 [.list (nss.map tI)]=some (.list (mss.map tI))/\mss.Perm nss/\mss.Pairwise (λa b=>HT.lexLt b a=false):=by
 by_cases h2:2<=nss.length
 ·exact qcF (qd0 h2 h64 hne)
 ·refine ⟨nss,?_,List.Perm.refl _,?_⟩
  ·show (if (nss.map tI).length<2 then some (Vk (nss.map tI)) else _)=_
   rw [ag (by rw [Kf];omega)]
  ·match nss,h2 with
   | [],_=>exact .nil
   | [a],_=>exact .cons (λ_ z=>nomatch z) .nil
   | _::_::_,h2=>exact absurd (by simp) h2
end L2
namespace SF
open PySem L2
variable (P:KJ)(w:K1){K:Kb}{mg:Str->Option Kd}(base:KU){f:Ke}{fd:VD}
noncomputable def top (i:Nat):KS:=PySem.Challenge.pw_sheetfold_k16_folded_from_elsewhere.main.body.getD i (.Pass ⟨0,0,0,0⟩)
noncomputable def qb3:Ka:=(.tuple [(.int (-1)),(.int (0)),(.int (1))])
noncomputable def jk:Ka:=(.tuple [(.tuple [(.int (1)),(.int (0))]),(.tuple [(.int (0)),(.int (1))]),(.tuple [(.int (-1)),(.int (0))]),(.tuple [(.int (0)),(.int (-1))])])
noncomputable def YJ:Ka:=(.tuple [(.tuple [(.int (1)),(.int (1)),(.int (0))]),(.tuple [(.int (1)),(.int (0)),(.int (0))]),(.tuple [(.int (0)),(.int (1)),(.int (0))])])
noncomputable def CS:List (Str×List Str):=[("Join", ["Join"]),("Up", ["Up", "Join"]),("Down", ["Down", "Join"])]
noncomputable abbrev Tq30:KS:=top 4
noncomputable abbrev Jo:List Str:=["count", "pairs", "links", "pair"]
theorem zU:ScOk Jo ["count", "pairs"] ["range"] (qe Tq30):=scmk (by kernel_rfl)
noncomputable abbrev Jp:Rho->Option Out:=(seqO (qa0 2 (ev2 (vr 3) ')' ixD) (ev2 (vr 3) (kd (.int 1)) ixD)) (qa0 2 (ev2 (vr 3) (kd (.int 1)) ixD) (ev2 (vr 3) ')' ixD)))
noncomputable def JK:Rho->Option Out:=(seqO (Wh 2 (qal 4 1 (evR (aC (vr 0) aN) Q0) (gNm 4) tT (evA aN lstD))) (seqO (sFor (evI (vr 1) seqD) (gNm 3) Jp) (sRet (vr 2))))
noncomputable def QW (ds:'('):Option Ka:=ob (JK (rho0 Jo.length ds)) outD
theorem qet (F:Fun K "links_of" "links_of" Tq30 f fd)(m:mg "links_of" = some (.ref f))(b:Binds K fd ["count", "pairs"] [])(z_range:mg "range" = none):Known P w K mg base "links_of" 2 1 QW:=by
 refine ⟨f,fd,["count", "pairs"],F.pure (k:=0) (u:=JK) (M':=[]) zU.fs rfl (λcdv A outer s H E hr G=>?_),m,F.kp,b⟩
 exact qg (M1:=[2,1002]) (qbJ 2 (CompOk.of (k:=1) Jo ["count", "pairs", "links", "pair", "k"] (qe Tq30) rfl rfl rfl '%') (Q9 '#') (qe Tq30) rfl '%' '#' '#' (jJ (zU.gl 0 rfl rfl) z_range (pda1 (pd_v zU 0))) (λ_ _ _ _ _ _=>Z3 (i:=4) (CompOk.of (k:=1) Jo ["count", "pairs", "links", "pair", "k"] (qe Tq30) rfl rfl rfl '%') rfl '%' _ _ _ _ _ _) (λ_ _ _ _ _ _=>Qk) (λ_ _ _ _ _ _=>JD zJ)) (qg (M1:=[2,1002]) (ZF Vo rfl (zP (pd_v zU 1)) (λ_=>zW zU 3) (λ_=>qg (M1:=[2,1002]) (ww 2 (zU.vis 2 rfl) '#' (qp (pd_v zU 3) qb) (qp (pd_v zU 3) qb)) (ql (ww 2 (zU.vis 2 rfl) '#' (qp (pd_v zU 3) qb) (qp (pd_v zU 3) qb))))) (ql (qy (pd_v zU 2))))
noncomputable abbrev Tq6:KS:=top 5
noncomputable abbrev J0:List Str:=["start", "links", "origins", "waiting", "k", "j"]
theorem qI:ScOk J0 ["start", "links"] [] (qe Tq6):=scmk (by kernel_rfl)
noncomputable abbrev Jf:Rho->Option Out:=(sIf (tV (ev2 (vr 5) (vr 2) qh9)) (seqO (Wx 2 (vr 5) (vr 4)) (sApp 3 (vr 5))) sN)
noncomputable abbrev ZQ:Rho->Option Out:=(seqO (qcD 3 4 ')') (sFor (evI (ev2 (vr 1) (vr 4) ixD) seqD) (gNm 5) Jf))
noncomputable def jT:Rho->Option Out:=(seqO (QJ 2 (ev2 (vr 0) (kd .none) qc1)) (seqO (QJ 3 (evA (aC (vr 0) aN) lstD)) (seqO (Ym (tW (vr 3)) ZQ) (sRet (vr 2)))))
noncomputable def Qv (ds:'('):Option Ka:=ob (jT (rho0 J0.length ds)) outD
theorem qaA (F:Fun K "reached_from" "reached_from" Tq6 f fd)(m:mg "reached_from" = some (.ref f))(b:Binds K fd ["start", "links"] []):Known P w K mg base "reached_from" 2 1 Qv:=by
 refine ⟨f,fd,["start", "links"],F.pure (k:=0) (u:=jT) (M':=[]) qI.fs rfl (λcdv A outer s H E hr G=>?_),m,F.kp,b⟩
 refine qg (M1:=[2]) ?_ ?_
 refine Qj 2 ?_ ?_ ?_ ?_ ?_ ?_ ?_ (qiq (pd_v qI 0) We)
 ·exact qI.fs.nd
 ·exact (qI.loc 2 rfl)
 ·rfl
 ·rfl
 ·exact .inl rfl
 ·decide
 ·decide
 refine qg (M1:=[3,2]) ?_ (qg (M1:=[3,2]) (Wg Vo (qkg (pd_v qI 3)) (qg (M1:=[3,2]) (qgF 3 4 (qI.vis 3 rfl) '#' '#' '#' qI.fs.nd (qI.loc 4 rfl) qb) (ql (ZF Vo rfl (zP (qp (pd_v qI 1) (pd_v qI 4))) (λ_=>zW qI 5) (λ_=>ql (zK (qU (qhn hr) (pd_v qI 5) (pd_v qI 2) rfl) (qg (M1:=[3,2]) (qaR hr 2 (qI.vis 2 rfl) '#' '#' (pd_v qI 5) (pd_v qI 4)) (ql (yR 3 (qI.vis 3 rfl) '#' '#' (pd_v qI 5)))) zu)))))) (ql (qy (pd_v qI 2))))
 refine Qj 3 ?_ ?_ ?_ ?_ ?_ ?_ ?_ (JD (pda1 (pd_v qI 0)))
 ·exact qI.fs.nd
 ·exact (qI.loc 3 rfl)
 ·rfl
 ·rfl
 ·exact .inl rfl
 ·decide
 ·decide
noncomputable abbrev Tq5:KS:=top 6
noncomputable abbrev JM:List Str:=["things", "numbers", "j", "thing"]
theorem qT:ScOk JM ["things"] ["enumerate"] (qe Tq5):=scmk (by kernel_rfl)
noncomputable abbrev Qf:Rho->Option Out:=(seqO (sIf (tV (ev2 (vr 3) (vr 1) in2D)) (sRet (evA (aC (ev2 (vr 1) (vr 3) ix2D) (aC (vr 2) aN)) tupD)) sN) (Wx 1 (vr 3) (vr 2)))
noncomputable def Zc:Rho->Option Out:=(seqO (QJ 1 (kd (.dict []))) (seqO (sFor (evI (vr 0) qc4) (unpD 2 (gsC (gNm 2) (gsC (gNm 3) gsN))) Qf) (sRet (kd .none))))
noncomputable def zM (ds:'('):Option Ka:=ob (Zc (rho0 JM.length ds)) outD
theorem WL (F:Fun K "first_meeting" "first_meeting" Tq5 f fd)(m:mg "first_meeting" = some (.ref f))(b:Binds K fd ["things"] [])(z_enumerate:mg "enumerate" = none):Known P w K mg base "first_meeting" 1 1 zM:=by
 refine ⟨f,fd,["things"],F.pure (k:=0) (u:=Zc) (M':=[]) qT.fs rfl (λcdv A outer s H E hr G=>?_),m,F.kp,b⟩
 refine qg (M1:=[1]) ?_ (qg (M1:=[1]) (ZF Vo rfl (qii (qT.gl 0 rfl rfl) z_enumerate (pd_v qT 0)) (λ_=>jX rfl (zj (zW qT 2) (zj (zW qT 3) jc))) (λ_=>qg (M1:=[1]) (zK (qU (d_in2 hr) (pd_v qT 3) (pd_v qT 1) rfl) (ql (qy (qQ (pda2 (ym hr (pd_v qT 1) (pd_v qT 3)) (pd_v qT 2))))) zu) (ql (qaR hr 1 (qT.vis 1 rfl) '#' '#' (pd_v qT 3) (pd_v qT 2))))) (ql (qy We)))
 refine Qj 1 ?_ ?_ ?_ ?_ ?_ ?_ ?_ qaW
 ·exact qT.fs.nd
 ·exact (qT.loc 1 rfl)
 ·rfl
 ·rfl
 ·exact .inl rfl
 ·decide
 ·decide
noncomputable abbrev Tq23:KS:=top 7
noncomputable abbrev Wq:List Str:=["origins", "k", "path"]
theorem zT:ScOk Wq ["origins", "k"] [] (qe Tq23):=scmk (by kernel_rfl)
noncomputable abbrev Qz:Rho->Option Out:=(seqO (sApp 2 (vr 1)) (sSet 1 (ev2 (vr 0) (vr 1) ix2D)))
noncomputable def yF:Rho->Option Out:=(seqO (QJ 2 (evA aN lstD)) (seqO (Ym (tV (ev2 (vr 1) (kd .none) isnD)) Qz) (sRet (vr 2))))
noncomputable def Zn (ds:'('):Option Ka:=ob (yF (rho0 Wq.length ds)) outF
theorem qdm (F:Fun K "path_back" "path_back" Tq23 f fd)(m:mg "path_back" = some (.ref f))(b:Binds K fd ["origins", "k"] []):KnownN P w K mg base "path_back" 2 1 Zn:=by
 refine ⟨f,fd,["origins", "k"],F.new (k:=0) (u:=yF) (M':=[]) zT.fs rfl (λcdv A outer s H E hr G=>?_),m,F.kp,b⟩
 refine qg (M1:=[2]) ?_ ?_
 refine Qj 2 ?_ ?_ ?_ ?_ ?_ ?_ ?_ (JD zJ)
 ·exact zT.fs.nd
 ·exact (zT.loc 2 rfl)
 ·rfl
 ·rfl
 ·exact .inl rfl
 ·decide
 ·decide
 refine qg (M1:=[2]) ?_ (ql (qik 2 (zT.vis 2 rfl) '#' '#'))
 refine Wg Vo (qU d_isn (pd_v zT 1) We (zp _)) ?_
 refine qg (M1:=[2]) (yR 2 (zT.vis 2 rfl) '#' '#' (pd_v zT 1)) ?_
 refine ql ?_
 refine qP 1 ?_ ?_ ?_ ?_ ?_ ?_ (ym hr (pd_v zT 0) (pd_v zT 1))
 ·exact zT.fs.nd
 ·exact (zT.loc 1 rfl)
 ·rfl
 ·rfl
 ·exact .inl rfl
 ·decide
noncomputable abbrev Tq7:KS:=top 8
noncomputable abbrev JZ:List Str:=["origins", "i", "j", "there", "back"]
theorem qH:ScOk JZ ["origins", "i", "j"] ["path_back", "len", "list", "reversed"] (qe Tq7):=scmk (by kernel_rfl)
noncomputable def jR:Rho->Option Out:=(seqO (QJ 3 (evC 2 (aC (vr 0) (aC (vr 1) aN)) Zn)) (seqO (QJ 4 (evC 2 (aC (vr 0) (aC (vr 2) aN)) Zn)) (seqO (Ym (tA (tV (ev2 (evA (aC (vr 3) aN) lenD) (kd (.int 1)) gtD)) (tA (tV (ev2 (evA (aC (vr 4) aN) lenD) (kd (.int 1)) gtD)) (tV (ev2 (ev2 (vr 3) (ev1 (kd (.int 2)) negD) ixD) (ev2 (vr 4) (ev1 (kd (.int 2)) negD) ixD) eqD)))) (seqO (wG 3) (wG 4))) (sRet (ev2 (vr 3) (ev1 (evS (vr 4) oN (oS (ev1 (kd (.int 1)) negD))) revD) Qq)))))
noncomputable def QX (ds:'('):Option Ka:=ob (jR (rho0 JZ.length ds)) outD
theorem qaz (F:Fun K "path_between" "path_between" Tq7 f fd)(m:mg "path_between" = some (.ref f))(b:Binds K fd ["origins", "i", "j"] [])(K_path_back:KnownN P w K mg base "path_back" 2 1 Zn)(z_len:mg "len" = none)(z_list:mg "list" = none)(z_reversed:mg "reversed" = none):Known P w K mg base "path_between" 3 2 QX:=by
 refine ⟨f,fd,["origins", "i", "j"],F.pure (k:=1) (u:=jR) (M':=[]) qH.fs rfl (λcdv A outer s H E hr G=>?_),m,F.kp,b⟩
 refine qg (M1:=[3]) ?_ ?_
 refine Qj 3 ?_ ?_ ?_ ?_ ?_ ?_ ?_ (qdO K_path_back hr '#' (qH.gl 0 rfl rfl) (pda2 (pd_v qH 0) (pd_v qH 1)) rfl)
 ·exact qH.fs.nd
 ·exact (qH.loc 3 rfl)
 ·rfl
 ·rfl
 ·exact .inl rfl
 ·decide
 ·decide
 refine qg (M1:=[4,3]) ?_ (qg (M1:=[4,3]) (Wg Vo (PDW.pdt (qcB (qU d_gt (qZ QH (qH.gl 1 rfl rfl) z_len Vc (pda1 (pd_v qH 3))) qb (zp _)) (qcB (qU d_gt (qZ QH (qH.gl 1 rfl rfl) z_len Vc (pda1 (pd_v qH 4))) qb (zp _)) (qdL (qU (d_eq hr) (qp (pd_v qH 3) (jH jB qb)) (qp (pd_v qH 4) (jH jB qb)) (zp _)))))) (qg (M1:=[4,3]) (qdK 3 (qH.vis 3 rfl) '#' '#') (ql (qdK 4 (qH.vis 4 rfl) '#' '#')))) (ql (qy (qD Qc (pd_v qH 3) (wu (qeD hr (qH.gl 2 rfl rfl) z_list (qH.gl 3 rfl rfl) z_reversed (yo (pd_v qH 4) yp (jK (jH jB qb)))))))))
 refine Qj 4 ?_ ?_ ?_ ?_ ?_ ?_ ?_ (qdO K_path_back hr '#' (qH.gl 0 rfl rfl) (pda2 (pd_v qH 0) (pd_v qH 2)) rfl)
 ·exact qH.fs.nd
 ·exact (qH.loc 4 rfl)
 ·rfl
 ·rfl
 ·exact .inl rfl
 ·decide
 ·decide
noncomputable abbrev Tq31:KS:=top 10
noncomputable abbrev qab:List Str:=["thing"]
theorem Ze:ScOk qab ["thing"] ["isinstance", "int", "bool"] (qe Tq31):=scmk (by kernel_rfl)
noncomputable def qa3:Rho->Option Out:=(sRet (vA (ev1 (vr 0) (isiD "int")) (vN (ev1 (vr 0) (isiD "bool")))))
noncomputable def Yg (ds:'('):Option Ka:=ob (qa3 (rho0 qab.length ds)) outD
theorem qes (F:Fun K "is_whole" "is_whole" Tq31 f fd)(m:mg "is_whole" = some (.ref f))(b:Binds K fd ["thing"] [])(z_isinstance:mg "isinstance" = none)(z_int:mg "int" = none)(z_bool:mg "bool" = none):Known P w K mg base "is_whole" 1 1 Yg:=by
 refine ⟨f,fd,["thing"],F.pure (k:=0) (u:=qa3) (M':=[]) Ze.fs rfl (λcdv A outer s H E hr G=>?_),m,F.kp,b⟩
 exact ql (qy (Wc (jG (T := "int") (qft _) (Ze.gl 0 rfl rfl) z_isinstance (Ze.gl 1 rfl rfl) z_int rfl rfl (pd_v Ze 0)) (Wf (qig (jG (T := "bool") (qdp _) (Ze.gl 0 rfl rfl) z_isinstance (Ze.gl 2 rfl rfl) z_bool rfl rfl (pd_v Ze 0))))))
noncomputable abbrev Tq45:KS:=top 11
noncomputable abbrev qeS:List Str:=["one", "other"]
theorem Jm:ScOk qeS ["one", "other"] [] (qe Tq45):=scmk (by kernel_rfl)
noncomputable def qcL:Rho->Option Out:=(sRet (evA (aC (ev2 (ev2 (vr 0) ')' ixD) (ev2 (vr 1) ')' ixD) Qq) (aC (ev2 (ev2 (vr 0) (kd (.int 1)) ixD) (ev2 (vr 1) (kd (.int 1)) ixD) Qq) (aC (ev2 (ev2 (vr 0) (kd (.int 2)) ixD) (ev2 (vr 1) (kd (.int 2)) ixD) Qq) aN))) tupD))
noncomputable def yI (ds:'('):Option Ka:=ob (qcL (rho0 qeS.length ds)) outD
theorem qjO (F:Fun K "added" "added" Tq45 f fd)(m:mg "added" = some (.ref f))(b:Binds K fd ["one", "other"] []):Known P w K mg base "added" 2 1 yI:=by
 refine ⟨f,fd,["one", "other"],F.pure (k:=0) (u:=qcL) (M':=[]) Jm.fs rfl (λcdv A outer s H E hr G=>?_),m,F.kp,b⟩
 exact ql (qy (qQ (pda3 (qD Qc (qp (pd_v Jm 0) qb) (qp (pd_v Jm 1) qb)) (qD Qc (qp (pd_v Jm 0) qb) (qp (pd_v Jm 1) qb)) (qD Qc (qp (pd_v Jm 0) qb) (qp (pd_v Jm 1) qb)))))
noncomputable abbrev Tq37:KS:=top 12
noncomputable abbrev qbk:List Str:=["spot"]
theorem yH:ScOk qbk ["spot"] [] (qe Tq37):=scmk (by kernel_rfl)
noncomputable def Wj:Rho->Option Out:=(sRet (evA (aC (ev1 (ev2 (vr 0) ')' ixD) negD) (aC (ev1 (ev2 (vr 0) (kd (.int 1)) ixD) negD) (aC (ev1 (ev2 (vr 0) (kd (.int 2)) ixD) negD) aN))) tupD))
noncomputable def Zm (ds:'('):Option Ka:=ob (Wj (rho0 qbk.length ds)) outD
theorem qgl (F:Fun K "negated" "negated" Tq37 f fd)(m:mg "negated" = some (.ref f))(b:Binds K fd ["spot"] []):Known P w K mg base "negated" 1 1 Zm:=by
 refine ⟨f,fd,["spot"],F.pure (k:=0) (u:=Wj) (M':=[]) yH.fs rfl (λcdv A outer s H E hr G=>?_),m,F.kp,b⟩
 exact ql (qy (qQ (pda3 (jH jB (qp (pd_v yH 0) qb)) (jH jB (qp (pd_v yH 0) qb)) (jH jB (qp (pd_v yH 0) qb)))))
noncomputable abbrev Tq46:KS:=top 13
noncomputable abbrev qeT:List Str:=["one", "other"]
theorem Q4:ScOk qeT ["one", "other"] [] (qe Tq46):=scmk (by kernel_rfl)
noncomputable def qcM:Rho->Option Out:=(sRet (evA (aC (ev2 (ev2 (ev2 (vr 0) (kd (.int 1)) ixD) (ev2 (vr 1) (kd (.int 2)) ixD) mulD) (ev2 (ev2 (vr 0) (kd (.int 2)) ixD) (ev2 (vr 1) (kd (.int 1)) ixD) mulD) subD) (aC (ev2 (ev2 (ev2 (vr 0) (kd (.int 2)) ixD) (ev2 (vr 1) ')' ixD) mulD) (ev2 (ev2 (vr 0) ')' ixD) (ev2 (vr 1) (kd (.int 2)) ixD) mulD) subD) (aC (ev2 (ev2 (ev2 (vr 0) ')' ixD) (ev2 (vr 1) (kd (.int 1)) ixD) mulD) (ev2 (ev2 (vr 0) (kd (.int 1)) ixD) (ev2 (vr 1) ')' ixD) mulD) subD) aN))) tupD))
noncomputable def jo (ds:'('):Option Ka:=ob (qcM (rho0 qeT.length ds)) outD
theorem qjP (F:Fun K "cross" "cross" Tq46 f fd)(m:mg "cross" = some (.ref f))(b:Binds K fd ["one", "other"] []):Known P w K mg base "cross" 2 1 jo:=by
 refine ⟨f,fd,["one", "other"],F.pure (k:=0) (u:=qcM) (M':=[]) Q4.fs rfl (λcdv A outer s H E hr G=>?_),m,F.kp,b⟩
 exact ql (qy (qQ (pda3 (qD jj (qD Qu (qp (pd_v Q4 0) qb) (qp (pd_v Q4 1) qb)) (qD Qu (qp (pd_v Q4 0) qb) (qp (pd_v Q4 1) qb))) (qD jj (qD Qu (qp (pd_v Q4 0) qb) (qp (pd_v Q4 1) qb)) (qD Qu (qp (pd_v Q4 0) qb) (qp (pd_v Q4 1) qb))) (qD jj (qD Qu (qp (pd_v Q4 0) qb) (qp (pd_v Q4 1) qb)) (qD Qu (qp (pd_v Q4 0) qb) (qp (pd_v Q4 1) qb))))))
noncomputable abbrev Tq41:KS:=top 14
noncomputable abbrev qad:List Str:=["turn", "spot"]
theorem W5:ScOk qad ["turn", "spot"] ["range", "tuple"] (qe Tq41):=scmk (by kernel_rfl)
noncomputable def qa6:Rho->Option Out:=(sRet (evA (aC (Zr 2 (evR (aC (kd (.int 3)) aN) Q0) tT (ev2 (ev2 (ev2 (ev2 (vr 1) ')' ixD) (ev2 (ev2 (vr 0) ')' ixD) (vr 2) ixD) mulD) (ev2 (ev2 (vr 1) (kd (.int 1)) ixD) (ev2 (ev2 (vr 0) (kd (.int 1)) ixD) (vr 2) ixD) mulD) Qq) (ev2 (ev2 (vr 1) (kd (.int 2)) ixD) (ev2 (ev2 (vr 0) (kd (.int 2)) ixD) (vr 2) ixD) mulD) Qq)) aN) Yo))
noncomputable def Q8 (ds:'('):Option Ka:=ob (qa6 (rho0 qad.length ds)) outD
theorem qhQ (F:Fun K "turned" "turned" Tq41 f fd)(m:mg "turned" = some (.ref f))(b:Binds K fd ["turn", "spot"] [])(z_tuple:mg "tuple" = none)(z_range:mg "range" = none):Known P w K mg base "turned" 2 1 Q8:=by
 refine ⟨f,fd,["turn", "spot"],F.pure (k:=0) (u:=qa6) (M':=[]) W5.fs rfl (λcdv A outer s H E hr G=>?_),m,F.kp,b⟩
 exact ql (qy (ZX WQ (W5.gl 1 rfl rfl) z_tuple rfl (pda1 (ZD (CompOk.of (k:=1) qad ["turn", "spot", "k"] (qe Tq41) rfl rfl rfl '%') rfl '%' (jJ (W5.gl 0 rfl rfl) z_range (pda1 qb)) (λ_ _ _ _ _ _=>Qk) (λ_ _ _ _ _ _=>qD Qc (qD Qc (qD Qu (qp (q8 1 (qJ '%') '#') qb) (qp (qp (q8 0 (qJ '%') '#') qb) (q8 2 (qJ '%') '#'))) (qD Qu (qp (q8 1 (qJ '%') '#') qb) (qp (qp (q8 0 (qJ '%') '#') qb) (q8 2 (qJ '%') '#')))) (qD Qu (qp (q8 1 (qJ '%') '#') qb) (qp (qp (q8 0 (qJ '%') '#') qb) (q8 2 (qJ '%') '#'))))))))
noncomputable abbrev Tq8:KS:=top 15
noncomputable abbrev JX:List Str:=["first", "second"]
theorem zE:ScOk JX ["first", "second"] ["turned"] (qe Tq8):=scmk (by kernel_rfl)
noncomputable def jQ:Rho->Option Out:=(sRet (evA (aC (evC 2 (aC (vr 1) (aC (ev2 (vr 0) ')' ixD) aN)) Q8) (aC (evC 2 (aC (vr 1) (aC (ev2 (vr 0) (kd (.int 1)) ixD) aN)) Q8) (aC (evC 2 (aC (vr 1) (aC (ev2 (vr 0) (kd (.int 2)) ixD) aN)) Q8) aN))) tupD))
noncomputable def QV (ds:'('):Option Ka:=ob (jQ (rho0 JX.length ds)) outD
theorem qay (F:Fun K "joined_turns" "joined_turns" Tq8 f fd)(m:mg "joined_turns" = some (.ref f))(b:Binds K fd ["first", "second"] [])(K_turned:Known P w K mg base "turned" 2 1 Q8):Known P w K mg base "joined_turns" 2 2 QV:=by
 refine ⟨f,fd,["first", "second"],F.pure (k:=1) (u:=jQ) (M':=[]) zE.fs rfl (λcdv A outer s H E hr G=>?_),m,F.kp,b⟩
 exact ql (qy (qQ (pda3 (qm K_turned hr '#' (zE.gl 0 rfl rfl) (pda2 (pd_v zE 1) (qp (pd_v zE 0) qb)) rfl) (qm K_turned hr '#' (zE.gl 0 rfl rfl) (pda2 (pd_v zE 1) (qp (pd_v zE 0) qb)) rfl) (qm K_turned hr '#' (zE.gl 0 rfl rfl) (pda2 (pd_v zE 1) (qp (pd_v zE 0) qb)) rfl))))
noncomputable abbrev Tq24:KS:=top 16
noncomputable abbrev J4:List Str:=["turn"]
theorem JS:ScOk J4 ["turn"] ["range", "tuple"] (qe Tq24):=scmk (by kernel_rfl)
noncomputable def yG:Rho->Option Out:=(sRet (evA (aC (Zr 1 (evR (aC (kd (.int 3)) aN) Q0) tT (evA (aC (ev2 (ev2 (vr 0) ')' ixD) (vr 1) ixD) (aC (ev2 (ev2 (vr 0) (kd (.int 1)) ixD) (vr 1) ixD) (aC (ev2 (ev2 (vr 0) (kd (.int 2)) ixD) (vr 1) ixD) aN))) tupD)) aN) Yo))
noncomputable def jb (ds:'('):Option Ka:=ob (yG (rho0 J4.length ds)) outD
theorem qdn (F:Fun K "turn_back" "turn_back" Tq24 f fd)(m:mg "turn_back" = some (.ref f))(b:Binds K fd ["turn"] [])(z_tuple:mg "tuple" = none)(z_range:mg "range" = none):Known P w K mg base "turn_back" 1 1 jb:=by
 refine ⟨f,fd,["turn"],F.pure (k:=0) (u:=yG) (M':=[]) JS.fs rfl (λcdv A outer s H E hr G=>?_),m,F.kp,b⟩
 exact ql (qy (ZX WQ (JS.gl 1 rfl rfl) z_tuple rfl (pda1 (ZD (CompOk.of (k:=1) J4 ["turn", "k"] (qe Tq24) rfl rfl rfl '%') rfl '%' (jJ (JS.gl 0 rfl rfl) z_range (pda1 qb)) (λ_ _ _ _ _ _=>Qk) (λ_ _ _ _ _ _=>qQ (pda3 (qp (qp (q8 0 (qJ '%') '#') qb) (q8 1 (qJ '%') '#')) (qp (qp (q8 0 (qJ '%') '#') qb) (q8 1 (qJ '%') '#')) (qp (qp (q8 0 (qJ '%') '#') qb) (q8 1 (qJ '%') '#'))))))))
noncomputable abbrev Tq42:KS:=top 18
noncomputable abbrev qcS:List Str:=["pose"]
theorem Yv:ScOk qcS ["pose"] ["cross"] (qe Tq42):=scmk (by kernel_rfl)
noncomputable def qa5:Rho->Option Out:=(sRet (evC 2 (aC (ev2 (vr 0) (kd (.int 1)) ixD) (aC (ev2 (vr 0) (kd (.int 2)) ixD) aN)) jo))
noncomputable def ye (ds:'('):Option Ka:=ob (qa5 (rho0 qcS.length ds)) outD
theorem qhP (F:Fun K "out_of" "out_of" Tq42 f fd)(m:mg "out_of" = some (.ref f))(b:Binds K fd ["pose"] [])(K_cross:Known P w K mg base "cross" 2 1 jo):Known P w K mg base "out_of" 1 2 ye:=by
 refine ⟨f,fd,["pose"],F.pure (k:=1) (u:=qa5) (M':=[]) Yv.fs rfl (λcdv A outer s H E hr G=>?_),m,F.kp,b⟩
 exact ql (qy (qm K_cross hr '#' (Yv.gl 0 rfl rfl) (pda2 (qp (pd_v Yv 0) qb) (qp (pd_v Yv 0) qb)) rfl))
noncomputable abbrev Tq38:KS:=top 21
noncomputable abbrev qbl:List Str:=["pose", "way"]
theorem Zj:ScOk qbl ["pose", "way"] ["negated"] (qe Tq38):=scmk (by kernel_rfl)
noncomputable def Wk:Rho->Option Out:=(sRet (ev2 (evA (aC (ev2 (vr 0) (kd (.int 1)) ixD) (aC (ev2 (vr 0) (kd (.int 2)) ixD) (aC (evC 1 (aC (ev2 (vr 0) (kd (.int 1)) ixD) aN) Zm) (aC (evC 1 (aC (ev2 (vr 0) (kd (.int 2)) ixD) aN) Zm) aN)))) tupD) (vr 1) ixD))
noncomputable def Ji (ds:'('):Option Ka:=ob (Wk (rho0 qbl.length ds)) outD
theorem qgm (F:Fun K "unit_of" "unit_of" Tq38 f fd)(m:mg "unit_of" = some (.ref f))(b:Binds K fd ["pose", "way"] [])(K_negated:Known P w K mg base "negated" 1 1 Zm):Known P w K mg base "unit_of" 2 2 Ji:=by
 refine ⟨f,fd,["pose", "way"],F.pure (k:=1) (u:=Wk) (M':=[]) Zj.fs rfl (λcdv A outer s H E hr G=>?_),m,F.kp,b⟩
 exact ql (qy (qp (qQ (qF (qp (pd_v Zj 0) qb) (qF (qp (pd_v Zj 0) qb) (qF (qm K_negated hr '#' (Zj.gl 0 rfl rfl) (pda1 (qp (pd_v Zj 0) qb)) rfl) (qF (qm K_negated hr '#' (Zj.gl 0 rfl rfl) (pda1 (qp (pd_v Zj 0) qb)) rfl) zJ))))) (pd_v Zj 1)))
noncomputable abbrev Tq39:KS:=top 25
noncomputable abbrev qbi:List Str:=["thing"]
theorem Jd:ScOk qbi ["thing"] ["is_whole", "BENDS"] (qe Tq39):=scmk (by kernel_rfl)
noncomputable def qbS:Rho->Option Out:=(sRet (vA (evC 1 (aC (vr 0) aN) Yg) (ev2 (vr 0) (kd qb3) inD)))
noncomputable def wV (ds:'('):Option Ka:=ob (qbS (rho0 qbi.length ds)) outD
theorem qgj (F:Fun K "is_bend" "is_bend" Tq39 f fd)(m:mg "is_bend" = some (.ref f))(b:Binds K fd ["thing"] [])(K_is_whole:Known P w K mg base "is_whole" 1 1 Yg)(C_BENDS:W6 K mg "BENDS" qb3):Known P w K mg base "is_bend" 1 2 wV:=by
 refine ⟨f,fd,["thing"],F.pure (k:=1) (u:=qbS) (M':=[]) Jd.fs rfl (λcdv A outer s H E hr G=>?_),m,F.kp,b⟩
 exact ql (qy (Wc (qm K_is_whole hr '#' (Jd.gl 0 rfl rfl) (pda1 (pd_v Jd 0)) rfl) (Wf (Wd (d_in hr) (pd_v Jd 0) (qdF C_BENDS (Jd.gl 1 rfl rfl)) rfl))))
noncomputable abbrev Tq40:KS:=top 26
noncomputable abbrev qbj:List Str:=["bend"]
theorem Zi:ScOk qbj ["bend"] ["is_bend", "Up", "Down", "Join"] (qe Tq40):=scmk (by kernel_rfl)
noncomputable def qbT:Rho->Option Out:=(seqO (sIf (tN (tV (evC 1 (aC (vr 0) aN) wV))) sNo sN) (seqO (sIf (tV (ev2 (vr 0) (kd (.int 1)) eqD)) (sRet (kd (objD "Up"))) sN) (seqO (sIf (tV (ev2 (vr 0) (ev1 (kd (.int 1)) negD) eqD)) (sRet (kd (objD "Down"))) sN) (sRet (kd (objD "Join"))))))
noncomputable def yJ (ds:'('):Option Ka:=ob (qbT (rho0 qbj.length ds)) outD
theorem qgk (F:Fun K "join_of" "join_of" Tq40 f fd)(m:mg "join_of" = some (.ref f))(b:Binds K fd ["bend"] [])(K_is_bend:Known P w K mg base "is_bend" 1 2 wV)(CT:CTab K mg CS):Known P w K mg base "join_of" 1 3 yJ:=by
 refine ⟨f,fd,["bend"],F.pure (k:=2) (u:=qbT) (M':=[]) Zi.fs rfl (λcdv A outer s H E hr G=>?_),m,F.kp,b⟩
 exact qg (M1:=[]) (zK (Zb (ZG (qm K_is_bend hr '#' (Zi.gl 0 rfl rfl) (pda1 (pd_v Zi 0)) rfl))) (ql qgG) zu) (qg (M1:=[]) (zK (qU (d_eq hr) (pd_v Zi 0) qb (zp _)) (ql (qy (qcz CT (Zi.gl 1 rfl rfl)))) zu) (qg (M1:=[]) (zK (qU (d_eq hr) (pd_v Zi 0) (jH jB qb) (zp _)) (ql (qy (qcz CT (Zi.gl 2 rfl rfl)))) zu) (ql (qy (qcz CT (Zi.gl 3 rfl rfl))))))
noncomputable abbrev Tq9:KS:=top 29
noncomputable abbrev J2:List Str:=["cell", "other"]
theorem QL:ScOk J2 ["cell", "other"] [] (qe Tq9):=scmk (by kernel_rfl)
noncomputable def jU:Rho->Option Out:=(sRet (evA (aC (ev2 (ev2 (vr 1) ')' ixD) (ev2 (vr 0) ')' ixD) subD) (aC (ev2 (ev2 (vr 1) (kd (.int 1)) ixD) (ev2 (vr 0) (kd (.int 1)) ixD) subD) aN)) tupD))
noncomputable def zY (ds:'('):Option Ka:=ob (jU (rho0 J2.length ds)) outD
theorem qaB (F:Fun K "step_between" "step_between" Tq9 f fd)(m:mg "step_between" = some (.ref f))(b:Binds K fd ["cell", "other"] []):Known P w K mg base "step_between" 2 1 zY:=by
 refine ⟨f,fd,["cell", "other"],F.pure (k:=0) (u:=jU) (M':=[]) QL.fs rfl (λcdv A outer s H E hr G=>?_),m,F.kp,b⟩
 exact ql (qy (qQ (pda2 (qD jj (qp (pd_v QL 1) qb) (qp (pd_v QL 0) qb)) (qD jj (qp (pd_v QL 1) qb) (qp (pd_v QL 0) qb)))))
noncomputable abbrev Tq17:KS:=top 30
noncomputable abbrev YC:List Str:=["sheet", "k", "cells", "found", "i", "j", "bend", "other"]
theorem qC:ScOk YC ["sheet", "k"] ["step_between", "STEPS", "sorted"] (qe Tq17):=scmk (by kernel_rfl)
noncomputable abbrev J7:Rho->Option Out:=(sIf (tV (ev2 (vr 1) (evA (aC (vr 4) (aC (vr 5) aN)) tupD) inD)) (seqO (sSet 7 (vIf (tV (ev2 (vr 1) (vr 4) eqD)) (vr 5) (vr 4))) (sApp 3 (evA (aC (ev1 (evC 2 (aC (ev2 (vr 2) (vr 1) ixD) (aC (ev2 (vr 2) (vr 7) ixD) aN)) zY) (Z5 jk)) (aC (vr 7) (aC (vr 6) aN))) tupD))) sN)
noncomputable def JL:Rho->Option Out:=(seqO (sSet 2 (ev2 (vr 0) ')' ixD)) (seqO (QJ 3 (evA aN lstD)) (seqO (sFor (evI (ev2 (vr 0) (kd (.int 1)) ixD) seqD) (unpD 3 (gsC (gNm 4) (gsC (gNm 5) (gsC (gNm 6) gsN)))) J7) (sRet (evA (aC (vr 3) aN) Z4)))))
noncomputable def Zy (ds:'('):Option Ka:=ob (JL (rho0 YC.length ds)) outD
theorem qck (F:Fun K "neighbours" "neighbours" Tq17 f fd)(m:mg "neighbours" = some (.ref f))(b:Binds K fd ["sheet", "k"] [])(K_step_between:Known P w K mg base "step_between" 2 1 zY)(z_sorted:mg "sorted" = none)(C_STEPS:qd5 K mg "STEPS" jk):Known P w K mg base "neighbours" 2 2 Zy:=by
 refine ⟨f,fd,["sheet", "k"],F.pure (k:=1) (u:=JL) (M':=[]) qC.fs rfl (λcdv A outer s H E hr G=>?_),m,F.kp,b⟩
 refine qg (M1:=[]) ?_ ?_
 refine qP 2 ?_ ?_ ?_ ?_ ?_ ?_ (qp (pd_v qC 0) qb)
 ·exact qC.fs.nd
 ·exact (qC.loc 2 rfl)
 ·rfl
 ·rfl
 ·exact .inl rfl
 ·decide
 refine qg (M1:=[3]) ?_ ?_
 refine Qj 3 ?_ ?_ ?_ ?_ ?_ ?_ ?_ (JD zJ)
 ·exact qC.fs.nd
 ·exact (qC.loc 3 rfl)
 ·rfl
 ·rfl
 ·exact .inl rfl
 ·decide
 ·decide
 refine qg (M1:=[3]) ?_ (ql (qy (wu (qaV (qaL hr) (qC.gl 2 rfl rfl) z_sorted Jr (pda1 (pd_v qC 3))))))
 refine ZF Vo rfl (zP (qp (pd_v qC 0) qb)) (λ_=>jX rfl (zj (zW qC 4) (zj (zW qC 5) (zj (zW qC 6) jc)))) (λ_=>?_)
 refine ql ?_
 refine zK (qU (d_in hr) (pd_v qC 1) (qQ (pda2 (pd_v qC 4) (pd_v qC 5))) rfl) ?_ zu
 refine qg (M1:=[3]) ?_ (ql (yR 3 (qC.vis 3 rfl) '#' '#' (qQ (pda3 (qgz C_STEPS hr (qC.gl 1 rfl rfl) (qm K_step_between hr '#' (qC.gl 0 rfl rfl) (pda2 (qp (pd_v qC 2) (pd_v qC 1)) (qp (pd_v qC 2) (pd_v qC 7))) rfl)) (pd_v qC 7) (pd_v qC 6)))))
 refine qP 7 ?_ ?_ ?_ ?_ ?_ ?_ (qaQ (qU (d_eq hr) (pd_v qC 1) (pd_v qC 4) (zp _)) (pd_v qC 5) (pd_v qC 4))
 ·exact qC.fs.nd
 ·exact (qC.loc 7 rfl)
 ·rfl
 ·rfl
 ·exact .inl rfl
 ·decide
noncomputable abbrev Tq32:KS:=top 33
noncomputable abbrev qac:List Str:=["sheet", "steps", "k", "way", "j", "bend"]
theorem zg:ScOk qac ["sheet"] ["neighbours", "len", "range"] (qe Tq32):=scmk (by kernel_rfl)
noncomputable abbrev Jq:Rho->Option Out:=(Wx 1 (evA (aC (vr 2) (aC (vr 4) aN)) tupD) (evA (aC (vr 3) (aC (vr 5) aN)) tupD))
noncomputable abbrev YD:Rho->Option Out:=(sFor (evI (evC 2 (aC (vr 0) (aC (vr 2) aN)) Zy) seqD) (unpD 3 (gsC (gNm 3) (gsC (gNm 4) (gsC (gNm 5) gsN)))) Jq)
noncomputable def Ys:Rho->Option Out:=(seqO (QJ 1 (kd (.dict []))) (seqO (sFor (evR (aC (evA (aC (ev2 (vr 0) ')' ixD) aN) lenD) aN) Q0) (gNm 2) YD) (sRet (vr 1))))
noncomputable def ZS (ds:'('):Option Ka:=ob (Ys (rho0 qac.length ds)) outD
theorem qeu (F:Fun K "steps_of" "steps_of" Tq32 f fd)(m:mg "steps_of" = some (.ref f))(b:Binds K fd ["sheet"] [])(K_neighbours:Known P w K mg base "neighbours" 2 2 Zy)(z_range:mg "range" = none)(z_len:mg "len" = none):Known P w K mg base "steps_of" 1 3 ZS:=by
 refine ⟨f,fd,["sheet"],F.pure (k:=2) (u:=Ys) (M':=[]) zg.fs rfl (λcdv A outer s H E hr G=>?_),m,F.kp,b⟩
 refine qg (M1:=[1]) ?_ (qg (M1:=[1]) (yq Vo rfl (JB (zg.gl 2 rfl rfl) z_range (pda1 (qZ QH (zg.gl 1 rfl rfl) z_len Vc (pda1 (qp (pd_v zg 0) qb))))) (zW zg 2) (ql (ZF Vo rfl (zP (qm K_neighbours hr '#' (zg.gl 0 rfl rfl) (pda2 (pd_v zg 0) (pd_v zg 2)) rfl)) (λ_=>jX rfl (zj (zW zg 3) (zj (zW zg 4) (zj (zW zg 5) jc)))) (λ_=>ql (qaR hr 1 (zg.vis 1 rfl) '#' '#' (qQ (pda2 (pd_v zg 2) (pd_v zg 4))) (qQ (pda2 (pd_v zg 3) (pd_v zg 5)))))))) (ql (qy (pd_v zg 1))))
 refine Qj 1 ?_ ?_ ?_ ?_ ?_ ?_ ?_ qaW
 ·exact zg.fs.nd
 ·exact (zg.loc 1 rfl)
 ·rfl
 ·rfl
 ·exact .inl rfl
 ·decide
 ·decide
noncomputable abbrev Tq0:KS:=top 37
noncomputable abbrev Zq:List Str:=["poses", "meeting"]
theorem zq:ScOk Zq ["poses"] ["first_meeting"] (qe Tq0):=scmk (by kernel_rfl)
noncomputable def QK:Rho->Option Out:=(seqO (sSet 1 (evC 1 (aC (Zr 2 (evI (vr 0) seqD) tT (ev2 (vr 2) ')' ixD)) aN) zM)) (seqO (sIf (tV (ev2 (vr 1) (kd .none) isD)) (sRet (evA (aC (kd (.str "folded")) (aC (vr 0) aN)) tupD)) sN) (sRet (evA (aC (kd (.str "clash")) (aC (ev2 (vr 1) ')' ixD) (aC (ev2 (vr 1) (kd (.int 1)) ixD) aN))) tupD))))
noncomputable def zH (ds:'('):Option Ka:=ob (QK (rho0 Zq.length ds)) outD
theorem Y6 (F:Fun K "clash_or_folded" "clash_or_folded" Tq0 f fd)(m:mg "clash_or_folded" = some (.ref f))(b:Binds K fd ["poses"] [])(K_first_meeting:Known P w K mg base "first_meeting" 1 1 zM):Known P w K mg base "clash_or_folded" 1 2 zH:=by
 refine ⟨f,fd,["poses"],F.pure (k:=1) (u:=QK) (M':=[]) zq.fs rfl (λcdv A outer s H E hr G=>?_),m,F.kp,b⟩
 refine qg (M1:=[]) ?_ (qg (M1:=[]) (zK (qU d_is (pd_v zq 1) We (zp _)) (ql (qy (qQ (pda2 Jz (pd_v zq 0))))) zu) (ql (qy (qQ (pda3 Jz (qp (pd_v zq 1) qb) (qp (pd_v zq 1) qb))))))
 refine qP 1 ?_ ?_ ?_ ?_ ?_ ?_ (qm K_first_meeting hr '#' (zq.gl 0 rfl rfl) (pda1 (ZD (CompOk.of (k:=1) Zq ["poses", "meeting", "pose"] (qe Tq0) rfl rfl rfl '%') rfl '%' (zP (pd_v zq 0)) (λ_ _ _ _ _ _=>Qk) (λ_ _ _ _ _ _=>qp (q8 2 (qJ '%') '#') qb))) rfl)
 ·exact zq.fs.nd
 ·exact (zq.loc 1 rfl)
 ·rfl
 ·rfl
 ·exact .inl rfl
 ·decide
noncomputable abbrev Tq25:KS:=top 39
noncomputable abbrev Wm:List Str:=["_law_script", "_law_k"]
theorem Zh:ScOk Wm ["_law_script", "_law_k"] ["len"] (qe Tq25):=scmk (by kernel_rfl)
noncomputable def yw:Rho->Option Out:=(seqO (sIf (tV (ev2 (vr 1) (evA (aC (vr 0) aN) lenD) ltD2)) (sRet (ev2 (vr 0) (vr 1) ixD)) sN) (sRet ')'))
noncomputable def zm (ds:'('):Option Ka:=ob (yw (rho0 Wm.length ds)) outD
theorem qdh (F:Fun K "_law_cell" "_law_cell" Tq25 f fd)(m:mg "_law_cell" = some (.ref f))(b:Binds K fd ["_law_script", "_law_k"] [])(z_len:mg "len" = none):Known P w K mg base "_law_cell" 2 1 zm:=by
 refine ⟨f,fd,["_law_script", "_law_k"],F.pure (k:=0) (u:=yw) (M':=[]) Zh.fs rfl (λcdv A outer s H E hr G=>?_),m,F.kp,b⟩
 exact qg (M1:=[]) (zK (qU (qc0 hr) (pd_v Zh 1) (qZ QH (Zh.gl 0 rfl rfl) z_len Vc (pda1 (pd_v Zh 0))) (zp _)) (ql (qy (qp (pd_v Zh 0) (pd_v Zh 1)))) zu) (ql (qy qb))
noncomputable abbrev Tq18:KS:=top 40
noncomputable abbrev Yz:List Str:=["_law_found"]
theorem Qw:ScOk Yz ["_law_found"] ["isinstance", "int", "bool"] (qe Tq18):=scmk (by kernel_rfl)
noncomputable def wJ:Rho->Option Out:=(sRet (vA (ev1 (vr 0) (isiD "int")) (vN (ev1 (vr 0) (isiD "bool")))))
noncomputable def Q6 (ds:'('):Option Ka:=ob (wJ (rho0 Yz.length ds)) outD
theorem qcj (F:Fun K "_law_whole" "_law_whole" Tq18 f fd)(m:mg "_law_whole" = some (.ref f))(b:Binds K fd ["_law_found"] [])(z_isinstance:mg "isinstance" = none)(z_int:mg "int" = none)(z_bool:mg "bool" = none):Known P w K mg base "_law_whole" 1 1 Q6:=by
 refine ⟨f,fd,["_law_found"],F.pure (k:=0) (u:=wJ) (M':=[]) Qw.fs rfl (λcdv A outer s H E hr G=>?_),m,F.kp,b⟩
 exact ql (qy (Wc (jG (T := "int") (qft _) (Qw.gl 0 rfl rfl) z_isinstance (Qw.gl 1 rfl rfl) z_int rfl rfl (pd_v Qw 0)) (Wf (qig (jG (T := "bool") (qdp _) (Qw.gl 0 rfl rfl) z_isinstance (Qw.gl 2 rfl rfl) z_bool rfl rfl (pd_v Qw 0))))))
noncomputable abbrev Tq19:KS:=top 41
noncomputable abbrev Yx:List Str:=["_law_one", "_law_other", "_law_a", "_law_b", "_law_c", "_law_d", "_law_e", "_law_f"]
theorem qO:ScOk Yx ["_law_one", "_law_other"] [] (qe Tq19):=scmk (by kernel_rfl)
noncomputable def ZK:Rho->Option Out:=(seqO (sAsg (vr 0) (unpD 3 (gsC (gNm 2) (gsC (gNm 3) (gsC (gNm 4) gsN))))) (seqO (sAsg (vr 1) (unpD 3 (gsC (gNm 5) (gsC (gNm 6) (gsC (gNm 7) gsN))))) (sRet (evA (aC (ev2 (ev2 (vr 3) (vr 7) mulD) (ev2 (vr 4) (vr 6) mulD) subD) (aC (ev2 (ev2 (vr 4) (vr 5) mulD) (ev2 (vr 2) (vr 7) mulD) subD) (aC (ev2 (ev2 (vr 2) (vr 6) mulD) (ev2 (vr 3) (vr 5) mulD) subD) aN))) tupD))))
noncomputable def zr (ds:'('):Option Ka:=ob (ZK (rho0 Yx.length ds)) outD
theorem qcg (F:Fun K "_law_cross" "_law_cross" Tq19 f fd)(m:mg "_law_cross" = some (.ref f))(b:Binds K fd ["_law_one", "_law_other"] []):Known P w K mg base "_law_cross" 2 1 zr:=by
 refine ⟨f,fd,["_law_one", "_law_other"],F.pure (k:=0) (u:=ZK) (M':=[]) qO.fs rfl (λcdv A outer s H E hr G=>?_),m,F.kp,b⟩
 exact qg (M1:=[]) (qcA (pd_v qO 0) (jX rfl (zj (zW qO 2) (zj (zW qO 3) (zj (zW qO 4) jc))))) (qg (M1:=[]) (qcA (pd_v qO 1) (jX rfl (zj (zW qO 5) (zj (zW qO 6) (zj (zW qO 7) jc))))) (ql (qy (qQ (pda3 (qD jj (qD Qu (pd_v qO 3) (pd_v qO 7)) (qD Qu (pd_v qO 4) (pd_v qO 6))) (qD jj (qD Qu (pd_v qO 4) (pd_v qO 5)) (qD Qu (pd_v qO 2) (pd_v qO 7))) (qD jj (qD Qu (pd_v qO 2) (pd_v qO 6)) (qD Qu (pd_v qO 3) (pd_v qO 5))))))))
noncomputable abbrev Tq33:KS:=top 42
noncomputable abbrev W8:List Str:=["_law_one", "_law_other"]
theorem Zd:ScOk W8 ["_law_one", "_law_other"] [] (qe Tq33):=scmk (by kernel_rfl)
noncomputable def jP:Rho->Option Out:=(sRet (ev2 (ev2 (ev2 (ev2 (vr 0) ')' ixD) (ev2 (vr 1) ')' ixD) mulD) (ev2 (ev2 (vr 0) (kd (.int 1)) ixD) (ev2 (vr 1) (kd (.int 1)) ixD) mulD) Qq) (ev2 (ev2 (vr 0) (kd (.int 2)) ixD) (ev2 (vr 1) (kd (.int 2)) ixD) mulD) Qq))
noncomputable def zV (ds:'('):Option Ka:=ob (jP (rho0 W8.length ds)) outD
theorem qep (F:Fun K "_law_dot" "_law_dot" Tq33 f fd)(m:mg "_law_dot" = some (.ref f))(b:Binds K fd ["_law_one", "_law_other"] []):Known P w K mg base "_law_dot" 2 1 zV:=by
 refine ⟨f,fd,["_law_one", "_law_other"],F.pure (k:=0) (u:=jP) (M':=[]) Zd.fs rfl (λcdv A outer s H E hr G=>?_),m,F.kp,b⟩
 exact ql (qy (qD Qc (qD Qc (qD Qu (qp (pd_v Zd 0) qb) (qp (pd_v Zd 1) qb)) (qD Qu (qp (pd_v Zd 0) qb) (qp (pd_v Zd 1) qb))) (qD Qu (qp (pd_v Zd 0) qb) (qp (pd_v Zd 1) qb))))
noncomputable abbrev Tq34:KS:=top 43
noncomputable abbrev qaa:List Str:=["_law_one", "_law_many", "_law_other"]
theorem Qn:ScOk qaa ["_law_one", "_law_many", "_law_other"] [] (qe Tq34):=scmk (by kernel_rfl)
noncomputable def Yr:Rho->Option Out:=(sRet (evA (aC (ev2 (ev2 (vr 0) ')' ixD) (ev2 (vr 1) (ev2 (vr 2) ')' ixD) mulD) Qq) (aC (ev2 (ev2 (vr 0) (kd (.int 1)) ixD) (ev2 (vr 1) (ev2 (vr 2) (kd (.int 1)) ixD) mulD) Qq) (aC (ev2 (ev2 (vr 0) (kd (.int 2)) ixD) (ev2 (vr 1) (ev2 (vr 2) (kd (.int 2)) ixD) mulD) Qq) aN))) tupD))
noncomputable def zN (ds:'('):Option Ka:=ob (Yr (rho0 qaa.length ds)) outD
theorem qer (F:Fun K "_law_sum" "_law_sum" Tq34 f fd)(m:mg "_law_sum" = some (.ref f))(b:Binds K fd ["_law_one", "_law_many", "_law_other"] []):Known P w K mg base "_law_sum" 3 1 zN:=by
 refine ⟨f,fd,["_law_one", "_law_many", "_law_other"],F.pure (k:=0) (u:=Yr) (M':=[]) Qn.fs rfl (λcdv A outer s H E hr G=>?_),m,F.kp,b⟩
 exact ql (qy (qQ (pda3 (qD Qc (qp (pd_v Qn 0) qb) (qD Qu (pd_v Qn 1) (qp (pd_v Qn 2) qb))) (qD Qc (qp (pd_v Qn 0) qb) (qD Qu (pd_v Qn 1) (qp (pd_v Qn 2) qb))) (qD Qc (qp (pd_v Qn 0) qb) (qD Qu (pd_v Qn 1) (qp (pd_v Qn 2) qb))))))
noncomputable abbrev Tq26:KS:=top 44
noncomputable abbrev Wo:List Str:=["_law_pose_here", "_law_way"]
theorem Z6:ScOk Wo ["_law_pose_here", "_law_way"] ["_law_sum"] (qe Tq26):=scmk (by kernel_rfl)
noncomputable def yE:Rho->Option Out:=(sRet (evC 3 (aC (evA (aC ')' (aC ')' (aC ')' aN))) tupD) (aC (ev2 (kd (.int 1)) (ev2 (kd (.int 2)) (ev2 (vr 1) (kd (.int 2)) yX) mulD) subD) (aC (ev2 (vr 0) (ev2 (kd (.int 1)) (ev2 (vr 1) (kd (.int 2)) modD) Qq) ixD) aN))) zN))
noncomputable def Z9 (ds:'('):Option Ka:=ob (yE (rho0 Wo.length ds)) outD
theorem qdl (F:Fun K "_law_unit" "_law_unit" Tq26 f fd)(m:mg "_law_unit" = some (.ref f))(b:Binds K fd ["_law_pose_here", "_law_way"] [])(K__law_sum:Known P w K mg base "_law_sum" 3 1 zN):Known P w K mg base "_law_unit" 2 2 Z9:=by
 refine ⟨f,fd,["_law_pose_here", "_law_way"],F.pure (k:=1) (u:=yE) (M':=[]) Z6.fs rfl (λcdv A outer s H E hr G=>?_),m,F.kp,b⟩
 exact ql (qy (qm K__law_sum hr '#' (Z6.gl 0 rfl rfl) (pda3 (qQ (pda3 qb qb qb)) (qD jj qb (qD Qu qb (qD J9 (pd_v Z6 1) qb))) (qp (pd_v Z6 0) (qD Qc qb (qD Zk (pd_v Z6 1) qb)))) rfl))
noncomputable abbrev Tq35:KS:=top 45
noncomputable abbrev W9:List Str:=["_law_pose_here", "_law_way", "_law_bend", "_law_along", "_law_out", "_law_on", "_law_edge", "_law_told", "_law_unit_here"]
theorem qt:ScOk W9 ["_law_pose_here", "_law_way", "_law_bend"] ["_law_unit", "_law_cross", "_law_sum", "_law_dot", "tuple"] (qe Tq35):=scmk (by kernel_rfl)
noncomputable abbrev qbY:Rho->Option Out:=(sApp 7 (evC 3 (aC (evC 3 (aC (evA (aC ')' (aC ')' (aC ')' aN))) tupD) (aC (evC 2 (aC (vr 8) (aC (vr 3) aN)) zV) (aC (vr 5) aN))) zN) (aC (evC 2 (aC (vr 8) (aC (vr 6) aN)) zV) (aC (vr 6) aN))) zN))
noncomputable def Yq:Rho->Option Out:=(seqO (sSet 3 (evC 2 (aC (vr 0) (aC (vr 1) aN)) Z9)) (seqO (sSet 4 (evC 2 (aC (ev2 (vr 0) (kd (.int 1)) ixD) (aC (ev2 (vr 0) (kd (.int 2)) ixD) aN)) zr)) (seqO (sSet 5 (vr 3)) (seqO (sIf (tV (ev2 (vr 2) ')' neD)) (sSet 5 (evC 3 (aC (evA (aC ')' (aC ')' (aC ')' aN))) tupD) (aC (vr 2) (aC (vr 4) aN))) zN)) sN) (seqO (sSet 6 (evC 2 (aC (vr 3) (aC (vr 4) aN)) zr)) (seqO (QJ 7 (evA (aC (evC 3 (aC (evC 3 (aC (ev2 (vr 0) ')' ixD) (aC (kd (.int 1)) (aC (vr 3) aN))) zN) (aC (kd (.int 1)) (aC (vr 5) aN))) zN) aN) lstD)) (seqO (sFor (evI (evS (vr 0) (oS (kd (.int 1))) oN) seqD) (gNm 8) qbY) (sRet (evA (aC (vr 7) aN) Yo)))))))))
noncomputable def jD (ds:'('):Option Ka:=ob (Yq (rho0 W9.length ds)) outD
theorem qeq (F:Fun K "_law_led" "_law_led" Tq35 f fd)(m:mg "_law_led" = some (.ref f))(b:Binds K fd ["_law_pose_here", "_law_way", "_law_bend"] [])(K__law_unit:Known P w K mg base "_law_unit" 2 2 Z9)(K__law_cross:Known P w K mg base "_law_cross" 2 1 zr)(K__law_sum:Known P w K mg base "_law_sum" 3 1 zN)(K__law_dot:Known P w K mg base "_law_dot" 2 1 zV)(z_tuple:mg "tuple" = none):Known P w K mg base "_law_led" 3 3 jD:=by
 refine ⟨f,fd,["_law_pose_here", "_law_way", "_law_bend"],F.pure (k:=2) (u:=Yq) (M':=[]) qt.fs rfl (λcdv A outer s H E hr G=>?_),m,F.kp,b⟩
 refine qg (M1:=[]) ?_ ?_
 refine qP 3 ?_ ?_ ?_ ?_ ?_ ?_ (qm K__law_unit hr '#' (qt.gl 0 rfl rfl) (pda2 (pd_v qt 0) (pd_v qt 1)) rfl)
 ·exact qt.fs.nd
 ·exact (qt.loc 3 rfl)
 ·rfl
 ·rfl
 ·exact .inl rfl
 ·decide
 refine qg (M1:=[]) ?_ ?_
 refine qP 4 ?_ ?_ ?_ ?_ ?_ ?_ (qm K__law_cross hr '#' (qt.gl 1 rfl rfl) (pda2 (qp (pd_v qt 0) qb) (qp (pd_v qt 0) qb)) rfl)
 ·exact qt.fs.nd
 ·exact (qt.loc 4 rfl)
 ·rfl
 ·rfl
 ·exact .inl rfl
 ·decide
 refine qg (M1:=[]) ?_ ?_
 refine qP 5 ?_ ?_ ?_ ?_ ?_ ?_ (pd_v qt 3)
 ·exact qt.fs.nd
 ·exact (qt.loc 5 rfl)
 ·rfl
 ·rfl
 ·exact .inl rfl
 ·decide
 refine qg (M1:=[]) ?_ ?_
 refine zK (qU (d_ne hr) (pd_v qt 2) qb (zp _)) ?_ zu
 refine ql ?_
 refine qP 5 ?_ ?_ ?_ ?_ ?_ ?_ ?_
 ·exact qt.fs.nd
 ·exact (qt.loc 5 rfl)
 ·rfl
 ·rfl
 ·exact .inl rfl
 ·decide
 exact qm K__law_sum hr '#' (qt.gl 2 rfl rfl) (pda3 (qQ (pda3 qb qb qb)) (pd_v qt 2) (pd_v qt 4)) rfl
 refine qg (M1:=[]) ?_ ?_
 refine qP 6 ?_ ?_ ?_ ?_ ?_ ?_ (qm K__law_cross hr '#' (qt.gl 1 rfl rfl) (pda2 (pd_v qt 3) (pd_v qt 4)) rfl)
 ·exact qt.fs.nd
 ·exact (qt.loc 6 rfl)
 ·rfl
 ·rfl
 ·exact .inl rfl
 ·decide
 refine qg (M1:=[7]) ?_ (qg (M1:=[7]) (ZF Vo rfl (zP (yo (pd_v qt 0) (jK qb) yp)) (λ_=>zW qt 8) (λ_=>ql (yR 7 (qt.vis 7 rfl) '#' '#' (qm K__law_sum hr '#' (qt.gl 2 rfl rfl) (pda3 (qm K__law_sum hr '#' (qt.gl 2 rfl rfl) (pda3 (qQ (pda3 qb qb qb)) (qm K__law_dot hr '#' (qt.gl 3 rfl rfl) (pda2 (pd_v qt 8) (pd_v qt 3)) rfl) (pd_v qt 5)) rfl) (qm K__law_dot hr '#' (qt.gl 3 rfl rfl) (pda2 (pd_v qt 8) (pd_v qt 6)) rfl) (pd_v qt 6)) rfl)))) (ql (qy (ZX WQ (qt.gl 4 rfl rfl) z_tuple rfl (pda1 (pd_v qt 7))))))
 refine Qj 7 ?_ ?_ ?_ ?_ ?_ ?_ ?_ (JD (pda1 (qm K__law_sum hr '#' (qt.gl 2 rfl rfl) (pda3 (qm K__law_sum hr '#' (qt.gl 2 rfl rfl) (pda3 (qp (pd_v qt 0) qb) qb (pd_v qt 3)) rfl) qb (pd_v qt 5)) rfl)))
 ·exact qt.fs.nd
 ·exact (qt.loc 7 rfl)
 ·rfl
 ·rfl
 ·exact .inl rfl
 ·decide
 ·decide
noncomputable abbrev Tq27:KS:=top 46
noncomputable abbrev JW:List Str:=["_law_cell_here", "_law_far", "_law_units", "_law_right", "_law_up", "_law_out", "_law_spot", "_law_axis", "_law_number"]
theorem qw:ScOk JW ["_law_cell_here", "_law_far"] ["_law_cross", "abs", "range", "tuple"] (qe Tq27):=scmk (by kernel_rfl)
noncomputable abbrev j4:Rho->Option Out:=(seqO (sSet 8 (ev2 (ev2 (ev2 (vr 1) (ev2 (kd (.int 3)) (ev2 (kd (.int 4)) (vr 7) mulD) Qq) yX) (kd (.int 9)) modD) (kd (.int 4)) subD)) (seqO (sIf (tV (ev2 (ev2 (vr 1) (kd (.int 3)) modD) (kd (.int 1)) eqD)) (sSet 8 (ev2 (ev2 (ev2 (vr 1) (ev2 (kd (.int 3)) (ev2 (kd (.int 4)) (vr 7) mulD) Qq) yX) (ev2 (kd (.int 10)) (kd (.int 29)) powD) modD) (ev2 (kd (.int 10)) (kd (.int 28)) powD) subD)) sN) (sApp 6 (ev2 (ev2 (ev2 (kd (.int 2)) (vr 8) mulD) (kd (.int 1)) Qq) (evA (aC (ev2 (vr 5) (vr 7) ixD) aN) absD) subD))))
noncomputable def jY:Rho->Option Out:=(seqO (sSet 2 (evA (aC (evA (aC (kd (.int 1)) (aC ')' (aC ')' aN))) tupD) (aC (evA (aC (ev1 (kd (.int 1)) negD) (aC ')' (aC ')' aN))) tupD) (aC (evA (aC ')' (aC (kd (.int 1)) (aC ')' aN))) tupD) (aC (evA (aC ')' (aC (ev1 (kd (.int 1)) negD) (aC ')' aN))) tupD) (aC (evA (aC ')' (aC ')' (aC (kd (.int 1)) aN))) tupD) (aC (evA (aC ')' (aC ')' (aC (ev1 (kd (.int 1)) negD) aN))) tupD) aN)))))) lstD)) (seqO (sSet 3 (ev2 (vr 2) (ev2 (vr 0) (kd (.int 6)) modD) ixD)) (seqO (sSet 4 (ev2 (Zr 9 (evI (vr 2) seqD) (tV (ev2 (evC 2 (aC (vr 9) (aC (vr 3) aN)) zV) ')' eqD)) (vr 9)) (ev2 (ev2 (vr 0) (kd (.int 6)) yX) (kd (.int 4)) modD) ixD)) (seqO (sSet 5 (evC 2 (aC (vr 3) (aC (vr 4) aN)) zr)) (seqO (QJ 6 (evA aN lstD)) (seqO (sFor (evR (aC (kd (.int 3)) aN) Q0) (gNm 7) j4) (sRet (evA (aC (evA (aC (vr 6) aN) Yo) (aC (vr 3) (aC (vr 4) aN))) tupD))))))))
noncomputable def QT (ds:'('):Option Ka:=ob (jY (rho0 JW.length ds)) outD
theorem qdj (F:Fun K "_law_pose" "_law_pose" Tq27 f fd)(m:mg "_law_pose" = some (.ref f))(b:Binds K fd ["_law_cell_here", "_law_far"] [])(K__law_dot:Known P w K mg base "_law_dot" 2 1 zV)(K__law_cross:Known P w K mg base "_law_cross" 2 1 zr)(z_abs:mg "abs" = none)(z_range:mg "range" = none)(z_tuple:mg "tuple" = none):Known P w K mg base "_law_pose" 2 2 QT:=by
 refine ⟨f,fd,["_law_cell_here", "_law_far"],F.pure (k:=1) (u:=jY) (M':=[]) qw.fs rfl (λcdv A outer s H E hr G=>?_),m,F.kp,b⟩
 refine qg (M1:=[]) ?_ ?_
 refine qP 2 ?_ ?_ ?_ ?_ ?_ ?_ ?_
 ·exact qw.fs.nd
 ·exact (qw.loc 2 rfl)
 ·rfl
 ·rfl
 ·exact .inl rfl
 ·decide
 exact qeB (qF (qQ (pda3 qb qb qb)) (qF (qQ (pda3 (jH jB qb) qb qb)) (qF (qQ (pda3 qb qb qb)) (qF (qQ (pda3 qb (jH jB qb) qb)) (qF (qQ (pda3 qb qb qb)) (qF (qQ (pda3 qb qb (jH jB qb))) zJ))))))
 refine qg (M1:=[]) ?_ ?_
 refine qP 3 ?_ ?_ ?_ ?_ ?_ ?_ (qp (pd_v qw 2) (qD Zk (pd_v qw 0) qb))
 ·exact qw.fs.nd
 ·exact (qw.loc 3 rfl)
 ·rfl
 ·rfl
 ·exact .inl rfl
 ·decide
 refine qg (M1:=[]) ?_ ?_
 refine qP 4 ?_ ?_ ?_ ?_ ?_ ?_ (qp (ZD (CompOk.of (k:=1) JW ["_law_cell_here", "_law_far", "_law_units", "_law_right", "_law_up", "_law_out", "_law_spot", "_law_axis", "_law_number", "_law_unit_here"] (qe Tq27) rfl rfl rfl '%') rfl '%' (zP (pd_v qw 2)) (λ_ _ _ _ _ _=>qaS (qU (d_eq hr) (qm K__law_dot hr '#' (yO '%') (pda2 (q8 9 (qJ '%') '#') (q8 3 (qJ '%') '#')) rfl) qb (zp _))) (λ_ _ _ _ _ _=>q8 9 (qJ '%') '#')) (qD Zk (qD J9 (pd_v qw 0) qb) qb))
 ·exact qw.fs.nd
 ·exact (qw.loc 4 rfl)
 ·rfl
 ·rfl
 ·exact .inl rfl
 ·decide
 refine qg (M1:=[]) ?_ ?_
 refine qP 5 ?_ ?_ ?_ ?_ ?_ ?_ (qm K__law_cross hr '#' (qw.gl 0 rfl rfl) (pda2 (pd_v qw 3) (pd_v qw 4)) rfl)
 ·exact qw.fs.nd
 ·exact (qw.loc 5 rfl)
 ·rfl
 ·rfl
 ·exact .inl rfl
 ·decide
 refine qg (M1:=[6]) ?_ ?_
 refine Qj 6 ?_ ?_ ?_ ?_ ?_ ?_ ?_ (JD zJ)
 ·exact qw.fs.nd
 ·exact (qw.loc 6 rfl)
 ·rfl
 ·rfl
 ·exact .inl rfl
 ·decide
 ·decide
 refine qg (M1:=[6]) ?_ (ql (qy (qQ (pda3 (ZX WQ (qw.gl 3 rfl rfl) z_tuple rfl (pda1 (pd_v qw 6))) (pd_v qw 3) (pd_v qw 4)))))
 refine yq Vo rfl (JB (qw.gl 2 rfl rfl) z_range (pda1 qb)) (zW qw 7) ?_
 refine qg (M1:=[6]) ?_ ?_
 refine qP 8 ?_ ?_ ?_ ?_ ?_ ?_ (qD jj (qD Zk (qD J9 (pd_v qw 1) (qD Qc qb (qD Qu qb (pd_v qw 7)))) qb) qb)
 ·exact qw.fs.nd
 ·exact (qw.loc 8 rfl)
 ·rfl
 ·rfl
 ·exact .inl rfl
 ·decide
 refine qg (M1:=[6]) ?_ (ql (yR 6 (qw.vis 6 rfl) '#' '#' (qD jj (qD Qc (qD Qu qb (pd_v qw 8)) qb) (qZ b_abs (qw.gl 1 rfl rfl) z_abs qfZ (pda1 (qp (pd_v qw 5) (pd_v qw 7)))))))
 refine zK (qU (d_eq hr) (qD Zk (pd_v qw 1) qb) qb (zp _)) ?_ zu
 refine ql ?_
 refine qP 8 ?_ ?_ ?_ ?_ ?_ ?_ (qD jj (qD Zk (qD J9 (pd_v qw 1) (qD Qc qb (qD Qu qb (pd_v qw 7)))) (qD qfb qb qb)) (qD qfb qb qb))
 ·exact qw.fs.nd
 ·exact (qw.loc 8 rfl)
 ·rfl
 ·rfl
 ·exact .inl rfl
 ·decide
noncomputable abbrev Tq10:KS:=top 47
noncomputable abbrev jA:List Str:=["_law_thing"]
theorem zR:ScOk jA ["_law_thing"] ["isinstance", "tuple", "len", "all"] (qe Tq10):=scmk (by kernel_rfl)
noncomputable def yz:Rho->Option Out:=(seqO (sIf (tO (tN (tV (ev1 (vr 0) (isiD "tuple")))) (tV (ev2 (evA (aC (vr 0) aN) lenD) (kd (.int 3)) neD))) (sRet (kd (.bool false))) sN) (sRet (evA (aC (Zr 1 (evI (vr 0) seqD) tT (evC 1 (aC (vr 1) aN) Q6)) aN) allD)))
noncomputable def jC (ds:'('):Option Ka:=ob (yz (rho0 jA.length ds)) outD
theorem qax (F:Fun K "_law_is_spot" "_law_is_spot" Tq10 f fd)(m:mg "_law_is_spot" = some (.ref f))(b:Binds K fd ["_law_thing"] [])(K__law_whole:Known P w K mg base "_law_whole" 1 1 Q6)(z_isinstance:mg "isinstance" = none)(z_tuple:mg "tuple" = none)(z_len:mg "len" = none)(z_all:mg "all" = none):Known P w K mg base "_law_is_spot" 1 2 jC:=by
 refine ⟨f,fd,["_law_thing"],F.pure (k:=1) (u:=yz) (M':=[]) zR.fs rfl (λcdv A outer s H E hr G=>?_),m,F.kp,b⟩
 exact qg (M1:=[]) (zK (PDW.pdt (jL (Zb (ZG (jG (T := "tuple") (kit_tuple _) (zR.gl 0 rfl rfl) z_isinstance (zR.gl 1 rfl rfl) z_tuple rfl rfl (pd_v zR 0)))) (jq (qU (d_ne hr) (qZ QH (zR.gl 2 rfl rfl) z_len Vc (pda1 (pd_v zR 0))) qb (zp _))))) (ql (qy JP)) zu) (ql (qy (qZ (qg2 rfl) (zR.gl 3 rfl rfl) z_all rfl (pda1 (ZD (CompOk.of (k:=1) jA ["_law_thing", "_law_number"] (qe Tq10) rfl rfl rfl '%') rfl '%' (zP (pd_v zR 0)) (λ_ _ _ _ _ _=>Qk) (λ_ _ _ _ _ _=>qm K__law_whole hr '#' (yO '%') (pda1 (q8 1 (qJ '%') '#')) rfl))))))
noncomputable abbrev Tq11:KS:=top 48
noncomputable abbrev jz:List Str:=["_law_thing"]
theorem zQ:ScOk jz ["_law_thing"] ["isinstance", "tuple", "len", "all"] (qe Tq11):=scmk (by kernel_rfl)
noncomputable def yx:Rho->Option Out:=(seqO (sIf (tO (tN (tV (ev1 (vr 0) (isiD "tuple")))) (tV (ev2 (evA (aC (vr 0) aN) lenD) (kd (.int 3)) neD))) (sRet (kd (.bool false))) sN) (sRet (evA (aC (Zr 1 (evI (vr 0) seqD) tT (evC 1 (aC (vr 1) aN) jC)) aN) allD)))
noncomputable def QS (ds:'('):Option Ka:=ob (yx (rho0 jz.length ds)) outD
theorem qaw (F:Fun K "_law_is_pose" "_law_is_pose" Tq11 f fd)(m:mg "_law_is_pose" = some (.ref f))(b:Binds K fd ["_law_thing"] [])(K__law_is_spot:Known P w K mg base "_law_is_spot" 1 2 jC)(z_isinstance:mg "isinstance" = none)(z_tuple:mg "tuple" = none)(z_len:mg "len" = none)(z_all:mg "all" = none):Known P w K mg base "_law_is_pose" 1 3 QS:=by
 refine ⟨f,fd,["_law_thing"],F.pure (k:=2) (u:=yx) (M':=[]) zQ.fs rfl (λcdv A outer s H E hr G=>?_),m,F.kp,b⟩
 exact qg (M1:=[]) (zK (PDW.pdt (jL (Zb (ZG (jG (T := "tuple") (kit_tuple _) (zQ.gl 0 rfl rfl) z_isinstance (zQ.gl 1 rfl rfl) z_tuple rfl rfl (pd_v zQ 0)))) (jq (qU (d_ne hr) (qZ QH (zQ.gl 2 rfl rfl) z_len Vc (pda1 (pd_v zQ 0))) qb (zp _))))) (ql (qy JP)) zu) (ql (qy (qZ (qg2 rfl) (zQ.gl 3 rfl rfl) z_all rfl (pda1 (ZD (CompOk.of (k:=1) jz ["_law_thing", "_law_spot"] (qe Tq11) rfl rfl rfl '%') rfl '%' (zP (pd_v zQ 0)) (λ_ _ _ _ _ _=>Qk) (λ_ _ _ _ _ _=>qm K__law_is_spot hr '#' (yO '%') (pda1 (q8 1 (qJ '%') '#')) rfl))))))
noncomputable abbrev Tq2:KS:=top 49
noncomputable abbrev Je:List Str:=["_law_cell_here", "_law_way"]
theorem Qs:ScOk Je ["_law_cell_here", "_law_way"] [] (qe Tq2):=scmk (by kernel_rfl)
noncomputable def Z1:Rho->Option Out:=(sRet (evA (aC (ev2 (ev2 (vr 0) ')' ixD) (ev2 (evA (aC (kd (.int 1)) (aC ')' (aC (ev1 (kd (.int 1)) negD) (aC ')' aN)))) tupD) (vr 1) ixD) Qq) (aC (ev2 (ev2 (vr 0) (kd (.int 1)) ixD) (ev2 (evA (aC ')' (aC (kd (.int 1)) (aC ')' (aC (ev1 (kd (.int 1)) negD) aN)))) tupD) (vr 1) ixD) Qq) aN)) tupD))
noncomputable def zc (ds:'('):Option Ka:=ob (Z1 (rho0 Je.length ds)) outD
theorem w5 (F:Fun K "_law_neighbour" "_law_neighbour" Tq2 f fd)(m:mg "_law_neighbour" = some (.ref f))(b:Binds K fd ["_law_cell_here", "_law_way"] []):Known P w K mg base "_law_neighbour" 2 1 zc:=by
 refine ⟨f,fd,["_law_cell_here", "_law_way"],F.pure (k:=0) (u:=Z1) (M':=[]) Qs.fs rfl (λcdv A outer s H E hr G=>?_),m,F.kp,b⟩
 exact ql (qy (qQ (pda2 (qD Qc (qp (pd_v Qs 0) qb) (qp (qQ (qF qb (qF qb (qF (jH jB qb) (qF qb zJ))))) (pd_v Qs 1))) (qD Qc (qp (pd_v Qs 0) qb) (qp (qQ (qF qb (qF qb (qF qb (qF (jH jB qb) zJ))))) (pd_v Qs 1))))))
noncomputable abbrev Tq14:KS:=top 50
noncomputable abbrev Qy:List Str:=["_law_cells", "_law_joins", "_law_one", "_law_other", "_law_bend", "_law_pair"]
theorem zb:ScOk Qy ["_law_cells", "_law_joins", "_law_one", "_law_other", "_law_bend"] ["max", "min"] (qe Tq14):=scmk (by kernel_rfl)
noncomputable def j9:Rho->Option Out:=(seqO (sSet 5 (evA (aC (evA (aC (vr 2) (aC (vr 3) aN)) Jw) (aC (evA (aC (vr 2) (aC (vr 3) aN)) Jv) aN)) tupD)) (sIf (tV (ev2 (vr 5) (ZL 6 3 (evI (vr 1) seqD) (unpD 3 (gsC (gNm 6) (gsC (gNm 7) (gsC (gNm 8) gsN)))) tT (evA (aC (vr 6) (aC (vr 7) aN)) tupD)) ninD)) (sApp 1 (evA (aC (ev2 (vr 5) ')' ixD) (aC (ev2 (vr 5) (kd (.int 1)) ixD) (aC (vr 4) aN))) tupD)) sN))
noncomputable def Qo (ds:'('):Option Ka:=ob (j9 (rho0 Qy.length ds)) (outU 1)
theorem qbb (F:Fun K "_law_joined" "_law_joined" Tq14 f fd)(m:mg "_law_joined" = some (.ref f))(b:Binds K fd ["_law_cells", "_law_joins", "_law_one", "_law_other", "_law_bend"] [])(z_max:mg "max" = none)(z_min:mg "min" = none):KnownU P w K mg base "_law_joined" 5 1 1 Qo:=by
 refine ⟨f,fd,["_law_cells", "_law_joins", "_law_one", "_law_other", "_law_bend"],F.mutp (k:=0) (u:=j9) (i:=1) zb.fs rfl '#' (λcdv A outer s H E hr G=>?_),m,F.kp,b⟩
 refine qij ?_ (qfF (qmf (qU (YK hr) (pd_v zb 5) (qaP (CompOk.of (k:=3) Qy ["_law_cells", "_law_joins", "_law_one", "_law_other", "_law_bend", "_law_pair", "_law_a", "_law_b", "_law_old"] (qe Tq14) rfl rfl rfl '%') (qfm (ju (Q9 '#') (ju (Q9 '#') (ju (Q9 '#') qc9)))) (zP (pd_v zb 1)) (λ_ _ _ _ _ _=>qdH rfl (ZZ (Z3 (i:=6) (CompOk.of (k:=3) Qy ["_law_cells", "_law_joins", "_law_one", "_law_other", "_law_bend", "_law_pair", "_law_a", "_law_b", "_law_old"] (qe Tq14) rfl rfl rfl '%') rfl '%' _ _ _ _ _ _) (ZZ (Z3 (i:=7) (CompOk.of (k:=3) Qy ["_law_cells", "_law_joins", "_law_one", "_law_other", "_law_bend", "_law_pair", "_law_a", "_law_b", "_law_old"] (qe Tq14) rfl rfl rfl '%') rfl '%' _ _ _ _ _ _) (ZZ (Z3 (i:=8) (CompOk.of (k:=3) Qy ["_law_cells", "_law_joins", "_law_one", "_law_other", "_law_bend", "_law_pair", "_law_a", "_law_b", "_law_old"] (qe Tq14) rfl rfl rfl '%') rfl '%' _ _ _ _ _ _) qbH)))) (λ_ _ _ _ _ _=>Qk) (λ_ _ _ _ _ _=>qQ (pda2 (q8 6 (qJ '%') '#') (q8 7 (qJ '%') '#')))) rfl) (qfF (qkc (zb.vis 1 rfl) (qQ (pda3 (qp (pd_v zb 5) qb) (qp (pd_v zb 5) qb) (pd_v zb 4))))) qkd))
 refine qke 5 ?_ ?_ ?_ ?_ ?_ ?_ ?_
 ·exact zb.fs.nd
 ·exact (zb.loc 5 rfl)
 ·rfl
 ·rfl
 ·exact .inl rfl
 ·decide
 exact qQ (pda2 (qZ (qi8 hr) (zb.gl 1 rfl rfl) z_min qf1 (pda2 (pd_v zb 2) (pd_v zb 3))) (qZ (qi7 hr) (zb.gl 0 rfl rfl) z_max qf0 (pda2 (pd_v zb 2) (pd_v zb 3))))
noncomputable abbrev Tq20:KS:=top 51
noncomputable abbrev Yy:List Str:=["_law_script", "_law_first", "_law_last", "_law_most", "_law_bends", "_law_start", "_law_cells", "_law_joins", "_law_number", "_law_mixed", "_law_one", "_law_other"]
theorem qi:ScOk Yy ["_law_script", "_law_first", "_law_last", "_law_most", "_law_bends"] ["_law_cell", "len", "_law_neighbour", "_law_joined"] (qe Tq20):=scmk (by kernel_rfl)
noncomputable abbrev QQ:Rho->Option Out:=(seqO (sSet 9 (ev2 (ev2 (vr 8) (kd (.int 48271)) mulD) (kd (.int 1000003)) modD)) (seqO (sSet 10 (qbs (ev2 (vr 6) (ev2 (vr 9) (evA (aC (vr 6) aN) lenD) modD) ixD))) (seqO (sSet 11 (evC 2 (aC (vr 10) (aC (ev2 (ev2 (vr 9) (kd (.int 64)) yX) (kd (.int 4)) modD) aN)) zc)) (sIf (tO (tV (ev2 (vr 11) (vr 6) inD)) (tV (ev2 (evA (aC (vr 6) aN) lenD) (vr 3) ltD2))) (seqO (sIf (tV (ev2 (vr 11) (vr 6) ninD)) (sApp 6 (vr 11)) sN) (yu 7 5 (aC (vr 6) (aC (vr 7) (aC (vr 10) (aC (vr 11) (aC (ev2 (vr 4) (ev2 (ev2 (vr 9) (kd (.int 256)) yX) (evA (aC (vr 4) aN) lenD) modD) ixD) aN))))) Qo)) sN))))
noncomputable def jr:Rho->Option Out:=(seqO (sSet 5 (evA (aC (ev2 (ev2 (evC 2 (aC (vr 0) (aC ')' aN)) zm) (kd (.int 7)) modD) (kd (.int 3)) subD) (aC (ev2 (ev2 (evC 2 (aC (vr 0) (aC (kd (.int 1)) aN)) zm) (kd (.int 7)) modD) (kd (.int 3)) subD) aN)) tupD)) (seqO (sIf (tV (ev2 (ev2 (ev2 (evC 2 (aC (vr 0) (aC ')' aN)) zm) (kd (.int 7)) yX) (kd (.int 4)) modD) (kd (.int 3)) eqD)) (sSet 5 (evA (aC (ev2 (evC 2 (aC (vr 0) (aC ')' aN)) zm) (ev2 (kd (.int 10)) (kd (.int 19)) powD) modD) (aC (ev1 (ev2 (evC 2 (aC (vr 0) (aC (kd (.int 1)) aN)) zm) (ev2 (kd (.int 10)) (kd (.int 19)) powD) modD) negD) aN)) tupD)) sN) (seqO (QJ 6 (evA (aC (vr 5) aN) lstD)) (seqO (QJ 7 (evA aN lstD)) (seqO (sFor (evI (evS (vr 0) (oS (vr 1)) (oS (vr 2))) seqD) (gNm 8) QQ) (sRet (evA (aC (vr 6) (aC (vr 7) aN)) tupD)))))))
noncomputable def Qg (ds:'('):Option Ka:=ob (jr (rho0 Yy.length ds)) outD
theorem qch (F:Fun K "_law_grown" "_law_grown" Tq20 f fd)(m:mg "_law_grown" = some (.ref f))(b:Binds K fd ["_law_script", "_law_first", "_law_last", "_law_most", "_law_bends"] [])(K__law_cell:Known P w K mg base "_law_cell" 2 1 zm)(K__law_neighbour:Known P w K mg base "_law_neighbour" 2 1 zc)(K__law_joined:KnownU P w K mg base "_law_joined" 5 1 1 Qo)(z_len:mg "len" = none):Known P w K mg base "_law_grown" 5 2 Qg:=by
 refine ⟨f,fd,["_law_script", "_law_first", "_law_last", "_law_most", "_law_bends"],F.pure (k:=1) (u:=jr) (M':=[]) qi.fs rfl (λcdv A outer s H E hr G=>?_),m,F.kp,b⟩
 refine qg (M1:=[]) ?_ ?_
 refine qP 5 ?_ ?_ ?_ ?_ ?_ ?_ ?_
 ·exact qi.fs.nd
 ·exact (qi.loc 5 rfl)
 ·rfl
 ·rfl
 ·exact .inl rfl
 ·decide
 exact qQ (pda2 (qD jj (qD Zk (qm K__law_cell hr '#' (qi.gl 0 rfl rfl) (pda2 (pd_v qi 0) qb) rfl) qb) qb) (qD jj (qD Zk (qm K__law_cell hr '#' (qi.gl 0 rfl rfl) (pda2 (pd_v qi 0) qb) rfl) qb) qb))
 refine qg (M1:=[]) ?_ ?_
 refine zK (qU (d_eq hr) (qD Zk (qD J9 (qm K__law_cell hr '#' (qi.gl 0 rfl rfl) (pda2 (pd_v qi 0) qb) rfl) qb) qb) qb (zp _)) ?_ zu
 refine ql ?_
 refine qP 5 ?_ ?_ ?_ ?_ ?_ ?_ ?_
 ·exact qi.fs.nd
 ·exact (qi.loc 5 rfl)
 ·rfl
 ·rfl
 ·exact .inl rfl
 ·decide
 exact qQ (pda2 (qD Zk (qm K__law_cell hr '#' (qi.gl 0 rfl rfl) (pda2 (pd_v qi 0) qb) rfl) (qD qfb qb qb)) (jH jB (qD Zk (qm K__law_cell hr '#' (qi.gl 0 rfl rfl) (pda2 (pd_v qi 0) qb) rfl) (qD qfb qb qb))))
 refine qg (M1:=[6]) ?_ ?_
 refine Qj 6 ?_ ?_ ?_ ?_ ?_ ?_ ?_ (JD (pda1 (pd_v qi 5)))
 ·exact qi.fs.nd
 ·exact (qi.loc 6 rfl)
 ·rfl
 ·rfl
 ·exact .inl rfl
 ·decide
 ·decide
 refine qg (M1:=[7,6]) ?_ ?_
 refine Qj 7 ?_ ?_ ?_ ?_ ?_ ?_ ?_ (JD zJ)
 ·exact qi.fs.nd
 ·exact (qi.loc 7 rfl)
 ·rfl
 ·rfl
 ·exact .inl rfl
 ·decide
 ·decide
 refine qg (M1:=[7,6]) ?_ (ql (qy (qQ (pda2 (pd_v qi 6) (pd_v qi 7)))))
 refine ZF Vo rfl (zP (yo (pd_v qi 0) (jK (pd_v qi 1)) (jK (pd_v qi 2)))) (λ_=>zW qi 8) (λ_=>?_)
 refine qg (M1:=[7,6]) ?_ ?_
 refine qP 9 ?_ ?_ ?_ ?_ ?_ ?_ (qD Zk (qD Qu (pd_v qi 8) qb) qb)
 ·exact qi.fs.nd
 ·exact (qi.loc 9 rfl)
 ·rfl
 ·rfl
 ·exact .inl rfl
 ·decide
 refine qg (M1:=[7,6]) ?_ ?_
 refine qil 10 ?_ ?_ ?_ ?_ ?_ ?_ (qp (pd_v qi 6) (qD Zk (pd_v qi 9) (qZ QH (qi.gl 1 rfl rfl) z_len Vc (pda1 (pd_v qi 6)))))
 ·exact qi.fs.nd
 ·exact (qi.loc 10 rfl)
 ·rfl
 ·rfl
 ·exact .inl rfl
 ·decide
 refine qg (M1:=[7,6]) ?_ (ql (zK (PDW.pdt (jL (qU (d_in hr) (pd_v qi 11) (pd_v qi 6) rfl) (jq (qU (qc0 hr) (qZ QH (qi.gl 1 rfl rfl) z_len Vc (pda1 (pd_v qi 6))) (pd_v qi 3) (zp _))))) (qg (M1:=[7,6]) (zK (qU (YK hr) (pd_v qi 11) (pd_v qi 6) rfl) (ql (yR 6 (qi.vis 6 rfl) '#' '#' (pd_v qi 11))) zu) (ql (qbI 7 1 K__law_joined hr '#' (qi.gl 3 rfl rfl) '#' '#' (qbE (pd_v qi 6) (qdE 7 (qi.vis 7 rfl) (pda3 (pd_v qi 10) (pd_v qi 11) (qp (pd_v qi 4) (qD Zk (qD J9 (pd_v qi 9) qb) (qZ QH (qi.gl 1 rfl rfl) z_len Vc (pda1 (pd_v qi 4))))))))))) zu))
 refine qP 11 ?_ ?_ ?_ ?_ ?_ ?_ (qm K__law_neighbour hr '#' (qi.gl 2 rfl rfl) (pda2 (pd_v qi 10) (qD Zk (qD J9 (pd_v qi 9) qb) qb)) rfl)
 ·exact qi.fs.nd
 ·exact (qi.loc 11 rfl)
 ·rfl
 ·rfl
 ·exact .inl rfl
 ·decide
noncomputable abbrev Tq21:KS:=top 52
noncomputable abbrev Q5:List Str:=["_law_cells", "_law_joins", "_law_rising"]
theorem Qe:ScOk Q5 ["_law_cells", "_law_joins"] ["sorted"] (qe Tq21):=scmk (by kernel_rfl)
noncomputable def JH:Rho->Option Out:=(seqO (sSet 2 (evA (aC (vr 0) aN) Z4)) (sRet (evA (aC (vr 2) (aC (evA (aC (ZL 3 3 (evI (vr 1) seqD) (unpD 3 (gsC (gNm 3) (gsC (gNm 4) (gsC (gNm 5) gsN)))) tT (evA (aC (ev2 (vr 2) (vr 3) Jt) (aC (ev2 (vr 2) (vr 4) Jt) (aC (vr 5) aN))) tupD)) aN) Z4) aN)) tupD)))
noncomputable def Zv (ds:'('):Option Ka:=ob (JH (rho0 Q5.length ds)) outD
theorem qci (F:Fun K "_law_sheet" "_law_sheet" Tq21 f fd)(m:mg "_law_sheet" = some (.ref f))(b:Binds K fd ["_law_cells", "_law_joins"] [])(z_sorted:mg "sorted" = none):Known P w K mg base "_law_sheet" 2 1 Zv:=by
 refine ⟨f,fd,["_law_cells", "_law_joins"],F.pure (k:=0) (u:=JH) (M':=[]) Qe.fs rfl (λcdv A outer s H E hr G=>?_),m,F.kp,b⟩
 refine qg (M1:=[]) ?_ (ql (qy (qQ (pda2 (pd_v Qe 2) (wu (qaV (qaL hr) (Qe.gl 0 rfl rfl) z_sorted Jr (pda1 (qaP (CompOk.of (k:=3) Q5 ["_law_cells", "_law_joins", "_law_rising", "_law_a", "_law_b", "_law_bend"] (qe Tq21) rfl rfl rfl '%') (qfm (ju (Q9 '#') (ju (Q9 '#') (ju (Q9 '#') qc9)))) (zP (pd_v Qe 1)) (λ_ _ _ _ _ _=>qdH rfl (ZZ (Z3 (i:=3) (CompOk.of (k:=3) Q5 ["_law_cells", "_law_joins", "_law_rising", "_law_a", "_law_b", "_law_bend"] (qe Tq21) rfl rfl rfl '%') rfl '%' _ _ _ _ _ _) (ZZ (Z3 (i:=4) (CompOk.of (k:=3) Q5 ["_law_cells", "_law_joins", "_law_rising", "_law_a", "_law_b", "_law_bend"] (qe Tq21) rfl rfl rfl '%') rfl '%' _ _ _ _ _ _) (ZZ (Z3 (i:=5) (CompOk.of (k:=3) Q5 ["_law_cells", "_law_joins", "_law_rising", "_law_a", "_law_b", "_law_bend"] (qe Tq21) rfl rfl rfl '%') rfl '%' _ _ _ _ _ _) qbH)))) (λ_ _ _ _ _ _=>Qk) (λ_ _ _ _ _ _=>qQ (pda3 (qdG hr (q8 2 (qJ '%') '#') (q8 3 (qJ '%') '#')) (qdG hr (q8 2 (qJ '%') '#') (q8 4 (qJ '%') '#')) (q8 5 (qJ '%') '#')))))))))))
 refine qP 2 ?_ ?_ ?_ ?_ ?_ ?_ (wu (qaV (qaL hr) (Qe.gl 0 rfl rfl) z_sorted Jr (pda1 (pd_v Qe 0))))
 ·exact Qe.fs.nd
 ·exact (Qe.loc 2 rfl)
 ·rfl
 ·rfl
 ·exact .inl rfl
 ·decide
noncomputable abbrev Tq28:KS:=top 53
noncomputable abbrev jW:List Str:=["_law_sheet_here", "_law_near_here", "_law_i", "_law_j", "_law_bend", "_law_way"]
theorem qN:ScOk jW ["_law_sheet_here"] ["int"] (qe Tq28):=scmk (by kernel_rfl)
noncomputable abbrev yU:Rho->Option Out:=(seqO (sSet 5 (evA (aC (ev2 (ev2 (ev2 (ev2 (vr 0) ')' ixD) (vr 2) ixD) ')' ixD) (ev2 (ev2 (ev2 (vr 0) ')' ixD) (vr 3) ixD) ')' ixD) eqD) aN) qcI)) (seqO (qa0 1 (vr 2) (evA (aC (vr 5) (aC (vr 3) (aC (vr 4) aN))) tupD)) (qa0 1 (vr 3) (evA (aC (ev2 (vr 5) (kd (.int 2)) Qq) (aC (vr 2) (aC (vr 4) aN))) tupD))))
noncomputable def yC:Rho->Option Out:=(seqO (Wh 1 (qal 6 1 (evI (ev2 (vr 0) ')' ixD) seqD) (gNm 6) tT (evA aN lstD))) (seqO (sFor (evI (ev2 (vr 0) (kd (.int 1)) ixD) seqD) (unpD 3 (gsC (gNm 2) (gsC (gNm 3) (gsC (gNm 4) gsN)))) yU) (sRet (vr 1))))
noncomputable def Z7 (ds:'('):Option Ka:=ob (yC (rho0 jW.length ds)) outD
theorem qdi (F:Fun K "_law_near" "_law_near" Tq28 f fd)(m:mg "_law_near" = some (.ref f))(b:Binds K fd ["_law_sheet_here"] [])(z_int:mg "int" = none):Known P w K mg base "_law_near" 1 1 Z7:=by
 refine ⟨f,fd,["_law_sheet_here"],F.pure (k:=0) (u:=yC) (M':=[]) qN.fs rfl (λcdv A outer s H E hr G=>?_),m,F.kp,b⟩
 refine qg (M1:=[1,1001]) (qbJ 1 (CompOk.of (k:=1) jW ["_law_sheet_here", "_law_near_here", "_law_i", "_law_j", "_law_bend", "_law_way", "_law_cell_here"] (qe Tq28) rfl rfl rfl '%') (Q9 '#') (qe Tq28) rfl '%' '#' '#' (zP (qp (pd_v qN 0) qb)) (λ_ _ _ _ _ _=>Z3 (i:=6) (CompOk.of (k:=1) jW ["_law_sheet_here", "_law_near_here", "_law_i", "_law_j", "_law_bend", "_law_way", "_law_cell_here"] (qe Tq28) rfl rfl rfl '%') rfl '%' _ _ _ _ _ _) (λ_ _ _ _ _ _=>Qk) (λ_ _ _ _ _ _=>JD zJ)) ?_
 refine qg (M1:=[1,1001]) ?_ (ql (qy (pd_v qN 1)))
 refine ZF Vo rfl (zP (qp (pd_v qN 0) qb)) (λ_=>jX rfl (zj (zW qN 2) (zj (zW qN 3) (zj (zW qN 4) jc)))) (λ_=>?_)
 refine qg (M1:=[1,1001]) ?_ (qg (M1:=[1,1001]) (ww 1 (qN.vis 1 rfl) '#' (pd_v qN 2) (qQ (pda3 (pd_v qN 5) (pd_v qN 3) (pd_v qN 4)))) (ql (ww 1 (qN.vis 1 rfl) '#' (pd_v qN 3) (qQ (pda3 (qD Qc (pd_v qN 5) qb) (pd_v qN 2) (pd_v qN 4))))))
 refine qP 5 ?_ ?_ ?_ ?_ ?_ ?_ (ZX b_int (qN.gl 0 rfl rfl) z_int rfl (pda1 (Wd (d_eq hr) (qp (qp (qp (pd_v qN 0) qb) (pd_v qN 2)) qb) (qp (qp (qp (pd_v qN 0) qb) (pd_v qN 3)) qb) (zp _))))
 ·exact qN.fs.nd
 ·exact (qN.loc 5 rfl)
 ·rfl
 ·rfl
 ·exact .inl rfl
 ·decide
noncomputable abbrev Tq15:KS:=top 54
noncomputable abbrev jZ:List Str:=["_law_near_here", "_law_numbers", "_law_pose_here", "_law_at", "_law_steps"]
theorem qR:ScOk jZ ["_law_near_here", "_law_numbers", "_law_pose_here"] ["len", "_law_led", "range"] (qe Tq15):=scmk (by kernel_rfl)
noncomputable abbrev zL:Rho->Option Out:=(seqO (QJ 4 (Zr 5 (evI (ev2 (vr 0) (ev2 (vr 1) (vr 3) ixD) ixD) seqD) (tV (ev2 (ev2 (vr 5) (kd (.int 1)) ixD) (ev2 (vr 1) (ev2 (vr 3) (kd (.int 1)) Qq) ixD) eqD)) (vr 5))) (seqO (sIf (tV (ev2 (evA (aC (vr 4) aN) lenD) ')' eqD)) (sRet (vr 3)) sN) (sSet 2 (evC 3 (aC (vr 2) (aC (ev2 (ev2 (vr 4) ')' ixD) ')' ixD) (aC (ev2 (ev2 (vr 4) ')' ixD) (kd (.int 2)) ixD) aN))) jD))))
noncomputable def Ja:Rho->Option Out:=(seqO (sFor (evR (aC (ev2 (evA (aC (vr 1) aN) lenD) (kd (.int 1)) subD) aN) Q0) (gNm 3) zL) (sRet (vr 2)))
noncomputable def QB (ds:'('):Option Ka:=ob (Ja (rho0 jZ.length ds)) outD
theorem qbc (F:Fun K "_law_walked" "_law_walked" Tq15 f fd)(m:mg "_law_walked" = some (.ref f))(b:Binds K fd ["_law_near_here", "_law_numbers", "_law_pose_here"] [])(K__law_led:Known P w K mg base "_law_led" 3 3 jD)(z_len:mg "len" = none)(z_range:mg "range" = none):Known P w K mg base "_law_walked" 3 4 QB:=by
 refine ⟨f,fd,["_law_near_here", "_law_numbers", "_law_pose_here"],F.pure (k:=3) (u:=Ja) (M':=[]) qR.fs rfl (λcdv A outer s H E hr G=>?_),m,F.kp,b⟩
 refine qg (M1:=[]) ?_ (ql (qy (pd_v qR 2)))
 refine yq Vo rfl (JB (qR.gl 2 rfl rfl) z_range (pda1 (qD jj (qZ QH (qR.gl 0 rfl rfl) z_len Vc (pda1 (pd_v qR 1))) qb))) (zW qR 3) ?_
 refine qg (M1:=[4]) (qdI 4 (CompOk.of (k:=1) jZ ["_law_near_here", "_law_numbers", "_law_pose_here", "_law_at", "_law_steps", "_law_step"] (qe Tq15) rfl rfl rfl '%') rfl '%' (qe Tq15) rfl '%' '#' '#' (zP (qp (pd_v qR 0) (qp (pd_v qR 1) (pd_v qR 3)))) (λ_ _ _ _ _ _=>qaS (qU (d_eq hr) (qp (q8 5 (qJ '%') '#') qb) (qp (q8 1 (qJ '%') '#') (qD Qc (q8 3 (qJ '%') '#') qb)) (zp _))) (λ_ _ _ _ _ _=>q8 5 (qJ '%') '#')) ?_
 refine qg (M1:=[4]) (zK (qU (d_eq hr) (qZ QH (qR.gl 0 rfl rfl) z_len Vc (pda1 (pd_v qR 4))) qb (zp _)) (ql (qy (pd_v qR 3))) zu) ?_
 refine ql ?_
 refine qgE [] ?_ ?_ ?_
 ·rfl
 ·rfl
 refine qP 2 ?_ ?_ ?_ ?_ ?_ ?_ (qm K__law_led hr '#' (qR.gl 1 rfl rfl) (pda3 (pd_v qR 2) (qp (qp (pd_v qR 4) qb) qb) (qp (qp (pd_v qR 4) qb) qb)) rfl)
 ·exact qR.fs.nd
 ·exact (qR.loc 2 rfl)
 ·rfl
 ·rfl
 ·exact .inl rfl
 ·decide
noncomputable abbrev Tq3:KS:=top 55
noncomputable abbrev ZP:List Str:=["_law_pose_here", "_law_other", "_law_axes", "_law_off"]
theorem qL:ScOk ZP ["_law_pose_here", "_law_other"] ["_law_cross", "_law_sum"] (qe Tq3):=scmk (by kernel_rfl)
noncomputable def Z2:Rho->Option Out:=(seqO (sSet 2 (evA (aC (ev2 (vr 0) (kd (.int 1)) ixD) (aC (ev2 (vr 0) (kd (.int 2)) ixD) (aC (evC 2 (aC (ev2 (vr 0) (kd (.int 1)) ixD) (aC (ev2 (vr 0) (kd (.int 2)) ixD) aN)) zr) aN))) lstD)) (seqO (sSet 3 (evC 3 (aC (ev2 (vr 1) ')' ixD) (aC (ev1 (kd (.int 1)) negD) (aC (ev2 (vr 0) ')' ixD) aN))) zN)) (sRet (Zr 4 (evI (evA (aC (vr 3) (aC (ev2 (vr 1) (kd (.int 1)) ixD) (aC (ev2 (vr 1) (kd (.int 2)) ixD) aN))) tupD) seqD) tT (Zr 5 (evI (vr 2) seqD) tT (evC 2 (aC (vr 4) (aC (vr 5) aN)) zV))))))
noncomputable def zX (ds:'('):Option Ka:=ob (Z2 (rho0 ZP.length ds)) outD
theorem w6 (F:Fun K "_law_seen_from" "_law_seen_from" Tq3 f fd)(m:mg "_law_seen_from" = some (.ref f))(b:Binds K fd ["_law_pose_here", "_law_other"] [])(K__law_cross:Known P w K mg base "_law_cross" 2 1 zr)(K__law_sum:Known P w K mg base "_law_sum" 3 1 zN)(K__law_dot:Known P w K mg base "_law_dot" 2 1 zV):Known P w K mg base "_law_seen_from" 2 2 zX:=by
 refine ⟨f,fd,["_law_pose_here", "_law_other"],F.pure (k:=1) (u:=Z2) (M':=[]) qL.fs rfl (λcdv A outer s H E hr G=>?_),m,F.kp,b⟩
 refine qg (M1:=[]) ?_ ?_
 refine qP 2 ?_ ?_ ?_ ?_ ?_ ?_ (qeB (pda3 (qp (pd_v qL 0) qb) (qp (pd_v qL 0) qb) (qm K__law_cross hr '#' (qL.gl 0 rfl rfl) (pda2 (qp (pd_v qL 0) qb) (qp (pd_v qL 0) qb)) rfl)))
 ·exact qL.fs.nd
 ·exact (qL.loc 2 rfl)
 ·rfl
 ·rfl
 ·exact .inl rfl
 ·decide
 refine qg (M1:=[]) ?_ (ql (qy (ZD (CompOk.of (k:=1) ZP ["_law_pose_here", "_law_other", "_law_axes", "_law_off", "_law_spot"] (qe Tq3) rfl rfl rfl '%') rfl '%' (zP (qQ (pda3 (pd_v qL 3) (qp (pd_v qL 1) qb) (qp (pd_v qL 1) qb)))) (λ_ _ _ _ _ _=>Qk) (λ_ _ _ _ _ _=>ZD (CompOk.of (k:=1) ["_law_pose_here", "_law_other", "_law_axes", "_law_off", "_law_spot"] ["_law_pose_here", "_law_other", "_law_axes", "_law_off", "_law_spot", "_law_axis"] _ rfl rfl rfl (by kernel_rfl)) rfl '%' (zP (q8 2 (qJ '%') '#')) (λ_ _ _ _ _ _=>Qk) (λ_ _ _ _ _ _=>qm K__law_dot hr '#' (yO '%') (pda2 (q8 4 (qJ '%') '#') (q8 5 (qJ '%') '#')) rfl)))))
 refine qP 3 ?_ ?_ ?_ ?_ ?_ ?_ (qm K__law_sum hr '#' (qL.gl 1 rfl rfl) (pda3 (qp (pd_v qL 1) qb) (jH jB qb) (qp (pd_v qL 0) qb)) rfl)
 ·exact qL.fs.nd
 ·exact (qL.loc 3 rfl)
 ·rfl
 ·rfl
 ·exact .inl rfl
 ·decide
noncomputable abbrev Tq29:KS:=top 56
noncomputable abbrev Wn:List Str:=["_law_near_here", "_law_numbers", "_law_pose_here", "_law_k", "_law_found"]
theorem qM:ScOk Wn ["_law_near_here", "_law_numbers", "_law_pose_here"] ["isinstance", "list", "len", "_law_whole", "_law_walked", "tuple"] (qe Tq29):=scmk (by kernel_rfl)
noncomputable abbrev yV:Rho->Option Out:=(sIf (tO (tN (tV (evC 1 (aC (vr 3) aN) Q6))) (tN (tV (evCh ')' (vr 3) (evA (aC (vr 0) aN) lenD) leD ltD2)))) (sRet (kd (.bool false))) sN)
noncomputable def yD:Rho->Option Out:=(seqO (sIf (tO (tN (tV (ev1 (vr 1) (isiD "list")))) (tV (ev2 (evA (aC (vr 1) aN) lenD) ')' eqD))) (sRet (kd (.bool false))) sN) (seqO (sFor (evI (vr 1) seqD) (gNm 3) yV) (seqO (sSet 4 (evC 3 (aC (vr 0) (aC (ev2 (vr 1) (evS (vr 1) oN (oS (kd (.int 1)))) Qq) (aC (vr 2) aN))) QB)) (sRet (vA (ev1 (vr 4) (isiD "tuple")) (ev2 (vr 4) (vr 2) neD))))))
noncomputable def Z8 (ds:'('):Option Ka:=ob (yD (rho0 Wn.length ds)) outD
theorem qdk (F:Fun K "_law_ring" "_law_ring" Tq29 f fd)(m:mg "_law_ring" = some (.ref f))(b:Binds K fd ["_law_near_here", "_law_numbers", "_law_pose_here"] [])(K__law_whole:Known P w K mg base "_law_whole" 1 1 Q6)(K__law_walked:Known P w K mg base "_law_walked" 3 4 QB)(z_isinstance:mg "isinstance" = none)(z_list:mg "list" = none)(z_len:mg "len" = none)(z_tuple:mg "tuple" = none):Known P w K mg base "_law_ring" 3 5 Z8:=by
 refine ⟨f,fd,["_law_near_here", "_law_numbers", "_law_pose_here"],F.pure (k:=4) (u:=yD) (M':=[]) qM.fs rfl (λcdv A outer s H E hr G=>?_),m,F.kp,b⟩
 refine qg (M1:=[]) (zK (PDW.pdt (jL (Zb (ZG (jG (T := "list") (qdq _) (qM.gl 0 rfl rfl) z_isinstance (qM.gl 1 rfl rfl) z_list rfl rfl (pd_v qM 1)))) (jq (qU (d_eq hr) (qZ QH (qM.gl 2 rfl rfl) z_len Vc (pda1 (pd_v qM 1))) qb (zp _))))) (ql (qy JP)) zu) ?_
 refine qg (M1:=[]) (ZF Vo rfl (zP (pd_v qM 1)) (λ_=>zW qM 3) (λ_=>ql (zK (PDW.pdt (jL (Zb (ZG (qm K__law_whole hr '#' (qM.gl 3 rfl rfl) (pda1 (pd_v qM 3)) rfl))) (jq (Zb (qgH d_le (qc0 hr) qb (pd_v qM 3) (qZ QH (qM.gl 2 rfl rfl) z_len Vc (pda1 (pd_v qM 0)))))))) (ql (qy JP)) zu))) ?_
 refine qg (M1:=[]) ?_ (ql (qy (Wc (jG (T := "tuple") (kit_tuple _) (qM.gl 0 rfl rfl) z_isinstance (qM.gl 5 rfl rfl) z_tuple rfl rfl (pd_v qM 4)) (Wf (Wd (d_ne hr) (pd_v qM 4) (pd_v qM 2) (zp _))))))
 refine qP 4 ?_ ?_ ?_ ?_ ?_ ?_ (qm K__law_walked hr '#' (qM.gl 4 rfl rfl) (pda3 (pd_v qM 0) (qD Qc (pd_v qM 1) (yo (pd_v qM 1) yp (jK qb))) (pd_v qM 2)) rfl)
 ·exact qM.fs.nd
 ·exact (qM.loc 4 rfl)
 ·rfl
 ·rfl
 ·exact .inl rfl
 ·decide
noncomputable abbrev Tq4:KS:=top 57
noncomputable abbrev ZM:List Str:=["_law_poses", "_law_many"]
theorem zA:ScOk ZM ["_law_poses", "_law_many"] ["isinstance", "list", "len", "all"] (qe Tq4):=scmk (by kernel_rfl)
noncomputable def Z0:Rho->Option Out:=(seqO (sIf (tO (tN (tV (ev1 (vr 0) (isiD "list")))) (tV (ev2 (evA (aC (vr 0) aN) lenD) (vr 1) neD))) (sRet (kd (.bool false))) sN) (sRet (evA (aC (Zr 2 (evI (vr 0) seqD) tT (evC 1 (aC (vr 2) aN) QS)) aN) allD)))
noncomputable def zG (ds:'('):Option Ka:=ob (Z0 (rho0 ZM.length ds)) outD
theorem wZ (F:Fun K "_law_all_poses" "_law_all_poses" Tq4 f fd)(m:mg "_law_all_poses" = some (.ref f))(b:Binds K fd ["_law_poses", "_law_many"] [])(K__law_is_pose:Known P w K mg base "_law_is_pose" 1 3 QS)(z_isinstance:mg "isinstance" = none)(z_list:mg "list" = none)(z_len:mg "len" = none)(z_all:mg "all" = none):Known P w K mg base "_law_all_poses" 2 4 zG:=by
 refine ⟨f,fd,["_law_poses", "_law_many"],F.pure (k:=3) (u:=Z0) (M':=[]) zA.fs rfl (λcdv A outer s H E hr G=>?_),m,F.kp,b⟩
 exact qg (M1:=[]) (zK (PDW.pdt (jL (Zb (ZG (jG (T := "list") (qdq _) (zA.gl 0 rfl rfl) z_isinstance (zA.gl 1 rfl rfl) z_list rfl rfl (pd_v zA 0)))) (jq (qU (d_ne hr) (qZ QH (zA.gl 2 rfl rfl) z_len Vc (pda1 (pd_v zA 0))) (pd_v zA 1) (zp _))))) (ql (qy JP)) zu) (ql (qy (qZ (qg2 rfl) (zA.gl 3 rfl rfl) z_all rfl (pda1 (ZD (CompOk.of (k:=1) ZM ["_law_poses", "_law_many", "_law_pose_here"] (qe Tq4) rfl rfl rfl '%') rfl '%' (zP (pd_v zA 0)) (λ_ _ _ _ _ _=>Qk) (λ_ _ _ _ _ _=>qm K__law_is_pose hr '#' (yO '%') (pda1 (q8 2 (qJ '%') '#')) rfl))))))
noncomputable abbrev Tq1:KS:=top 58
noncomputable abbrev jV:List Str:=["_law_near_here", "_law_base", "_law_found", "_law_first", "_law_pose_here", "_law_k"]
theorem qj:ScOk jV ["_law_near_here", "_law_base", "_law_found", "_law_first", "_law_pose_here"] ["isinstance", "tuple", "len", "_law_ring", "_law_all_poses", "_law_seen_from", "range"] (qe Tq1):=scmk (by kernel_rfl)
noncomputable abbrev jh:Rho->Option Out:=(sIf (tV (ev2 (evC 2 (aC (vr 4) (aC (ev2 (ev2 (vr 2) (kd (.int 1)) ixD) (vr 5) ixD) aN)) zX) (evC 2 (aC (ev2 (ev2 (vr 1) (kd (.int 1)) ixD) (vr 3) ixD) (aC (ev2 (ev2 (vr 1) (kd (.int 1)) ixD) (vr 5) ixD) aN)) zX) neD)) (sRet (kd (.bool false))) sN)
noncomputable def Ql:Rho->Option Out:=(seqO (sIf (tO (tN (tV (ev1 (vr 2) (isiD "tuple")))) (tO (tV (ev2 (evA (aC (vr 2) aN) lenD) (kd (.int 2)) ltD2)) (tV (ev2 (ev2 (vr 2) ')' ixD) (ev2 (vr 1) ')' ixD) neD)))) (sRet (kd (.bool false))) sN) (seqO (sIf (tV (ev2 (ev2 (vr 2) ')' ixD) (kd (.str "ring")) eqD)) (sRet (vA (ev2 (evA (aC (vr 2) aN) lenD) (kd (.int 2)) eqD) (evC 3 (aC (vr 0) (aC (ev2 (vr 2) (kd (.int 1)) ixD) (aC (vr 4) aN))) Z8))) sN) (seqO (sIf (tV (ev2 (ev2 (vr 2) ')' ixD) (kd (.str "clash")) eqD)) (sRet (ev2 (vr 2) (vr 1) eqD)) sN) (seqO (sIf (tO (tN (tV (evC 2 (aC (ev2 (vr 2) (kd (.int 1)) ixD) (aC (evA (aC (vr 0) aN) lenD) aN)) zG))) (tV (ev2 (ev2 (ev2 (vr 2) (kd (.int 1)) ixD) (vr 3) ixD) (vr 4) neD))) (sRet (kd (.bool false))) sN) (seqO (sFor (evR (aC (evA (aC (vr 0) aN) lenD) aN) Q0) (gNm 5) jh) (sRet (kd (.bool true))))))))
noncomputable def za (ds:'('):Option Ka:=ob (Ql (rho0 jV.length ds)) outD
theorem Y5 (F:Fun K "_law_moved_well" "_law_moved_well" Tq1 f fd)(m:mg "_law_moved_well" = some (.ref f))(b:Binds K fd ["_law_near_here", "_law_base", "_law_found", "_law_first", "_law_pose_here"] [])(K__law_ring:Known P w K mg base "_law_ring" 3 5 Z8)(K__law_all_poses:Known P w K mg base "_law_all_poses" 2 4 zG)(K__law_seen_from:Known P w K mg base "_law_seen_from" 2 2 zX)(z_isinstance:mg "isinstance" = none)(z_tuple:mg "tuple" = none)(z_len:mg "len" = none)(z_range:mg "range" = none):Known P w K mg base "_law_moved_well" 5 6 za:=by
 refine ⟨f,fd,["_law_near_here", "_law_base", "_law_found", "_law_first", "_law_pose_here"],F.pure (k:=5) (u:=Ql) (M':=[]) qj.fs rfl (λcdv A outer s H E hr G=>?_),m,F.kp,b⟩
 exact qg (M1:=[]) (zK (PDW.pdt (jL (Zb (ZG (jG (T := "tuple") (kit_tuple _) (qj.gl 0 rfl rfl) z_isinstance (qj.gl 1 rfl rfl) z_tuple rfl rfl (pd_v qj 2)))) (jL (qU (qc0 hr) (qZ QH (qj.gl 2 rfl rfl) z_len Vc (pda1 (pd_v qj 2))) qb (zp _)) (jq (qU (d_ne hr) (qp (pd_v qj 2) qb) (qp (pd_v qj 1) qb) (zp _)))))) (ql (qy JP)) zu) (qg (M1:=[]) (zK (qU (d_eq hr) (qp (pd_v qj 2) qb) Jz (zp _)) (ql (qy (Wc (Wd (d_eq hr) (qZ QH (qj.gl 2 rfl rfl) z_len Vc (pda1 (pd_v qj 2))) qb (zp _)) (Wf (qm K__law_ring hr '#' (qj.gl 3 rfl rfl) (pda3 (pd_v qj 0) (qp (pd_v qj 2) qb) (pd_v qj 4)) rfl))))) zu) (qg (M1:=[]) (zK (qU (d_eq hr) (qp (pd_v qj 2) qb) Jz (zp _)) (ql (qy (Wd (d_eq hr) (pd_v qj 2) (pd_v qj 1) (zp _)))) zu) (qg (M1:=[]) (zK (PDW.pdt (jL (Zb (ZG (qm K__law_all_poses hr '#' (qj.gl 4 rfl rfl) (pda2 (qp (pd_v qj 2) qb) (qZ QH (qj.gl 2 rfl rfl) z_len Vc (pda1 (pd_v qj 0)))) rfl))) (jq (qU (d_ne hr) (qp (qp (pd_v qj 2) qb) (pd_v qj 3)) (pd_v qj 4) (zp _))))) (ql (qy JP)) zu) (qg (M1:=[]) (yq Vo rfl (JB (qj.gl 6 rfl rfl) z_range (pda1 (qZ QH (qj.gl 2 rfl rfl) z_len Vc (pda1 (pd_v qj 0))))) (zW qj 5) (ql (zK (qU (d_ne hr) (qm K__law_seen_from hr '#' (qj.gl 5 rfl rfl) (pda2 (pd_v qj 4) (qp (qp (pd_v qj 2) qb) (pd_v qj 5))) rfl) (qm K__law_seen_from hr '#' (qj.gl 5 rfl rfl) (pda2 (qp (qp (pd_v qj 1) qb) (pd_v qj 3)) (qp (qp (pd_v qj 1) qb) (pd_v qj 5))) rfl) (zp _)) (ql (qy JP)) zu))) (ql (qy JP))))))
noncomputable abbrev Tq12:KS:=(clsB (top 22)).getD 1 (.Pass ⟨0,0,0,0⟩)
noncomputable abbrev JV:List Str:=["self", "unit", "out"]
theorem JQ:ScOk JV ["self", "unit", "out"] [] (qe Tq12):=scmk (by kernel_rfl)
noncomputable def jO:Rho->Option Out:=(sRet (vr 1))
noncomputable def Zu (ds:'('):Option Ka:=ob (jO (rho0 JV.length ds)) outD
theorem qav (F:Fun K "goes_on" "Join.goes_on" Tq12 f fd):FnOk P w K mg base CX0 1 f fd ["self", "unit", "out"] (spF K 3 Zu):=by
 refine F.pure (k:=0) (u:=jO) (M':=[]) JQ.fs rfl (λcdv A outer s H E hr G=>?_)
 exact ql (qy (pd_v JQ 1))
noncomputable abbrev Tq22:KS:=(clsB (top 23)).getD 1 (.Pass ⟨0,0,0,0⟩)
noncomputable abbrev Yw:List Str:=["self", "unit", "out"]
theorem Yu:ScOk Yw ["self", "unit", "out"] [] (qe Tq22):=scmk (by kernel_rfl)
noncomputable def JG:Rho->Option Out:=(sRet (vr 2))
noncomputable def jm (ds:'('):Option Ka:=ob (JG (rho0 Yw.length ds)) outD
theorem qcf (F:Fun K "goes_on" "Up.goes_on" Tq22 f fd):FnOk P w K mg base CX0 1 f fd ["self", "unit", "out"] (spF K 3 jm):=by
 refine F.pure (k:=0) (u:=JG) (M':=[]) Yu.fs rfl (λcdv A outer s H E hr G=>?_)
 exact ql (qy (pd_v Yu 2))
noncomputable abbrev Tq13:KS:=(clsB (top 24)).getD 1 (.Pass ⟨0,0,0,0⟩)
noncomputable abbrev JT:List Str:=["self", "unit", "out"]
theorem jy:ScOk JT ["self", "unit", "out"] ["negated"] (qe Tq13):=scmk (by kernel_rfl)
noncomputable def jN:Rho->Option Out:=(sRet (evC 1 (aC (vr 2) aN) Zm))
noncomputable def Zt (ds:'('):Option Ka:=ob (jN (rho0 JT.length ds)) outD
theorem qau (F:Fun K "goes_on" "Down.goes_on" Tq13 f fd)(K_negated:Known P w K mg base "negated" 1 1 Zm):FnOk P w K mg base CX0 2 f fd ["self", "unit", "out"] (spF K 3 Zt):=by
 refine F.pure (k:=1) (u:=jN) (M':=[]) jy.fs rfl (λcdv A outer s H E hr G=>?_)
 exact ql (qy (qm K_negated hr '#' (jy.gl 0 rfl rfl) (pda1 (pd_v jy 2)) rfl))
noncomputable def zZ:List (Str×(List Ka->Option Ka)):=[("Join", Zu),("Up", jm),("Down", Zt)]
noncomputable abbrev Tq36:KS:=(clsB (top 22)).getD 2 (.Pass ⟨0,0,0,0⟩)
noncomputable abbrev W7:List Str:=["self", "pose", "way", "unit", "out", "edge", "beyond", "turn"]
theorem qu:ScOk W7 ["self", "pose", "way"] ["unit_of", "out_of", "cross", "turn_back", "joined_turns", "turned", "added"] (qe Tq36):=scmk (by kernel_rfl)
noncomputable def Yp:Rho->Option Out:=(seqO (sSet 3 (evC 2 (aC (vr 1) (aC (vr 2) aN)) Ji)) (seqO (sSet 4 (evC 1 (aC (vr 1) aN) ye)) (seqO (sSet 5 (evC 2 (aC (vr 3) (aC (vr 4) aN)) jo)) (seqO (sSet 6 (evC 3 (aC (vr 0) (aC (vr 3) (aC (vr 4) aN))) (mtD zZ))) (seqO (sSet 7 (evC 2 (aC (evC 1 (aC (evA (aC (vr 3) (aC (vr 4) (aC (vr 5) aN))) tupD) aN) jb) (aC (evA (aC (vr 6) (aC (evC 2 (aC (vr 5) (aC (vr 6) aN)) jo) (aC (vr 5) aN))) tupD) aN)) QV)) (sRet (evA (aC (evC 2 (aC (evC 2 (aC (ev2 (vr 1) ')' ixD) (aC (vr 3) aN)) yI) (aC (vr 6) aN)) yI) (aC (evC 2 (aC (vr 7) (aC (ev2 (vr 1) (kd (.int 1)) ixD) aN)) Q8) (aC (evC 2 (aC (vr 7) (aC (ev2 (vr 1) (kd (.int 2)) ixD) aN)) Q8) aN))) tupD)))))))
noncomputable def Zg (ds:'('):Option Ka:=ob (Yp (rho0 W7.length ds)) outD
theorem Yh (F:Fun K "led" "Join.led" Tq36 f fd)(K_unit_of:Known P w K mg base "unit_of" 2 2 Ji)(K_out_of:Known P w K mg base "out_of" 1 2 ye)(K_cross:Known P w K mg base "cross" 2 1 jo)(K_joined_turns:Known P w K mg base "joined_turns" 2 2 QV)(K_turn_back:Known P w K mg base "turn_back" 1 1 jb)(K_turned:Known P w K mg base "turned" 2 1 Q8)(K_added:Known P w K mg base "added" 2 1 yI)(M_goes_on:KnownC P w K mg base "goes_on" 3 2 zZ):FnOk P w K mg base CX0 3 f fd ["self", "pose", "way"] (spF K 3 Zg):=by
 refine F.pure (k:=2) (u:=Yp) (M':=[]) qu.fs rfl (λcdv A outer s H E hr G=>?_)
 refine qg (M1:=[]) ?_ ?_
 refine qP 3 ?_ ?_ ?_ ?_ ?_ ?_ (qm K_unit_of hr '#' (qu.gl 0 rfl rfl) (pda2 (pd_v qu 1) (pd_v qu 2)) rfl)
 ·exact qu.fs.nd
 ·exact (qu.loc 3 rfl)
 ·rfl
 ·rfl
 ·exact .inl rfl
 ·decide
 refine qg (M1:=[]) ?_ ?_
 refine qP 4 ?_ ?_ ?_ ?_ ?_ ?_ (qm K_out_of hr '#' (qu.gl 1 rfl rfl) (pda1 (pd_v qu 1)) rfl)
 ·exact qu.fs.nd
 ·exact (qu.loc 4 rfl)
 ·rfl
 ·rfl
 ·exact .inl rfl
 ·decide
 refine qg (M1:=[]) ?_ ?_
 refine qP 5 ?_ ?_ ?_ ?_ ?_ ?_ (qm K_cross hr '#' (qu.gl 2 rfl rfl) (pda2 (pd_v qu 3) (pd_v qu 4)) rfl)
 ·exact qu.fs.nd
 ·exact (qu.loc 5 rfl)
 ·rfl
 ·rfl
 ·exact .inl rfl
 ·decide
 refine qg (M1:=[]) ?_ ?_
 refine qP 6 ?_ ?_ ?_ ?_ ?_ ?_ (qif M_goes_on hr '#' (pd_v qu 0) (pda2 (pd_v qu 3) (pd_v qu 4)))
 ·exact qu.fs.nd
 ·exact (qu.loc 6 rfl)
 ·rfl
 ·rfl
 ·exact .inl rfl
 ·decide
 refine qg (M1:=[]) ?_ (ql (qy (qQ (pda3 (qm K_added hr '#' (qu.gl 6 rfl rfl) (pda2 (qm K_added hr '#' (qu.gl 6 rfl rfl) (pda2 (qp (pd_v qu 1) qb) (pd_v qu 3)) rfl) (pd_v qu 6)) rfl) (qm K_turned hr '#' (qu.gl 5 rfl rfl) (pda2 (pd_v qu 7) (qp (pd_v qu 1) qb)) rfl) (qm K_turned hr '#' (qu.gl 5 rfl rfl) (pda2 (pd_v qu 7) (qp (pd_v qu 1) qb)) rfl)))))
 refine qP 7 ?_ ?_ ?_ ?_ ?_ ?_ ?_
 ·exact qu.fs.nd
 ·exact (qu.loc 7 rfl)
 ·rfl
 ·rfl
 ·exact .inl rfl
 ·decide
 exact qm K_joined_turns hr '#' (qu.gl 4 rfl rfl) (pda2 (qm K_turn_back hr '#' (qu.gl 3 rfl rfl) (pda1 (qQ (pda3 (pd_v qu 3) (pd_v qu 4) (pd_v qu 5)))) rfl) (qQ (pda3 (pd_v qu 6) (qm K_cross hr '#' (qu.gl 2 rfl rfl) (pda2 (pd_v qu 5) (pd_v qu 6)) rfl) (pd_v qu 5)))) rfl
noncomputable def qaK:List (Str×(List Ka->Option Ka)):=[("Join", Zg),("Up", Zg),("Down", Zg)]
noncomputable abbrev Tq43:KS:=top 34
noncomputable abbrev qcR:List Str:=["step", "pose"]
theorem JR:ScOk qcR ["step", "pose"] ["join_of"] (qe Tq43):=scmk (by kernel_rfl)
noncomputable def qa4:Rho->Option Out:=(sRet (evC 3 (aC (evC 1 (aC (ev2 (vr 0) (kd (.int 1)) ixD) aN) yJ) (aC (vr 1) (aC (ev2 (vr 0) ')' ixD) aN))) (mtD qaK)))
noncomputable def Zx (ds:'('):Option Ka:=ob (qa4 (rho0 qcR.length ds)) outD
theorem qhO (F:Fun K "led_by" "led_by" Tq43 f fd)(m:mg "led_by" = some (.ref f))(b:Binds K fd ["step", "pose"] [])(K_join_of:Known P w K mg base "join_of" 1 3 yJ)(M_led:KnownC P w K mg base "led" 3 3 qaK):Known P w K mg base "led_by" 2 4 Zx:=by
 refine ⟨f,fd,["step", "pose"],F.pure (k:=3) (u:=qa4) (M':=[]) JR.fs rfl (λcdv A outer s H E hr G=>?_),m,F.kp,b⟩
 exact ql (qy (qif M_led hr '#' (qm K_join_of hr '#' (JR.gl 0 rfl rfl) (pda1 (qp (pd_v JR 0) qb)) rfl) (pda2 (pd_v JR 1) (qp (pd_v JR 0) qb))))
noncomputable abbrev Tq16:KS:=top 36
noncomputable abbrev yS:List Str:=["steps", "origins", "pose", "poses", "k", "origin"]
theorem qX:ScOk yS ["steps", "origins", "pose"] ["led_by"] (qe Tq16):=scmk (by kernel_rfl)
noncomputable abbrev JN:Rho->Option Out:=(Wx 3 (vr 4) (qbs (vIf (tV (ev2 (vr 5) (kd .none) isD)) (vr 2) (evC 2 (aC (ev2 (vr 0) (evA (aC (vr 5) (aC (vr 4) aN)) tupD) ix2D) (aC (ev2 (vr 3) (vr 5) ix2D) aN)) Zx))))
noncomputable def Jb:Rho->Option Out:=(seqO (QJ 3 (kd (.dict []))) (seqO (sFor (evI (vr 1) qel) (unpD 2 (gsC (gNm 4) (gsC (gNm 5) gsN))) JN) (sRet (vr 3))))
noncomputable def QC (ds:'('):Option Ka:=ob (Jb (rho0 yS.length ds)) outD
theorem qbd (F:Fun K "poses_along" "poses_along" Tq16 f fd)(m:mg "poses_along" = some (.ref f))(b:Binds K fd ["steps", "origins", "pose"] [])(K_led_by:Known P w K mg base "led_by" 2 4 Zx):Known P w K mg base "poses_along" 3 5 QC:=by
 refine ⟨f,fd,["steps", "origins", "pose"],F.pure (k:=4) (u:=Jb) (M':=[]) qX.fs rfl (λcdv A outer s H E hr G=>?_),m,F.kp,b⟩
 refine qg (M1:=[3]) ?_ (qg (M1:=[3]) (ZF Vo rfl (qgA (pd_v qX 1)) (λ_=>jX rfl (zj (zW qX 4) (zj (zW qX 5) jc))) (λ_=>ql (qgC hr 3 (qX.vis 3 rfl) '#' '#' (pd_v qX 4) (qaQ (qU d_is (pd_v qX 5) We (zp _)) (pd_v qX 2) (qm K_led_by hr '#' (qX.gl 0 rfl rfl) (pda2 (ym hr (pd_v qX 0) (qQ (pda2 (pd_v qX 5) (pd_v qX 4)))) (ym hr (pd_v qX 3) (pd_v qX 5))) rfl))))) (ql (qy (pd_v qX 3))))
 refine Qj 3 ?_ ?_ ?_ ?_ ?_ ?_ ?_ qaW
 ·exact qX.fs.nd
 ·exact (qX.loc 3 rfl)
 ·rfl
 ·rfl
 ·exact .inl rfl
 ·decide
 ·decide
noncomputable abbrev Tq44:KS:=top 35
noncomputable abbrev YB:List Str:=["sheet", "first", "pose", "steps", "origins", "poses", "join"]
theorem qK:ScOk YB ["sheet", "first", "pose"] ["steps_of", "len", "links_of", "reached_from", "START", "poses_along", "led_by", "path_between", "range", "clash_or_folded"] (qe Tq44):=scmk (by kernel_rfl)
noncomputable abbrev Zf:Rho->Option Out:=(sIf (tV (ev2 (evC 2 (aC (ev2 (vr 3) (evA (aC (ev2 (vr 6) ')' ixD) (aC (ev2 (vr 6) (kd (.int 1)) ixD) aN)) tupD) ix2D) (aC (ev2 (vr 5) (ev2 (vr 6) ')' ixD) ix2D) aN)) Zx) (ev2 (vr 5) (ev2 (vr 6) (kd (.int 1)) ixD) ix2D) neD)) (sRet (evA (aC (kd (.str "ring")) (aC (evC 3 (aC (vr 4) (aC (ev2 (vr 6) ')' ixD) (aC (ev2 (vr 6) (kd (.int 1)) ixD) aN))) QX) aN)) tupD)) sN)
noncomputable def wK:Rho->Option Out:=(seqO (sSet 3 (evC 1 (aC (vr 0) aN) ZS)) (seqO (sSet 4 (evC 2 (aC (vr 1) (aC (evC 2 (aC (evA (aC (ev2 (vr 0) ')' ixD) aN) lenD) (aC (ev2 (vr 0) (kd (.int 1)) ixD) aN)) QW) aN)) Qv)) (seqO (sSet 5 (evC 3 (aC (vr 3) (aC (vr 4) (aC (vIf (tV (ev2 (vr 2) (kd .none) isD)) (kd YJ) (vr 2)) aN))) QC)) (seqO (sFor (evI (ev2 (vr 0) (kd (.int 1)) ixD) seqD) (gNm 6) Zf) (sRet (evC 1 (aC (Zr 7 (evR (aC (evA (aC (ev2 (vr 0) ')' ixD) aN) lenD) aN) Q0) tT (ev2 (vr 5) (vr 7) ix2D)) aN) zH))))))
noncomputable def Qh (ds:'('):Option Ka:=ob (wK (rho0 YB.length ds)) outD
theorem qib (F:FunG K "folded" "folded" Tq44 f fd)(K_steps_of:Known P w K mg base "steps_of" 1 3 ZS)(K_reached_from:Known P w K mg base "reached_from" 2 1 Qv)(K_links_of:Known P w K mg base "links_of" 2 1 QW)(K_poses_along:Known P w K mg base "poses_along" 3 5 QC)(K_led_by:Known P w K mg base "led_by" 2 4 Zx)(K_path_between:Known P w K mg base "path_between" 3 2 QX)(K_clash_or_folded:Known P w K mg base "clash_or_folded" 1 2 zH)(z_len:mg "len" = none)(z_range:mg "range" = none)(C_START:W6 K mg "START" YJ):FnOk P w K mg base CX0 6 f fd ["sheet", "first", "pose"] (spF K 3 Qh):=by
 refine F.pure (k:=5) (u:=wK) (M':=[]) qK.fs rfl (λcdv A outer s H E hr G=>?_)
 refine qg (M1:=[]) ?_ ?_
 refine qP 3 ?_ ?_ ?_ ?_ ?_ ?_ (qm K_steps_of hr '#' (qK.gl 0 rfl rfl) (pda1 (pd_v qK 0)) rfl)
 ·exact qK.fs.nd
 ·exact (qK.loc 3 rfl)
 ·rfl
 ·rfl
 ·exact .inl rfl
 ·decide
 refine qg (M1:=[]) ?_ ?_
 refine qP 4 ?_ ?_ ?_ ?_ ?_ ?_ (qm K_reached_from hr '#' (qK.gl 3 rfl rfl) (pda2 (pd_v qK 1) (qm K_links_of hr '#' (qK.gl 2 rfl rfl) (pda2 (qZ QH (qK.gl 1 rfl rfl) z_len Vc (pda1 (qp (pd_v qK 0) qb))) (qp (pd_v qK 0) qb)) rfl)) rfl)
 ·exact qK.fs.nd
 ·exact (qK.loc 4 rfl)
 ·rfl
 ·rfl
 ·exact .inl rfl
 ·decide
 refine qg (M1:=[]) ?_ (qg (M1:=[]) (ZF Vo rfl (zP (qp (pd_v qK 0) qb)) (λ_=>zW qK 6) (λ_=>ql (zK (qU (d_ne hr) (qm K_led_by hr '#' (qK.gl 6 rfl rfl) (pda2 (ym hr (pd_v qK 3) (qQ (pda2 (qp (pd_v qK 6) qb) (qp (pd_v qK 6) qb)))) (ym hr (pd_v qK 5) (qp (pd_v qK 6) qb))) rfl) (ym hr (pd_v qK 5) (qp (pd_v qK 6) qb)) (zp _)) (ql (qy (qQ (pda2 Jz (qm K_path_between hr '#' (qK.gl 7 rfl rfl) (pda3 (pd_v qK 4) (qp (pd_v qK 6) qb) (qp (pd_v qK 6) qb)) rfl))))) zu))) (ql (qy (qm K_clash_or_folded hr '#' (qK.gl 9 rfl rfl) (pda1 (ZD (CompOk.of (k:=1) YB ["sheet", "first", "pose", "steps", "origins", "poses", "join", "k"] (qe Tq44) rfl rfl rfl '%') rfl '%' (jJ (qK.gl 8 rfl rfl) z_range (pda1 (qZ QH (qK.gl 1 rfl rfl) z_len Vc (pda1 (qp (pd_v qK 0) qb))))) (λ_ _ _ _ _ _=>Qk) (λ_ _ _ _ _ _=>ym hr (q8 5 (qJ '%') '#') (q8 7 (qJ '%') '#')))) rfl))))
 refine qP 5 ?_ ?_ ?_ ?_ ?_ ?_ (qm K_poses_along hr '#' (qK.gl 5 rfl rfl) (pda3 (pd_v qK 3) (pd_v qK 4) (qaQ (qU d_is (pd_v qK 2) We (zp _)) (qdF C_START (qK.gl 4 rfl rfl)) (pd_v qK 2))) rfl)
 ·exact qK.fs.nd
 ·exact (qK.loc 5 rfl)
 ·rfl
 ·rfl
 ·exact .inl rfl
 ·decide
noncomputable abbrev Tq47:KS:=top 59
noncomputable abbrev qcQ:List Str:=["_law_script", "_law_cells", "_law_joins", "_law_k", "_law_rows", "_law_ahead", "_law_bend", "_law_sheet_here", "_law_near_here", "_law_first", "_law_start", "_law_pose_here", "_law_handed", "_law_base"]
theorem qG:ScOk qcQ ["_law_script"] ["_law_grown", "_law_cell", "range", "_law_joined", "len", "_law_sheet", "_law_near", "_law_pose", "list", "folded", "isinstance", "tuple", "_law_all_poses", "_law_moved_well"] (qe Tq47):=scmk (by kernel_rfl)
noncomputable abbrev WP:Rho->Option Out:=(seqO (sSet 4 (Zr 14 (evR (aC (kd (.int 4)) aN) Q0) tT (evC 2 (aC (ev2 (vr 1) (vr 3) ixD) (aC (vr 14) aN)) zc))) (seqO (QJ 5 (Zr 14 (evI (evS (vr 1) oN (oS (vr 3))) seqD) (tV (ev2 (vr 14) (vr 4) inD)) (vr 14))) (seqO (sSet 6 (ev2 (ev2 (ev2 (ev2 (ev2 (ev2 (evC 2 (aC (vr 0) (aC (ev2 (kd (.int 5)) (vr 3) Qq) aN)) zm) (kd (.int 48271)) mulD) (kd (.int 1009)) modD) (kd (.int 4)) modD) (kd (.int 1)) Qq) (kd (.int 3)) modD) (kd (.int 1)) subD)) (yu 2 5 (aC (vr 1) (aC (vr 2) (aC (ev2 (vr 5) ')' ixD) (aC (ev2 (vr 1) (vr 3) ixD) (aC (vr 6) aN))))) Qo))))
noncomputable def qi1:Rho->Option Out:=(seqO (sAsg (evC 5 (aC (vr 0) (aC (kd (.int 5)) (aC (kd (.int 63)) (aC (kd (.int 26)) (aC (evA (aC ')' (aC (kd (.int 1)) (aC ')' (aC (ev1 (kd (.int 1)) negD) aN)))) lstD) aN))))) Qg) (unpD 2 (gsC (gNm 1) (gsC (gNm 2) gsN)))) (seqO (sIf (tV (ev2 (ev2 (evC 2 (aC (vr 0) (aC (kd (.int 4)) aN)) zm) (kd (.int 2)) modD) ')' eqD)) (seqO (QJ 2 (evSL (vr 2) oN (oS ')'))) (sFor (evR (aC (kd (.int 1)) (aC (evA (aC (vr 1) aN) lenD) aN)) qdY) (gNm 3) WP)) sN) (seqO (sSet 7 (evC 2 (aC (vr 1) (aC (vr 2) aN)) Zv)) (seqO (sSet 8 (evC 1 (aC (vr 7) aN) Z7)) (seqO (sSet 9 (ev2 (evC 2 (aC (vr 0) (aC (kd (.int 2)) aN)) zm) (evA (aC (vr 8) aN) lenD) modD)) (seqO (sSet 10 (evA (aC (evA (aC (kd (.int 1)) (aC (kd (.int 1)) (aC ')' aN))) tupD) (aC (evA (aC (kd (.int 1)) (aC ')' (aC ')' aN))) tupD) (aC (evA (aC ')' (aC (kd (.int 1)) (aC ')' aN))) tupD) aN))) tupD)) (seqO (sSet 11 (evC 2 (aC (ev2 (evC 2 (aC (vr 0) (aC (kd (.int 2)) aN)) zm) (kd (.int 26)) yX) (aC (evC 2 (aC (vr 0) (aC (kd (.int 3)) aN)) zm) aN)) QT)) (seqO (sSet 12 (evA (aC (evA (aC (ev2 (vr 7) ')' ixD) aN) qbB) (aC (evA (aC (ev2 (vr 7) (kd (.int 1)) ixD) aN) qbB) aN)) tupD)) (seqO (sSet 13 (evC 1 (aC (vr 12) aN) (dfl Qh [(.int (0)),.none]))) (seqO (sIf (tO (tN (tV (ev1 (vr 13) (isiD "tuple")))) (tO (tV (ev2 (evA (aC (vr 13) aN) lenD) (kd (.int 2)) ltD2)) (tV (ev2 (ev2 (vr 13) ')' ixD) (evA (aC (kd (.str "folded")) (aC (kd (.str "ring")) (aC (kd (.str "clash")) aN))) tupD) ninD)))) (sRet (kd (.bool false))) sN) (seqO (sIf (tA (tV (ev2 (ev2 (vr 13) ')' ixD) (kd (.str "folded")) eqD)) (tN (tV (evC 2 (aC (ev2 (vr 13) (kd (.int 1)) ixD) (aC (evA (aC (vr 8) aN) lenD) aN)) zG)))) (sRet (kd (.bool false))) sN) (seqO (sIf (tN (tV (evC 5 (aC (vr 8) (aC (vr 13) (aC (evC 3 (aC (vr 12) (aC (vr 9) (aC (vr 11) aN))) Qh) (aC (vr 9) (aC (vr 11) aN))))) za))) (sRet (kd (.bool false))) sN) (sRet (vA (evC 5 (aC (vr 8) (aC (vr 13) (aC (evC 2 (aC (vr 12) (aC (vr 9) aN)) (dfl Qh [.none])) (aC (vr 9) (aC (vr 10) aN))))) za) (ev2 (vr 12) (vr 7) eqD)))))))))))))))
noncomputable def qhv (ds:'('):Option Ka:=ob (qi1 (rho0 qcQ.length ds)) outD
theorem ql4 (F:Fun K "law" "law" Tq47 f fd)(K__law_grown:Known P w K mg base "_law_grown" 5 2 Qg)(K__law_cell:Known P w K mg base "_law_cell" 2 1 zm)(K__law_neighbour:Known P w K mg base "_law_neighbour" 2 1 zc)(K__law_joined:KnownU P w K mg base "_law_joined" 5 1 1 Qo)(K__law_sheet:Known P w K mg base "_law_sheet" 2 1 Zv)(K__law_near:Known P w K mg base "_law_near" 1 1 Z7)(K__law_pose:Known P w K mg base "_law_pose" 2 2 QT)(K_folded:Known P w K mg base "folded" 3 6 Qh)(K__law_all_poses:Known P w K mg base "_law_all_poses" 2 4 zG)(K__law_moved_well:Known P w K mg base "_law_moved_well" 5 6 za)(X_folded_2:KnownX P w K mg base "folded" 3 6 Qh [(.int (0)),.none])(X_folded_1:KnownX P w K mg base "folded" 3 6 Qh [.none])(z_range:mg "range" = none)(z_len:mg "len" = none)(z_list:mg "list" = none)(z_isinstance:mg "isinstance" = none)(z_tuple:mg "tuple" = none):FnOk P w K mg base CX0 7 f fd ["_law_script"] (spF K 1 qhv):=by
 refine F.pure (k:=6) (u:=qi1) (M':=[]) qG.fs rfl (λcdv A outer s H E hr G=>?_)
 refine qg (M1:=[]) (qcA (qm K__law_grown hr '#' (qG.gl 0 rfl rfl) (qF (pd_v qG 0) (qF qb (qF qb (qF qb (qF (qeB (qF qb (qF qb (qF qb (qF (jH jB qb) zJ))))) zJ))))) rfl) (jX rfl (zj (zW qG 1) (zj (zW qG 2) jc)))) ?_
 refine qg (M1:=[]) ?_ ?_
 refine zK (qU (d_eq hr) (qD Zk (qm K__law_cell hr '#' (qG.gl 1 rfl rfl) (pda2 (pd_v qG 0) qb) rfl) qb) qb (zp _)) ?_ zu
 refine qdJ (M':=[2]) [] ?_ ?_ ?_
 refine qg (M1:=[2]) ?_ ?_
 refine Qj 2 ?_ ?_ ?_ ?_ ?_ ?_ ?_ (qir (pd_v qG 2) yp (jK qb))
 ·exact qG.fs.nd
 ·exact (qG.loc 2 rfl)
 ·rfl
 ·rfl
 ·exact .inl rfl
 ·decide
 ·decide
 refine ql ?_
 refine yq Vo rfl (qeC (qG.gl 2 rfl rfl) z_range (pda2 qb (qZ QH (qG.gl 4 rfl rfl) z_len Vc (pda1 (pd_v qG 1))))) (zW qG 3) ?_
 refine qdJ (M':=[5,2]) [2] ?_ ?_ ?_
 refine qg (M1:=[2]) ?_ ?_
 refine qP 4 ?_ ?_ ?_ ?_ ?_ ?_ (ZD (CompOk.of (k:=1) qcQ ["_law_script", "_law_cells", "_law_joins", "_law_k", "_law_rows", "_law_ahead", "_law_bend", "_law_sheet_here", "_law_near_here", "_law_first", "_law_start", "_law_pose_here", "_law_handed", "_law_base", "_law_way"] (qe Tq47) rfl rfl rfl '%') rfl '%' (jJ (qG.gl 2 rfl rfl) z_range (pda1 qb)) (λ_ _ _ _ _ _=>Qk) (λ_ _ _ _ _ _=>qm K__law_neighbour hr '#' (yO '%') (pda2 (qp (q8 1 (qJ '%') '#') (q8 3 (qJ '%') '#')) (q8 14 (qJ '%') '#')) rfl))
 ·exact qG.fs.nd
 ·exact (qG.loc 4 rfl)
 ·rfl
 ·rfl
 ·exact .inl rfl
 ·decide
 refine qg (M1:=[5,2]) (qdI 5 (CompOk.of (k:=1) qcQ ["_law_script", "_law_cells", "_law_joins", "_law_k", "_law_rows", "_law_ahead", "_law_bend", "_law_sheet_here", "_law_near_here", "_law_first", "_law_start", "_law_pose_here", "_law_handed", "_law_base", "_law_cell_here"] (qe Tq47) rfl rfl rfl '%') rfl '%' (qe Tq47) rfl '%' '#' '#' (zP (yo (pd_v qG 1) yp (jK (pd_v qG 3)))) (λ_ _ _ _ _ _=>qaS (qU (d_in hr) (q8 14 (qJ '%') '#') (q8 4 (qJ '%') '#') rfl)) (λ_ _ _ _ _ _=>q8 14 (qJ '%') '#')) ?_
 refine qg (M1:=[5,2]) ?_ (ql (qbI 2 1 K__law_joined hr '#' (qG.gl 3 rfl rfl) '#' '#' (qbE (pd_v qG 1) (qdE 2 (qG.vis 2 rfl) (pda3 (qp (pd_v qG 5) qb) (qp (pd_v qG 1) (pd_v qG 3)) (pd_v qG 6))))))
 refine qP 6 ?_ ?_ ?_ ?_ ?_ ?_ (qD jj (qD Zk (qD Qc (qD Zk (qD Zk (qD Qu (qm K__law_cell hr '#' (qG.gl 1 rfl rfl) (pda2 (pd_v qG 0) (qD Qc qb (pd_v qG 3))) rfl) qb) qb) qb) qb) qb) qb)
 ·exact qG.fs.nd
 ·exact (qG.loc 6 rfl)
 ·rfl
 ·rfl
 ·exact .inl rfl
 ·decide
 ·rfl
 ·rfl
 ·rfl
 ·rfl
 refine qg (M1:=[]) ?_ ?_
 refine qP 7 ?_ ?_ ?_ ?_ ?_ ?_ (qm K__law_sheet hr '#' (qG.gl 5 rfl rfl) (pda2 (pd_v qG 1) (pd_v qG 2)) rfl)
 ·exact qG.fs.nd
 ·exact (qG.loc 7 rfl)
 ·rfl
 ·rfl
 ·exact .inl rfl
 ·decide
 refine qg (M1:=[]) ?_ ?_
 refine qP 8 ?_ ?_ ?_ ?_ ?_ ?_ (qm K__law_near hr '#' (qG.gl 6 rfl rfl) (pda1 (pd_v qG 7)) rfl)
 ·exact qG.fs.nd
 ·exact (qG.loc 8 rfl)
 ·rfl
 ·rfl
 ·exact .inl rfl
 ·decide
 refine qg (M1:=[]) ?_ ?_
 refine qP 9 ?_ ?_ ?_ ?_ ?_ ?_ (qD Zk (qm K__law_cell hr '#' (qG.gl 1 rfl rfl) (pda2 (pd_v qG 0) qb) rfl) (qZ QH (qG.gl 4 rfl rfl) z_len Vc (pda1 (pd_v qG 8))))
 ·exact qG.fs.nd
 ·exact (qG.loc 9 rfl)
 ·rfl
 ·rfl
 ·exact .inl rfl
 ·decide
 refine qg (M1:=[]) ?_ ?_
 refine qP 10 ?_ ?_ ?_ ?_ ?_ ?_ ?_
 ·exact qG.fs.nd
 ·exact (qG.loc 10 rfl)
 ·rfl
 ·rfl
 ·exact .inl rfl
 ·decide
 exact qQ (pda3 (qQ (pda3 qb qb qb)) (qQ (pda3 qb qb qb)) (qQ (pda3 qb qb qb)))
 refine qg (M1:=[]) ?_ ?_
 refine qP 11 ?_ ?_ ?_ ?_ ?_ ?_ (qm K__law_pose hr '#' (qG.gl 7 rfl rfl) (pda2 (qD J9 (qm K__law_cell hr '#' (qG.gl 1 rfl rfl) (pda2 (pd_v qG 0) qb) rfl) qb) (qm K__law_cell hr '#' (qG.gl 1 rfl rfl) (pda2 (pd_v qG 0) qb) rfl)) rfl)
 ·exact qG.fs.nd
 ·exact (qG.loc 11 rfl)
 ·rfl
 ·rfl
 ·exact .inl rfl
 ·decide
 refine qg (M1:=[]) ?_ ?_
 refine qP 12 ?_ ?_ ?_ ?_ ?_ ?_ ?_
 ·exact qG.fs.nd
 ·exact (qG.loc 12 rfl)
 ·rfl
 ·rfl
 ·exact .inl rfl
 ·decide
 exact qQ (pda2 (ZX qg3 (qG.gl 8 rfl rfl) z_list rfl (pda1 (qp (pd_v qG 7) qb))) (ZX qg3 (qG.gl 8 rfl rfl) z_list rfl (pda1 (qp (pd_v qG 7) qb))))
 refine qg (M1:=[]) ?_ (qg (M1:=[]) (zK (PDW.pdt (jL (Zb (ZG (jG (T := "tuple") (kit_tuple _) (qG.gl 10 rfl rfl) z_isinstance (qG.gl 11 rfl rfl) z_tuple rfl rfl (pd_v qG 13)))) (jL (qU (qc0 hr) (qZ QH (qG.gl 4 rfl rfl) z_len Vc (pda1 (pd_v qG 13))) qb (zp _)) (jq (qU (YK hr) (qp (pd_v qG 13) qb) (qQ (pda3 Jz Jz Jz)) rfl))))) (ql (qy JP)) zu) (qg (M1:=[]) (zK (PDW.pdt (qcB (qU (d_eq hr) (qp (pd_v qG 13) qb) Jz (zp _)) (qdL (Zb (ZG (qm K__law_all_poses hr '#' (qG.gl 12 rfl rfl) (pda2 (qp (pd_v qG 13) qb) (qZ QH (qG.gl 4 rfl rfl) z_len Vc (pda1 (pd_v qG 8)))) rfl)))))) (ql (qy JP)) zu) (qg (M1:=[]) (zK (Zb (ZG (qm K__law_moved_well hr '#' (qG.gl 13 rfl rfl) (qF (pd_v qG 8) (qF (pd_v qG 13) (qF (qm K_folded hr '#' (qG.gl 9 rfl rfl) (pda3 (pd_v qG 12) (pd_v qG 9) (pd_v qG 11)) rfl) (qF (pd_v qG 9) (qF (pd_v qG 11) zJ))))) rfl))) (ql (qy JP)) zu) (ql (qy (Wc (qm K__law_moved_well hr '#' (qG.gl 13 rfl rfl) (qF (pd_v qG 8) (qF (pd_v qG 13) (qF (qbF X_folded_1 hr '#' (qG.gl 9 rfl rfl) (pda2 (pd_v qG 12) (pd_v qG 9)) rfl rfl) (qF (pd_v qG 9) (qF (pd_v qG 10) zJ))))) rfl) (Wf (Wd (d_eq hr) (pd_v qG 12) (pd_v qG 7) (zp _)))))))))
 refine qP 13 ?_ ?_ ?_ ?_ ?_ ?_ (qbF X_folded_2 hr '#' (qG.gl 9 rfl rfl) (pda1 (pd_v qG 12)) rfl rfl)
 ·exact qG.fs.nd
 ·exact (qG.loc 13 rfl)
 ·rfl
 ·rfl
 ·exact .inl rfl
 ·decide
end SF
local macro_rules
 | `(tactic| simp_arith [$ts,*] $[$loc]?)=> do
  let q := ("L2.rho0 Kt VR Kz V5 Nat.reduceAdd Nat.reduceSub Fi XE NO List.replicate_zero List.cons_append XW VL L2.qeH L2.qcV L2.qcW L2.qg5 L2.qg6 L2.ifO_t L2.ifO_f L2.sIf_b L2.qlc L2.tA_b L2.tO_b L2.vA_b L2.vN L2.qmI L2.qmM L2.qmE L2.qlj L2.nxO_s L2.qmH L2.qmA L2.sN L2.sBk L2.sCt L2.tV L2.tN L2.tT L2.ev2_b L2.qln L2.ev1 L2.vr_z L2.vr_s L2.kd L2.evA L2.evC_b L2.qjd L2.evC0 L2.aC_b L2.qjm L2.aN L2.qlS L2.qlT L2.tupD L2.lstD L2.qiX L2.qiY L2.qjT L2.qjU L2.qle L2.qmP L2.ql0 L2.qhw L2.ZC L2.pow_a L2.pow_b L2.qjt L2.qjY L2.qlU L2.leD_i L2.gtD_i L2.qjc L2.ixD_l L2.ixD_t L2.atI0 L2.atI1 L2.atI2 L2.atI3 L2.atI4 L2.atI5 L2.qmd L2.qmc L2.ob_s L2.gNm L2.gsN_n L2.gsC_c L2.qmZ List.set_cons_zero List.set_cons_succ List.set_nil L2.evI L2.evR L2.qmJ L2.qmK L2.qkx L2.qky L2.rngL L2.qjk L2.qjg L2.qe5 L2.qji L2.qe8 L2.qe7 L2.qjV L2.qmF L2.qly L2.jd L2.qcb L2.yN L2.qjC L2.qjB L2.qfk if_true if_false VJ E5 Bool.not_false Nat.reduceLeDiff and_self and_true true_and Int.reduceToNat Int.reduceAdd E7 Int.reduceLE Int.reduceLT Int.reduceNeg reduceIte L2.isiD L2.qlI L2.qlF L2.qlE L2.qlD L2.qlH L2.qlG String.reduceBEq L2.natLit E8 NH Bool.or_true XO Bool.or_false L2.qkC L2.qmT L2.qjy L2.qlw L2.qmD L2.qli L2.qd7 L2.qme L2.dfl_b L2.isD_n L2.qlK L2.isD_b L2.qlJ L2.evS_b L2.qmO L2.oN L2.oS_b L2.qmt Nat.reduceLT decide_true decide_false L2.qiJ L2.qmq L2.qmp L2.qld L2.qh0 L2.qh1 L2.qiK L2.qkA L2.qjQ L2.qjR L2.qlt L2.chO_t L2.chO_f L2.qi6 L2.qd2 L2.qkB L2.qmr L2.qjr L2.qjs L2.enL_n L2.enL_c L2.qfa L2.qjl L2.qe4 L2.qe2 L2.qjh L2.qjj L2.qjf L2.qkz L2.dpO_s L2.ql2".splitOn " ").toArray.map λs => Lean.mkIdent s.toName
  `(tactic| simp only [$[$q:term],*, $ts,*] $[$loc]?)
namespace SF
open PySem L2
noncomputable def ji (ns:List Int)(k:Int):Int:=ns.getD k.toNat 0
theorem cell_bd {ns:List Int}(h:∀ k∈ns,Vz k<=2 ^ 20)(k:Int):Bd 1048576 (ji ns k):=by
 unfold ji
 by_cases hk:k.toNat<ns.length
 ·rw [V3,Kl hk]
  exact h _ (XM hk)
 ·rw [V3,V0 '$']
  show Vz 0<=1048576
  decide
theorem qgq {a b c d e f:Int}{n m:Nat}(ha:Bd n a)(hb:Bd n b)(hc:Bd n c)(hd:Bd m d)(he:Bd m e)(hf:Bd m f)(hz:n+m<=134217728:=by decide):zr [S3 a b c,S3 d e f]=some (S3 (b*f-c*e) (c*d-a*f) (a*e-b*d)):=by
 simp only [zr,ZK,S3]
 simp_arith []
 simp only [zf (hb.ok hf hz),zf (hc.ok he hz),zf (hc.ok hd hz),zf (ha.ok hf hz),zf (ha.ok he hz),zf (hb.ok hd hz)]
 simp_arith []
structure Tr where
 (p0 p1 p2 q0 q1 q2 r0 r1 r2:Int)
 deriving DecidableEq
noncomputable def encT (t:Tr):Ka:=T3 (S3 t.p0 t.p1 t.p2) (S3 t.q0 t.q1 t.q2) (S3 t.r0 t.r1 t.r2)
noncomputable def qz:List Tr:=[⟨1,0,0,0,1,0,0,0,1⟩,⟨1,0,0,0,-1,0,0,0,-1⟩,⟨1,0,0,0,0,1,0,-1,0⟩,⟨1,0,0,0,0,-1,0,1,0⟩,⟨-1,0,0,0,1,0,0,0,-1⟩,⟨-1,0,0,0,-1,0,0,0,1⟩,⟨-1,0,0,0,0,1,0,1,0⟩,⟨-1,0,0,0,0,-1,0,-1,0⟩,⟨0,1,0,1,0,0,0,0,-1⟩,⟨0,1,0,-1,0,0,0,0,1⟩,⟨0,1,0,0,0,1,1,0,0⟩,⟨0,1,0,0,0,-1,-1,0,0⟩,⟨0,-1,0,1,0,0,0,0,1⟩,⟨0,-1,0,-1,0,0,0,0,-1⟩,⟨0,-1,0,0,0,1,-1,0,0⟩,⟨0,-1,0,0,0,-1,1,0,0⟩,⟨0,0,1,1,0,0,0,1,0⟩,⟨0,0,1,-1,0,0,0,-1,0⟩,⟨0,0,1,0,1,0,-1,0,0⟩,⟨0,0,1,0,-1,0,1,0,0⟩,⟨0,0,-1,1,0,0,0,-1,0⟩,⟨0,0,-1,-1,0,0,0,1,0⟩,⟨0,0,-1,0,1,0,1,0,0⟩,⟨0,0,-1,0,-1,0,-1,0,0⟩]
def TrB (t:Tr):Prop:=Bd 1 t.p0/\Bd 1 t.p1/\Bd 1 t.p2/\Bd 1 t.q0/\Bd 1 t.q1/\Bd 1 t.q2/\Bd 1 t.r0/\Bd 1 t.r1/\Bd 1 t.r2
noncomputable instance (n:Nat) (i:Int):Decidable (Bd n i):=by unfold Bd;exact inferInstance
theorem tr_bd:∀ t∈qz,TrB t:=by
 unfold TrB
 decide
def TrBd (m:Nat)(t:Tr):Prop:=Bd m t.p0/\Bd m t.p1/\Bd m t.p2/\Bd m t.q0/\Bd m t.q1/\Bd m t.q2/\Bd m t.r0/\Bd m t.r1/\Bd m t.r2
theorem TrB.bd {t:Tr}(h:TrB t):TrBd 1 t:=h
noncomputable def mulT (s t:Tr):Tr:=⟨s.p0*t.p0+s.p1*t.q0+s.p2*t.r0,s.p0*t.p1+s.p1*t.q1+s.p2*t.r1,s.p0*t.p2+s.p1*t.q2+s.p2*t.r2,
 s.q0*t.p0+s.q1*t.q0+s.q2*t.r0,s.q0*t.p1+s.q1*t.q1+s.q2*t.r1,s.q0*t.p2+s.q1*t.q2+s.q2*t.r2,
 s.r0*t.p0+s.r1*t.q0+s.r2*t.r0,s.r0*t.p1+s.r1*t.q1+s.r2*t.r1,s.r0*t.p2+s.r1*t.q2+s.r2*t.r2⟩
noncomputable def trT (s:Tr):Tr:=⟨s.p0,s.q0,s.r0,s.p1,s.q1,s.r1,s.p2,s.q2,s.r2⟩
noncomputable def idT:Tr:=⟨1,0,0,0,1,0,0,0,1⟩
theorem Ju {x y z i j k:Int}{n m:Nat}(hx:Bd n x)(hy:Bd n y)(hz:Bd n z)(hi:Bd m i)(hj:Bd m j)(hk:Bd m k):Bd (n+m+2) (x*i+y*j+z*k) :=
 (((hx.mul hi).add (hy.mul hj)).add (hz.mul hk)).mono '$'
theorem qmU {m:Nat}{t:Tr}(h:TrBd m t):TrBd m (trT t):=by
 obtain ⟨h1,h2,h3,h4,h5,h6,h7,h8,h9⟩:=h
 exact ⟨h1,h4,h7,h2,h5,h8,h3,h6,h9⟩
theorem qfz {m n:Nat}{s t:Tr}(hs:TrBd m s)(ht:TrBd n t):TrBd (m+n+2) (mulT s t):=by
 obtain ⟨h1,h2,h3,h4,h5,h6,h7,h8,h9⟩:=hs
 obtain ⟨g1,g2,g3,g4,g5,g6,g7,g8,g9⟩:=ht
 exact ⟨Ju h1 h2 h3 g1 g4 g7,Ju h1 h2 h3 g2 g5 g8,Ju h1 h2 h3 g3 g6 g9,Ju h4 h5 h6 g1 g4 g7,Ju h4 h5 h6 g2 g5 g8,Ju h4 h5 h6 g3 g6 g9,Ju h7 h8 h9 g1 g4 g7,Ju h7 h8 h9 g2 g5 g8,Ju h7 h8 h9 g3 g6 g9⟩
theorem qk9:∀ t∈qz,mulT t (trT t)=idT/\mulT (trT t) t=idT:=by decide
theorem qiT (s t:Tr):trT (mulT s t)=mulT (trT t) (trT s):=by
 unfold trT mulT
 congr 1<;>dsimp only<;>grind
theorem Jx (s t u:Tr):mulT (mulT s t) u=mulT s (mulT t u):=by
 unfold mulT
 congr 1<;>dsimp only<;>grind
theorem qdw (s:Tr):mulT s idT=s:=by
 unfold mulT idT
 cases s
 congr 1<;>dsimp only<;>grind
theorem qhG (s:Tr):mulT idT s=s:=by
 unfold mulT idT
 cases s
 congr 1<;>dsimp only<;>grind
structure Sp3 where
 (x y z:Int)
 deriving DecidableEq
noncomputable def encS (s:Sp3):Ka:=S3 s.x s.y s.z
noncomputable def app (t:Tr)(s:Sp3):Sp3:=⟨s.x*t.p0+s.y*t.q0+s.z*t.r0,s.x*t.p1+s.y*t.q1+s.z*t.r1,s.x*t.p2+s.y*t.q2+s.z*t.r2⟩
noncomputable def addS (s t:Sp3):Sp3:=⟨s.x+t.x,s.y+t.y,s.z+t.z⟩
noncomputable def negS (s:Sp3):Sp3:=⟨-s.x,-s.y,-s.z⟩
def SpBd (n:Nat)(s:Sp3):Prop:=Bd n s.x/\Bd n s.y/\Bd n s.z
theorem qeW {m n:Nat}{s t:Sp3}(hs:SpBd n s)(ht:SpBd m t):SpBd (max n m+1) (addS s t):=⟨hs.1.add ht.1,hs.2.1.add ht.2.1,hs.2.2.add ht.2.2⟩
theorem qjZ {n:Nat}{s:Sp3}(hs:SpBd n s):SpBd n (negS s):=⟨hs.1.neg,hs.2.1.neg,hs.2.2.neg⟩
theorem J5 (s t:Tr)(a:Sp3):app (mulT s t) a=app t (app s a):=by
 unfold app mulT
 congr 1<;>dsimp only<;>grind
theorem qbW (a:Sp3):app idT a=a:=by
 unfold app idT
 cases a
 congr 1<;>dsimp only<;>grind
theorem qcU (t:Tr)(a b:Sp3):app t (addS a b)=addS (app t a) (app t b):=by
 unfold app addS
 congr 1<;>dsimp only<;>grind
theorem qg0 (t:Tr)(a:Sp3):app t (negS a)=negS (app t a):=by
 unfold app negS
 congr 1<;>dsimp only<;>grind
theorem QM (a b c:Sp3):addS (addS a b) c=addS a (addS b c):=by
 unfold addS
 congr 1<;>dsimp only<;>omega
theorem qbm (a b:Sp3):addS a b=addS b a:=by
 unfold addS
 congr 1<;>omega
theorem qgW (a:Sp3):addS a (negS a)=⟨0,0,0⟩:=by
 unfold addS negS
 congr 1<;>dsimp only<;>omega
theorem wN (a:Sp3):addS a ⟨0,0,0⟩=a:=by
 unfold addS
 cases a
 congr 1<;>dsimp only<;>omega
theorem qcx (a:Sp3):addS (negS a) a=⟨0,0,0⟩:=by rw [qbm,qgW]
theorem zero_add (a:Sp3):addS ⟨0,0,0⟩ a=a:=by rw [qbm,wN]
theorem wI {t:Tr}{m n:Nat}(ht:TrBd m t){s:Sp3}(hs:SpBd n s)(hz:n+m<=134217728:=by decide):Q8 [encT t,encS s]=some (encS (app t s)):=by
 obtain ⟨h1,h2,h3,h4,h5,h6,h7,h8,h9⟩:=ht
 obtain ⟨ha,hb,hc⟩:=hs
 simp only [Q8,qa6,S3,T3,encT,encS,app]
 simp_arith [zf (ha.ok h1 hz),zf (ha.ok h2 hz),zf (ha.ok h3 hz),zf (hb.ok h4 hz),zf (hb.ok h5 hz),zf (hb.ok h6 hz),zf (hc.ok h7 hz),zf (hc.ok h8 hz),zf (hc.ok h9 hz)]
noncomputable def rowP (t:Tr):Sp3:=⟨t.p0,t.p1,t.p2⟩
noncomputable def rowQ (t:Tr):Sp3:=⟨t.q0,t.q1,t.q2⟩
noncomputable def rowR (t:Tr):Sp3:=⟨t.r0,t.r1,t.r2⟩
theorem qf8 (t:Tr):encT t=.tuple [encS (rowP t),encS (rowQ t),encS (rowR t)]:=rfl
theorem W3 {m:Nat}{t:Tr}(h:TrBd m t):SpBd m (rowP t)/\SpBd m (rowQ t)/\SpBd m (rowR t):=by
 obtain ⟨h1,h2,h3,h4,h5,h6,h7,h8,h9⟩:=h
 exact ⟨⟨h1,h2,h3⟩,⟨h4,h5,h6⟩,⟨h7,h8,h9⟩⟩
theorem qf7 (s t:Tr):encT (mulT s t)=.tuple [encS (app t (rowP s)),encS (app t (rowQ s)),encS (app t (rowR s))]:=rfl
theorem qjJ {s t:Tr}{m n:Nat}(hs:TrBd m s)(ht:TrBd n t)(hz:m+n<=134217728:=by decide):QV [encT s,encT t]=some (encT (mulT s t)):=by
 obtain ⟨a1,a2,a3⟩:=W3 hs
 have e1:=wI ht a1 hz
 have e2:=wI ht a2 hz
 have e3:=wI ht a3 hz
 simp only [QV,jQ,qf7,qf8 s]
 simp_arith [e1,e2,e3]
noncomputable def j5 (a b:Sp3):Sp3:=⟨a.y*b.z-a.z*b.y,a.z*b.x-a.x*b.z,a.x*b.y-a.y*b.x⟩
theorem qea {a b:Sp3}{n m:Nat}(ha:SpBd n a)(hb:SpBd m b)(hz:n+m<=134217728:=by decide):jo [encS a,encS b]=some (encS (j5 a b)):=by
 obtain ⟨a1,a2,a3⟩:=ha
 obtain ⟨b1,b2,b3⟩:=hb
 simp only [jo,qcM,encS,S3,j5]
 simp_arith [zf (a2.ok b3 hz),zf (a3.ok b2 hz),zf (a3.ok b1 hz),zf (a1.ok b3 hz),zf (a1.ok b2 hz),zf (a2.ok b1 hz)]
theorem qcn {a b:Sp3}{n m:Nat}(ha:SpBd n a)(hb:SpBd m b)(hz:n+m<=134217728:=by decide):zr [encS a,encS b]=some (encS (j5 a b)):=qgq ha.1 ha.2.1 ha.2.2 hb.1 hb.2.1 hb.2.2 hz
theorem qiU:∀ t∈qz,j5 (rowP t) (rowQ t)=rowR t:=by decide
noncomputable def encP (x:Sp3)(t:Tr):Ka:=.tuple [encS x,encS (rowP t),encS (rowQ t)]
theorem ixP0 (x:Sp3)(t:Tr):ixD (encP x t) (.int 0)=some (encS x):=rfl
theorem ixP1 (x:Sp3)(t:Tr):ixD (encP x t) (.int 1)=some (encS (rowP t)):=rfl
theorem ixP2 (x:Sp3)(t:Tr):ixD (encP x t) (.int 2)=some (encS (rowQ t)):=rfl
theorem ixS0 (x:Sp3):ixD (encS x) (.int 0)=some (.int x.x):=rfl
theorem ixS1 (x:Sp3):ixD (encS x) (.int 1)=some (.int x.y):=rfl
theorem ixS2 (x:Sp3):ixD (encS x) (.int 2)=some (.int x.z):=rfl
theorem lenS (x:Sp3):lenD [encS x]=some (.int 3):=rfl
theorem eqvS (a:Sp3):Ks (encS a) (encS a)=true:=qls _ _ _
theorem neP (x:Sp3)(t:Tr):neD (encP x t) (encP x t)=some (.bool false):=by
 have h:neD (encP x t) (encP x t)=some (.bool (!(Ks (encS x) (encS x)&&(Ks (encS (rowP t)) (encS (rowP t))&&(Ks (encS (rowQ t)) (encS (rowQ t))&&true))))):=rfl
 rw [h,eqvS,eqvS,eqvS]
 rfl
structure Tn (t:Tr):Prop where
 mem:t∈qz
 bd:TrBd 1 t
 bp:SpBd 1 (rowP t)
 bq:SpBd 1 (rowQ t)
 br:SpBd 1 (rowR t)
 cr:j5 (rowP t) (rowQ t)=rowR t
theorem Tn.of {t:Tr}(h:t∈qz):Tn t :=
 have b:=(tr_bd t h).bd
 ⟨h,b,(W3 b).1,(W3 b).2.1,(W3 b).2.2,qiU t h⟩
theorem outE {x:Sp3}{t:Tr}(h:Tn t):ye [encP x t]=some (encS (rowR t)):=by
 have e:=qea h.bp h.bq
 rw [h.cr] at e
 simp only [ye,qa5]
 simp_arith [ixP1,ixP2,e]
theorem backE (t:Tr):jb [encT t]=some (encT (trT t)):=by
 simp only [jb,yG,encT,trT,S3,T3]
 simp_arith []
theorem qlf (a b:Sp3):yI [encS a,encS b]=some (encS (addS a b)):=by
 simp only [yI,qcL,encS,S3,addS]
 simp_arith []
theorem qdx (a:Sp3):Zm [encS a]=some (encS (negS a)):=by
 simp only [Zm,Wj,encS,S3,negS]
 simp_arith []
noncomputable def unV (t:Tr)(w:Int):Sp3:=if w=0 then rowP t else if w=1 then rowQ t else if w=2 then negS (rowP t) else negS (rowQ t)
noncomputable def beV (t:Tr)(w b:Int):Sp3:=if b=1 then rowR t else if b=-1 then negS (rowR t) else unV t w
noncomputable def nmB (b:Int):Str:=if b=1 then "Up" else if b=-1 then "Down" else "Join"
noncomputable def edV (t:Tr)(w:Int):Sp3:=j5 (unV t w) (rowR t)
noncomputable def rwT (a b c:Sp3):Tr:=⟨a.x,a.y,a.z,b.x,b.y,b.z,c.x,c.y,c.z⟩
noncomputable def tuV (t:Tr)(w b:Int):Tr:=mulT (trT (rwT (unV t w) (rowR t) (edV t w))) (rwT (beV t w b) (j5 (edV t w) (beV t w b)) (edV t w))
noncomputable def stV (t:Tr)(w b:Int):Tr:=rwT (app (tuV t w b) (rowP t)) (app (tuV t w b) (rowQ t)) (j5 (app (tuV t w b) (rowP t)) (app (tuV t w b) (rowQ t)))
noncomputable def spV (x:Sp3)(t:Tr)(w b:Int):Sp3:=addS (addS x (unV t w)) (beV t w b)
noncomputable def Q7:List Int:=[0,1,2,3]
noncomputable def zF:List Int:=[-1,0,1]
noncomputable instance (n:Nat) (s:Sp3):Decidable (SpBd n s):=by unfold SpBd;exact inferInstance
theorem qiN:∀ t∈qz,∀ w∈Q7,∀ b∈zF,stV t w b∈qz:=by decide +kernel
theorem qlb:∀ t∈qz,∀ w∈Q7,SpBd 1 (unV t w)/\SpBd 1 (edV t w):=by decide +kernel
theorem qkP:∀ t∈qz,∀ w∈Q7,∀ b∈zF,SpBd 1 (beV t w b)/\SpBd 1 (j5 (edV t w) (beV t w b)):=by decide +kernel
theorem qkE:∀ t∈qz,∀ w∈Q7,∀ b∈zF,stV (stV t w b) ((w+2) % 4) b=t/\addS (addS (unV t w) (beV t w b)) (addS (unV (stV t w b) ((w+2) % 4)) (beV (stV t w b) ((w+2) % 4) b))=⟨0,0,0⟩:=by decide +kernel
theorem unitE (x:Sp3)(t:Tr){w:Int}(hw:w∈Q7):Ji [encP x t,.int w]=some (encS (unV t w)):=by
 simp only [Q7,Kr,VN,aU] at hw
 simp only [Ji,Wk]
 rcases hw with rfl|rfl|rfl|rfl<;>simp_arith [ixP1,ixP2,qdx]<;>rfl
theorem mt_j (ds:'('):mtD zZ (objD "Join" :: ds)=Zu (objD "Join" :: ds):=by kernel_rfl
theorem mt_u (ds:'('):mtD zZ (objD "Up" :: ds)=jm (objD "Up" :: ds):=by kernel_rfl
theorem mt_d (ds:'('):mtD zZ (objD "Down" :: ds)=Zt (objD "Down" :: ds):=by kernel_rfl
theorem goesE (t:Tr)(w:Int){b:Int}(hb:b∈zF):mtD zZ [objD (nmB b),encS (unV t w),encS (rowR t)]=some (encS (beV t w b)):=by
 simp only [zF,Kr,VN,aU] at hb
 rcases hb with rfl|rfl|rfl
 ·show mtD zZ [objD "Down", encS (unV t w),encS (rowR t)]=some (encS (negS (rowR t)))
  rw [mt_d]
  simp only [Zt,jN]
  simp_arith [qdx]
 ·show mtD zZ [objD "Join", encS (unV t w),encS (rowR t)]=some (encS (unV t w))
  rw [mt_j]
  simp only [Zu,jO]
  simp_arith []
 ·show mtD zZ [objD "Up", encS (unV t w),encS (rowR t)]=some (encS (rowR t))
  rw [mt_u]
  simp only [jm,JG]
  simp_arith []
theorem mkT3 (a b c:Sp3):Vi [encS a,encS b,encS c]=encT (rwT a b c):=rfl
theorem qiS {n:Nat}{a b c:Sp3}(ha:SpBd n a)(hb:SpBd n b)(hc:SpBd n c):TrBd n (rwT a b c):=⟨ha.1,ha.2.1,ha.2.2,hb.1,hb.2.1,hb.2.2,hc.1,hc.2.1,hc.2.2⟩
theorem ledE (x:Sp3){t:Tr}(h:Tn t){w b:Int}(hw:w∈Q7)(hb:b∈zF):Zg [objD (nmB b),encP x t,.int w]=some (encP (spV x t w b) (stV t w b)):=by
 obtain ⟨u1,u2⟩:=qlb t h.mem w hw
 obtain ⟨u3,u4⟩:=qkP t h.mem w hw b hb
 have e1:=unitE x t hw
 have e2:=outE (x:=x) h
 have e3:=qea u1 h.br
 have e4:=goesE t w hb
 have e5:=qea u2 u3
 have e6:=backE (rwT (unV t w) (rowR t) (edV t w))
 have b1:=qmU (qiS u1 h.br u2)
 have b2:=qiS u3 u4 u2
 have e7:=qjJ b1 b2
 have e8:=wI (qfz b1 b2) h.bp
 have e9:=wI (qfz b1 b2) h.bq
 have e3':jo [encS (unV t w),encS (rowR t)]=some (encS (edV t w)):=e3
 simp only [Zg,Yp]
 simp_arith [e1,e2,e3',e4,e5,mkT3,e6,e7,ixP0,ixP1,ixP2,qlf,e8,e9]
 rfl
noncomputable abbrev Sp:=Int×Int×Int
noncomputable def eS (s:Sp):Ka:=.tuple [.int s.1,.int s.2.1,.int s.2.2]
noncomputable def l3 (s:Sp):List Int:=[s.1,s.2.1,s.2.2]
noncomputable def b3:List Int->Sp
 | [a,b,c]=>(a,b,c)
 | _=>(0,0,0)
theorem qez (xs:List Sp):xs.map eS=(xs.map l3).map tI:=by rw [K6];rfl
theorem qbO {xs:List Sp}(h:xs.length<64):∃ ys:List Sp,Z4 [.list (xs.map eS)]=some (.list (ys.map eS))/\ys.Perm xs/\(ys.map l3).Pairwise (λa b=>HT.lexLt b a=false):=by
 obtain ⟨mss,e,p,o⟩:=wH (nss:=xs.map l3) (by rw [Kf];exact h) (by
  intro ns hn
  obtain ⟨x,_,rfl⟩:=KQ.mp hn
  exact λz=>by cases z)
 have back:∀ m∈mss,(l3 ∘ b3) m=id m:=λm hm=>by
  obtain ⟨x,_,rfl⟩:=KQ.mp (p.mem_iff.mp hm)
  rfl
 have hm:(mss.map b3).map l3=mss:=by
  rw [K6]
  exact (V9 back).trans (EN mss)
 refine ⟨mss.map b3,?_,?_,?_⟩
 ·rw [qez,e,qez,hm]
 ·have:=p.map b3
  rw [K6] at this
  have e2:xs.map (b3 ∘ l3)=xs:=(V9 (λx _=>rfl)).trans (EN xs)
  rwa [e2] at this
 ·rw [hm];exact o
theorem qhu (a b:Sp):Ks (eS a) (eS b)=decide (a=b):=by
 have:Ks (eS a) (eS b)=((a.1==b.1)&&((a.2.1==b.2.1)&&((a.2.2==b.2.2)&&true))):=rfl
 rw [this]
 obtain ⟨a1,a2,a3⟩:=a
 obtain ⟨b1,b2,b3⟩:=b
 by_cases h1:a1=b1<;>by_cases h2:a2=b2<;>by_cases h3:a3=b3<;>simp [h1,h2,h3]
theorem qhc (xs:List Sp):Kp (xs.map eS)=true/\KC (xs.map eS)<=1:=by rw [qez];exact YH _
theorem qc8 {α:Type}(enc:α->Ka){g:Ka->Rho->Option Rho}{u:Rho->Option Out}(I:List α->Rho->Prop)(all:List α)(step:∀ a∈all,∀ done ρ,done.length<all.length->I done ρ->∃ ρ',ob (g (enc a) ρ) u=some (.nx ρ')/\I (done++[a]) ρ') :
  ∀ (as done:List α) (ρ:Rho),(∀ a∈as,a∈all)->done.length+as.length=all.length->I done ρ->∃ ρ',forD g u (as.map enc) ρ=some (.nx ρ')/\I (done++as) ρ'
 | [],done,ρ,_,_,h=>⟨ρ,rfl,by rw [VL];exact h⟩
 | a::as,done,ρ,hm,hl,h=>by
  rw [Kz] at hl
  obtain ⟨ρ1,e1,h1⟩:=step a (hm a (.head _)) done ρ '$' h
  obtain ⟨ρ2,e2,h2⟩:=qc8 enc I all step as (done++[a]) ρ1 (λx hx=>hm x (.tail _ hx)) (by rw [Km,Ku];omega) h1
  refine ⟨ρ2,?_,by rw [Ux] at h2;exact h2⟩
  rw [Kt,jd,e1,yN]
  exact e2
theorem Zz {α:Type}(enc:α->Ka){g:Ka->Rho->Option Rho}{u:Rho->Option Out}(I:List α->Rho->Prop)(as:List α)(ρ:Rho)(h:I [] ρ)(step:∀ a∈as,∀ done ρ,done.length<as.length->I done ρ->∃ ρ',ob (g (enc a) ρ) u=some (.nx ρ')/\I (done++[a]) ρ') :
  ∃ ρ',forD g u (as.map enc) ρ=some (.nx ρ')/\I as ρ':=by
 obtain ⟨ρ',e,i⟩:=qc8 enc I as step as [] ρ (λ_ h=>h) (by simp) h
 exact ⟨ρ',e,by rwa [XW] at i⟩
theorem Jg {α:Type}(enc:α->Ka){tt:Rho->Option Bool}{te:'&'}{ρ:Rho}(p:α->Bool)(f:α->Ka):∀ (as:List α),(∀ a∈as,tt (ρ++[some (enc a)])=some (p a))->(∀ a∈as,p a=true->te (ρ++[some (enc a)])=some (f a))->QR tt te ρ (as.map enc)=some ((as.filter p).map f)
 | [],_,_=>rfl
 | a::as,h1,h2=>by
  have ih:=Jg enc p f as (λx hx=>h1 x (.tail _ hx)) (λx hx=>h2 x (.tail _ hx))
  rw [Kt,qe5,h1 a (.head _),List.filter_cons]
  cases e:p a with
  | true=>rw [qe8,h2 a (.head _) e,ih];rfl
  | false=>rw [qe7,ih];rfl
theorem qai {α:Type}(enc:α->Ka){te:'&'}{ρ:Rho}(f:α->Ka)(as:List α)(h2:∀ a∈as,te (ρ++[some (enc a)])=some (f a)):QR tT te ρ (as.map enc)=some (as.map f):=by
 have:=Jg enc (tt:=tT) (te:=te) (ρ:=ρ) (λ_=>true) f as (λ_ _=>rfl) (λa ha _=>h2 a ha)
 rwa [List.filter_eq_self.mpr (λ_ _=>rfl)] at this
noncomputable def cr (a:Nat)(q s:Sp):Bool:=match a with
 | 0=>decide (s.1 % 2=0/\s.1 > q.1/\s.2.1=q.2.1/\s.2.2=q.2.2)
 | 1=>decide (s.2.1 % 2=0/\s.2.1 > q.2.1/\s.1=q.1/\s.2.2=q.2.2)
 | _=>decide (s.2.2 % 2=0/\s.2.2 > q.2.2/\s.1=q.1/\s.2.1=q.2.1)
theorem qbM (xs:'(')(v:Ka):popD (.list (xs++[v]))=some (v,.list xs):=by
 show (ob ((xs++[v])[(xs++[v]).length-1]?) λd=>some (d,Vk (xs++[v]).dropLast))=_
 have e:(xs++[v])[(xs++[v]).length-1]?=some v:=by
  rw [Km,Ku,Nat.add_sub_cancel,Vb (Kq _)]
  simp
 rw [e,List.dropLast_concat]
 rfl
theorem QG {α β:Type}{f:α->β}{xs:List α}{k:Int}{x:α}(h0:0<=k)(h:xs[k.toNat]?=some x):atI (xs.map f) k=some (f x):=by
 have e1:((k.toNat:Nat):Int)=k:=by omega
 have:=WN (xs:=xs.map f) (j:=k.toNat) (v:=f x) (by rw [Kw,h];rfl)
 rwa [e1] at this
theorem seqIx {i:Int}{n:Nat}(h0:0<=i)(h1:i<(n:Int)):bu i n=some i.toNat:=by
 show (if (decide (0<=(if i<0 then i+(n:Int) else i))&&decide ((if i<0 then i+(n:Int) else i)<(n:Int)))=true then some (if i<0 then i+(n:Int) else i).toNat else none)=_
 have h:(if i<0 then i+(n:Int) else i)=i:=ah '$'
 rw [h,ag (by simp;omega)]
theorem JF {u w:Rho->Option Out}{ρ ρ':Rho}{r:Option Out}(h:u ρ=some (.nx ρ'))(h2:w ρ'=r):seqO u w ρ=r:=by rw [qeH,h,qcV];exact h2
theorem YX {α:Type}(enc:α->Ka){g:Ka->Rho->Option Rho}{u:Rho->Option Out}(I:List α->Rho->Prop)(all:List α)(ρ:Rho)(h0:I [] ρ)(step:∀ a done rest ρ,all=done++a::rest->I done ρ->∃ ρ',ob (g (enc a) ρ) u=some (.nx ρ')/\I (done++[a]) ρ') :
  ∃ ρ',forD g u (all.map enc) ρ=some (.nx ρ')/\I all ρ':=by
 have key:∀ (as done:List α) (ρ:Rho),all=done++as->I done ρ->∃ ρ',forD g u (as.map enc) ρ=some (.nx ρ')/\I all ρ':=by
  intro as
  induction as with
  | nil=>intro done ρ e h;rw [VL] at e;subst e;exact ⟨ρ,rfl,h⟩
  | cons a as ih =>
   intro done ρ e h
   obtain ⟨ρ1,e1,h1⟩:=step a done as ρ e h
   obtain ⟨ρ2,e2,h2⟩:=ih (done++[a]) ρ1 (by rw [e,Ux];rfl) h1
   refine ⟨ρ2,?_,h2⟩
   rw [Kt,jd,e1,yN]
   exact e2
 exact key all [] ρ rfl h0
theorem ixe0 (s:Sp):ixD (eS s) (.int 0)=some (.int s.1):=rfl
theorem ixe1 (s:Sp):ixD (eS s) (.int 1)=some (.int s.2.1):=rfl
theorem ixe2 (s:Sp):ixD (eS s) (.int 2)=some (.int s.2.2):=rfl
theorem ix2:ixN 3 2=some 2:=rfl
theorem yt (n:Nat):rngL 0 n=(KG n).map λk=>Kj (k:Nat):=by
 have:∀ (n m:Nat),rngL (m:Nat) n=(List.range' m n).map λk=>Kj (k:Nat):=by
  intro n
  induction n with
  | zero=>intro m;rfl
  | succ n ih =>
   intro m
   rw [rngL,List.range'_succ,Kt,← ih (m+1)]
   rfl
 rw [List.range_eq_range']
 exact this n 0
theorem cut_eq (ns:List Int){a b:Nat}:∃ ms:List Int,sliD (.list (ns.map .int)) (some (a:Int)) (some (b:Int))=some (.list (ms.map .int))/\ms.length<=b-a:=by
 refine ⟨(ns.drop (HT.sIx (ns.map Kj).length 0 (some (a:Int)))).take (HT.sIx (ns.map Kj).length (ns.map Kj).length (some (b:Int))-HT.sIx (ns.map Kj).length 0 (some (a:Int))),?_,?_⟩
 ·show some (Vk (cutD (ns.map .int) (some (a:Int)) (some (b:Int))))=_
  unfold cutD
  rw [← List.map_drop,← E9]
 ·rw [Uq,XI,HT.wF,HT.wF,Kf]
  omega
theorem qfe {α:Type}{xs:List α}(x:Int)(h:0<xs.length):∃ y∈xs,xs[(x % (xs.length:Int)).toNat]?=some y:=by
 have a1:=XX x (b:=(xs.length:Int)) '$'
 have a2:=N2 x (b:=(xs.length:Int)) '$'
 have hlt:(x % (xs.length:Int)).toNat<xs.length:=by omega
 exact ⟨xs[(x % (xs.length:Int)).toNat],XM hlt,Kl hlt⟩
noncomputable abbrev Ce:=Int×Int
noncomputable def eC (c:Ce):Ka:=.tuple [.int c.1,.int c.2]
noncomputable def l2 (c:Ce):List Int:=[c.1,c.2]
noncomputable def b2:List Int->Ce
 | [a,b]=>(a,b)
 | _=>(0,0)
theorem qgQ {xs:List Ce}(h:xs.length<64):∃ ys:List Ce,Z4 [.list (xs.map eC)]=some (.list (ys.map eC))/\ys.Perm xs/\(ys.map l2).Pairwise (λa b=>HT.lexLt b a=false):=by
 obtain ⟨mss,e,p,o⟩:=wH (nss:=xs.map l2) (by rw [Kf];exact h) (by
  intro ns hn
  obtain ⟨x,_,rfl⟩:=KQ.mp hn
  exact λz=>by cases z)
 have me:∀ zs:List Ce,zs.map eC=(zs.map l2).map tI:=λzs=>by rw [K6];rfl
 have hm:(mss.map b2).map l2=mss:=by
  rw [K6]
  refine (V9 λm hm=>?_).trans (EN mss)
  obtain ⟨x,_,rfl⟩:=KQ.mp (p.mem_iff.mp hm)
  rfl
 refine ⟨mss.map b2,?_,?_,?_⟩
 ·rw [me,e,me,hm]
 ·have:=p.map b2
  rw [K6] at this
  have e2:xs.map (b2 ∘ l2)=xs:=(V9 (λx _=>rfl)).trans (EN xs)
  rwa [e2] at this
 ·rw [hm];exact o
theorem wU (a b:Ce):Ks (eC a) (eC b)=decide (a=b):=by
 have:Ks (eC a) (eC b)=((a.1==b.1)&&((a.2==b.2)&&true)):=rfl
 rw [this]
 obtain ⟨a1,a2⟩:=a
 obtain ⟨b1,b2⟩:=b
 by_cases h1:a1=b1<;>by_cases h2:a2=b2<;>simp [h1,h2]
theorem qd9:∀ xs:List Ce,Kp (xs.map eC)=true/\KC (xs.map eC)<=1:=λxs=>by
 have me:xs.map eC=(xs.map l2).map tI:=by rw [K6];rfl
 rw [me];exact YH _
theorem qcc (xs:List Ce)(q:Ce):inOk (xs.map eC) (eC q)=true:=by
 unfold inOk
 rw [(qd9 xs).1,Bool.true_and,KI]
 exact ⟨rfl,rfl⟩
theorem qhH (xs:List Ce)(q:Ce):inL (xs.map eC) (eC q)=decide (q∈xs):=by
 unfold inL
 rw [List.any_map]
 induction xs with
 | nil=>rfl
 | cons x xs ih =>
  rw [UR,ih]
  show (Ks (eC x) (eC q)||_)=_
  rw [wU]
  by_cases h:x=q
  ·subst h;rw [ae rfl,NH,ae VH]
  ·rw [ab h,XO]
   by_cases h2:q∈xs
   ·rw [ae h2,ae (Vu _ h2)]
   ·rw [ab h2,ab (by rw [Kr];rintro (rfl|z);exact h rfl;exact h2 z)]
theorem qei (xs:List Ce)(q:Ce):inD (eC q) (.list (xs.map eC))=some (.bool (decide (q∈xs))):=by
 show (if inOk (xs.map eC) (eC q)=true then some (UC (inL (xs.map eC) (eC q))) else none)=_
 rw [qcc,qhH];rfl
theorem qfB (xs:List Ce)(q:Ce):ninD (eC q) (.list (xs.map eC))=some (.bool (!decide (q∈xs))):=by
 show (if inOk (xs.map eC) (eC q)=true then some (UC (!inL (xs.map eC) (eC q))) else none)=_
 rw [qcc,qhH];rfl
theorem ixc0 (s:Ce):ixD (eC s) (.int 0)=some (.int s.1):=rfl
theorem ixc1 (s:Ce):ixD (eC s) (.int 1)=some (.int s.2):=rfl
theorem yM (s:Ce):flat (eC s)=true:=rfl
theorem qde {xs:List Ce}{q:Ce}(h:q∈xs)(hl:xs.length<=900):Jt (.list (xs.map eC)) (eC q)=some (.int (xs.idxOf q:Nat)):=by
 have e:(xs.map eC).findIdx? (λy=>Ks y (eC q))=some (xs.idxOf q):=by
  clear hl
  induction xs with
  | nil=>cases h
  | cons x xs ih =>
   rw [Kt,List.findIdx?_cons,wU,List.idxOf_cons]
   by_cases hx:x=q
   ·subst hx;simp
   ·have hq:q∈xs:=by rcases Kr.mp h with z|z;exact absurd z.symm hx;exact z
    have e1:(x==q)=false:=ar.mpr hx
    rw [ab hx,ih hq,e1]
    rfl
 show (if inOk (xs.map eC) (eC q)=true/\(xs.map eC).length<=1000 then ob ((xs.map eC).findIdx? λy=>Ks y (eC q)) (λj=>some (Kj (j:Nat))) else none)=_
 rw [ag ⟨qcc _ _,by rw [Kf];omega⟩,e]
 rfl
noncomputable abbrev Jn:=(Ce×Ce)×Int
noncomputable def eP (p:Ce×Ce):Ka:=.tuple [eC p.1,eC p.2]
noncomputable def kP (p:Ce×Ce):KX:=.inr [.inr [p.1.1,p.1.2],.inr [p.2.1,p.2.2]]
noncomputable def eJ (js:List Jn):List (Ka×PyData):=js.map λp=>(eP p.1,.int p.2)
theorem qkV (p:Ce×Ce):kxD (kP p)=eP p:=rfl
theorem qht (p q:Ce×Ce):Ks (eP p) (eP q)=decide (p=q):=by
 have:Ks (eP p) (eP q)=(Ks (eC p.1) (eC q.1)&&(Ks (eC p.2) (eC q.2)&&true)):=rfl
 rw [this,wU,wU]
 obtain ⟨a,b⟩:=p
 obtain ⟨c,d⟩:=q
 by_cases h1:a=c<;>by_cases h2:b=d<;>simp [h1,h2]
theorem qjx (q:Ce×Ce):∀ js:List Jn,zB (eJ js) (kP q)=(js.find? λp=>decide (p.1=q)).map λp=>Kj p.2
 | []=>rfl
 | p::js=>by
  have ih:=qjx q js
  unfold zB eJ at *
  rw [Kt,VB,VB,qkV,qht]
  rw [qkV] at ih
  by_cases h:p.1=q
  ·rw [ae h];rfl
  ·rw [ab h];exact ih
theorem jt {α:Type}(enc:α->Ka){k:Nat}{g:Ka->Rho->Option Rho}{te:'&'}{ρ:Rho}(f:α->Ka):∀ (as:List α),(∀ a∈as,ob (g (enc a) (ρ++Vf k none)) te=some (f a))->Qx k g tT te ρ (as.map enc)=some (as.map f)
 | [],_=>rfl
 | a::as,h=>by
  have ih:=jt enc f as λx hx=>h x (.tail _ hx)
  obtain ⟨ρ1,e1,e2⟩:=qd (h a (.head _))
  rw [Kt,qfa,e1,qe4]
  show qcZ (some true) _ _=_
  rw [qe2,e2,ih]
  rfl
def qae (d:Ka):Prop:=Ks d d=true
theorem Jl {α:Type}{f:α->Ka}(h:∀ a,qae (f a)):∀ xs:List α,qae (.list (xs.map f))
 | []=>rfl
 | x::xs=>by
  have:Ks (.list ((x::xs).map f)) (.list ((x::xs).map f))=(Ks (f x) (f x)&&Ks (.list (xs.map f)) (.list (xs.map f))):=rfl
  unfold qae
  rw [this,h x,Jl h xs]
  rfl
theorem qfR (c:Ce):qae (eC c):=by unfold qae;rw [wU,ae rfl]
theorem qfS (c:Sp):qae (eS c):=by unfold qae;rw [qhu,ae rfl]
theorem qm0 (cs:List Ce)(js:List Sp):eqD (.tuple [.list (cs.map eC),.list (js.map eS)]) (.tuple [.list (cs.map eC),.list (js.map eS)])=some (.bool true):=by
 have hc:=qd9 cs
 have hj:=qhc js
 have sh:K7 (.tuple [.list (cs.map eC),.list (js.map eS)])=true:=by
  have h2:UD (.tuple [.list (cs.map eC),.list (js.map eS)])=max (KC (cs.map eC)+1) (max (KC (js.map eS)+1) 0)+1:=rfl
  have h3:KM (.tuple [.list (cs.map eC),.list (js.map eS)])=(Kp (cs.map eC)&&(Kp (js.map eS)&&true)):=rfl
  unfold K7
  rw [h2,h3,hc.1,hj.1,KI]
  exact ⟨rfl,ae '$'⟩
 unfold eqD
 have:Ks (.tuple [.list (cs.map eC),.list (js.map eS)]) (.tuple [.list (cs.map eC),.list (js.map eS)])=(Ks (.list (cs.map eC)) (.list (cs.map eC))&&(Ks (.list (js.map eS)) (.list (js.map eS))&&true)):=rfl
 rw [ag ⟨sh,sh⟩,this,Jl qfR cs,Jl qfS js]
 rfl
theorem qb2 {α:Type}(f:α->Ka)(xs:List α){k:Int}(h:0<=k):sliD (.list (xs.map f)) none (some k)=some (.list ((xs.take k.toNat).map f)):=by
 show some (Vk (cutD (xs.map f) none (some k)))=_
 have e:k=((k.toNat:Nat):Int):=by omega
 unfold cutD
 rw [e,HT.wF]
 have h0:HT.sIx (xs.map f).length 0 none=0:=rfl
 rw [h0,List.drop_zero,Nat.sub_zero,Kf,Vl]
 by_cases hk:k.toNat<=xs.length
 ·rw [Nat.min_eq_left hk,E9]
 ·rw [Nat.min_eq_right '$',EO (l:=xs) '$',EO (by rw [Kf];exact Kq _)]
noncomputable def put (M:List Sp)(k:Nat)(p:Sp):List Sp:=M.take k++[p]++M.drop k
def Adj (a b:Ce):Prop:=b=(a.1+1,a.2)\/b=(a.1,a.2+1)
noncomputable def bs (w:Nat)(c:Ce):Ce:=match w with
 | 0=>(c.1+1,c.2)
 | 1=>(c.1,c.2+1)
 | 2=>(c.1-1,c.2)
 | _=>(c.1,c.2-1)
theorem qkR (x:Int):∃ w:Nat,w<4/\x % 4=(w:Nat):=⟨(x % 4).toNat,by omega,by omega⟩
noncomputable def pk (w:Nat)(c:Ce):Ce×Ce:=match w with
 | 0=>(c,bs 0 c)
 | 1=>(c,bs 1 c)
 | 2=>(bs 2 c,c)
 | _=>(bs 3 c,c)
theorem ltC (a b:Ce):ltX (eC a) (eC b)=some (if a.1=b.1 then decide (a.2<b.2) else decide (a.1<b.1)):=by
 have:ltX (eC a) (eC b)=if Ks (.int a.1) (.int b.1)=true then (if Ks (.int a.2) (.int b.2)=true then some false else some (decide (a.2<b.2))) else some (decide (a.1<b.1)):=by
  simp only [eC,ltX,ltXs]
 have e:∀ x y:Int,(Ks (.int x) (.int y)=true)=(x=y):=λx y=>by
  have:Ks (.int x) (.int y)=(x==y):=rfl
  rw [this];simp
 rw [this]
 simp only [e]
 by_cases h1:a.1=b.1
 ·rw [ag h1,ag h1]
  by_cases h2:a.2=b.2
  ·rw [ag h2,ab '$']
  ·rw [ah h2]
 ·rw [ah h1,ah h1]
theorem gtC (a b:Ce):gtX (eC a) (eC b)=some (if a.1=b.1 then decide (a.2 > b.2) else decide (a.1 > b.1)):=by
 have:gtX (eC a) (eC b)=if Ks (.int a.1) (.int b.1)=true then (if Ks (.int a.2) (.int b.2)=true then some false else some (decide (a.2 > b.2))) else some (decide (a.1 > b.1)):=by
  simp only [eC,gtX,gtXs]
 have e:∀ x y:Int,(Ks (.int x) (.int y)=true)=(x=y):=λx y=>by
  have:Ks (.int x) (.int y)=(x==y):=rfl
  rw [this];simp
 rw [this]
 simp only [e]
 by_cases h1:a.1=b.1
 ·rw [ag h1,ag h1]
  by_cases h2:a.2=b.2
  ·rw [ag h2,ab '$']
  ·rw [ah h2]
 ·rw [ah h1,ah h1]
theorem cmpC {x y:Ce}(h:x.1<y.1\/(x.1=y.1/\x.2<y.2)):ltX (eC x) (eC y)=some true/\ltX (eC y) (eC x)=some false/\gtX (eC y) (eC x)=some true/\gtX (eC x) (eC y)=some false:=by
 rw [ltC,ltC,gtC,gtC]
 by_cases e:x.1=y.1
 ·rw [ag e,ag e.symm,ag e.symm,ag e,ae (by omega:x.2<y.2),ab (by omega:¬ y.2<x.2)]
  exact ⟨rfl,rfl,rfl,rfl⟩
 ·have e':¬ y.1=x.1:=λz=>e z.symm
  rw [ah e,ah e',ah e',ah e,ae (by omega:x.1<y.1),ab (by omega:¬ y.1<x.1)]
  exact ⟨rfl,rfl,rfl,rfl⟩
theorem minC {a b:Ce}(h:Adj a b):Jw [eC a,eC b]=some (eC a)/\Jw [eC b,eC a]=some (eC a)/\Jv [eC a,eC b]=some (eC b)/\Jv [eC b,eC a]=some (eC b):=by
 have c:∀ x y:Ce,K7 (eC x)=true/\K7 (eC y)=true/\(eC y).depth<=50:=λx y=>⟨rfl,rfl,by show (1:Nat)<=50;decide⟩
 obtain ⟨k1,k2,k3,k4⟩:=cmpC (x:=a) (y:=b) (by rcases h with rfl|rfl<;>dsimp only<;>omega)
 rw [qaJ,qaJ,qaI,qaI,ag (c _ _),ag (c _ _),ag (c _ _),ag (c _ _),k1,k2,k3,k4]
 exact ⟨rfl,rfl,rfl,rfl⟩
theorem qcC (c:Ce){w:Nat}(hw:w<4):Adj (pk w c).1 (pk w c).2/\(pk w c=(c,bs w c)\/pk w c=(bs w c,c)):=by
 have h:w=0\/w=1\/w=2\/w=3:=by omega
 obtain ⟨x,y⟩:=c
 rcases h with rfl|rfl|rfl|rfl<;>simp [pk,bs,Adj]
theorem qh2 (c:Ce){w:Nat}(hw:w<4):Jw [eC c,eC (bs w c)]=some (eC (pk w c).1)/\Jv [eC c,eC (bs w c)]=some (eC (pk w c).2):=by
 obtain ⟨h1,h2⟩:=qcC c hw
 have m:=minC h1
 rcases h2 with e|e<;>rw [e] at m ⊢
 ·exact ⟨m.1,m.2.2.1⟩
 ·exact ⟨m.2.1,m.2.2.2⟩
noncomputable def jn (S:List Ce)(p:Jn):Sp:=((S.idxOf p.1.1:Nat),(S.idxOf p.1.2:Nat),p.2)
abbrev RisC (S:List Ce):Prop:=(S.map l2).Pairwise (λa b=>HT.lexLt b a=false)
abbrev RisS (J:List Sp):Prop:=(J.map l3).Pairwise (λa b=>HT.lexLt b a=false)
noncomputable def wy (a b:Ce):Int:=if b.1=a.1+1 then 0 else 1
theorem stepI {a b:Ce}(h:Adj a b):∃ d1 d2,zY [eC a,eC b]=some d1/\Z5 jk d1=some (.int (wy a b))/\zY [eC b,eC a]=some d2/\Z5 jk d2=some (.int (wy a b+2)):=by
 have st:∀ x y:Ce,zY [eC x,eC y]=some (.tuple [.int (y.1-x.1),.int (y.2-x.2)]):=λx y=>by
  simp only [zY,jU]
  simp_arith [ixc0,ixc1]
 have k0:Z5 jk (.tuple [.int 1,.int 0])=some (.int 0):=by kernel_rfl
 have k1:Z5 jk (.tuple [.int 0,.int 1])=some (.int 1):=by kernel_rfl
 have k2:Z5 jk (.tuple [.int (-1),.int 0])=some (.int 2):=by kernel_rfl
 have k3:Z5 jk (.tuple [.int 0,.int (-1)])=some (.int 3):=by kernel_rfl
 obtain ⟨x,y⟩:=a
 rcases h with rfl|rfl
 ·have e1:x+1-x=1:=by omega
  have e2:x-(x+1)=-1:=by omega
  have e3:y-y=0:=by omega
  have ew:wy (x,y) (x+1,y)=0:=by simp [wy]
  refine ⟨_,_,st _ _,?_,st _ _,?_⟩<;>rw [ew]<;>dsimp only<;>simp only [e1,e2,e3]
  ·exact k0
  ·exact k2
 ·have e1:y+1-y=1:=by omega
  have e2:y-(y+1)=-1:=by omega
  have e3:x-x=0:=by omega
  have ew:wy (x,y) (x,y+1)=1:=by simp [wy];omega
  refine ⟨_,_,st _ _,?_,st _ _,?_⟩<;>rw [ew]<;>dsimp only<;>simp only [e1,e2,e3]
  ·exact k1
  ·exact k3
def Jok (S:List Ce)(t:Sp):Prop:=0<=t.1/\0<=t.2.1/\∃ a b,S[t.1.toNat]?=some a/\S[t.2.1.toNat]?=some b/\Adj a b
noncomputable def nbF (S:List Ce)(k:Int)(t:Sp):Option Sp:=match S[t.1.toNat]?,S[t.2.1.toNat]? with
 | some a,some b=>if t.1=k then some (wy a b,t.2.1,t.2.2) else if t.2.1=k then some (wy a b+2,t.1,t.2.2) else none
 | _,_=>none
theorem Jy {S:List Ce}{k:Int}{t:Sp}{a b:Ce}(ha:S[t.1.toNat]?=some a)(hb:S[t.2.1.toNat]?=some b):nbF S k t=if t.1=k then some (wy a b,t.2.1,t.2.2) else if t.2.1=k then some (wy a b+2,t.1,t.2.2) else none:=by
 unfold nbF;rw [ha,hb]
theorem qgY {a b:Ce}(h:Adj a b):a≠b:=by
 obtain ⟨x,y⟩:=a
 rcases h with rfl|rfl<;>simp<;>omega
theorem in2 (k i j:Int):inD (.int k) (.tuple [.int i,.int j])=some (.bool ((i==k)||((j==k)||false))):=rfl
theorem qlY {S:List Ce}{J:List Sp}(hJ:∀ t∈J,Jok S t)(hl:J.length<64){k:Int}{r:Ka}(es:Z4 [.list ((J.filterMap (nbF S k)).map eS)]=some r):Zy [.tuple [.list (S.map eC),.list (J.map eS)],.int k]=some r:=by
 obtain ⟨ρ',e,o4,o5,o6,o7,rfl⟩:=Zz eS (g:=unpD 3 (gsC (gNm 4) (gsC (gNm 5) (gsC (gNm 6) gsN)))) (u:=J7)
  (λdone ρ=>∃ o4 o5 o6 o7:Option Ka,ρ=[some (.tuple [.list (S.map eC),.list (J.map eS)]),some (.int k),some (.list (S.map eC)),some (.list ((done.filterMap (nbF S k)).map eS)),o4,o5,o6,o7]) J [some (.tuple [.list (S.map eC),.list (J.map eS)]),some (.int k),some (.list (S.map eC)),some (.list []),none,none,none,none] ⟨none,none,none,none,rfl⟩ (by
   rintro t ht done ρ hdl ⟨o4,o5,o6,o7,rfl⟩
   obtain ⟨p1,p2,a,b,ea,eb,ad⟩:=hJ t ht
   obtain ⟨d1,d2,s1,t1,s2,t2⟩:=stepI ad
   have x1:atI (S.map eC) t.1=some (eC a):=QG p1 ea
   have x2:atI (S.map eC) t.2.1=some (eC b):=QG p2 eb
   have hz:((done.filterMap (nbF S k)).map eS).length<1000:=by
    rw [Kf]
    have:=Xj (nbF S k) done
    omega
   have hn:=Jy (k:=k) ea eb
   have hu:unpD 3 (gsC (gNm 4) (gsC (gNm 5) (gsC (gNm 6) gsN))) (eS t) [some (.tuple [.list (S.map eC),.list (J.map eS)]),some (.int k),some (.list (S.map eC)),some (.list ((done.filterMap (nbF S k)).map eS)),o4,o5,o6,o7]=some [some (.tuple [.list (S.map eC),.list (J.map eS)]),some (.int k),some (.list (S.map eC)),some (.list ((done.filterMap (nbF S k)).map eS)),some (.int t.1),some (.int t.2.1),some (.int t.2.2),o7]:=rfl
   rw [hu,ob_s]
   rw [EY]
   by_cases h1:t.1=k
   ·have x3:atI (S.map eC) k=some (eC a):=by rw [← h1];exact x1
    rw [ag h1] at hn
    refine ⟨_,?_,some (.int t.1),some (.int t.2.1),some (.int t.2.2),some (.int t.2.1),rfl⟩
    have q1:(t.1==k)=true:=by simp [h1]
    have q2:(k==t.1)=true:=by simp [h1]
    simp_arith [in2,q1,q2,x3,x2,s1,t1,hz]
    simp only [Kx,V8,U6,hn,Kt,VR,eS]
   ·rw [ah h1] at hn
    have q1:(t.1==k)=false:=by simp [h1]
    have q2:(k==t.1)=false:=by simp;omega
    by_cases h2:t.2.1=k
    ·have x3:atI (S.map eC) k=some (eC b):=by rw [← h2];exact x2
     rw [ag h2] at hn
     refine ⟨_,?_,some (.int t.1),some (.int t.2.1),some (.int t.2.2),some (.int t.1),rfl⟩
     have q3:(t.2.1==k)=true:=by simp [h2]
     simp_arith [in2,q1,q2,q3,x3,x1,s2,t2,hz]
     simp only [Kx,V8,U6,hn,Kt,VR,eS]
    ·rw [ah h2] at hn
     refine ⟨_,?_,some (.int t.1),some (.int t.2.1),some (.int t.2.2),o7,rfl⟩
     have q3:(t.2.1==k)=false:=by simp [h2]
     simp_arith [in2,q1,q3]
     simp only [Kx,V8,U6,hn,Kt,VR,VL])
 simp only [Zy,JL]
 simp_arith [e,es]
theorem wR (ns:List Int)(k:Int)(hk:0<=k):zm [.list (ns.map .int),.int k]=some (.int (ji ns k)):=by
 simp only [zm,yw]
 simp_arith []
 by_cases h:k<((ns.map Kj).length:Int)
 ·have h':k.toNat<ns.length:=by rw [Kf] at h;omega
  have e:atI (ns.map Kj) k=some (.int (ji ns k)):=by
   have e1:((k.toNat:Nat):Int)=k:=by omega
   have:=WN (xs:=ns.map Kj) (j:=k.toNat) (v:=.int (ji ns k)) (by
    rw [Kw,Kl h']
    unfold ji
    rw [V3,Kl h']
    rfl)
   rw [e1] at this
   exact this
  simp_arith [ae h,e]
 ·have h':¬ k.toNat<ns.length:=by rw [Kf] at h;omega
  have e:ji ns k=0:=by
   unfold ji
   rw [V3,V0 '$']
   rfl
  simp_arith [ab h,e]
noncomputable def sumS (a:Sp3)(k:Int)(c:Sp3):Sp3:=⟨a.x+k*c.x,a.y+k*c.y,a.z+k*c.z⟩
noncomputable def dotS (a c:Sp3):Int:=a.x*c.x+a.y*c.y+a.z*c.z
theorem sumE {n m:Nat}(a:Sp3){k:Int}{c:Sp3}(hk:Bd n k)(hc:SpBd m c)(hz:n+m<=134217728:=by decide):zN [encS a,.int k,encS c]=some (encS (sumS a k c)):=by
 obtain ⟨c1,c2,c3⟩:=hc
 simp only [zN,Yr]
 simp_arith [ixS0,ixS1,ixS2,zf (hk.ok c1 hz),zf (hk.ok c2 hz),zf (hk.ok c3 hz)]
 rfl
theorem dotE {n m:Nat}{a c:Sp3}(ha:SpBd n a)(hc:SpBd m c)(hz:n+m<=134217728:=by decide):zV [encS a,encS c]=some (.int (dotS a c)):=by
 obtain ⟨a1,a2,a3⟩:=ha
 obtain ⟨c1,c2,c3⟩:=hc
 simp only [zV,jP]
 simp_arith [ixS0,ixS1,ixS2,zf (a1.ok c1 hz),zf (a2.ok c2 hz),zf (a3.ok c3 hz)]
 rfl
theorem sum0 (a:Sp3):sumS ⟨0,0,0⟩ 1 a=a:=by
 unfold sumS
 cases a
 congr 1<;>dsimp only<;>omega
theorem sumN (a:Sp3):sumS ⟨0,0,0⟩ (-1) a=negS a:=by
 unfold sumS negS
 congr 1<;>dsimp only<;>omega
theorem sum1 (a b:Sp3):sumS a 1 b=addS a b:=by
 unfold sumS addS
 congr 1<;>omega
theorem qlV (x:Sp3){t:Tr}(h:Tn t){w:Int}(hw:w∈Q7):Z9 [encP x t,.int w]=some (encS (unV t w)):=by
 simp only [Q7,Kr,VN,aU] at hw
 have b1:Bd 1 1:=by decide
 have b2:Bd 1 (-1):=by decide
 have e1:=sumE ⟨0,0,0⟩ b1 h.bp
 have e2:=sumE ⟨0,0,0⟩ b1 h.bq
 have e3:=sumE ⟨0,0,0⟩ b2 h.bp
 have e4:=sumE ⟨0,0,0⟩ b2 h.bq
 have k0:mulD (.int 2) (.int (0 / 2))=some (.int 0):=rfl
 have k1:mulD (.int 2) (.int (1 / 2))=some (.int 0):=rfl
 have k2:mulD (.int 2) (.int (2 / 2))=some (.int 2):=rfl
 have k3:mulD (.int 2) (.int (3 / 2))=some (.int 2):=rfl
 have i0:ixD (encP x t) (.int (1+0 % 2))=some (encS (rowP t)):=rfl
 have i1:ixD (encP x t) (.int (1+1 % 2))=some (encS (rowQ t)):=rfl
 have i2:ixD (encP x t) (.int (1+2 % 2))=some (encS (rowP t)):=rfl
 have i3:ixD (encP x t) (.int (1+3 % 2))=some (encS (rowQ t)):=rfl
 have z:Vi [.int 0,.int 0,.int 0]=encS ⟨0,0,0⟩:=rfl
 simp only [Z9,yE]
 rcases hw with rfl|rfl|rfl|rfl
 ·simp_arith [k0,i0,z,e1,sum0]
  rfl
 ·simp_arith [k1,i1,z,e2,sum0]
  rfl
 ·simp_arith [k2,i2,z,e3,sumN]
  rfl
 ·simp_arith [k3,i3,z,e4,sumN]
  rfl
theorem on_eq:∀ t∈qz,∀ w∈Q7,∀ b∈zF,b≠0->sumS ⟨0,0,0⟩ b (rowR t)=beV t w b:=by decide +kernel
theorem qlq:∀ t∈qz,∀ w∈Q7,Bd 1 (dotS (rowP t) (unV t w))/\Bd 1 (dotS (rowP t) (edV t w))/\Bd 1 (dotS (rowQ t) (unV t w))/\Bd 1 (dotS (rowQ t) (edV t w)):=by decide +kernel
theorem qkJ:∀ t∈qz,∀ w∈Q7,∀ b∈zF,sumS (sumS ⟨0,0,0⟩ (dotS (rowP t) (unV t w)) (beV t w b)) (dotS (rowP t) (edV t w)) (edV t w)=rowP (stV t w b)/\sumS (sumS ⟨0,0,0⟩ (dotS (rowQ t) (unV t w)) (beV t w b)) (dotS (rowQ t) (edV t w)) (edV t w)=rowQ (stV t w b):=by decide +kernel
theorem lledE (x:Sp3){t:Tr}(h:Tn t){w b:Int}(hw:w∈Q7)(hb:b∈zF):jD [encP x t,.int w,.int b]=some (encP (spV x t w b) (stV t w b)):=by
 obtain ⟨u1,u2⟩:=qlb t h.mem w hw
 obtain ⟨u3,u4⟩:=qkP t h.mem w hw b hb
 obtain ⟨d1,d2,d3,d4⟩:=qlq t h.mem w hw
 obtain ⟨t1,t2⟩:=qkJ t h.mem w hw b hb
 have b1:Bd 1 1:=by decide
 have bb:Bd 1 b:=by
  simp only [zF,Kr,VN,aU] at hb
  rcases hb with rfl|rfl|rfl<;>decide
 have e1:=qlV x h hw
 have e2:=qcn h.bp h.bq
 rw [h.cr] at e2
 have e3:zr [encS (unV t w),encS (rowR t)]=some (encS (edV t w)):=qcn u1 h.br
 have e4:=sumE ⟨0,0,0⟩ bb h.br
 have e5:=sumE x b1 u1
 have e6:=sumE (sumS x 1 (unV t w)) b1 u3
 have e7:=dotE h.bp u1
 have e8:=dotE h.bp u2
 have e9:=dotE h.bq u1
 have e10:=dotE h.bq u2
 have s1:=sumE ⟨0,0,0⟩ d1 u3
 have s2:=sumE ⟨0,0,0⟩ d3 u3
 have s3:=sumE (sumS ⟨0,0,0⟩ (dotS (rowP t) (unV t w)) (beV t w b)) d2 u2
 have s4:=sumE (sumS ⟨0,0,0⟩ (dotS (rowQ t) (unV t w)) (beV t w b)) d4 u2
 have z:Vi [.int 0,.int 0,.int 0]=encS ⟨0,0,0⟩:=rfl
 have sl:sliD (encP x t) (some 1) none=some (.tuple [encS (rowP t),encS (rowQ t)]):=rfl
 have fin:Vi [encS (sumS (sumS x 1 (unV t w)) 1 (beV t w b)),encS (rowP (stV t w b)),encS (rowQ (stV t w b))]=encP (spV x t w b) (stV t w b):=by rw [sum1,sum1];rfl
 have fl:∀ s:Sp3,flat (encS s)=true:=λ_=>rfl
 simp only [jD,Yq]
 by_cases h0:b=0
 ·have hn:neD (.int b) (.int 0)=some (.bool false):=by rw [h0];rfl
  have hbe:beV t w b=unV t w:=by rw [h0];rfl
  rw [hbe] at e6 s1 s2 s3 s4 t1 t2 fin
  simp_arith [e1,ixP0,ixP1,ixP2,e2,hn,e3,z,e5,e6,sl,e7,e8,e9,e10,s1,s2,s3,s4,t1,t2,fin,fl]
 ·have hn:neD (.int b) (.int 0)=some (.bool true):=by
   have:neD (.int b) (.int 0)=some (.bool (!(b==0))):=rfl
   rw [this,ar.mpr h0];rfl
  rw [on_eq t h.mem w hw b hb h0] at e4
  simp_arith [e1,ixP0,ixP1,ixP2,e2,hn,e3,z,e4,e5,e6,sl,e7,e8,e9,e10,s1,s2,s3,s4,t1,t2,fin,fl]
theorem qhK (x:Sp3)(t:Tr):QS [encP x t]=some (.bool true):=by kernel_rfl
theorem qfC (z:Int):Bd 100 (z % 10 ^ 29-10 ^ 28):=Bd.of (by
 have a1:=XX z (b:=10 ^ 29) '#'
 have a2:=N2 z (b:=10 ^ 29) '#'
 generalize z % 10 ^ 29=z at a1 a2 ⊢
 omega)
theorem qla:Bd 2 2:=by decide
theorem md13 (z:Int):modD (.int z) (.int (10 ^ 29))=some (.int (z % 10 ^ 29)):=ZC z '#'
theorem ma13 (z:Int):mulD (.int 2) (.int (z % 9-4))=some (.int (2*(z % 9-4))):=zf (qla.ok (m:=100) (Bd.of '$'))
theorem mb13 (z:Int):mulD (.int 2) (.int (z % 10 ^ 29-10 ^ 28))=some (.int (2*(z % 10 ^ 29-10 ^ 28))):=zf (qla.ok (qfC z))
theorem pl13 {P Q:Int}(p1:powD (.int 10) (.int 29)=some (.int P))(p2:powD (.int 10) (.int 28)=some (.int Q))(md:∀ z:Int,modD (.int z) (.int P)=some (.int (z % P)))(m2:∀ z:Int,mulD (.int 2) (.int (z % P-Q))=some (.int (2*(z % P-Q))))(a0 a2 a3 a4:Option Ka)(far o0 o1 o2:Int):∃ (i j k:Int) (a7 a8:Option Ka),forD (gNm 7) j4 [.int 0,.int 1,.int 2] [a0,some (.int far),a2,a3,a4,some (.tuple [.int o0,.int o1,.int o2]),some (.list []),none,none] =
  some (.nx [a0,some (.int far),a2,a3,a4,some (.tuple [.int o0,.int o1,.int o2]),some (.list [.int i,.int j,.int k]),a7,a8]):=by
 have k0:mulD (.int 4) (.int 0)=some (.int 0):=rfl
 have k1:mulD (.int 4) (.int 1)=some (.int 4):=rfl
 have k2:mulD (.int 4) (.int 2)=some (.int 8):=rfl
 by_cases h:far % 3=1
 ·simp_arith [k0,k1,k2,ma13,m2,md,p1,p2,h,aL]
  exact ⟨_,_,_,_,_,rfl⟩
 ·have e:(far % 3==1)=false:=ar.mpr h
  simp_arith [k0,k1,k2,ma13,m2,md,p1,p2,e]
  exact ⟨_,_,_,_,_,rfl⟩
noncomputable def tw13 (u v:Sp3):Tr:=rwT u v (j5 u v)
theorem pose13 (c far:Int):∃ x t,QT [.int c,.int far]=some (encP x t)/\Tn t:=by
 have h6:c % 6=0\/c % 6=1\/c % 6=2\/c % 6=3\/c % 6=4\/c % 6=5:=by omega
 have h4:c / 6 % 4=0\/c / 6 % 4=1\/c / 6 % 4=2\/c / 6 % 4=3:=by omega
 have k00:mulD (.int 0) (.int 0)=some (.int 0):=rfl
 have k01:mulD (.int 0) (.int 1)=some (.int 0):=rfl
 have k02:mulD (.int 0) (.int (-1))=some (.int 0):=rfl
 have k10:mulD (.int 1) (.int 0)=some (.int 0):=rfl
 have k11:mulD (.int 1) (.int 1)=some (.int 1):=rfl
 have k12:mulD (.int 1) (.int (-1))=some (.int (-1)):=rfl
 have k20:mulD (.int (-1)) (.int 0)=some (.int 0):=rfl
 have k21:mulD (.int (-1)) (.int 1)=some (.int (-1)):=rfl
 have k22:mulD (.int (-1)) (.int (-1))=some (.int 1):=rfl
 have hr:∀ ρ:Rho,(evR (aC (kd (.int 3)) aN) Q0) ρ=some [.int 0,.int 1,.int 2]:=λ_=>rfl
 simp only [QT,jY]
 rcases h6 with h6|h6|h6|h6|h6|h6<;>rcases h4 with h4|h4|h4|h4 <;>
  (
   simp_arith [-L2.jd,-L2.qcb,h6,h4,zr,ZK,zV,jP,k00,k01,k02,k10,k11,k12,k20,k21,k22,E7,E8,hr]
   obtain ⟨i,j,k,a7,a8,e⟩:=pl13 rfl rfl md13 mb13 _ _ _ _ far _ _ _
   rw [e]
   simp_arith []
   exact ⟨⟨i,j,k⟩,tw13 ⟨_,_,_⟩ ⟨_,_,_⟩,rfl,Tn.of '#'⟩)
theorem qlM {b:Int}(hb:b∈zF):yJ [.int b]=some (objD (nmB b)):=by
 simp only [zF,Kr,VN,aU] at hb
 rcases hb with rfl|rfl|rfl<;>kernel_rfl
theorem qjX {b:Int}(hb:b∈zF)(ds:'('):mtD qaK (objD (nmB b)::ds)=Zg (objD (nmB b)::ds):=by
 simp only [zF,Kr,VN,aU] at hb
 rcases hb with rfl|rfl|rfl<;>kernel_rfl
theorem qfv (x:Sp3){t:Tr}(h:Tn t){w b:Int}(hw:w∈Q7)(hb:b∈zF):Zx [eC (w,b),encP x t]=some (encP (spV x t w b) (stV t w b)):=by
 have e1:=qlM hb
 have e2:=qjX hb [encP x t,.int w]
 rw [ledE x h hw hb] at e2
 simp only [Zx,qa4]
 simp_arith [ixc0,ixc1,e1,e2]
noncomputable def eT3 (p:Jn):Ka:=.tuple [eC p.1.1,eC p.1.2,.int p.2]
theorem Zo (c:Ce){w:Nat}(hw:w<4):zc [eC c,.int (w:Nat)]=some (eC (bs w c)):=by
 have h:w=0\/w=1\/w=2\/w=3:=by omega
 simp only [zc,Z1,eC]
 rcases h with rfl|rfl|rfl|rfl
 ·have e:((0:Nat):Int)=0:=rfl
  simp_arith [e];simp [bs]
 ·have e:((1:Nat):Int)=1:=rfl
  simp_arith [e];simp [bs]
 ·have e:((2:Nat):Int)=2:=rfl
  simp_arith [e];simp [bs];omega
 ·have e:((3:Nat):Int)=3:=rfl
  simp_arith [e];simp [bs];omega
theorem qhb:∀ xs:List (Ce×Ce),Kp (xs.map eP)=true
 | []=>rfl
 | x::xs=>by
  show (KM (eP x)&&Kp (xs.map eP))=true
  rw [qhb xs];rfl
theorem qlB (xs:List (Ce×Ce))(q:Ce×Ce):inL (xs.map eP) (eP q)=decide (q∈xs):=by
 unfold inL
 rw [List.any_map]
 induction xs with
 | nil=>rfl
 | cons x xs ih =>
  rw [UR,ih]
  show (Ks (eP x) (eP q)||_)=_
  rw [qht]
  by_cases h:x=q
  ·subst h;rw [ae rfl,NH,ae VH]
  ·rw [ab h,XO]
   by_cases h2:q∈xs
   ·rw [ae h2,ae (Vu _ h2)]
   ·rw [ab h2,ab (by rw [Kr];rintro (rfl|z);exact h rfl;exact h2 z)]
theorem qj1 (xs:List (Ce×Ce))(q:Ce×Ce):ninD (eP q) (.list (xs.map eP))=some (.bool (!decide (q∈xs))):=by
 show (if inOk (xs.map eP) (eP q)=true then some (UC (!inL (xs.map eP) (eP q))) else none)=_
 have ok:inOk (xs.map eP) (eP q)=true:=by
  unfold inOk
  rw [qhb xs,Bool.true_and,KI]
  exact ⟨rfl,rfl⟩
 rw [ok,qlB];rfl
theorem yL:∀ xs:List Jn,qhx (.list (xs.map eT3))=true
 | []=>rfl
 | _::xs=>yL xs
noncomputable def jnd (T:List Jn)(k:Ce×Ce)(v:Int):List Jn:=if k∈T.map (·.1) then T else T++[(k,v)]
theorem yg (d:Ka)(T:List Jn)(hT:T.length<=900){c o:Ce}{k:Ce×Ce}(m1:Jw [eC c,eC o]=some (eC k.1))(m2:Jv [eC c,eC o]=some (eC k.2))(v:Int) :
  Qo [d,.list (T.map eT3),eC c,eC o,.int v]=some (.list ((jnd T k v).map eT3)):=by
 have hc:Qx 3 (unpD 3 (gsC (gNm 6) (gsC (gNm 7) (gsC (gNm 8) gsN)))) tT (evA (aC (vr 6) (aC (vr 7) aN)) tupD) [some d,some (.list (T.map eT3)),some (eC c),some (eC o),some (.int v),some (eP k)] (T.map eT3)=some ((T.map (·.1)).map eP):=by
  rw [K6]
  exact jt eT3 _ T λa _=>by simp_arith [eT3];rfl
 have pp:(Vi [eC k.1,eC k.2])=eP k:=rfl
 have x0:ixD (eP k) (.int 0)=some (eC k.1):=rfl
 have x1:ixD (eP k) (.int 1)=some (eC k.2):=rfl
 have hlen:(T.map eT3).length<=1000:=by rw [Kf];omega
 have hz:(T.map eT3).length<1000:=by rw [Kf];omega
 have nn:=qj1 (T.map (·.1)) k
 unfold jnd
 simp only [Qo,j9]
 by_cases h:k∈T.map (·.1)
 ·rw [ae h] at nn
  rw [ag h]
  simp_arith [m1,m2,pp,hlen,hc,nn,outU]
 ·rw [ab h] at nn
  rw [ah h]
  simp_arith [m1,m2,pp,hlen,hc,nn,x0,x1,hz,outU]
  rw [Kx]
  rfl
structure G13 (n:Nat)(fs:List Ce)(T:List Jn):Prop where
 h0:0<fs.length
 h1:fs.length<=26
 h2:fs.Nodup
 h3:T.length<=n
 h4:(T.map (·.1)).Nodup
 h5:∀ p∈T,p.1.1∈fs/\p.1.2∈fs/\Adj p.1.1 p.1.2/\p.2∈zF
theorem G13.put {n:Nat}{fs:List Ce}{T:List Jn}{k:Ce×Ce}{v:Int}(g:G13 n fs T)(m1:k.1∈fs)(m2:k.2∈fs)(ad:Adj k.1 k.2)(hv:v∈zF):G13 (n+1) fs (jnd T k v):=by
 unfold jnd
 split
 ·exact ⟨g.h0,g.h1,g.h2,Nc g.h3,g.h4,g.h5⟩
 ·rename_i hk
  refine ⟨g.h0,g.h1,g.h2,by rw [Km];have:=g.h3;simp;omega,?_,λp hp=>?_⟩
  ·rw [Kx,UQ]
   refine ⟨g.h4,by simp,λa ha b hb e=>?_⟩
   simp at hb
   subst hb
   exact hk (by rw [← e];exact ha)
  ·rcases K8.mp hp with q|q
   ·exact g.h5 p q
   ·have:=Ky.mp q
    subst this
    exact ⟨m1,m2,ad,hv⟩
theorem G13.more {n:Nat}{fs:List Ce}{T:List Jn}{o:Ce}(g:G13 n fs T)(ho:o∉fs)(hl:fs.length<26):G13 n (fs++[o]) T:=by
 refine ⟨by simp,by simp;omega,?_,g.h3,g.h4,λp hp=>?_⟩
 ·rw [UQ]
  refine ⟨g.h2,by simp,λa ha b hb e=>?_⟩
  have:=Ky.mp hb
  subst this
  exact ho (by rw [← e];exact ha)
 ·obtain ⟨a,b,c⟩:=g.h5 p hp
  exact ⟨Va _ a,Va _ b,c⟩
theorem cut13 (ns:List Int){a b:Nat}:∃ ms:List Int,sliD (.list (ns.map .int)) (some (a:Int)) (some (b:Int))=some (.list (ms.map .int))/\ms.length<=b-a/\∀ m∈ms,m∈ns:=by
 refine ⟨(ns.drop (HT.sIx (ns.map Kj).length 0 (some (a:Int)))).take (HT.sIx (ns.map Kj).length (ns.map Kj).length (some (b:Int))-HT.sIx (ns.map Kj).length 0 (some (a:Int))),?_,?_,λm hm=>List.mem_of_mem_drop (E3 hm)⟩
 ·show some (Vk (cutD (ns.map .int) (some (a:Int)) (some (b:Int))))=_
  unfold cutD
  rw [← List.map_drop,← E9]
 ·rw [Uq,XI,HT.wF,HT.wF,Kf]
  omega
noncomputable def bl13:List Ka:=[.int 0,.int 0,.int 1,.int (-1)]
theorem qll (y:Int):∃ v,atI bl13 (y % 4)=some (.int v)/\v∈zF:=by
 have h:y % 4=0\/y % 4=1\/y % 4=2\/y % 4=3:=by omega
 rcases h with h|h|h|h<;>rw [h]
 ·exact ⟨0,rfl,by decide⟩
 ·exact ⟨0,rfl,by decide⟩
 ·exact ⟨1,rfl,by decide⟩
 ·exact ⟨-1,rfl,by decide⟩
theorem grow13 {ns ms:List Int}(hb:∀ k∈ns,Vz k<=2 ^ 20)(hm:∀ m∈ms,m∈ns)(hl:ms.length<=34)(d0 d5:Ka)(s:Ce) :
  ∃ (fs:List Ce) (T:List Jn) (o8 o9 o10 o11:Option Ka),forD (gNm 8) QQ (ms.map .int) [some d0,some (.int 6),some (.int 40),some (.int 26),some (.list bl13),some d5,some (.list [eC s]),some (.list []),none,none,none,none] =
   some (.nx [some d0,some (.int 6),some (.int 40),some (.int 26),some (.list bl13),some d5,some (.list (fs.map eC)),some (.list (T.map eT3)),o8,o9,o10,o11])/\G13 ms.length fs T:=by
 obtain ⟨ρ',e,fs,T,o8,o9,o10,o11,rfl,g⟩:=Zz Kj (g:=gNm 8) (u:=QQ)
  (λdone ρ=>∃ (fs:List Ce) (T:List Jn) (o8 o9 o10 o11:Option Ka),ρ=[some d0,some (.int 6),some (.int 40),some (.int 26),some (.list bl13),some d5,some (.list (fs.map eC)),some (.list (T.map eT3)),o8,o9,o10,o11]/\G13 done.length fs T) ms [some d0,some (.int 6),some (.int 40),some (.int 26),some (.list bl13),some d5,some (.list [eC s]),some (.list []),none,none,none,none]
  ⟨[s],[],none,none,none,none,rfl,by simp,by simp,by simp,by simp,by simp,λp hp=>nomatch hp⟩ (by
   rintro x hx done ρ hdl ⟨fs,T,o8,o9,o10,o11,rfl,g⟩
   have hlen:(done++[x]).length=done.length+1:=by simp
   have bx:Bd 1048576 x:=hb x (hm x hx)
   have em:mulD (.int x) (.int 48271)=some (.int (x*48271)):=zf (bx.ok (Bd.of (n:=16) '#'))
   have e1:modD (.int (x*48271)) (.int 1000003)=some (.int (x*48271 % 1000003)):=ZC _ '#'
   generalize x*48271 % 1000003=y at e1
   obtain ⟨c,hc,ec⟩:=qfe y g.h0
   have e3:modD (.int y) (.int (((fs.map eC).length:Nat):Int))=some (.int (y % (fs.length:Int))):=by rw [Kf];exact ZC _ (by have:=g.h0;omega)
   have e4:atI (fs.map eC) (y % (fs.length:Int))=some (eC c):=QG (XX _ (by have:=g.h0;omega)) ec
   obtain ⟨w,hw,ew⟩:=qkR (y / 64)
   have e5:=Zo c hw
   obtain ⟨m1,m2⟩:=qh2 c hw
   obtain ⟨ad,hp⟩:=qcC c hw
   have nn:=qfB fs (bs w c)
   have ii:=qei fs (bs w c)
   obtain ⟨v,ev,hv⟩:=qll (y / 256)
   have lb:lenD [.list bl13]=some (.int 4):=rfl
   have hT:T.length<=900:=by have:=g.h3;omega
   have hz:(fs.map eC).length<1000:=by rw [Kf];have:=g.h1;omega
   generalize ho:bs w c=o at *
   generalize hk:pk w c=k at *
   have fo:=yL (jnd T k v)
   by_cases hin:o∈fs
   ·have ej:=yg (.list (fs.map eC)) T hT m1 m2 v
    have mk:k.1∈fs/\k.2∈fs:=by rcases hp with z|z<;>rw [z]<;>exact ⟨by assumption,by assumption⟩
    refine ⟨[some d0,some (.int 6),some (.int 40),some (.int 26),some (.list bl13),some d5,some (.list (fs.map eC)),some (.list ((jnd T k v).map eT3)),some (.int x),some (.int y),some (eC c),some (eC o)],?_,fs,_,_,_,_,_,rfl,by rw [hlen];exact g.put mk.1 mk.2 ad hv⟩
    simp_arith [em,e1,e3,e4,yM,ew,e5,ii,nn,ae hin,yu,lb,ev,ej,fo]
   ·cases hlt:decide ((((fs.map eC).length:Nat):Int)<26) with
    | false =>
     refine ⟨[some d0,some (.int 6),some (.int 40),some (.int 26),some (.list bl13),some d5,some (.list (fs.map eC)),some (.list (T.map eT3)),some (.int x),some (.int y),some (eC c),some (eC o)],?_,fs,T,_,_,_,_,rfl,by rw [hlen];exact ⟨g.h0,g.h1,g.h2,Nc g.h3,g.h4,g.h5⟩⟩
     simp_arith [em,e1,e3,e4,yM,ew,e5,ii,nn,ab hin,hlt]
    | true =>
     have hlt':fs.length<26:=by have:=ao hlt;rw [Kf] at this;omega
     have g':=g.more hin hlt'
     have ej:=yg (.list ((fs++[o]).map eC)) T hT m1 m2 v
     have em2:∀ z:Ce,z∈fs++[o]↔z∈fs\/z=o:=λz=>by simp
     have mk:k.1∈fs++[o]/\k.2∈fs++[o]:=by rcases hp with z|z<;>rw [z]<;>simp [hc]
     refine ⟨[some d0,some (.int 6),some (.int 40),some (.int 26),some (.list bl13),some d5,some (.list ((fs++[o]).map eC)),some (.list ((jnd T k v).map eT3)),some (.int x),some (.int y),some (eC c),some (eC o)],?_,_,_,_,_,_,_,rfl,by rw [hlen];exact g'.put mk.1 mk.2 ad hv⟩
     rw [Kx,Kt,VR] at ej
     simp_arith [em,e1,e3,e4,yM,ew,e5,ii,nn,ab hin,hlt,hz,yu,lb,ev]
     rw [ej]
     simp_arith [fo]
     simp only [Kx,Kt,VR])
 exact ⟨fs,T,o8,o9,o10,o11,e,g⟩
theorem qkD {fs:List Ce}{T:List Jn}(hf:fs.length<64)(hj:T.length<64)(hm:∀ p∈T,p.1.1∈fs/\p.1.2∈fs):∃ (S:List Ce) (J:List Sp),Zv [.list (fs.map eC),.list (T.map eT3)]=some (.tuple [.list (S.map eC),.list (J.map eS)])/\S.Perm fs/\RisC S/\J.Perm (T.map (jn S))/\RisS J:=by
 obtain ⟨S,es,p,r⟩:=qgQ hf
 have hl:S.length<=900:=by rw [p.length_eq];omega
 have hc:Qx 3 (unpD 3 (gsC (gNm 3) (gsC (gNm 4) (gsC (gNm 5) gsN)))) tT (evA (aC (ev2 (vr 2) (vr 3) Jt) (aC (ev2 (vr 2) (vr 4) Jt) (aC (vr 5) aN))) tupD) [some (.list (fs.map eC)),some (.list (T.map eT3)),some (.list (S.map eC))] (T.map eT3)=some ((T.map (jn S)).map eS):=by
  rw [K6]
  refine jt eT3 _ T λa ha=>?_
  obtain ⟨m1,m2⟩:=hm a ha
  have i1:=qde (p.mem_iff.mpr m1) hl
  have i2:=qde (p.mem_iff.mpr m2) hl
  simp_arith [eT3,i1,i2]
  rfl
 have hlen:(T.map eT3).length<=1000:=by rw [Kf];omega
 obtain ⟨J,ej,pj,rj⟩:=qbO (xs:=T.map (jn S)) (by rw [Kf];exact hj)
 refine ⟨S,J,?_,p,r,pj,rj⟩
 simp only [Zv,JH]
 simp_arith [es,hlen,hc,ej]
structure J13 (S:List Ce)(J:List Sp):Prop where
 nd:S.Nodup
 ok:∀ t∈J,Jok S t
 bd:∀ t∈J,t.2.2∈zF
 un:(J.map λt=>(t.1,t.2.1)).Nodup
 lj:J.length<=58
 ls:S.length<=26
 s0:0<S.length
theorem jok13 {m:Nat}{fs S:List Ce}{T:List Jn}{J:List Sp}(g:G13 m fs T)(pS:S.Perm fs)(pJ:J.Perm (T.map (jn S)))(hm:m<=58:=by decide):J13 S J:=by
 have at':∀ a∈fs,S[S.idxOf a]?=some a:=λa ha=>by
  have h:=EB.mpr (pS.mem_iff.mpr ha)
  rw [Kl h,List.getElem_idxOf h]
 refine ⟨pS.nodup_iff.mpr g.h2,λt ht=>?_,λt ht=>?_,?_,by rw [pJ.length_eq,Kf];exact Vg g.h3 hm,by rw [pS.length_eq];exact g.h1,by rw [pS.length_eq];exact g.h0⟩
 ·obtain ⟨p,hp,rfl⟩:=KQ.mp (pJ.mem_iff.mp ht)
  obtain ⟨m1,m2,ad,_⟩:=g.h5 p hp
  exact ⟨N3 _,N3 _,p.1.1,p.1.2,by show S[((S.idxOf p.1.1:Nat):Int).toNat]?=_;rw [Vl];exact at' _ m1,by show S[((S.idxOf p.1.2:Nat):Int).toNat]?=_;rw [Vl];exact at' _ m2,ad⟩
 ·obtain ⟨p,hp,rfl⟩:=KQ.mp (pJ.mem_iff.mp ht)
  exact (g.h5 p hp).2.2.2
 ·rw [(pJ.map _).nodup_iff,K6]
  have h4:=g.h4
  unfold NM at h4 ⊢
  rw [Xb] at h4 ⊢
  refine List.Pairwise.imp_of_mem (λ{a b} ha hb n e=>n ?_) h4
  have e1:((S.idxOf a.1.1:Nat):Int)=(S.idxOf b.1.1:Nat):=congrArg Prod.fst e
  have e2:((S.idxOf a.1.2:Nat):Int)=(S.idxOf b.1.2:Nat):=congrArg Prod.snd e
  have q1:=at' _ (g.h5 a ha).1
  have q2:=at' _ (g.h5 b hb).1
  have q3:=at' _ (g.h5 a ha).2.1
  have q4:=at' _ (g.h5 b hb).2.1
  rw [show S.idxOf a.1.1=S.idxOf b.1.1 by omega,q2] at q1
  rw [show S.idxOf a.1.2=S.idxOf b.1.2 by omega,q4] at q3
  exact Prod.ext (VY q1).symm (VY q3).symm
noncomputable def eLS (LL:List (List Sp)):Ka:=.list (LL.map λl=>.list (l.map eS))
theorem qfr {LL:List (List Sp)}{i:Int}{x:Sp}{l:List Sp}(h0:0<=i)(e:LL[i.toNat]?=some l)(hl:l.length<1000)(ρ:Rho):kapO (some (eLS LL)) (some (.int i)) (some (eS x)) 1 ρ=some (.nx (ρ.set 1 (some (eLS (LL.set i.toNat (l++[x])))))):=by
 obtain ⟨hlt,he⟩:=Kk.mp e
 have h1:yh (eLS LL) (.int i)=some i.toNat:=by
  show ixN (LL.map _).length i=_
  unfold ixN
  rw [ag h0,ag (by rw [Kf];omega)]
 have h2:qaD (eLS LL) i.toNat=some (.list (l.map eS)):=by
  show (LL.map _)[i.toNat]?=_
  rw [Kw,e];rfl
 have h3:appD (.list (l.map eS)) (eS x)=some (.list ((l++[x]).map eS)):=by
  show (if (l.map eS).length<1000 then some (Vk (l.map eS++[eS x])) else none)=_
  rw [ag (by rw [Kf];exact hl),Kx]
  rfl
 have h4:qaE (eLS LL) i.toNat (.list ((l++[x]).map eS))=eLS (LL.set i.toNat (l++[x])):=by
  show Vk ((LL.map _).set i.toNat _)=_
  unfold eLS
  rw [List.map_set]
 show ob (yh (eLS LL) (.int i)) _=_
 rw [h1,ob_s,h2,ob_s,h3,ob_s,h4]
noncomputable def nrL (S:List Ce)(J:List Sp):List (List Sp):=(KG S.length).map λk:Nat=>J.filterMap (nbF S (k:Int))
theorem qaN {S:List Ce}(J:List Sp){k:Nat}(h:k<S.length):(nrL S J)[k]?=some (J.filterMap (nbF S (k:Int))):=by
 unfold nrL
 rw [Kw,Xk h]
 rfl
theorem qia {S:List Ce}{J:List Sp}{t:Sp}{a b:Ce}(p1:0<=t.1)(p2:0<=t.2.1)(ea:S[t.1.toNat]?=some a)(eb:S[t.2.1.toNat]?=some b)(ne:t.1.toNat≠t.2.1.toNat) :
  ((nrL S J).set t.1.toNat (J.filterMap (nbF S t.1)++[(wy a b,t.2.1,t.2.2)])).set t.2.1.toNat (J.filterMap (nbF S t.2.1)++[(wy a b+2,t.1,t.2.2)])=nrL S (J++[t]):=by
 have l1:=(Kk.mp ea).1
 have l2:=(Kk.mp eb).1
 have len:∀ J:List Sp,(nrL S J).length=S.length:=λJ=>by unfold nrL;rw [Kf,Vh]
 refine Ej λm=>?_
 by_cases hm:m<S.length
 ·rw [qaN _ hm,EY]
  have hn:=Jy (k:=(m:Int)) ea eb
  by_cases e2:t.2.1.toNat=m
  ·subst e2
   have q1:¬ t.1=((t.2.1.toNat:Nat):Int):=by omega
   have q2:t.2.1=((t.2.1.toNat:Nat):Int):=by omega
   rw [ah q1,ag q2] at hn
   rw [Vd (by rw [VM,len];exact hm),V8,hn,U6,← q2]
  ·rw [VS e2]
   by_cases e1:t.1.toNat=m
   ·subst e1
    have q1:t.1=((t.1.toNat:Nat):Int):=by omega
    rw [ag q1] at hn
    rw [Vd (by rw [len];exact hm),V8,hn,U6,← q1]
   ·rw [VS e1,qaN _ hm,V8]
    rw [ah '$',ah '$'] at hn
    rw [hn,U6,VL]
 ·rw [V0 (by rw [VM,VM,len];omega),V0 (by rw [len];omega)]
theorem qlZ {S:List Ce}{J:List Sp}(h:J13 S J):Z7 [.tuple [.list (S.map eC),.list (J.map eS)]]=some (eLS (nrL S J)):=by
 have hv:∀ o1 o2 o3 o4 o5:Option Ka,qal 6 1 (evI (ev2 (vr 0) ')' ixD) seqD) (gNm 6) tT (evA aN lstD) [some (.tuple [.list (S.map eC),.list (J.map eS)]),o1,o2,o3,o4,o5]=some (eLS (nrL S [])):=λo1 o2 o3 o4 o5=>by
  have hc:Qx 1 (gNm 6) tT (evA aN lstD) [some (.tuple [.list (S.map eC),.list (J.map eS)]),o1,o2,o3,o4,o5] (S.map eC)=some (S.map λ_=>.list []) :=
   jt eC _ S λa _=>by simp_arith []
  have hlen:(S.map eC).length<=1000:=by rw [Kf];have:=h.ls;omega
  have hg:ZL 6 1 (evI (ev2 (vr 0) ')' ixD) seqD) (gNm 6) tT (evA aN lstD) [some (.tuple [.list (S.map eC),.list (J.map eS)]),o1,o2,o3,o4,o5]=some (.list (S.map λ_=>.list [])):=by
   simp_arith [hlen,hc]
  show ob (ZL 6 1 (evI (ev2 (vr 0) ')' ixD) seqD) (gNm 6) tT (evA aN lstD) [some (.tuple [.list (S.map eC),.list (J.map eS)]),o1,o2,o3,o4,o5]) _=_
  rw [hg,ob_s]
  show (if (S.map λ_=>Vk []).all qbw=true then some (Vk (S.map λ_=>Vk [])) else none)=_
  rw [ag (by rw [X6];exact K4.mpr λ_ _=>rfl)]
  unfold eLS nrL
  rw [K6]
  refine congrArg (λz=>some (Vk z)) (Ej λm=>?_)
  rw [Kw,Kw]
  by_cases hm:m<S.length
  ·rw [Xk hm,Kl hm];rfl
  ·rw [V0 '$',V0 (by rw [Vh];omega)]
   rfl
 obtain ⟨ρ',e,o2,o3,o4,o5,rfl⟩:=Zz eS (g:=unpD 3 (gsC (gNm 2) (gsC (gNm 3) (gsC (gNm 4) gsN)))) (u:=yU)
  (λdone ρ=>∃ o2 o3 o4 o5:Option Ka,ρ=[some (.tuple [.list (S.map eC),.list (J.map eS)]),some (eLS (nrL S done)),o2,o3,o4,o5]) J [some (.tuple [.list (S.map eC),.list (J.map eS)]),some (eLS (nrL S [])),none,none,none,none] ⟨none,none,none,none,rfl⟩ (by
   rintro t ht done ρ hdl ⟨o2,o3,o4,o5,rfl⟩
   obtain ⟨p1,p2,a,b,ea,eb,ad⟩:=h.ok t ht
   have l1:=(Kk.mp ea).1
   have l2:=(Kk.mp eb).1
   have ne:t.1.toNat≠t.2.1.toNat:=λz=>by rw [z,eb] at ea;exact qgY ad (VY ea).symm
   have x1:atI (S.map eC) t.1=some (eC a):=QG p1 ea
   have x2:atI (S.map eC) t.2.1=some (eC b):=QG p2 eb
   have hu:unpD 3 (gsC (gNm 2) (gsC (gNm 3) (gsC (gNm 4) gsN))) (eS t) [some (.tuple [.list (S.map eC),.list (J.map eS)]),some (eLS (nrL S done)),o2,o3,o4,o5]=some [some (.tuple [.list (S.map eC),.list (J.map eS)]),some (eLS (nrL S done)),some (.int t.1),some (.int t.2.1),some (.int t.2.2),o5]:=rfl
   rw [hu,ob_s]
   have fl:∀ k:Int,(done.filterMap (nbF S k)).length<1000:=λk=>by have:=Xj (nbF S k) done;have:=h.lj;omega
   have way:(if (a.1==b.1)=true then (1:Int) else 0)=wy a b:=by
    unfold wy
    obtain ⟨x,y⟩:=a
    rcases ad with rfl|rfl
    ·simp;omega
    ·simp;omega
   have g1:(nrL S done)[t.1.toNat]?=some (done.filterMap (nbF S t.1)):=by
    have:=qaN (S:=S) done l1
    rwa [show ((t.1.toNat:Nat):Int)=t.1 by omega] at this
   have g2:((nrL S done).set t.1.toNat (done.filterMap (nbF S t.1)++[(wy a b,t.2.1,t.2.2)]))[t.2.1.toNat]?=some (done.filterMap (nbF S t.2.1)):=by
    rw [VS ne]
    have:=qaN (S:=S) done l2
    rwa [show ((t.2.1.toNat:Nat):Int)=t.2.1 by omega] at this
   have k1:=λρ=>qfr (x:=(wy a b,t.2.1,t.2.2)) p1 g1 (fl _) ρ
   have k2:=λρ=>qfr (x:=(wy a b+2,t.1,t.2.2)) p2 g2 (fl _) ρ
   rw [qia p1 p2 ea eb ne] at k2
   have s1:Vi [.int (wy a b),.int t.2.1,.int t.2.2]=eS (wy a b,t.2.1,t.2.2):=rfl
   have s2:Vi [.int (wy a b+2),.int t.1,.int t.2.2]=eS (wy a b+2,t.1,t.2.2):=rfl
   refine ⟨_,?_,some (.int t.1),some (.int t.2.1),some (.int t.2.2),some (.int (wy a b)),rfl⟩
   simp_arith [x1,x2,ixc0,qd2,way,s1,k1,s2,k2])
 simp only [Z7,yC]
 have hl:(1:Nat)<6:=by decide
 simp_arith [hv,e]
theorem qcT {a b:Ce}(h:Adj a b)(h':Adj b a):False:=by
 obtain ⟨x,y⟩:=a
 obtain ⟨x',y'⟩:=b
 rcases h with h|h<;>rcases h' with h'|h'<;>simp at h h'<;>omega
theorem qk0 {S:List Ce}{J:List Sp}(h:J13 S J)(k:Int):((J.filterMap (nbF S k)).map (·.2.1)).Nodup:=by
 unfold NM
 rw [Xb,List.pairwise_filterMap]
 have un:=h.un
 unfold NM at un
 rw [Xb] at un
 refine List.Pairwise.imp_of_mem (λ{t t'} ht ht' ne s hs s' hs' e=>?_) un
 obtain ⟨p1,p2,a,b,ea,eb,ad⟩:=h.ok t ht
 obtain ⟨p1',p2',a',b',ea',eb',ad'⟩:=h.ok t' ht'
 rw [Jy ea eb] at hs
 rw [Jy ea' eb'] at hs'
 split at hs
 ·rename_i k1
  cases hs
  split at hs'
  ·rename_i k2
   cases hs'
   exact ne (Prod.ext (k1.trans k2.symm) e)
  ·split at hs'
   ·rename_i k2
    cases hs'
    have e:t.2.1=t'.1:=e
    rw [← e,eb] at ea'
    rw [k2,← k1,ea] at eb'
    cases ea'
    cases eb'
    exact qcT ad ad'
   ·cases hs'
 ·split at hs
  ·rename_i k1
   cases hs
   split at hs'
   ·rename_i k2
    cases hs'
    have e:t.1=t'.2.1:=e
    rw [← e,ea] at eb'
    rw [k2,← k1,eb] at ea'
    cases ea'
    cases eb'
    exact qcT ad ad'
   ·split at hs'
    ·rename_i k2
     cases hs'
     exact ne (Prod.ext e (k1.trans k2.symm))
    ·cases hs'
  ·cases hs
noncomputable def kC3 (c:Ce):KX:=.inr [.inl c.1,.inl c.2]
noncomputable def eW (ws:List (Ce×Ce)):List (Ka×PyData):=ws.map λp=>(eC p.1,eC p.2)
theorem qhN (ws:List (Ce×Ce))(c:Ce):kOk (eW ws) (kC3 c)=true:=by
 unfold kOk eW
 rw [X6]
 exact K4.mpr λp _=>rfl
theorem qb9 (c:Ce):∀ ws:List (Ce×Ce),zB (eW ws) (kC3 c)=(ws.find? λp=>decide (p.1=c)).map λp=>eC p.2
 | []=>rfl
 | p::ws=>by
  have ih:=qb9 c ws
  have kk:kxD (kC3 c)=eC c:=rfl
  unfold zB eW at *
  rw [Kt,VB,VB,kk,wU]
  rw [kk] at ih
  by_cases h:p.1=c
  ·rw [ae h];rfl
  ·rw [ab h];exact ih
theorem qjq {ws:List (Ce×Ce)}{q:Ce}(v:Ce)(hl:ws.length<900)(h:∀ p∈ws,p.1≠q):YQ (.dict (eW ws)) (eC q) (eC v)=some (.dict (eW (ws++[(q,v)]))):=by
 have hf:zB (eW ws) (kC3 q)=none:=by
  rw [qb9,Xx.mpr λp hp=>by simp only [aD];exact h p hp]
  rfl
 show ob (kxOf (eC q)) (λks=>if kOk (eW ws) ks=true/\(eW ws).length<1000 then some (ER (putD (eW ws) ks (eC v))) else none)=_
 rw [show kxOf (eC q)=some (kC3 q) from rfl,ob_s,ag ⟨qhN _ _,by unfold eW;rw [Kf];omega⟩]
 unfold putD
 rw [hf,ah '#',show kxD (kC3 q)=eC q from rfl]
 unfold eW
 rw [Kx]
 rfl
structure W13 (S:List Ce)(J:List Sp)(m:Nat)(W:List (Ce×Ce)):Prop where
 nd:(W.map (·.1)).Nodup
 len:W.length<=m*26
 iff:∀ p,p∈W↔0<=p.1.1/\p.1.1<(m:Int)/\∃ s∈J.filterMap (nbF S p.1.1),p=((p.1.1,s.2.1),(s.1,s.2.2))
theorem key13 {W:List (Ce×Ce)}(nd:(W.map (·.1)).Nodup){p q:Ce×Ce}(hp:p∈W)(hq:q∈W)(e:p.1=q.1):p=q:=by
 unfold NM at nd
 rw [Xb] at nd
 by_cases h:p=q
 ·exact h
 ·induction W with
  | nil=>cases hp
  | cons x W ih =>
   rw [List.pairwise_cons] at nd
   rcases Kr.mp hp with z|hp'
   ·rcases Kr.mp hq with z'|hq'
    ·exact z.trans z'.symm
    ·exact absurd e (by rw [z];exact nd.1 q hq')
   ·rcases Kr.mp hq with z'|hq'
    ·exact absurd e.symm (by rw [z'];exact nd.1 p hp')
    ·exact ih nd.2 hp' hq'
theorem yZ {S:List Ce}{J:List Sp}(h:J13 S J){a:Int}{s:Sp}(hs:s∈J.filterMap (nbF S a)):(0<=a/\a<(S.length:Int))/\0<=s.2.1/\s.2.1<(S.length:Int):=by
 obtain ⟨t,ht,hs⟩:=UH.mp hs
 obtain ⟨p1,p2,a',b',ea,eb,ad⟩:=h.ok t ht
 have l1:=(Kk.mp ea).1
 have l2:=(Kk.mp eb).1
 rw [Jy ea eb] at hs
 split at hs
 ·rename_i k1
  cases hs
  exact ⟨by omega,p2,by show t.2.1<_;omega⟩
 ·split at hs
  ·rename_i k1
   cases hs
   exact ⟨by omega,p1,by show t.1<_;omega⟩
  ·cases hs
theorem qjF {S:List Ce}{J:List Sp}(h:J13 S J){m:Nat}(hm:m<S.length){W:List (Ce×Ce)}(w:W13 S J m W)(d0:Ka){ys:List Sp}(py:ys.Perm (J.filterMap (nbF S (m:Int))))(o3 o4 o5:Option Ka) :
  ∃ (W':List (Ce×Ce)) (r3 r4 r5:Option Ka),forD (unpD 3 (gsC (gNm 3) (gsC (gNm 4) (gsC (gNm 5) gsN)))) Jq (ys.map eS) [some d0,some (.dict (eW W)),some (.int (m:Nat)),o3,o4,o5]=some (.nx [some d0,some (.dict (eW W')),some (.int (m:Nat)),r3,r4,r5])/\W13 S J (m+1) W':=by
 have un:=(py.map (·.2.1)).nodup_iff.mpr (qk0 h (m:Int))
 have ly:ys.length<=26:=by
  have sub:(ys.map (·.2.1)).length<=((KG S.length).map λk:Nat=>(k:Int)).length:=List.Nodup.length_le_of_subset un λx hx=>by
   obtain ⟨s,hs,rfl⟩:=KQ.mp hx
   obtain ⟨_,a,b⟩:=yZ h (py.mem_iff.mp hs)
   exact KQ.mpr ⟨s.2.1.toNat,UT.mpr '$',by omega⟩
  rw [Kf,Kf,Vh] at sub
  exact Vg sub h.ls
 have wm:m*26<=25*26:=Nat.mul_le_mul_right _ (by have:=h.ls;omega)
 obtain ⟨ρ',e,r3,r4,r5,rfl⟩:=YX eS (g:=unpD 3 (gsC (gNm 3) (gsC (gNm 4) (gsC (gNm 5) gsN)))) (u:=Jq)
  (λdone ρ=>∃ o3 o4 o5:Option Ka,ρ=[some d0,some (.dict (eW (W++done.map λs=>(((m:Nat):Int),s.2.1,s.1,s.2.2) |> λz=>((z.1,z.2.1),z.2.2)))),some (.int (m:Nat)),o3,o4,o5]) ys [some d0,some (.dict (eW W)),some (.int (m:Nat)),o3,o4,o5] ⟨o3,o4,o5,by simp⟩ (by
   rintro t done rest ρ eall ⟨o3,o4,o5,rfl⟩
   have hu:unpD 3 (gsC (gNm 3) (gsC (gNm 4) (gsC (gNm 5) gsN))) (eS t) [some d0,some (.dict (eW (W++done.map λs=>(((m:Nat):Int),s.2.1,s.1,s.2.2) |> λz=>((z.1,z.2.1),z.2.2)))),some (.int (m:Nat)),o3,o4,o5]=some [some d0,some (.dict (eW (W++done.map λs=>(((m:Nat):Int),s.2.1,s.1,s.2.2) |> λz=>((z.1,z.2.1),z.2.2)))),some (.int (m:Nat)),some (.int t.1),some (.int t.2.1),some (.int t.2.2)]:=rfl
   rw [hu,ob_s]
   have dl:done.length<=26:=by rw [eall] at ly;simp at ly;omega
   have fr:∀ p∈W++done.map (λs=>(((m:Nat):Int),s.2.1,s.1,s.2.2) |> λz=>((z.1,z.2.1),z.2.2)),p.1≠(((m:Nat):Int),t.2.1):=λp hp z=>by
    rcases K8.mp hp with q|q
    ·have:=((w.iff p).mp q).2.1
     rw [z] at this
     exact absurd this (by dsimp only;omega)
    ·obtain ⟨s,hs,rfl⟩:=KQ.mp q
     have e2:s.2.1=t.2.1:=congrArg Prod.snd z
     rw [eall,Kx] at un
     exact (UQ.mp un).2.2 s.2.1 (KQ.mpr ⟨s,hs,rfl⟩) t.2.1 (by simp) e2
   have dp:=qjq (t.1,t.2.2) (by rw [Km,Kf];have:=w.len;omega) fr
   have s1:Vi [.int ((m:Nat):Int),.int t.2.1]=eC (((m:Nat):Int),t.2.1):=rfl
   have s2:Vi [.int t.1,.int t.2.2]=eC (t.1,t.2.2):=rfl
   refine ⟨_,?_,some (.int t.1),some (.int t.2.1),some (.int t.2.2),rfl⟩
   simp_arith [s1,s2,dp]
   rw [Kx,Ux]
   rfl)
 refine ⟨_,r3,r4,r5,e,?_,?_,λp=>?_⟩
 ·rw [Kx,UQ]
  refine ⟨w.nd,?_,λa ha b hb z=>?_⟩
  ·rw [K6]
   unfold NM at un ⊢
   rw [Xb] at un ⊢
   exact un.imp λn z=>n (congrArg Prod.snd z)
  ·obtain ⟨p,hp,rfl⟩:=KQ.mp ha
   obtain ⟨q,hq,rfl⟩:=KQ.mp hb
   obtain ⟨s,hs,rfl⟩:=KQ.mp hq
   have:=((w.iff p).mp hp).2.1
   rw [z] at this
   exact absurd this (by dsimp only;omega)
 ·rw [Km,Kf]
  have:=w.len
  omega
 ·rw [K8,w.iff p]
  constructor
  ·rintro (⟨a,b,c⟩|q)
   ·exact ⟨a,by omega,c⟩
   ·obtain ⟨s,hs,rfl⟩:=KQ.mp q
    exact ⟨N3 _,by dsimp only;omega,s,py.mem_iff.mp hs,rfl⟩
  ·rintro ⟨a,b,s,hs,c⟩
   by_cases hb:p.1.1<(m:Int)
   ·exact .inl ⟨a,hb,s,hs,c⟩
   ·have ep:p.1.1=(m:Int):=by omega
    rw [ep] at hs c
    exact .inr (KQ.mpr ⟨s,py.mem_iff.mpr hs,c.symm⟩)
theorem qkF {S:List Ce}{J:List Sp}(h:J13 S J):∃ W:List (Ce×Ce),ZS [.tuple [.list (S.map eC),.list (J.map eS)]]=some (.dict (eW W))/\W13 S J S.length W:=by
 obtain ⟨ρ',e,W,o2,o3,o4,o5,rfl,w⟩:=YX (λk:Nat=>Kj (k:Nat)) (g:=gNm 2) (u:=YD)
  (λdone ρ=>∃ (W:List (Ce×Ce)) (o2 o3 o4 o5:Option Ka),ρ=[some (.tuple [.list (S.map eC),.list (J.map eS)]),some (.dict (eW W)),o2,o3,o4,o5]/\W13 S J done.length W) (KG S.length) [some (.tuple [.list (S.map eC),.list (J.map eS)]),some (.dict []),none,none,none,none]
  ⟨[],none,none,none,none,rfl,X7,Vj _,λp=>⟨λz=>(nomatch z),λ⟨a,b,_⟩=>absurd b (by simp;omega)⟩⟩ (by
   rintro k done rest ρ eall ⟨W,o2,o3,o4,o5,rfl,w⟩
   have hlt:done.length<S.length:=by
    have:=congrArg Xy eall
    simp at this
    omega
   have hk:k=done.length:=by
    have h2:(KG S.length)[done.length]?=(done++k::rest)[done.length]?:=by rw [← eall]
    rw [Xk hlt,Vb (Kq _),XE] at h2
    exact (VY h2).symm
   subst hk
   obtain ⟨ys,es,py,_⟩:=qbO (xs:=J.filterMap (nbF S ((done.length:Nat):Int))) (by have:=Xj (nbF S ((done.length:Nat):Int)) J;have:=h.lj;omega)
   have nb:=qlY h.ok (by have:=h.lj;omega) es
   obtain ⟨W',o3',o4',o5',e,w'⟩:=qjF h hlt w (.tuple [.list (S.map eC),.list (J.map eS)]) py o3 o4 o5
   refine ⟨_,?_,W',some (.int (done.length:Nat)),o3',o4',o5',rfl,by rw [Km,Ku];exact w'⟩
   simp_arith [-L2.jd,-L2.qcb,nb,e])
 rw [Vh] at w
 refine ⟨W,?_,w⟩
 have hr:(if (-1000:Int)<=(((S.map eC).length:Nat):Int)/\(((S.map eC).length:Nat):Int)<=1000 then some (rngL 0 ((((S.map eC).length:Nat):Int)).toNat) else none)=some ((KG S.length).map λk:Nat=>Kj (k:Nat)):=by
  rw [Kf,ag (by have:=h.ls;omega),Vl,yt]
 simp only [ZS,Ys]
 simp_arith [hr,e]
noncomputable def lk13 (S:List Ce)(J:List Sp)(a b:Int):Option Sp:=(J.filterMap (nbF S a)).find? λs=>decide (s.2.1=b)
theorem qlv {S:List Ce}{J:List Sp}{W:List (Ce×Ce)}(h:J13 S J)(w:W13 S J S.length W){a b:Int}:zB (eW W) (kC3 (a,b))=(lk13 S J a b).map λs=>eC (s.1,s.2.2):=by
 rw [qb9]
 cases hl:lk13 S J a b with
 | none =>
  rw [Xx.mpr λp hp=>?_]
  ·rfl
  ·simp only [aD]
   intro z
   obtain ⟨_,_,s,hs,c⟩:=(w.iff p).mp hp
   unfold lk13 at hl
   rw [Xx] at hl
   have e1:p.1.1=a:=by rw [z]
   rw [e1] at hs
   have e2:s.2.1=b:=by
    have:p.1.2=b:=by rw [z]
    rw [c] at this
    exact this
   exact hl s hs (ae e2)
 | some s =>
  have hl':(J.filterMap (nbF S a)).find? (λs=>decide (s.2.1=b))=some s:=hl
  have hs:=UL hl'
  have hb:s.2.1=b:=by have z:=NK hl';exact ao z
  have av:=(yZ h hs).1
  have mem:((a,b),(s.1,s.2.2))∈W:=(w.iff _).mpr ⟨av.1,av.2,s,hs,by rw [hb]⟩
  cases hf:W.find? λp=>decide (p.1=(a,b)) with
  | none =>
   rw [Xx] at hf
   exact absurd (ae rfl) (hf _ mem)
  | some p =>
   have hp:=UL hf
   have e:p.1=(a,b):=by have z:=NK hf;exact ao z
   rw [key13 w.nd hp mem e]
   rfl
theorem ix13 {S:List Ce}{J:List Sp}{W:List (Ce×Ce)}(h:J13 S J)(w:W13 S J S.length W){a b:Int}{s:Sp}(hl:lk13 S J a b=some s):ix2D (.dict (eW W)) (eC (a,b))=some (eC (s.1,s.2.2)):=by
 show ob (kxOf (eC (a,b))) (λks=>if kOk (eW W) ks=true then zB (eW W) ks else none)=_
 rw [show kxOf (eC (a,b))=some (kC3 (a,b)) from rfl,ob_s,ag (qhN _ _),qlv h w,hl]
 rfl
noncomputable def Q3 (S:List Ce)(J:List Sp):List Ce->Nat->Sp3->Tr->Nat ⊕ (Sp3×Tr)
 | [],_,x,t=>.inr (x,t)
 | p::ps,n,x,t=>match lk13 S J p.1 p.2 with
  | none=>.inl n
  | some s=>Q3 S J ps (n+1) (spV x t s.1 s.2.2) (stV t s.1 s.2.2)
theorem yl {S:List Ce}{J:List Sp}(h:J13 S J){a b:Int}{s:Sp}(e:lk13 S J a b=some s):s.1∈Q7/\s.2.2∈zF:=by
 have e':(J.filterMap (nbF S a)).find? (λs=>decide (s.2.1=b))=some s:=e
 obtain ⟨t,ht,hs⟩:=UH.mp (UL e')
 obtain ⟨p1,p2,a',b',ea,eb,ad⟩:=h.ok t ht
 have hb:=h.bd t ht
 rw [Jy ea eb] at hs
 have w:wy a' b'=0\/wy a' b'=1:=by unfold wy;split<;>simp
 split at hs
 ·cases hs
  exact ⟨by rcases w with w|w<;>rw [show (wy a' b',t.2.1,t.2.2).1=wy a' b' from rfl,w]<;>decide,hb⟩
 ·split at hs
  ·cases hs
   exact ⟨by rcases w with w|w<;>rw [show (wy a' b'+2,t.1,t.2.2).1=wy a' b'+2 from rfl,w]<;>decide,hb⟩
  ·cases hs
theorem qjz (x:Sp3)(t:Tr):flat (encP x t)=true:=rfl
theorem nr_ix {S:List Ce}{J:List Sp}{k:Int}(h0:0<=k)(h1:k<(S.length:Int)):ixD (eLS (nrL S J)) (.int k)=some (.list ((J.filterMap (nbF S k)).map eS)):=by
 have e:=qaN (S:=S) J (k:=k.toNat) '$'
 rw [show ((k.toNat:Nat):Int)=k by omega] at e
 exact QG h0 e
theorem qfw {S:List Ce}{J:List Sp}(h:J13 S J){ks:List Int}(hk:∀ k∈ks,0<=k/\k<(S.length:Int)):∀ (m n:Nat) (x:Sp3) (t:Tr) (o3 o4:Option Ka),n+m+1=ks.length->Tn t->
  match Q3 S J ((ks.zip (ks.drop 1)).drop n) n x t with
  | .inr r=>∃ r3 r4:Option Ka,forD (gNm 3) zL (rngL (n:Nat) m) [some (eLS (nrL S J)),some (.list (ks.map .int)),some (encP x t),o3,o4]=some (.nx [some (eLS (nrL S J)),some (.list (ks.map .int)),some (encP r.1 r.2),r3,r4])
  | .inl j=>forD (gNm 3) zL (rngL (n:Nat) m) [some (eLS (nrL S J)),some (.list (ks.map .int)),some (encP x t),o3,o4]=some (.rt (.int (j:Nat)))
 | 0,n,x,t,o3,o4,hn,ht=>by
  have e:(ks.zip (ks.drop 1)).drop n=[]:=List.drop_of_length_le (by rw [NI,XI];omega)
  rw [e]
  exact ⟨o3,o4,rfl⟩
 | m+1,n,x,t,o3,o4,hn,ht=>by
  obtain ⟨a,ea⟩:∃ a,ks[n]?=some a:=⟨_,Kl '$'⟩
  obtain ⟨b,eb⟩:∃ b,ks[n+1]?=some b:=⟨_,Kl '$'⟩
  obtain ⟨a0,a1⟩:=hk a (KN ea)
  have hz:(ks.zip (ks.drop 1))[n]?=some (a,b):=XU.mpr ⟨ea,by rw [List.getElem?_drop,Fh 1];exact eb⟩
  obtain ⟨hlt,he⟩:=Kk.mp hz
  rw [VT hlt,he]
  have x1:atI (ks.map Kj) ((n:Nat):Int)=some (.int a):=WN (by rw [Kw,ea];rfl)
  have x2:atI (ks.map Kj) (((n:Nat):Int)+1)=some (.int b):=WN (j:=n+1) (by rw [Kw,eb];rfl)
  have nx:=nr_ix (J:=J) a0 a1
  have hc:QR (tV (ev2 (ev2 (vr 5) (kd (.int 1)) ixD) (ev2 (vr 1) (ev2 (vr 3) (kd (.int 1)) Qq) ixD) eqD)) (vr 5) [some (eLS (nrL S J)),some (.list (ks.map .int)),some (encP x t),some (.int (n:Nat)),o4] ((J.filterMap (nbF S a)).map eS)=some (((J.filterMap (nbF S a)).filter λs=>decide (s.2.1=b)).map eS) :=
   Jg eS (λs=>decide (s.2.1=b)) eS _ (λs _=>by simp_arith [ixe1,x2];rfl) (λs _ _=>rfl)
  have hlen:((J.filterMap (nbF S a)).map eS).length<=1000:=by rw [Kf];have:=Xj (nbF S a) J;have:=h.lj;omega
  have hd:((J.filterMap (nbF S a)).filter λs=>decide (s.2.1=b)).head?=lk13 S J a b:=List.head?_filter ..
  have rn:rngL (n:Nat) (m+1)=.int (n:Nat)::rngL ((n+1:Nat):Int) m:=rfl
  unfold Q3
  generalize hF:((J.filterMap (nbF S a)).filter λs=>decide (s.2.1=b))=F at hc hd
  cases F with
  | nil =>
   rw [← hd]
   dsimp only [List.head?_nil]
   have hb:zL [some (eLS (nrL S J)),some (.list (ks.map .int)),some (encP x t),some (.int (n:Nat)),o4]=some (.rt (.int (n:Nat))):=by
    simp_arith [x1,nx,hlen,hc]
   rw [rn,jd]
   show forO (zL [some (eLS (nrL S J)),some (.list (ks.map .int)),some (encP x t),some (.int (n:Nat)),o4]) _ _ _=_
   rw [hb,qfk]
  | cons s F =>
   rw [← hd]
   dsimp only [List.head?_cons]
   obtain ⟨hw,hbd⟩:=yl h hd.symm
   have le:=lledE x ht hw hbd
   have ih:=qfw h hk m (n+1) (spV x t s.1 s.2.2) (stV t s.1 s.2.2) (some (.int (n:Nat))) (some (.list ((s::F).map eS))) '$' (Tn.of (qiN t ht.mem s.1 hw s.2.2 hbd))
   have hb:zL [some (eLS (nrL S J)),some (.list (ks.map .int)),some (encP x t),some (.int (n:Nat)),o4]=some (.nx [some (eLS (nrL S J)),some (.list (ks.map .int)),some (encP (spV x t s.1 s.2.2) (stV t s.1 s.2.2)),some (.int (n:Nat)),some (.list ((s::F).map eS))]):=by
    have l0:((((F.map eS).length+1:Nat):Int)==0)=false:=ar.mpr '$'
    simp_arith [x1,nx,hlen,hc,l0,ixe0,ixe2,le,qjz]
   rw [rn,jd]
   show (match Q3 S J ((ks.zip (ks.drop 1)).drop (n+1)) (n+1) (spV x t s.1 s.2.2) (stV t s.1 s.2.2) with
    | .inr r=>∃ r3 r4:Option Ka,forO (zL [some (eLS (nrL S J)),some (.list (ks.map .int)),some (encP x t),some (.int (n:Nat)),o4]) _ _ _=_
    | .inl j=>forO (zL [some (eLS (nrL S J)),some (.list (ks.map .int)),some (encP x t),some (.int (n:Nat)),o4]) _ _ _=_)
   rw [hb,yN]
   exact ih
noncomputable def due13:Nat ⊕ (Sp3×Tr)->Ka
 | .inl j=>.int (j:Nat)
 | .inr r=>encP r.1 r.2
theorem qgv {S:List Ce}{J:List Sp}(h:J13 S J){ks:List Int}(hk:∀ k∈ks,0<=k/\k<(S.length:Int))(h0:0<ks.length)(hl:ks.length<=90)(x:Sp3){t:Tr}(ht:Tn t) :
  QB [eLS (nrL S J),.list (ks.map .int),encP x t]=some (due13 (Q3 S J (ks.zip (ks.drop 1)) 0 x t)):=by
 have lp:=qfw h hk (ks.length-1) 0 x t none none '$' ht
 rw [List.drop_zero] at lp
 have hr:(if (-1000:Int)<=(((ks.map Kj).length:Nat):Int)-1/\(((ks.map Kj).length:Nat):Int)-1<=1000 then some (rngL 0 ((((ks.map Kj).length:Nat):Int)-1).toNat) else none)=some (rngL ((0:Nat):Int) (ks.length-1)):=by
  rw [Kf,ag '$',show ((ks.length:Int)-1).toNat=ks.length-1 by omega]
  rfl
 simp only [QB,Ja]
 cases hw:Q3 S J (ks.zip (ks.drop 1)) 0 x t with
 | inr r =>
  rw [hw] at lp
  dsimp only at lp
  obtain ⟨r3,r4,e⟩:=lp
  rw [Int.natCast_zero] at e hr
  simp_arith [-L2.rngL,hr,e]
  rfl
 | inl j =>
  rw [hw] at lp
  dsimp only at lp
  rw [Int.natCast_zero] at lp hr
  simp_arith [-L2.rngL,hr,lp]
  rfl
noncomputable def eLn (l:List Int):Ka:=.list (l.map .int)
noncomputable def eL (LL:List (List Int)):Ka:=.list (LL.map eLn)
def In (LL:List (List Int))(i x:Int):Prop:=∃ l,LL[i.toNat]?=some l/\x∈l
structure Lk (n m:Nat)(LL:List (List Int)):Prop where
 len:LL.length=n
 bd:∀ l∈LL,l.length<=m/\∀ x∈l,0<=x/\x<(n:Int)
theorem Lk.at {n m:Nat}{LL:List (List Int)}(h:Lk n m LL){i:Int}(h0:0<=i)(h1:i<(n:Int)):∃ l,LL[i.toNat]?=some l/\l∈LL:=by
 have hlt:i.toNat<LL.length:=by rw [h.len];omega
 exact ⟨LL[i.toNat],Kl hlt,XM hlt⟩
theorem Lk.add {n m:Nat}{LL:List (List Int)}(h:Lk n m LL){i x:Int}{l:List Int}(h0:0<=i)(e:LL[i.toNat]?=some l)(x0:0<=x)(x1:x<(n:Int)) :
  Lk n (m+1) (LL.set i.toNat (l++[x]))/\In (LL.set i.toNat (l++[x])) i x/\∀ j y,In LL j y->In (LL.set i.toNat (l++[x])) j y:=by
 obtain ⟨hlt,hl⟩:=Kk.mp e
 refine ⟨⟨by rw [VM];exact h.len,λq hq=>?_⟩,⟨l++[x],by rw [Vd hlt],by simp⟩,λj y ⟨q,hq,hy⟩=>?_⟩
 ·rcases List.mem_or_eq_of_mem_set hq with z|rfl
  ·exact ⟨Nc (h.bd q z).1,(h.bd q z).2⟩
  ·have hb:=h.bd l (by rw [← hl];exact XM hlt)
   refine ⟨by rw [Km,Ku];omega,λy hy=>?_⟩
   rcases K8.mp hy with z|z
   ·exact hb.2 y z
   ·rw [Ky.mp z];exact ⟨x0,x1⟩
 ·by_cases hj:i.toNat=j.toNat
  ·rw [← hj,e] at hq
   cases hq
   exact ⟨l++[x],by rw [← hj,Vd hlt],Va _ hy⟩
  ·exact ⟨q,by rw [VS hj];exact hq,hy⟩
theorem qcl {LL:List (List Int)}{i x:Int}{l:List Int}(h0:0<=i)(e:LL[i.toNat]?=some l)(hl:l.length<1000)(ρ:Rho):kapO (some (eL LL)) (some (.int i)) (some (.int x)) 2 ρ=some (.nx (ρ.set 2 (some (eL (LL.set i.toNat (l++[x])))))):=by
 obtain ⟨hlt,he⟩:=Kk.mp e
 have h1:yh (eL LL) (.int i)=some i.toNat:=by
  show ixN (LL.map eLn).length i=_
  unfold ixN
  rw [ag h0,ag (by rw [Kf];omega)]
 have h2:qaD (eL LL) i.toNat=some (eLn l):=by
  show (LL.map eLn)[i.toNat]?=_
  rw [Kw,e];rfl
 have h3:appD (eLn l) (.int x)=some (eLn (l++[x])):=by
  show (if (l.map Kj).length<1000 then some (Vk (l.map Kj++[.int x])) else none)=_
  rw [ag (by rw [Kf];exact hl)]
  unfold eLn
  rw [Kx]
  rfl
 have h4:qaE (eL LL) i.toNat (eLn (l++[x]))=eL (LL.set i.toNat (l++[x])):=by
  show Vk ((LL.map eLn).set i.toNat (eLn (l++[x])))=_
  unfold eL
  rw [List.map_set]
 show ob (yh (eL LL) (.int i)) _=_
 rw [h1,ob_s,h2,ob_s,h3,ob_s,h4]
theorem links6 {n:Nat}(hn:n<=100){J:List Sp}(hJ:∀ t∈J,(0<=t.1/\t.1<(n:Int))/\0<=t.2.1/\t.2.1<(n:Int))(hl:J.length<=100):∃ LL:List (List Int),QW [.int (n:Nat),.list (J.map eS)]=some (eL LL)/\Lk n 900 LL/\∀ t∈J,In LL t.1 t.2.1/\In LL t.2.1 t.1:=by
 have hv:∀ o1 o2 o3:Option Ka,qal 4 1 (evR (aC (vr 0) aN) Q0) (gNm 4) tT (evA aN lstD) [some (.int (n:Nat)),o1,o2,o3]=some (eL ((KG n).map λ_=>[])):=λo1 o2 o3=>by
  have hc:Qx 1 (gNm 4) tT (evA aN lstD) [some (.int (n:Nat)),o1,o2,o3] ((KG n).map λk:Nat=>Kj (k:Nat))=some ((KG n).map λ_=>.list []) :=
   jt (λk:Nat=>Kj (k:Nat)) _ (KG n) λa _=>by simp_arith []
  have hr:(if (-1000:Int)<=((n:Nat):Int)/\((n:Nat):Int)<=1000 then some (rngL 0 (((n:Nat):Int)).toNat) else none)=some ((KG n).map λk:Nat=>Kj (k:Nat)):=by
   rw [ag '$',Vl,yt]
  have hlen:((KG n).map λk:Nat=>Kj (k:Nat)).length<=1000:=by rw [Kf,Vh];omega
  have hg:ZL 4 1 (evR (aC (vr 0) aN) Q0) (gNm 4) tT (evA aN lstD) [some (.int (n:Nat)),o1,o2,o3]=some (.list ((KG n).map λ_=>.list [])):=by
   simp_arith [hr,hlen,hc]
  show ob (ZL 4 1 (evR (aC (vr 0) aN) Q0) (gNm 4) tT (evA aN lstD) [some (.int (n:Nat)),o1,o2,o3]) _=_
  rw [hg,ob_s]
  show (if ((KG n).map λ_=>Vk []).all qbw=true then some (Vk ((KG n).map λ_=>Vk [])) else none)=_
  rw [ag (by rw [X6];exact K4.mpr λ_ _=>rfl)]
  unfold eL
  rw [K6]
  rfl
 obtain ⟨ρ',el,LL,o3,rfl,lk,hin⟩:=Zz eS (g:=gNm 3) (u:=Jp)
  (λdone ρ=>∃ (LL:List (List Int)) (o3:Option Ka),ρ=[some (.int (n:Nat)),some (.list (J.map eS)),some (eL LL),o3]/\Lk n (2*done.length) LL/\∀ t∈done,In LL t.1 t.2.1/\In LL t.2.1 t.1) J [some (.int (n:Nat)),some (.list (J.map eS)),some (eL ((KG n).map λ_=>[])),none] ⟨_,none,rfl,⟨by rw [Kf,Vh],λl hl=>by obtain ⟨_,_,rfl⟩:=KQ.mp hl;exact ⟨Vj _,λx hx=>by cases hx⟩⟩,λt ht=>by cases ht⟩ (by
   rintro t ht done ρ hdl ⟨LL,o3,rfl,lk,hin⟩
   obtain ⟨⟨a0,a1⟩,b0,b1⟩:=hJ t ht
   obtain ⟨l,e1,ml⟩:=lk.at a0 a1
   have hl1:=(lk.bd l ml).1
   obtain ⟨lk2,in2,mono2⟩:=lk.add a0 e1 b0 b1
   obtain ⟨l2,e2,ml2⟩:=lk2.at b0 b1
   have hl2:=(lk2.bd l2 ml2).1
   obtain ⟨lk3,in3,mono3⟩:=lk2.add b0 e2 a0 a1
   have k1:=qcl (x:=t.2.1) a0 e1 '$'
   have k2:=qcl (x:=t.1) b0 e2 '$'
   refine ⟨_,?_,_,some (eS t),rfl,by rw [Km,Ku];exact lk3,λs hs=>?_⟩
   ·simp_arith [ixe0,ixe1,k1,k2]
   ·rcases K8.mp hs with z|z
    ·exact ⟨mono3 _ _ (mono2 _ _ (hin s z).1),mono3 _ _ (mono2 _ _ (hin s z).2)⟩
    ·rw [Ky.mp z]
     exact ⟨mono3 _ _ in2,in3⟩)
 refine ⟨LL,?_,⟨lk.len,λl h=>⟨by have:=(lk.bd l h).1;omega,(lk.bd l h).2⟩⟩,hin⟩
 simp only [QW,JK]
 simp_arith [hv,el]
theorem Yt {t:Rho->Option Bool}{body:Rho->Option Out}(I:Nat->Rho->Prop)(step:∀ m ρ,I m ρ->t ρ=some false\/(t ρ=some true/\∃ ρ' m',body ρ=some (.nx ρ')/\m'<m/\I m' ρ')) :
  ∀ (fuel m:Nat) (ρ:Rho),m<fuel->I m ρ->∃ ρ' m',Jc t body fuel ρ=some (.nx ρ')/\I m' ρ'/\t ρ'=some false
 | 0,_,_,h,_=>absurd h (U9 _)
 | fuel+1,m,ρ,h,i=>by
  rcases step m ρ i with e|⟨e,ρ1,m1,e1,hm,i1⟩
  ·refine ⟨ρ,m,?_,i,e⟩
   show ob (t ρ) _=_
   rw [e];rfl
  ·obtain ⟨ρ2,m2,e2,i2,e3⟩:=Yt I step fuel m1 ρ1 '$' i1
   refine ⟨ρ2,m2,?_,i2,e3⟩
   show ob (t ρ) _=_
   rw [e,ob_s,ag rfl,e1,ob_s]
   exact e2
noncomputable abbrev Og:=Int×PyData
noncomputable abbrev ky (os:List Og):List Int:=os.map λp=>p.1
noncomputable def eO (os:List Og):List (Ka×PyData):=os.map λp=>(.int p.1,p.2)
theorem qeo (os:List Og)(i:Int):kOk (eO os) (.inl i)=true:=by
 unfold kOk eO
 rw [X6]
 exact K4.mpr λp _=>rfl
theorem qb8 (i:Int):∀ os:List Og,(zB (eO os) (.inl i)).isSome=decide (i∈ky os)
 | []=>rfl
 | p::os=>by
  have ih:=qb8 i os
  have e:zB (eO (p::os)) (.inl i)=if p.1=i then some p.2 else zB (eO os) (.inl i):=by
   unfold zB eO
   rw [Kt,VB]
   have:Ks (.int p.1) (kxD (.inl i))=(p.1==i):=rfl
   rw [this]
   by_cases h:p.1=i
   ·rw [ag h];simp [h]
   ·rw [ah h]
    have:(p.1==i)=false:=ar.mpr h
    rw [this]
  rw [e]
  by_cases h:p.1=i
  ·rw [ag h];simp [h]
  ·rw [ah h,ih]
   by_cases h2:i∈ky os
   ·rw [ae h2,ae (show i∈ky (p::os) from .tail _ h2)]
   ·rw [ab h2,ab (show ¬ i∈ky (p::os) from λz=>(Kr.mp z).elim (λz=>h z.symm) h2)]
theorem ql1 (os:List Og)(i:Int):qh9 (.int i) (.dict (eO os))=some (.bool (!decide (i∈ky os))):=by
 show ob (kxOf (.int i)) (λks=>if kOk (eO os) ks=true then some (UC (!(zB (eO os) ks).isSome)) else none)=_
 have:kxOf (.int i)=some (.inl i):=rfl
 rw [this,ob_s,ag (qeo _ _),qb8]
theorem qiC {os:List Og}{i:Int}(d:Ka)(hl:os.length<900)(h:i∉ky os):YQ (.dict (eO os)) (.int i) d=some (.dict (eO (os++[(i,d)]))):=by
 show ob (kxOf (.int i)) (λks=>if kOk (eO os) ks=true/\(eO os).length<1000 then some (ER (putD (eO os) ks d)) else none)=_
 have:kxOf (.int i)=some (.inl i):=rfl
 rw [this,ob_s,ag ⟨qeo _ _,by unfold eO;rw [Kf];omega⟩]
 unfold putD
 rw [qb8,ab h,ah '#']
 unfold eO
 rw [Kx]
 rfl
noncomputable def un (n:Nat)(os:List Og):Nat:=(KG n).countP λk=>!decide (((k:Nat):Int)∈ky os)
theorem qhh {p q:Nat->Bool}:∀ {l:List Nat},(∀ x∈l,p x=true->q x=true)->(∃ x∈l,q x=true/\p x=false)->l.countP p<l.countP q
 | [],_,⟨_,h,_⟩=>by cases h
 | y::l,h1,⟨x,hx,h2,h3⟩=>by
  rw [List.countP_cons,List.countP_cons]
  have h1':∀ x∈l,p x=true->q x=true:=λx hx=>h1 x (.tail _ hx)
  rcases Kr.mp hx with rfl|hx
  ·have:=List.countP_mono_left h1'
   rw [ag h2,ah (by rw [h3];decide)]
   omega
  ·have:=qhh h1' ⟨x,hx,h2,h3⟩
   have hy:=h1 y (.head _)
   cases hp:p y with
   | true=>rw [ag rfl,ag (hy hp)];omega
   | false=>rw [ah '#'];omega
theorem qi2 {n:Nat}{os:List Og}{i:Int}(d:Ka)(h0:0<=i)(h1:i<(n:Int))(h:i∉ky os):un n (os++[(i,d)])<un n os:=by
 refine qhh (λx _ hx=>?_) ⟨i.toNat,UT.mpr '$',?_,?_⟩
 ·simp at hx ⊢
  exact λa b=>hx.1 a b
 ·have:((i.toNat:Nat):Int)=i:=by omega
  rw [this,ab h];rfl
 ·have:((i.toNat:Nat):Int)=i:=by omega
  rw [this,ae (by simp)];rfl
theorem pop0 (d:Ka)(ds:'('):Yl (.list (d::ds)) (.int 0)=some (d,.list ds):=by
 show ob (if (-1000:Int)<=0/\(0:Int)<=1000 then bu 0 (d::ds).length else none) _=_
 rw [ag ⟨by decide,by decide⟩,seqIx (Int.le_refl 0) (by rw [Kz];omega),ob_s]
 rfl
noncomputable def uu (w b:Int):Sp3:=addS (unV idT w) (beV idT w b)
theorem qeM:∀ t∈qz,∀ w∈Q7,∀ b∈zF,stV t w b=mulT (stV idT w b) t/\addS (unV t w) (beV t w b)=app t (uu w b):=by decide +kernel
theorem qh6:∀ s∈qz,∀ t∈qz,mulT s t∈qz:=by decide +kernel
theorem qeL {x:Sp3}{t:Tr}{w b:Int}(ht:t∈qz)(hw:w∈Q7)(hb:b∈zF):spV x t w b=addS x (app t (uu w b)):=by
 unfold spV
 rw [QM,(qeM t ht w hw b hb).2]
noncomputable def mvP (p q:Sp3×Tr):Sp3×Tr:=(addS p.1 (app p.2 q.1),mulT q.2 p.2)
noncomputable def ledP (q:Sp3×Tr)(s:Sp):Sp3×Tr:=(spV q.1 q.2 s.1 s.2.2,stV q.2 s.1 s.2.2)
theorem qev {p q:Sp3×Tr}(hp:p.2∈qz)(hq:q.2∈qz){s:Sp}(hw:s.1∈Q7)(hb:s.2.2∈zF):ledP (mvP p q) s=mvP p (ledP q s):=by
 have hm:=qh6 q.2 hq p.2 hp
 unfold ledP mvP
 dsimp only
 rw [qeL hm hw hb,qeL hq hw hb,(qeM _ hm _ hw _ hb).1,(qeM _ hq _ hw _ hb).1,J5,qcU,QM,Jx]
theorem qcp {q:Sp3×Tr}(hq:q.2∈qz){s:Sp}(hw:s.1∈Q7)(hb:s.2.2∈zF):(ledP q s).2∈qz:=qiN q.2 hq s.1 hw s.2.2 hb
theorem qfW {S:List Ce}{J:List Sp}(h:J13 S J){p:Sp3×Tr}(hp:p.2∈qz):∀ (ps:List Ce) (n:Nat) (q:Sp3×Tr),q.2∈qz->
  Q3 S J ps n (mvP p q).1 (mvP p q).2=match Q3 S J ps n q.1 q.2 with | .inl m=>.inl m | .inr r=>.inr (mvP p r)
 | [],n,q,hq=>rfl
 | c::ps,n,q,hq=>by
  unfold Q3
  cases hl:lk13 S J c.1 c.2 with
  | none=>rfl
  | some s =>
   obtain ⟨hw,hb⟩:=yl h hl
   have e:=qev hp hq hw hb
   have ih:=qfW h hp ps (n+1) (ledP q s) (qcp hq hw hb)
   dsimp only
   rw [← e] at ih
   exact ih
theorem qfA {p q r:Sp3×Tr}(hp:p.2∈qz)(e:mvP p q=mvP p r):q=r:=by
 unfold mvP at e
 obtain ⟨e1,e2⟩:=Prod.mk.inj e
 have i:=(qk9 p.2 hp).1
 have f1:q.1=r.1:=by
  have h1:=congrArg (λz=>app (trT p.2) (addS (negS p.1) z)) e1
  rw [← QM,qcx,zero_add,← QM,qcx,zero_add,← J5,← J5,i,qbW,qbW] at h1
  exact h1
 have f2:q.2=r.2:=by
  have h2:=congrArg (λz=>mulT z (trT p.2)) e2
  rw [Jx,Jx,i,qdw,qdw] at h2
  exact h2
 exact Prod.ext f1 f2
theorem qaF {q:Sp3×Tr}(hq:q.2∈qz){s s':Sp}(hw:s.1∈Q7)(hb:s.2.2∈zF)(e1:s'.1=(s.1+2) % 4)(e2:s'.2.2=s.2.2):ledP (ledP q s) s'=q:=by
 obtain ⟨h1,h2⟩:=qkE q.2 hq s.1 hw s.2.2 hb
 unfold ledP
 dsimp only
 rw [e1,e2,h1]
 refine Prod.ext ?_ rfl
 show spV (spV q.1 q.2 s.1 s.2.2) (stV q.2 s.1 s.2.2) ((s.1+2) % 4) s.2.2=q.1
 unfold spV
 rw [QM q.1,QM,QM q.1,h2,wN]
def Only (J:List Sp)(LL:List (List Int)):Prop:=∀ k x,0<=k->In LL k x->∃ t∈J,(k=t.1/\x=t.2.1)\/(k=t.2.1/\x=t.1)
theorem qhI {LL:List (List Int)}{i x j y:Int}{l:List Int}(e:LL[i.toNat]?=some l)(h:In (LL.set i.toNat (l++[x])) j y):In LL j y\/(j.toNat=i.toNat/\y=x):=by
 obtain ⟨q,hq,hy⟩:=h
 obtain ⟨hlt,_⟩:=Kk.mp e
 by_cases hj:i.toNat=j.toNat
 ·rw [← hj,Vd hlt] at hq
  cases hq
  rcases K8.mp hy with z|z
  ·exact .inl ⟨l,by rw [← hj];exact e,z⟩
  ·exact .inr ⟨hj.symm,Ky.mp z⟩
 ·rw [VS hj] at hq
  exact .inl ⟨q,hq,hy⟩
theorem qjS {n:Nat}(hn:n<=100){J:List Sp}(hJ:∀ t∈J,(0<=t.1/\t.1<(n:Int))/\0<=t.2.1/\t.2.1<(n:Int))(hl:J.length<=100):∃ LL:List (List Int),QW [.int (n:Nat),.list (J.map eS)]=some (eL LL)/\Lk n 900 LL/\(∀ t∈J,In LL t.1 t.2.1/\In LL t.2.1 t.1)/\Only J LL:=by
 have hv:∀ o1 o2 o3:Option Ka,qal 4 1 (evR (aC (vr 0) aN) Q0) (gNm 4) tT (evA aN lstD) [some (.int (n:Nat)),o1,o2,o3]=some (eL ((KG n).map λ_=>[])):=λo1 o2 o3=>by
  have hc:Qx 1 (gNm 4) tT (evA aN lstD) [some (.int (n:Nat)),o1,o2,o3] ((KG n).map λk:Nat=>Kj (k:Nat))=some ((KG n).map λ_=>.list []) :=
   jt (λk:Nat=>Kj (k:Nat)) _ (KG n) λa _=>by simp_arith []
  have hr:(if (-1000:Int)<=((n:Nat):Int)/\((n:Nat):Int)<=1000 then some (rngL 0 (((n:Nat):Int)).toNat) else none)=some ((KG n).map λk:Nat=>Kj (k:Nat)):=by
   rw [ag '$',Vl,yt]
  have hlen:((KG n).map λk:Nat=>Kj (k:Nat)).length<=1000:=by rw [Kf,Vh];omega
  have hg:ZL 4 1 (evR (aC (vr 0) aN) Q0) (gNm 4) tT (evA aN lstD) [some (.int (n:Nat)),o1,o2,o3]=some (.list ((KG n).map λ_=>.list [])):=by
   simp_arith [hr,hlen,hc]
  show ob (ZL 4 1 (evR (aC (vr 0) aN) Q0) (gNm 4) tT (evA aN lstD) [some (.int (n:Nat)),o1,o2,o3]) _=_
  rw [hg,ob_s]
  show (if ((KG n).map λ_=>Vk []).all qbw=true then some (Vk ((KG n).map λ_=>Vk [])) else none)=_
  rw [ag (by rw [X6];exact K4.mpr λ_ _=>rfl)]
  unfold eL
  rw [K6]
  rfl
 obtain ⟨ρ',el,LL,o3,rfl,lk,hin,ho⟩:=Zz eS (g:=gNm 3) (u:=Jp)
  (λdone ρ=>∃ (LL:List (List Int)) (o3:Option Ka),ρ=[some (.int (n:Nat)),some (.list (J.map eS)),some (eL LL),o3]/\Lk n (2*done.length) LL/\(∀ t∈done,In LL t.1 t.2.1/\In LL t.2.1 t.1)/\Only done LL) J [some (.int (n:Nat)),some (.list (J.map eS)),some (eL ((KG n).map λ_=>[])),none] ⟨_,none,rfl,⟨by rw [Kf,Vh],λl hl=>by obtain ⟨_,_,rfl⟩:=KQ.mp hl;exact ⟨Vj _,λx hx=>by cases hx⟩⟩,(λt ht=>by cases ht),λk x _ ⟨l,hl,hx⟩=>by rw [Kw] at hl;obtain ⟨_,_,rfl⟩:=XA.mp hl;cases hx⟩ (by
   rintro t ht done ρ hdl ⟨LL,o3,rfl,lk,hin,ho⟩
   obtain ⟨⟨a0,a1⟩,b0,b1⟩:=hJ t ht
   obtain ⟨l,e1,ml⟩:=lk.at a0 a1
   have hl1:=(lk.bd l ml).1
   obtain ⟨lk2,in2,mono2⟩:=lk.add a0 e1 b0 b1
   obtain ⟨l2,e2,ml2⟩:=lk2.at b0 b1
   have hl2:=(lk2.bd l2 ml2).1
   obtain ⟨lk3,in3,mono3⟩:=lk2.add b0 e2 a0 a1
   have k1:=qcl (x:=t.2.1) a0 e1 '$'
   have k2:=qcl (x:=t.1) b0 e2 '$'
   refine ⟨_,?_,_,some (eS t),rfl,by rw [Km,Ku];exact lk3,λs hs=>?_,λk x hk hx=>?_⟩
   ·simp_arith [ixe0,ixe1,k1,k2]
   ·rcases K8.mp hs with z|z
    ·exact ⟨mono3 _ _ (mono2 _ _ (hin s z).1),mono3 _ _ (mono2 _ _ (hin s z).2)⟩
    ·rw [Ky.mp z]
     exact ⟨mono3 _ _ in2,in3⟩
   ·rcases qhI e2 hx with z|⟨z1,z2⟩
    ·rcases qhI e1 z with y|⟨y1,y2⟩
     ·obtain ⟨s,hs,q⟩:=ho k x hk y
      exact ⟨s,Va _ hs,q⟩
     ·exact ⟨t,KP _ (Ky.mpr rfl),.inl ⟨by omega,y2⟩⟩
    ·exact ⟨t,KP _ (Ky.mpr rfl),.inr ⟨by omega,z2⟩⟩)
 refine ⟨LL,?_,⟨lk.len,λl h=>⟨by have:=(lk.bd l h).1;omega,(lk.bd l h).2⟩⟩,hin,ho⟩
 simp only [QW,JK]
 simp_arith [hv,el]
structure Tk (n:Nat)(f0:Int)(LL:List (List Int))(os:List Og)(ws:List Int):Prop where
 kr:∀ k∈ky os,0<=k/\k<(n:Int)
 wk:∀ w∈ws,w∈ky os
 nd:(ky os).Nodup
 hd:os[0]?=some (f0,.none)
 par:∀ (i:Nat) (k:Int) (d:Ka),os[i]?=some (k,d)->0<i->∃ (j:Nat) (q:Int),j<i/\d=.int q/\(ky os)[j]?=some q/\In LL q k
 size:os.length+un n os<=n+1
 wsz:ws.length<=os.length
theorem WY (os:List Og)(j:Int)(d:Ka):ky (os++[(j,d)])=ky os++[j]:=by unfold ky;rw [Kx];rfl
theorem Tk.add {n:Nat}{f0:Int}{LL:List (List Int)}{os:List Og}{ws:List Int}(b:Tk n f0 LL os ws){w j:Int}(hw:w∈ky os)(hi:In LL w j)(j0:0<=j)(j1:j<(n:Int))(hj:j∉ky os):Tk n f0 LL (os++[(j,.int w)]) (ws++[j]):=by
 have hu:=qi2 (.int w) j0 j1 hj
 have l0:0<os.length:=(Kk.mp b.hd).1
 refine ⟨λk hk=>?_,λk hk=>?_,?_,by rw [KL l0];exact b.hd,λi k d e hi0=>?_,?_,?_⟩
 ·rw [WY] at hk
  rcases K8.mp hk with z|z
  ·exact b.kr k z
  ·rw [Ky.mp z];exact ⟨j0,j1⟩
 ·rw [WY]
  rcases K8.mp hk with z|z
  ·exact Va _ (b.wk k z)
  ·exact KP _ z
 ·rw [WY,UQ]
  exact ⟨b.nd,by simp,λa ha c hc z=>hj (by rw [← Ky.mp hc,← z];exact ha)⟩
 ·rw [WY]
  by_cases hl:i<os.length
  ·rw [KL hl] at e
   obtain ⟨m,q,h1,h2,h3,h4⟩:=b.par i k d e hi0
   exact ⟨m,q,h1,h2,by rw [KL (Kk.mp h3).1];exact h3,h4⟩
  ·have hi2:i=os.length:=by
    have:=(Kk.mp e).1
    rw [Km,Ku] at this
    omega
   subst hi2
   rw [Vb (Kq _),XE] at e
   cases e
   obtain ⟨m,hm⟩:=VV hw
   have hlt:=(Kk.mp hm).1
   exact ⟨m,w,by unfold ky at hlt;rw [Kf] at hlt;exact hlt,rfl,by rw [KL hlt];exact hm,hi⟩
 ·have:=b.size
  rw [Km,Ku];omega
 ·have:=b.wsz
  rw [Km,Km,Ku,Ku];omega
theorem qjw {os:List Og}(nd:(ky os).Nodup):∀ {i:Nat} {k:Int} {d:Ka},os[i]?=some (k,d)->zB (eO os) (.inl k)=some d:=by
 induction os with
 | nil=>intro i k d e;cases e
 | cons p os ih =>
  intro i k d e
  have ec:zB (eO (p::os)) (.inl k)=if p.1=k then some p.2 else zB (eO os) (.inl k):=by
   unfold zB eO
   rw [Kt,VB]
   have:Ks (.int p.1) (kxD (.inl k))=(p.1==k):=rfl
   rw [this]
   by_cases h:p.1=k
   ·rw [ag h];simp [h]
   ·rw [ah h,ar.mpr h]
  rw [ec]
  have nd':p.1∉ky os/\(ky os).Nodup:=Xo.mp nd
  cases i with
  | zero=>cases e;rw [ag rfl]
  | succ i =>
   have e':os[i]?=some (k,d):=e
   have hk:k∈ky os:=KQ.mpr ⟨(k,d),KN e',rfl⟩
   rw [ah (λz=>nd'.1 (by rw [z];exact hk))]
   exact ih nd'.2 e'
theorem qfp {os:List Og}(nd:(ky os).Nodup){i:Nat}{k:Int}{d:Ka}(e:os[i]?=some (k,d)):ix2D (.dict (eO os)) (.int k)=some d:=by
 show ob (kxOf (.int k)) (λks=>if kOk (eO os) ks=true then zB (eO os) ks else none)=_
 rw [show kxOf (.int k)=some (.inl k) from rfl,ob_s,ag (qeo _ _),qjw nd e]
theorem qkw {n:Nat}(hn:n<=100){f0:Int}(hf:0<=f0/\f0<(n:Int)){LL:List (List Int)}(lk:Lk n 900 LL):∃ os:List Og,Qv [.int f0,eL LL]=some (.dict (eO os))/\Tk n f0 LL os []/\(∀ k∈ky os,∀ x,In LL k x->x∈ky os):=by
 obtain ⟨ρ',m',ew,⟨os,ws,o4,o5,rfl,bf,cl,-⟩,et⟩:=Yt (t:=tW (vr 3)) (body:=ZQ)
  (λm ρ=>∃ (os:List Og) (ws:List Int) (o4 o5:Option Ka),ρ=[some (.int f0),some (eL LL),some (.dict (eO os)),some (.list (ws.map .int)),o4,o5]/\Tk n f0 LL os ws/\(∀ k∈ky os,k∉ws->∀ x,In LL k x->x∈ky os)/\m=2*un n os+ws.length) (by
   rintro m ρ ⟨os,ws,o4,o5,rfl,bf,cl,rfl⟩
   cases ws with
   | nil=>exact .inl (by simp_arith [VR,tW_b,qmV])
   | cons w ws =>
    refine .inr ⟨by simp_arith [Kt,tW_b,qiW],?_⟩
    have hwk:=bf.wk w (.head _)
    obtain ⟨w0,w1⟩:=bf.kr w hwk
    obtain ⟨l,e1,ml⟩:=lk.at w0 w1
    have hlb:=(lk.bd l ml).2
    have hix:ixD (eL LL) (.int w)=some (eLn l):=by
     show atI (LL.map eLn) w=_
     exact QG w0 e1
    obtain ⟨ρ1,el,os1,ws1,o5',rfl,b1,g1,g2,g3,g4,g5⟩:=Zz Kj (g:=gNm 5) (u:=Jf)
     (λdone ρ=>∃ (os1:List Og) (ws1:List Int) (o5:Option Ka),ρ=[some (.int f0),some (eL LL),some (.dict (eO os1)),some (.list (ws1.map .int)),some (.int w),o5]/\Tk n f0 LL os1 ws1/\(∀ x∈done,x∈ky os1)/\(∀ k∈ky os,k∈ky os1)/\(∀ k∈ws,k∈ws1)/\(∀ k∈ky os1,k∉ws1->k∈ky os)/\2*un n os1+ws1.length<=2*un n os+ws.length) l [some (.int f0),some (eL LL),some (.dict (eO os)),some (.list (ws.map .int)),some (.int w),o5] ⟨os,ws,o5,rfl,⟨bf.kr,λk hk=>bf.wk k (.tail _ hk),bf.nd,bf.hd,bf.par,bf.size,by have:=bf.wsz;rw [Kz] at this;omega⟩,(λx hx=>by cases hx),λk h=>h,λk h=>h,λk h _=>h,Kq _⟩ (by
      rintro j hj done ρ hdl ⟨os1,ws1,o5,rfl,b1,g1,g2,g3,g4,g5⟩
      obtain ⟨j0,j1⟩:=hlb j hj
      have hni:=ql1 os1 j
      have hol:os1.length<900:=by have:=b1.size;omega
      by_cases hin:j∈ky os1
      ·refine ⟨_,?_,os1,ws1,some (.int j),rfl,b1,λx hx=>?_,g2,g3,g4,g5⟩
       ·simp_arith [hni,ae hin]
       ·rcases K8.mp hx with z|z
        ·exact g1 x z
        ·rw [Ky.mp z];exact hin
      ·have hp:=qiC (.int w) hol hin
       have hu:=qi2 (.int w) j0 j1 hin
       have hz:(ws1.map Kj).length<1000:=by rw [Kf];have:=b1.wsz;omega
       have mk:∀ k,k∈ky (os1++[(j,Kj w)])↔k∈ky os1\/k=j:=λk=>by unfold ky;rw [Kx,K8];simp
       refine ⟨_,?_,os1++[(j,.int w)],ws1++[j],some (.int j),rfl,b1.add (g2 w hwk) ⟨l,e1,hj⟩ j0 j1 hin,λx hx=>?_,λk hk=>(mk k).mpr (.inl (g2 k hk)),λk hk=>Va _ (g3 k hk),λk hk hw=>?_,?_⟩
       ·simp_arith [hni,ab hin,hp,hz]
        simp only [Kx,Kt,VR]
       ·rcases K8.mp hx with z|z
        ·exact (mk x).mpr (.inl (g1 x z))
        ·exact (mk x).mpr (.inr (Ky.mp z))
       ·rcases (mk k).mp hk with z|rfl
        ·exact g4 k z λy=>hw (Va _ y)
        ·exact absurd (KP _ (Ky.mpr rfl)) hw
       ·rw [Km,Ku];omega)
    refine ⟨_,_,?_,?_,os1,ws1,some (.int w),o5',rfl,b1,λk hk hkw x hx=>?_,rfl⟩
    ·have hp0:=pop0 (.int w) (ws.map .int)
     have sq:seqD (eLn l)=some (l.map .int):=rfl
     simp_arith [Kt,hp0,hix,sq,el]
    ·rw [Kz];omega
    ·by_cases hkk:k=w
     ·subst hkk
      obtain ⟨l',el',hx'⟩:=hx
      rw [e1] at el'
      cases el'
      exact g1 x hx'
     ·exact g2 x (cl k (g4 k hk hkw) (λz=>(Kr.mp z).elim hkk λz=>hkw (g3 k z)) x hx)) 1000000 (2*un n [(f0,.none)]+1) [some (.int f0),some (eL LL),some (.dict (eO [(f0,.none)])),some (.list ([f0].map .int)),none,none] (by
   have:un n [(f0,.none)]<=n:=by
    unfold un
    exact Vg EZ (by rw [Vh];exact Kq _)
   omega) ⟨[(f0,.none)],[f0],none,none,rfl,⟨λk hk=>by rw [Ky.mp hk];exact hf,λw hw=>hw,by unfold NM;exact List.pairwise_singleton _ _,rfl,λi k d e hi=>(by cases i with | zero=>exact absurd hi (Ud _)|succ i=>cases e),by
    have:un n [(f0,.none)]<=n:=by
     unfold un
     exact Vg EZ (by rw [Vh];exact Kq _)
    rw [Ku];omega,Kq _⟩,λk hk hw=>absurd hk hw,rfl⟩
 have hws:ws=[]:=by
  cases ws with
  | nil=>rfl
  | cons w ws =>
   simp_arith [Kt,tW_b,qiW] at et
   cases et
 subst hws
 refine ⟨os,?_,bf,λk hk x hx=>cl k hk (λz=>by cases z) x hx⟩
 have hw:Ym (tW (vr 3)) ZQ [some (.int f0),some (eL LL),some (.dict [(.int f0,.none)]),some (.list [.int f0]),none,none]=some (.nx [some (.int f0),some (eL LL),some (.dict (eO os)),some (.list []),o4,o5]):=ew
 have d1:qc1 (.int f0) .none=some (.dict [(.int f0,.none)]):=rfl
 simp only [Qv,jT]
 simp_arith [d1,hw]
theorem qh8 {α β:Type}{f:α->β}:∀ {xs:List α},(xs.map f).Nodup->∀ {x y:α},x∈xs->y∈xs->f x=f y->x=y
 | [],_,_,_,hx,_,_=>nomatch hx
 | z::xs,nd,x,y,hx,hy,e=>by
  rw [Kt,Xo] at nd
  rcases Kr.mp hx with zx|hx
  ·rcases Kr.mp hy with zy|hy
   ·exact zx.trans zy.symm
   ·exact absurd (KQ.mpr ⟨y,hy,by rw [← e,zx]⟩) nd.1
  ·rcases Kr.mp hy with zy|hy
   ·exact absurd (KQ.mpr ⟨x,hx,by rw [e,zy]⟩) nd.1
   ·exact qh8 nd.2 hx hy e
theorem je {S:List Ce}{J:List Sp}{a b:Int}{s:Sp}(e:lk13 S J a b=some s):s∈J.filterMap (nbF S a)/\s.2.1=b:=by
 have e':(J.filterMap (nbF S a)).find? (λs=>decide (s.2.1=b))=some s:=e
 exact ⟨UL e',ao (NK (p:=λs:Sp=>decide (s.2.1=b)) e')⟩
theorem qkX {S:List Ce}{J:List Sp}(h:J13 S J){a:Int}{s:Sp}(hs:s∈J.filterMap (nbF S a)):lk13 S J a s.2.1=some s:=by
 cases e:lk13 S J a s.2.1 with
 | none =>
  have e':(J.filterMap (nbF S a)).find? (λz=>decide (z.2.1=s.2.1))=none:=e
  have:=Xx.mp e' s hs
  exact absurd (ae rfl) this
 | some z =>
  obtain ⟨hz,e2⟩:=je e
  rw [qh8 (qk0 h a) hz hs e2]
theorem lk_t {S:List Ce}{J:List Sp}(h:J13 S J){t:Sp}(ht:t∈J):∃ w:Int,(w=0\/w=1)/\lk13 S J t.1 t.2.1=some (w,t.2.1,t.2.2)/\lk13 S J t.2.1 t.1=some (w+2,t.1,t.2.2):=by
 obtain ⟨p1,p2,a,b,ea,eb,ad⟩:=h.ok t ht
 have w:wy a b=0\/wy a b=1:=by unfold wy;split<;>simp
 have ne:t.1≠t.2.1:=λz=>by
  rw [z,eb] at ea
  exact qgY ad (VY ea).symm
 refine ⟨wy a b,w,qkX (s:=(wy a b,t.2.1,t.2.2)) h (UH.mpr ⟨t,ht,?_⟩),qkX (s:=(wy a b+2,t.1,t.2.2)) h (UH.mpr ⟨t,ht,?_⟩)⟩
 ·rw [Jy ea eb,ag rfl]
 ·rw [Jy ea eb,ah ne,ag rfl]
theorem qcs {S:List Ce}{J:List Sp}(h:J13 S J){a b:Int}{s:Sp}(e:lk13 S J a b=some s):∃ t∈J,(a=t.1/\b=t.2.1)\/(a=t.2.1/\b=t.1):=by
 obtain ⟨hs,rfl⟩:=je e
 obtain ⟨t,ht,hn⟩:=UH.mp hs
 obtain ⟨p1,p2,a',b',ea,eb,ad⟩:=h.ok t ht
 rw [Jy ea eb] at hn
 split at hn
 ·rename_i k1
  cases hn
  exact ⟨t,ht,.inl ⟨k1.symm,rfl⟩⟩
 ·split at hn
  ·rename_i k1
   cases hn
   exact ⟨t,ht,.inr ⟨k1.symm,rfl⟩⟩
  ·cases hn
theorem qaH {S:List Ce}{J:List Sp}(h:J13 S J){a b:Int}{s:Sp}(e:lk13 S J a b=some s):∃ s',lk13 S J b a=some s'/\s'.1=(s.1+2) % 4/\s'.2.2=s.2.2:=by
 obtain ⟨t,ht,q⟩:=qcs h e
 obtain ⟨w,hw,e1,e2⟩:=lk_t h ht
 rcases q with ⟨rfl,rfl⟩|⟨rfl,rfl⟩
 ·rw [e1] at e
  cases e
  exact ⟨_,e2,by show w+2=(w+2) % 4;omega,rfl⟩
 ·rw [e2] at e
  cases e
  exact ⟨_,e1,by show w=(w+2+2) % 4;omega,rfl⟩
theorem lk_in {S:List Ce}{J:List Sp}(h:J13 S J){LL:List (List Int)}(on:Only J LL){a b:Int}(ha:0<=a)(hi:In LL a b):∃ s,lk13 S J a b=some s:=by
 obtain ⟨t,ht,q⟩:=on a b ha hi
 obtain ⟨w,_,e1,e2⟩:=lk_t h ht
 rcases q with ⟨rfl,rfl⟩|⟨rfl,rfl⟩
 ·exact ⟨_,e1⟩
 ·exact ⟨_,e2⟩
structure Wy (S:List Ce)(J:List Sp)(os:List Og)(f0:Int)(p0:Sp3×Tr)(P:Int->Sp3×Tr)(m:Nat):Prop where
 at0:P f0=p0
 tn:∀ i k d,i<m->os[i]?=some (k,d)->(P k).2∈qz
 al:∀ i k d,i<m->os[i]?=some (k,d)->0<i->∃ (j:Nat) (q:Int) (dq:Ka) (s:Sp),j<i/\d=.int q/\os[j]?=some (q,dq)/\lk13 S J q k=some s/\P k=ledP (P q) s
theorem qaO {os:List Og}{j:Nat}{q:Int}(e:(ky os)[j]?=some q):∃ d,os[j]?=some (q,d):=by
 unfold ky at e
 rw [Kw] at e
 obtain ⟨p,hp,rfl⟩:=XA.mp e
 exact ⟨p.2,hp⟩
theorem og_ix {os:List Og}(nd:(ky os).Nodup){i j:Nat}{k:Int}{d d':Ka}(e:os[i]?=some (k,d))(e':os[j]?=some (k,d')):i=j:=by
 have a:(ky os)[i]?=some k:=by unfold ky;rw [Kw,e];rfl
 have b:(ky os)[j]?=some k:=by unfold ky;rw [Kw,e'];rfl
 exact (List.getElem?_inj (Kk.mp a).1 nd).mp (a.trans b.symm)
theorem qiV {S:List Ce}{J:List Sp}(h:J13 S J){LL:List (List Int)}(on:Only J LL){f0:Int}{os:List Og}(tk:Tk S.length f0 LL os []){p0:Sp3×Tr}(hp:p0.2∈qz):∀ m,m<=os.length->∃ P,Wy S J os f0 p0 P m
 | 0,_=>⟨λ_=>p0,rfl,λ_ _ _ h=>absurd h (U9 _),λ_ _ _ h=>absurd h (U9 _)⟩
 | 1,_=>⟨λ_=>p0,rfl,λ_ _ _ _ _=>hp,λi _ _ h _ h0=>absurd h0 '$'⟩
 | m+2,hm=>by
  obtain ⟨P,w⟩:=qiV h on tk hp (m+1) '$'
  obtain ⟨⟨k,d⟩,ek⟩:∃ o,os[m+1]?=some o:=⟨_,Kl '$'⟩
  obtain ⟨j,q,hj,rfl,ej,hi⟩:=tk.par (m+1) k d ek '$'
  obtain ⟨dq,ej⟩:=qaO ej
  obtain ⟨q0,q1⟩:=tk.kr q (KQ.mpr ⟨_,KN ej,rfl⟩)
  obtain ⟨s,es⟩:=lk_in h on q0 hi
  obtain ⟨hw,hb⟩:=yl h es
  have nk:∀ i k' d',i<m+1->os[i]?=some (k',d')->k'≠k:=λi k' d' hi e z=>by
   subst z
   have:=og_ix tk.nd e ek
   omega
  have f0k:f0≠k:=nk 0 f0 .none '$' tk.hd
  refine ⟨λx=>if x=k then ledP (P q) s else P x,by rw [ah f0k];exact w.at0,λi k' d' hi e=>?_,λi k' d' hi e h0=>?_⟩
  ·by_cases z:i=m+1
   ·subst z
    rw [ek] at e
    cases e
    rw [ag rfl]
    exact qcp (w.tn j q dq hj ej) hw hb
   ·rw [ah (nk i k' d' '$' e)]
    exact w.tn i k' d' '$' e
  ·by_cases z:i=m+1
   ·subst z
    rw [ek] at e
    cases e
    exact ⟨j,q,dq,s,hj,rfl,ej,es,by rw [ag rfl,ah (nk j q dq hj ej)]⟩
   ·obtain ⟨j',q',dq',s',h1,h2,h3,h4,h5⟩:=w.al i k' d' '$' e h0
    exact ⟨j',q',dq',s',h1,h2,h3,h4,by rw [ah (nk i k' d' '$' e),ah (nk j' q' dq' '$' h3)];exact h5⟩
noncomputable def poD (P:Int->Sp3×Tr)(k:Int):Ka:=encP (P k).1 (P k).2
noncomputable def dP (os:List Og)(P:Int->Sp3×Tr):List Og:=os.map λo=>(o.1,poD P o.1)
theorem qfu (os:List Og)(P:Int->Sp3×Tr):ky (dP os P)=ky os:=by unfold ky dP;rw [K6];rfl
theorem qhl {os:List Og}{P:Int->Sp3×Tr}{i:Nat}{k:Int}{d:Ka}(e:os[i]?=some (k,d)):(dP os P)[i]?=some (k,poD P k):=by
 unfold dP;rw [Kw,e];rfl
theorem qkn {S:List Ce}{J:List Sp}(h:J13 S J){W:List (Ce×Ce)}(w13:W13 S J S.length W){LL:List (List Int)}{f0:Int}{os:List Og}(tk:Tk S.length f0 LL os []){p0:Sp3×Tr}{P:Int->Sp3×Tr}(w:Wy S J os f0 p0 P os.length) :
  QC [.dict (eW W),.dict (eO os),encP p0.1 p0.2]=some (.dict (eO (dP os P))):=by
 have ol:os.length<=900:=by have:=tk.size;have:=h.ls;omega
 obtain ⟨ρ',el,o4,o5,rfl⟩:=YX (λo:Og=>Vi [.int o.1,o.2]) (g:=unpD 2 (gsC (gNm 4) (gsC (gNm 5) gsN))) (u:=JN)
  (λdone ρ=>∃ o4 o5:Option Ka,ρ=[some (.dict (eW W)),some (.dict (eO os)),some (encP p0.1 p0.2),some (.dict (eO (dP done P))),o4,o5]) os [some (.dict (eW W)),some (.dict (eO os)),some (encP p0.1 p0.2),some (.dict []),none,none] ⟨none,none,rfl⟩ (by
   rintro ⟨k,d⟩ done rest ρ eall ⟨o4,o5,rfl⟩
   have dl:done.length<900:=by have:=congrArg Xy eall;simp at this;omega
   have nk:k∉ky (dP done P):=λz=>by
    rw [qfu] at z
    have nd:=tk.nd
    rw [eall] at nd
    unfold ky at nd z
    rw [Kx,UQ] at nd
    exact nd.2.2 k z k (by simp) rfl
   have put:=qiC (os:=dP done P) (poD P k) (by unfold dP;rw [Kf];exact dl) nk
   have fl:flat (poD P k)=true:=rfl
   have hd:unpD 2 (gsC (gNm 4) (gsC (gNm 5) gsN)) (Vi [.int k,d]) [some (.dict (eW W)),some (.dict (eO os)),some (encP p0.1 p0.2),some (.dict (eO (dP done P))),o4,o5]=some [some (.dict (eW W)),some (.dict (eO os)),some (encP p0.1 p0.2),some (.dict (eO (dP done P))),some (.int k),some d]:=rfl
   rw [hd,ob_s]
   have ap:dP (done++[(k,d)]) P=dP done P++[(k,poD P k)]:=by unfold dP;rw [Kx];rfl
   have ek:os[done.length]?=some (k,d):=by rw [eall,Vb (Kq _),XE];rfl
   refine ⟨_,?_,some (.int k),some d,rfl⟩
   rw [ap]
   by_cases h0:done.length=0
   ·have hz:=tk.hd
    rw [h0] at ek
    rw [ek] at hz
    cases hz
    have e0:poD P f0=encP p0.1 p0.2:=by unfold poD;rw [w.at0]
    rw [e0] at put ⊢
    have fl:flat (encP p0.1 p0.2)=true:=rfl
    have hi:isD .none .none=some (.bool true):=rfl
    simp_arith [hi,fl,put]
   ·obtain ⟨j,q,dq,s,hj,rfl,ej,es,ep⟩:=w.al done.length k d (Kk.mp ek).1 ek '$'
    obtain ⟨hw,hb⟩:=yl h es
    have ix:ix2D (.dict (eW W)) (eC (q,k))=some (eC (s.1,s.2.2)):=ix13 h w13 es
    have tq:=w.tn j q dq (Kk.mp ej).1 ej
    have ejd:done[j]?=some (q,dq):=by rw [eall,KL hj] at ej;exact ej
    have nd':(ky (dP done P)).Nodup:=by
     rw [qfu]
     have nd:=tk.nd
     rw [eall] at nd
     unfold ky at nd
     rw [Kx,UQ] at nd
     exact nd.1
    have ix2:=qfp nd' (qhl (P:=P) ejd)
    have le:Zx [eC (s.1,s.2.2),poD P q]=some (poD P k):=by
     unfold poD
     rw [qfv (P q).1 (Tn.of tq) hw hb,ep]
     rfl
    have hi:isD (.int q) .none=some (.bool false):=rfl
    have s1:Vi [.int q,.int k]=eC (q,k):=rfl
    simp_arith [hi,s1,ix,ix2,le,fl,put])
 have it:qel (.dict (eO os))=some (os.map λo:Og=>Vi [.int o.1,o.2]):=by
  have ek:excK (eO os)=false:=by cases os<;>rfl
  show (if excK (eO os)=true then none else some ((eO os).map λp=>Vi [p.1,p.2]))=_
  rw [ek,ah '#']
  unfold eO
  rw [K6]
  rfl
 simp only [QC,Jb]
 simp_arith [it,el]
noncomputable def Lnk (R:Int->Int->Prop):List Int->Prop
 | []=>True
 | [_]=>True
 | a::b::l=>R a b/\Lnk R (b::l)
theorem qcu {R:Int->Int->Prop}:∀ {xs ys:List Int},Lnk R (xs++ys)->Lnk R xs
 | [],_,_=>trivial
 | [_],_,_=>trivial
 | _::b::l,_,h=>⟨h.1,qcu (xs:=b::l) h.2⟩
theorem qct {R:Int->Int->Prop}{a:Int}{ys:List Int}(h2:Lnk R (a::ys)):∀ {xs:List Int},Lnk R (xs++[a])->Lnk R (xs++a::ys)
 | [],_=>h2
 | [_],h=>⟨h.1,h2⟩
 | _::b::l,h=>⟨h.1,qct h2 (xs:=b::l) h.2⟩
theorem qfx {R:Int->Int->Prop}(sy:∀ a b,R a b->R b a):∀ {xs:List Int},Lnk R xs->Lnk R xs.reverse
 | [],_=>trivial
 | [_],_=>trivial
 | a::b::l,h=>by
  have ih:=qfx sy (xs:=b::l) h.2
  rw [Uw] at ih
  rw [Uw,Uw,Ux]
  exact qct (a:=b) (ys:=[a]) ⟨sy _ _ h.1,trivial⟩ ih
theorem Y8 {R R':Int->Int->Prop}(hm:∀ a b,R a b->R' a b):∀ {xs:List Int},Lnk R xs->Lnk R' xs
 | [],_=>trivial
 | [_],_=>trivial
 | _::b::l,h=>⟨hm _ _ h.1,Y8 hm (xs:=b::l) h.2⟩
def Par (os:List Og)(a b:Int):Prop:=∃ i:Nat,os[i]?=some (a,Kj b)
theorem qfE {n:Nat}(hn:n<=100){f0:Int}{LL:List (List Int)}{os:List Og}(tk:Tk n f0 LL os []):∀ (m i fuel:Nat) (c:Int) (d:Ka) (ks:List Int),i<m->m<fuel->ks.length+i<900->os[i]?=some (c,d)->
  ∃ tl:List Int,Jc (tV (ev2 (vr 1) (kd .none) isnD)) Qz fuel [some (.dict (eO os)),some (.int c),some (.list (ks.map .int))]=some (.nx [some (.dict (eO os)),some .none,some (.list ((ks++c::tl).map .int))])/\Lnk (Par os) (c::tl)/\(∀ a∈c::tl,a∈ky os)/\tl.length<=i/\(c::tl).getLast?=some f0
 | 0,i,_,_,_,_,h,_,_,_=>absurd h (U9 _)
 | m+1,i,fuel,c,d,ks,hi,hf,hk,e=>by
  obtain ⟨fuel,rfl⟩:∃ k,fuel=k+2:=⟨fuel-2,by omega⟩
  have ix:=qfp tk.nd e
  have hc:c∈ky os:=KQ.mpr ⟨_,KN e,rfl⟩
  have hi1:isnD (.int c) .none=some (.bool true):=rfl
  have hl:(ks.map Kj).length<1000:=by rw [Kf];omega
  have ap:ks.map Kj++[.int c]=(ks++[c]).map .int:=by rw [Kx];rfl
  have body:Qz [some (.dict (eO os)),some (.int c),some (.list (ks.map .int))]=some (.nx [some (.dict (eO os)),some d,some (.list ((ks++[c]).map .int))]):=by
   simp_arith [hl,ix,ap]
  have t1:tV (ev2 (vr 1) (kd .none) isnD) [some (.dict (eO os)),some (.int c),some (.list (ks.map .int))]=some true:=by
   simp_arith [hi1]
  have st:Jc (tV (ev2 (vr 1) (kd .none) isnD)) Qz (fuel+2) [some (.dict (eO os)),some (.int c),some (.list (ks.map .int))]=Jc (tV (ev2 (vr 1) (kd .none) isnD)) Qz (fuel+1) [some (.dict (eO os)),some d,some (.list ((ks++[c]).map .int))]:=by
   show ob (tV (ev2 (vr 1) (kd .none) isnD) _) _=_
   rw [t1,ob_s,ag rfl,body,ob_s]
  rw [st]
  by_cases h0:i=0
  ·subst h0
   rw [tk.hd] at e
   cases e
   refine ⟨[],?_,trivial,λa ha=>by rw [Ky.mp ha];exact hc,Kq _,rfl⟩
   have t2:tV (ev2 (vr 1) (kd .none) isnD) [some (.dict (eO os)),some .none,some (.list ((ks++[f0]).map .int))]=some false:=by
    have hi2:isnD .none .none=some (.bool false):=rfl
    simp_arith [hi2]
   show ob (tV (ev2 (vr 1) (kd .none) isnD) _) _=_
   rw [t2,ob_s]
   rfl
  ·obtain ⟨j,q,hj,rfl,ej,_⟩:=tk.par i c d e '$'
   obtain ⟨dq,ej⟩:=qaO ej
   obtain ⟨tl,h1,h2,h3,h4,h5⟩:=qfE hn tk m j (fuel+1) q dq (ks++[c]) '$' '$' (by rw [Km,Ku];omega) ej
   refine ⟨q::tl,?_,⟨⟨i,e⟩,h2⟩,λa ha=>?_,by rw [Kz];omega,by rw [ED];exact h5⟩
   ·rw [h1,Ux]
    rfl
   ·rcases Kr.mp ha with rfl|ha
    ·exact hc
    ·exact h3 a ha
theorem qfD {n:Nat}(hn:n<=100){f0:Int}{LL:List (List Int)}{os:List Og}(tk:Tk n f0 LL os []){k:Int}(hk:k∈ky os):∃ X:List Int,Zn [.dict (eO os),.int k]=some (.list ((X++[f0]).map .int))/\Lnk (Par os) (X++[f0])/\(X++[f0]).head?=some k/\(∀ a∈X++[f0],a∈ky os)/\X.length<=n:=by
 obtain ⟨⟨k',d⟩,ho,ek⟩:=KQ.mp hk
 have ek:k'=k:=ek
 subst ek
 obtain ⟨i,e⟩:=VV ho
 have il:i<os.length:=(Kk.mp e).1
 have:=tk.size
 obtain ⟨tl,h1,h2,h3,h4,h5⟩:=qfE hn tk (i+1) i 1000000 _ d [] '$' '$' (by rw [V5];omega) e
 rw [XW] at h1
 obtain ⟨X,eX⟩:=List.getLast?_eq_some_iff.mp h5
 have hlX:X.length=tl.length:=by have:=congrArg Xy eX;simp at this;omega
 rw [eX] at h1 h2 h3
 refine ⟨X,?_,h2,by rw [← eX];rfl,h3,by omega⟩
 have hw:Ym (tV (ev2 (vr 1) (kd .none) isnD)) Qz [some (.dict (eO os)),some (.int k'),some (.list [])]=some (.nx [some (.dict (eO os)),some .none,some (.list ((X++[f0]).map .int))]):=h1
 simp only [Zn,yF]
 simp_arith [hw]
theorem qg1 {α:Type}(xs:List α)(u v:α):atI (xs++[u]++[v]) (-2)=some u:=by
 unfold atI ixN
 rw [ah '#',ag (by rw [Km,Km,Ku,Ku];omega)]
 have e:((-2:Int)+((xs++[u]++[v]).length:Int)).toNat=xs.length:=by
  rw [Km,Km,Ku,Ku];omega
 show (xs++[u]++[v])[((-2:Int)+((xs++[u]++[v]).length:Int)).toNat]?=some u
 rw [e,Ux,Vb (Kq _),XE]
 rfl
theorem qaM {α:Type}(xs:List α):xs=[]\/∃ ys y,xs=ys++[y]:=by
 rcases List.eq_nil_or_concat xs with h|⟨l,b,h⟩
 ·exact .inl h
 ·exact .inr ⟨l,b,by rw [h,List.concat_eq_append]⟩
theorem qdd {α:Type}{xs:List α}{u v k:α}(h:(xs++[u]++[v]).head?=some k):(xs++[u]).head?=some k:=by
 cases xs with
 | nil=>exact h
 | cons x xs=>exact h
def Nxt (os:List Og)(a b:Int):Prop:=Par os a b\/Par os b a
theorem qie {n:Nat}(hn:n<=100){f0:Int}{LL:List (List Int)}{os:List Og}(tk:Tk n f0 LL os []){i j:Int}(hi:i∈ky os)(hj:j∈ky os):∃ ks:List Int,QX [.dict (eO os),.int i,.int j]=some (.list (ks.map .int))/\Lnk (Nxt os) ks/\ks.head?=some i/\ks.getLast?=some j/\(∀ a∈ks,a∈ky os)/\ks.length<=2*n+1:=by
 obtain ⟨X0,ex,lx,hx,mx,nx⟩:=qfD hn tk hi
 obtain ⟨Y0,ey,ly,hy,my,ny⟩:=qfD hn tk hj
 obtain ⟨ρ',m',ew,⟨X,Y,a,rfl,p1,p2,p3,p4,p5,p6,p7,p8,-⟩,et⟩:=Yt (t:=tA (tV (ev2 (evA (aC (vr 3) aN) lenD) (kd (.int 1)) gtD)) (tA (tV (ev2 (evA (aC (vr 4) aN) lenD) (kd (.int 1)) gtD)) (tV (ev2 (ev2 (vr 3) (ev1 (kd (.int 2)) negD) ixD) (ev2 (vr 4) (ev1 (kd (.int 2)) negD) ixD) eqD)))) (body:=seqO (wG 3) (wG 4))
  (λm ρ=>∃ (X Y:List Int) (a:Int),ρ=[some (.dict (eO os)),some (.int i),some (.int j),some (.list ((X++[a]).map .int)),some (.list ((Y++[a]).map .int))]/\Lnk (Par os) (X++[a])/\Lnk (Par os) (Y++[a])/\(X++[a]).head?=some i/\(Y++[a]).head?=some j/\(∀ b∈X++[a],b∈ky os)/\(∀ b∈Y++[a],b∈ky os)/\X.length<=n/\Y.length<=n/\m=X.length) (by
   rintro m ρ ⟨X,Y,a,rfl,p1,p2,p3,p4,p5,p6,p7,p8,rfl⟩
   have len:∀ Z:List Int,((Z++[a]).map Kj).length=Z.length+1:=λZ=>by rw [Kf,Km,Ku]
   rcases qaM X with rfl|⟨X1,x,rfl⟩
   ·exact .inl (by simp_arith [XW,Kt,VR,Kz,V5])
   ·rcases qaM Y with rfl|⟨Y1,y,rfl⟩
    ·refine .inl ?_
     have g1:decide ((1:Int)<(((X1++[x]++[a]).map Kj).length:Int))=true:=ae (by rw [len,Km,Ku];omega)
     simp_arith [g1,XW,Kt,VR,Kz,V5]
    ·have g1:decide ((1:Int)<(((X1++[x]++[a]).map Kj).length:Int))=true:=ae (by rw [len,Km,Ku];omega)
     have g2:decide ((1:Int)<(((Y1++[y]++[a]).map Kj).length:Int))=true:=ae (by rw [len,Km,Ku];omega)
     have a1:atI ((X1++[x]++[a]).map Kj) (-2)=some (.int x):=by rw [Kx,Kx];exact qg1 _ _ _
     have a2:atI ((Y1++[y]++[a]).map Kj) (-2)=some (.int y):=by rw [Kx,Kx];exact qg1 _ _ _
     by_cases e:x=y
     ·subst e
      refine .inr ⟨by simp_arith [g1,g2,a1,a2,aL],_,_,?_,?_,X1,Y1,x,rfl,qcu p1,qcu p2,qdd p3,qdd p4,λb hb=>p5 b (Va _ hb),λb hb=>p6 b (Va _ hb),?_,?_,rfl⟩
      ·have q1:popD (.list ((X1++[x]++[a]).map Kj))=some (.int a,.list ((X1++[x]).map .int)):=by rw [Kx];exact qbM _ _
       have q2:popD (.list ((Y1++[x]++[a]).map Kj))=some (.int a,.list ((Y1++[x]).map .int)):=by rw [Kx];exact qbM _ _
       simp_arith [q1,q2]
      ·rw [Km,Ku];omega
      ·rw [Km,Ku] at p7;omega
      ·rw [Km,Ku] at p8;omega
     ·refine .inl ?_
      have e':(x==y)=false:=ar.mpr e
      simp_arith [g1,g2,a1,a2,e']) 1000000 X0.length [some (.dict (eO os)),some (.int i),some (.int j),some (.list ((X0++[f0]).map .int)),some (.list ((Y0++[f0]).map .int))] '$' ⟨X0,Y0,f0,rfl,lx,ly,hx,hy,mx,my,nx,ny,rfl⟩
 have sy:∀ a b,Nxt os a b->Nxt os b a:=λa b h=>h.symm
 have q1:Lnk (Nxt os) (X++[a]):=Y8 (λ_ _=>.inl) p1
 have q2:Lnk (Nxt os) (a::Y.reverse):=by
  have:=qfx sy (Y8 (λ_ _=>.inl) p2:Lnk (Nxt os) (Y++[a]))
  rw [List.reverse_append] at this
  exact this
 refine ⟨X++a::Y.reverse,?_,qct q2 q1,?_,?_,λb hb=>?_,?_⟩
 ·have sl:sliD (.list ((Y++[a]).map Kj)) none (some (-1))=some (.list (Y.map .int)):=by
   show some (Vk (cutD ((Y++[a]).map Kj) none (some (-1))))=_
   have s1:HT.sIx ((Y++[a]).map Kj).length ((Y++[a]).map Kj).length (some (-1))=Y.length:=by
    rw [Kf,Km,Ku]
    show (if (-1:Int)<0 then ((-1:Int)+((Y.length+1:Nat):Int)).toNat else min (-1:Int).toNat (Y.length+1))=_
    rw [ag '#']
    omega
   unfold cutD
   rw [s1]
   show some (Vk (((Y++[a]).map Kj).take (Y.length-0)))=_
   rw [Nat.sub_zero,Kx,List.take_left' (by rw [Kf])]
  have rv:revD (.list (Y.map Kj))=some (.list (Y.reverse.map .int)):=by
   show (if (Y.map Kj).length<=1000 then some (Vk (Y.map Kj).reverse) else none)=_
   rw [ag (by rw [Kf];omega),List.map_reverse]
  have ad:Qq (.list ((X++[a]).map Kj)) (.list (Y.reverse.map .int))=some (.list ((X++a::Y.reverse).map .int)):=by
   show (if ((X++[a]).map Kj).length+(Y.reverse.map Kj).length<=1000 then some (Vk ((X++[a]).map Kj++Y.reverse.map Kj)) else none)=_
   rw [ag (by rw [Kf,Kf,Km,Ku,XS];omega),← Kx,Ux]
   rfl
  have hw:Ym (tA (tV (ev2 (evA (aC (vr 3) aN) lenD) (kd (.int 1)) gtD)) (tA (tV (ev2 (evA (aC (vr 4) aN) lenD) (kd (.int 1)) gtD)) (tV (ev2 (ev2 (vr 3) (ev1 (kd (.int 2)) negD) ixD) (ev2 (vr 4) (ev1 (kd (.int 2)) negD) ixD) eqD)))) (seqO (wG 3) (wG 4)) [some (.dict (eO os)),some (.int i),some (.int j),some (.list ((X0++[f0]).map .int)),some (.list ((Y0++[f0]).map .int))]=some (.nx [some (.dict (eO os)),some (.int i),some (.int j),some (.list ((X++[a]).map .int)),some (.list ((Y++[a]).map .int))]):=ew
  simp only [QX,jR]
  simp_arith [ex,ey,hw,sl,rv,ad]
 ·cases X with
  | nil=>exact p3
  | cons x X=>exact p3
 ·cases Y with
  | nil=>rw [List.reverse_nil,List.getLast?_append];exact p4
  | cons y Y =>
   rw [Uw,← List.cons_append,← Ux,List.getLast?_concat]
   exact p4
 ·rcases K8.mp hb with z|z
  ·exact p5 b (Va _ z)
  ·rcases Kr.mp z with rfl|z
   ·exact p5 b (KP _ (Ky.mpr rfl))
   ·exact p6 b (Va _ (List.mem_reverse.mp z))
 ·rw [Km,Kz,XS];omega
theorem qfg (a b:Sp3):Ks (encS a) (encS b)=decide (a=b):=by
 have h:=qhu (a.x,a.y,a.z) (b.x,b.y,b.z)
 have e:Ks (encS a) (encS b)=decide ((a.x,a.y,a.z)=(b.x,b.y,b.z)):=h
 rw [e]
 congr 1
 exact propext ⟨λz=>by cases a;cases b;cases z;rfl,λz=>by rw [z]⟩
theorem qiH:∀ s∈qz,∀ t∈qz,rowP s=rowP t->rowQ s=rowQ t->s=t:=by decide +kernel
theorem eqvP (p q:Sp3×Tr)(hp:p.2∈qz)(hq:q.2∈qz):Ks (encP p.1 p.2) (encP q.1 q.2)=decide (p=q):=by
 have h:Ks (encP p.1 p.2) (encP q.1 q.2)=(Ks (encS p.1) (encS q.1)&&(Ks (encS (rowP p.2)) (encS (rowP q.2))&&(Ks (encS (rowQ p.2)) (encS (rowQ q.2))&&true))):=rfl
 rw [h,qfg,qfg,qfg,Bool.and_true,← Bool.decide_and,← Bool.decide_and]
 congr 1
 exact propext ⟨λ⟨a,b,c⟩=>Prod.ext a (qiH _ hp _ hq b c),λz=>by rw [z];exact ⟨rfl,rfl,rfl⟩⟩
theorem qk1 (p q:Sp3×Tr)(hp:p.2∈qz)(hq:q.2∈qz):neD (encP p.1 p.2) (encP q.1 q.2)=some (.bool (!decide (p=q))):=by
 unfold neD
 rw [ag ⟨rfl,rfl⟩,eqvP p q hp hq]
noncomputable abbrev Nm:=Sp3×Nat
noncomputable def kS3 (s:Sp3):KX:=.inr [.inl s.x,.inl s.y,.inl s.z]
noncomputable def eNm (zs:List Nm):List (Ka×PyData):=zs.map λp=>(encS p.1,.int (p.2:Nat))
theorem qce (zs:List Nm)(s:Sp3):kOk (eNm zs) (kS3 s)=true:=by
 unfold kOk eNm
 rw [X6]
 exact K4.mpr λp _=>rfl
theorem YT (s:Sp3):∀ zs:List Nm,zB (eNm zs) (kS3 s)=(zs.find? λp=>decide (p.1=s)).map λp=>Kj (p.2:Nat)
 | []=>rfl
 | p::zs=>by
  have ih:=YT s zs
  unfold zB eNm at *
  rw [show kxD (kS3 s)=encS s from rfl] at *
  rw [Kt,VB,VB,qfg]
  by_cases h:p.1=s
  ·rw [ae h];rfl
  ·rw [ab h];exact ih
theorem qlC (zs:List Nm)(s:Sp3):in2D (encS s) (.dict (eNm zs))=some (.bool (zs.find? λp=>decide (p.1=s)).isSome):=by
 show ob (kxOf (encS s)) (λks=>if kOk (eNm zs) ks=true then some (UC (zB (eNm zs) ks).isSome) else none)=_
 rw [show kxOf (encS s)=some (kS3 s) from rfl,ob_s,ag (qce _ _),YT,Option.isSome_map]
theorem qlL {zs:List Nm}{s:Sp3}{p:Nm}(e:(zs.find? λp=>decide (p.1=s))=some p):ix2D (.dict (eNm zs)) (encS s)=some (.int (p.2:Nat)):=by
 show ob (kxOf (encS s)) (λks=>if kOk (eNm zs) ks=true then zB (eNm zs) ks else none)=_
 rw [show kxOf (encS s)=some (kS3 s) from rfl,ob_s,ag (qce _ _),YT,e]
 rfl
theorem qkr {zs:List Nm}{s:Sp3}(n:Nat)(hl:zs.length<900)(e:(zs.find? λp=>decide (p.1=s))=none):YQ (.dict (eNm zs)) (encS s) (.int (n:Nat))=some (.dict (eNm (zs++[(s,n)]))):=by
 show ob (kxOf (encS s)) (λks=>if kOk (eNm zs) ks=true/\(eNm zs).length<1000 then some (ER (putD (eNm zs) ks _)) else none)=_
 rw [show kxOf (encS s)=some (kS3 s) from rfl,ob_s,ag ⟨qce _ _,by unfold eNm;rw [Kf];omega⟩]
 unfold putD
 rw [YT,e,Option.map_none,ah '#']
 unfold eNm
 rw [Kx]
 rfl
noncomputable def fmA (zs:List Nm)(n:Nat):List Sp3->Option (Nat×Nat)
 | []=>none
 | x::xs=>match zs.find? λp=>decide (p.1=x) with
  | some p=>some (p.2,n)
  | none=>fmA (zs++[(x,n)]) (n+1) xs
theorem qfi {g:Sp3->Sp3}(hg:∀ a b,g a=g b->a=b)(x:Sp3):∀ zs:List Nm,((zs.map λp=>(g p.1,p.2)).find? λp=>decide (p.1=g x))=(zs.find? λp=>decide (p.1=x)).map λp=>(g p.1,p.2)
 | []=>rfl
 | p::zs=>by
  rw [Kt,VB,VB]
  by_cases h:p.1=x
  ·rw [ae h,ae (by rw [h])];rfl
  ·rw [ab h,ab (λz=>h (hg _ _ z))];exact qfi hg x zs
theorem qfj {g:Sp3->Sp3}(hg:∀ a b,g a=g b->a=b):∀ (xs:List Sp3) (zs:List Nm) (n:Nat),fmA (zs.map λp=>(g p.1,p.2)) n (xs.map g)=fmA zs n xs
 | [],_,_=>rfl
 | x::xs,zs,n=>by
  rw [Kt]
  unfold fmA
  rw [qfi hg]
  cases e:zs.find? λp=>decide (p.1=x) with
  | some p=>rfl
  | none =>
   have:=qfj hg xs (zs++[(x,n)]) (n+1)
   rw [Kx] at this
   exact this
noncomputable def fmD:Option (Nat×Nat)->Ka
 | none=>.none
 | some p=>.tuple [.int (p.1:Nat),.int (p.2:Nat)]
theorem qkY (d0:Ka):∀ (xs:List Sp3) (zs:List Nm) (n:Nat) (o2 o3:Option Ka),zs.length+xs.length<=800->
  match fmA zs n xs with
  | some p=>forD (unpD 2 (gsC (gNm 2) (gsC (gNm 3) gsN))) Qf (enL n (xs.map encS)) [some d0,some (.dict (eNm zs)),o2,o3]=some (.rt (fmD (some p)))
  | none=>∃ r1 r2 r3,forD (unpD 2 (gsC (gNm 2) (gsC (gNm 3) gsN))) Qf (enL n (xs.map encS)) [some d0,some (.dict (eNm zs)),o2,o3]=some (.nx [some d0,r1,r2,r3])
 | [],zs,n,o2,o3,_=>⟨_,_,_,rfl⟩
 | x::xs,zs,n,o2,o3,hl=>by
  rw [Kz] at hl
  have en:enL n ((x::xs).map encS)=.tuple [.int (n:Nat),encS x]::enL (n+1) (xs.map encS):=rfl
  have hu:unpD 2 (gsC (gNm 2) (gsC (gNm 3) gsN)) (.tuple [.int (n:Nat),encS x]) [some d0,some (.dict (eNm zs)),o2,o3]=some [some d0,some (.dict (eNm zs)),some (.int (n:Nat)),some (encS x)]:=rfl
  have hin:=qlC zs x
  unfold fmA
  cases e:zs.find? λp=>decide (p.1=x) with
  | some p =>
   have ix:=qlL e
   rw [e,Fg] at hin
   have hb:Qf [some d0,some (.dict (eNm zs)),some (.int (n:Nat)),some (encS x)]=some (.rt (fmD (some (p.2,n)))):=by
    simp_arith [hin,ix]
    rfl
   dsimp only
   rw [en,jd,hu,ob_s,hb]
   rfl
  | none =>
   have pt:=qkr n '$' e
   rw [e,Option.isSome_none] at hin
   have hb:Qf [some d0,some (.dict (eNm zs)),some (.int (n:Nat)),some (encS x)]=some (.nx [some d0,some (.dict (eNm (zs++[(x,n)]))),some (.int (n:Nat)),some (encS x)]):=by
    simp_arith [hin,pt]
   have ih:=qkY d0 xs (zs++[(x,n)]) (n+1) (some (.int (n:Nat))) (some (encS x)) (by rw [Km,Ku];omega)
   dsimp only
   rw [en,jd,hu,ob_s,hb,yN]
   exact ih
theorem qlW {xs:List Sp3}(hl:xs.length<=800):zM [.list (xs.map encS)]=some (fmD (fmA [] 0 xs)):=by
 have h:=qkY (.list (xs.map encS)) xs [] 0 none none (by rw [V5];omega)
 have eu:qc4 (.list (xs.map encS))=some (enL 0 (xs.map encS)):=rfl
 have h0:(ER [])=.dict (eNm []):=rfl
 cases e:fmA [] 0 xs with
 | some p =>
  rw [e] at h
  simp only [zM,Zc,h0]
  simp_arith [eu,h]
 | none =>
  rw [e] at h
  obtain ⟨r1,r2,r3,h⟩:=h
  simp only [zM,Zc,h0]
  simp_arith [eu,h]
  rfl
noncomputable def cofD (ps:List (Sp3×Tr)):Ka:=match fmA [] 0 (ps.map (·.1)) with
 | none=>.tuple [.str "folded", .list (ps.map λp=>encP p.1 p.2)]
 | some q=>.tuple [.str "clash", .int (q.1:Nat),.int (q.2:Nat)]
theorem cof16 {ps:List (Sp3×Tr)}(hl:ps.length<=800):zH [.list (ps.map λp=>encP p.1 p.2)]=some (cofD ps):=by
 have hc:QR tT (ev2 (vr 2) ')' ixD) [some (.list (ps.map λp=>encP p.1 p.2)),none] (ps.map λp=>encP p.1 p.2)=some ((ps.map (·.1)).map encS):=by
  rw [K6]
  have:=Jg (ρ:=[some (.list (ps.map λp=>encP p.1 p.2)),none]) (tt:=tT) (te:=ev2 (vr 2) ')' ixD) (λp:Sp3×Tr=>encP p.1 p.2) (λ_=>true) (λp=>encS p.1) ps (λ_ _=>rfl) (λp _ _=>rfl)
  rw [this,List.filter_eq_self.mpr λ_ _=>rfl]
  rfl
 have hlen:(ps.map λp=>encP p.1 p.2).length<=1000:=by rw [Kf];omega
 have hm:=qlW (xs:=ps.map (·.1)) (by rw [Kf];exact hl)
 unfold cofD
 cases e:fmA [] 0 (ps.map (·.1)) with
 | none =>
  rw [e] at hm
  have hm:zM [.list ((ps.map (·.1)).map encS)]=some .none:=hm
  have hi:isD .none .none=some (.bool true):=rfl
  simp only [zH,QK]
  simp_arith [hc,hlen,hm,hi]
 | some q =>
  rw [e] at hm
  have hm:zM [.list ((ps.map (·.1)).map encS)]=some (.tuple [.int (q.1:Nat),.int (q.2:Nat)]):=hm
  have hi:isD (.tuple [.int (q.1:Nat),.int (q.2:Nat)]) .none=some (.bool false):=rfl
  simp only [zH,QK]
  simp_arith [hc,hlen,hm,hi]
noncomputable def st16:Tr:=⟨1,0,0,0,1,0,0,0,1⟩
noncomputable def sp16:Sp3:=⟨1,1,0⟩
theorem qmL {u w:Rho->Option Out}{ρ:Rho}{d:Ka}(h:u ρ=some (.rt d)):seqO u w ρ=some (.rt d):=by rw [qeH,h,qcW]
def Cn (S:List Ce)(J:List Sp):Prop:=∀ a b:Int,0<=a->a<(S.length:Int)->0<=b->b<(S.length:Int)->∀ K:Int->Prop,K a->(∀ x y s,K x->lk13 S J x y=some s->K y)->K b
def Okj (S:List Ce)(J:List Sp)(P:Int->Sp3×Tr)(t:Sp):Prop:=∀ s,lk13 S J t.1 t.2.1=some s->P t.2.1=ledP (P t.1) s
structure Rg (S:List Ce)(os:List Og)(t:Sp)(ks:List Int):Prop where
 ln:Lnk (Nxt os) ks
 hd:ks.head?=some t.1
 la:ks.getLast?=some t.2.1
 mem:∀ a∈ks,a∈ky os
 len:ks.length<=2*S.length+1
theorem qkQ {S:List Ce}{J:List Sp}(h:J13 S J){W:List (Ce×Ce)}(w13:W13 S J S.length W){LL:List (List Int)}{f0:Int}{os:List Og}(tk:Tk S.length f0 LL os []){p0:Sp3×Tr}{P:Int->Sp3×Tr}(w:Wy S J os f0 p0 P os.length)(all:∀ k,0<=k->k<(S.length:Int)->k∈ky os)(d0 d1 d2:Ka):∀ (ts:List Sp),(∀ t∈ts,t∈J)->∀ o6:Option Ka,
  ((∀ t∈ts,Okj S J P t)/\∃ r6,forD (gNm 6) Zf (ts.map eS) [some d0,some d1,some d2,some (.dict (eW W)),some (.dict (eO os)),some (.dict (eO (dP os P))),o6]=some (.nx [some d0,some d1,some d2,some (.dict (eW W)),some (.dict (eO os)),some (.dict (eO (dP os P))),r6]))\/
  (∃ t∈ts,¬ Okj S J P t/\∃ ks:List Int,forD (gNm 6) Zf (ts.map eS) [some d0,some d1,some d2,some (.dict (eW W)),some (.dict (eO os)),some (.dict (eO (dP os P))),o6]=some (.rt (.tuple [.str "ring", .list (ks.map .int)]))/\Rg S os t ks)
 | [],_,o6=>.inl ⟨λ_ h=>(nomatch h),o6,rfl⟩
 | t::ts,hts,o6=>by
  have htJ:=hts t (.head _)
  obtain ⟨wt,_,e1,e2⟩:=lk_t h htJ
  obtain ⟨hw,hb⟩:=yl h e1
  obtain ⟨⟨a0,a1⟩,b0,b1⟩:=yZ h (je e1).1
  have ka:=all t.1 a0 a1
  have kb:=all t.2.1 b0 b1
  have at':∀ k:Int,k∈ky os->ix2D (.dict (eO (dP os P))) (.int k)=some (poD P k)/\(P k).2∈qz:=λk hk=>by
   obtain ⟨i,ei⟩:=VV hk
   obtain ⟨d,ei⟩:=qaO ei
   exact ⟨qfp (by rw [qfu];exact tk.nd) (qhl ei),w.tn i k d (Kk.mp ei).1 ei⟩
  obtain ⟨xa,ta⟩:=at' _ ka
  obtain ⟨xb,tb⟩:=at' _ kb
  have ix:ix2D (.dict (eW W)) (eC (t.1,t.2.1))=some (eC (wt,t.2.2)):=ix13 h w13 e1
  have le:Zx [eC (wt,t.2.2),poD P t.1]=some (encP (ledP (P t.1) (wt,t.2.1,t.2.2)).1 (ledP (P t.1) (wt,t.2.1,t.2.2)).2):=qfv (P t.1).1 (Tn.of ta) hw hb
  have ne:neD (encP (ledP (P t.1) (wt,t.2.1,t.2.2)).1 (ledP (P t.1) (wt,t.2.1,t.2.2)).2) (poD P t.2.1)=some (.bool (!decide (ledP (P t.1) (wt,t.2.1,t.2.2)=P t.2.1))):=qk1 _ _ (qcp ta hw hb) tb
  have s1:Vi [.int t.1,.int t.2.1]=eC (t.1,t.2.1):=rfl
  have g:gNm 6 (eS t) [some d0,some d1,some d2,some (.dict (eW W)),some (.dict (eO os)),some (.dict (eO (dP os P))),o6]=some [some d0,some d1,some d2,some (.dict (eW W)),some (.dict (eO os)),some (.dict (eO (dP os P))),some (eS t)]:=rfl
  by_cases hk:ledP (P t.1) (wt,t.2.1,t.2.2)=P t.2.1
  ·rw [ae hk] at ne
   have hbd:Zf [some d0,some d1,some d2,some (.dict (eW W)),some (.dict (eO os)),some (.dict (eO (dP os P))),some (eS t)]=some (.nx [some d0,some d1,some d2,some (.dict (eW W)),some (.dict (eO os)),some (.dict (eO (dP os P))),some (eS t)]):=by
    simp_arith [ixe0,ixe1,s1,ix,xa,xb,le,ne]
   have ok:Okj S J P t:=λs es=>by rw [e1] at es;cases es;exact hk.symm
   rw [Kt,jd,g,ob_s,hbd,yN]
   rcases qkQ h w13 tk w all d0 d1 d2 ts (λt ht=>hts t (.tail _ ht)) (some (eS t)) with ⟨q1,q2⟩|⟨z,q0,q1,q2⟩
   ·exact .inl ⟨λz hz=>(Kr.mp hz).elim (λe=>by rw [e];exact ok) (q1 z),q2⟩
   ·exact .inr ⟨z,.tail _ q0,q1,q2⟩
  ·rw [ab hk] at ne
   obtain ⟨ks,ek,l1,l2,l3,l4,l5⟩:=qie (by have:=h.ls;omega) tk ka kb
   have hbd:Zf [some d0,some d1,some d2,some (.dict (eW W)),some (.dict (eO os)),some (.dict (eO (dP os P))),some (eS t)]=some (.rt (.tuple [.str "ring", .list (ks.map .int)])):=by
    simp_arith [ixe0,ixe1,s1,ix,xa,xb,le,ne,ek]
   refine .inr ⟨t,.head _,λz=>hk (z _ e1).symm,ks,?_,l1,l2,l3,l4,l5⟩
   rw [Kt,jd,g,ob_s,hbd]
   rfl
structure Fo (S:List Ce)(J:List Sp)(os:List Og)(f0:Int)(p0:Sp3×Tr)(P:Int->Sp3×Tr)(r:Ka):Prop where
 wy:Wy S J os f0 p0 P os.length
 all:∀ k,0<=k->k<(S.length:Int)->k∈ky os
 kr:∀ k∈ky os,0<=k/\k<(S.length:Int)
 hd:os[0]?=some (f0,.none)
 ol:os.length<=100
 or:((∀ t∈J,Okj S J P t)/\r=cofD ((KG S.length).map λk:Nat=>P (k:Int)))\/(∃ t∈J,¬ Okj S J P t/\∃ ks:List Int,r=.tuple [.str "ring", .list (ks.map .int)]/\Rg S os t ks)
theorem qed {S:List Ce}{J:List Sp}(h:J13 S J)(cn:Cn S J){f0:Int}(hf:0<=f0/\f0<(S.length:Int)){p0:Sp3×Tr}(hp:p0.2∈qz){pd:Ka}(hpd:(pd=.none/\p0=(sp16,st16))\/pd=encP p0.1 p0.2) :
  ∃ os P r,Qh [.tuple [.list (S.map eC),.list (J.map eS)],.int f0,pd]=some r/\Fo S J os f0 p0 P r:=by
 have ls:=h.ls
 obtain ⟨W,ew,w13⟩:=qkF h
 obtain ⟨LL,el,lk,li,on⟩:=qjS (n:=S.length) '$' (J:=J) (λt ht=>by
  obtain ⟨_,_,e1,_⟩:=lk_t h ht
  have:=yZ h (je e1).1
  exact this) (by have:=h.lj;omega)
 obtain ⟨os,er,tk,cl⟩:=qkw '$' hf lk
 obtain ⟨P,w⟩:=qiV h on tk hp os.length (Kq _)
 have ep:=qkn h w13 tk w
 have f0k:f0∈ky os:=KQ.mpr ⟨_,KN tk.hd,rfl⟩
 have all:∀ k,0<=k->k<(S.length:Int)->k∈ky os:=λk k0 k1=>cn f0 k hf.1 hf.2 k0 k1 (λx=>x∈ky os) f0k λx y s hx e=>cl x hx y (by
  obtain ⟨t,ht,q⟩:=qcs h e
  rcases q with ⟨rfl,rfl⟩|⟨rfl,rfl⟩
  ·exact (li t ht).1
  ·exact (li t ht).2)
 have lenS:lenD [.list (S.map eC)]=some (.int ((S.length:Nat):Int)):=by
  show some (Kj (((S.map eC).length:Nat):Int))=_
  rw [Kf]
 have hst:(vIf (tV (ev2 (vr 2) (kd .none) isD)) (kd YJ) (vr 2)) [some (.tuple [.list (S.map eC),.list (J.map eS)]),some (.int f0),some pd,some (.dict (eW W)),some (.dict (eO os)),none,none]=some (encP p0.1 p0.2):=by
  rcases hpd with ⟨rfl,rfl⟩|rfl
  ·rfl
  ·rfl
 have s5:sSet 5 (evC 3 (aC (vr 3) (aC (vr 4) (aC (vIf (tV (ev2 (vr 2) (kd .none) isD)) (kd YJ) (vr 2)) aN))) QC) [some (.tuple [.list (S.map eC),.list (J.map eS)]),some (.int f0),some pd,some (.dict (eW W)),some (.dict (eO os)),none,none]=some (.nx [some (.tuple [.list (S.map eC),.list (J.map eS)]),some (.int f0),some pd,some (.dict (eW W)),some (.dict (eO os)),some (.dict (eO (dP os P))),none]):=by
  simp_arith [-L2.qlc,hst,ep]
 have s3:sSet 3 (evC 1 (aC (vr 0) aN) ZS) [some (.tuple [.list (S.map eC),.list (J.map eS)]),some (.int f0),some pd,none,none,none,none]=some (.nx [some (.tuple [.list (S.map eC),.list (J.map eS)]),some (.int f0),some pd,some (.dict (eW W)),none,none,none]):=by
  simp_arith [ew]
 have s4:sSet 4 (evC 2 (aC (vr 1) (aC (evC 2 (aC (evA (aC (ev2 (vr 0) ')' ixD) aN) lenD) (aC (ev2 (vr 0) (kd (.int 1)) ixD) aN)) QW) aN)) Qv) [some (.tuple [.list (S.map eC),.list (J.map eS)]),some (.int f0),some pd,some (.dict (eW W)),none,none,none]=some (.nx [some (.tuple [.list (S.map eC),.list (J.map eS)]),some (.int f0),some pd,some (.dict (eW W)),some (.dict (eO os)),none,none]):=by
  simp_arith [lenS,el,er]
 have r0:rho0 YB.length [.tuple [.list (S.map eC),.list (J.map eS)],.int f0,pd]=[some (.tuple [.list (S.map eC),.list (J.map eS)]),some (.int f0),some pd,none,none,none,none]:=rfl
 rcases qkQ h w13 tk w all (.tuple [.list (S.map eC),.list (J.map eS)]) (.int f0) pd J (λt ht=>ht) none with ⟨ok,r6,e6⟩|⟨t,ht,nok,ks,e6,rg⟩
 ·refine ⟨os,P,_,?_,w,all,tk.kr,tk.hd,by have:=tk.size;omega,.inl ⟨ok,rfl⟩⟩
  have fl:sFor (evI (ev2 (vr 0) (kd (.int 1)) ixD) seqD) (gNm 6) Zf [some (.tuple [.list (S.map eC),.list (J.map eS)]),some (.int f0),some pd,some (.dict (eW W)),some (.dict (eO os)),some (.dict (eO (dP os P))),none]=some (.nx [some (.tuple [.list (S.map eC),.list (J.map eS)]),some (.int f0),some pd,some (.dict (eW W)),some (.dict (eO os)),some (.dict (eO (dP os P))),r6]):=by
   simp_arith [e6]
  have hr:(if (-1000:Int)<=((S.length:Nat):Int)/\((S.length:Nat):Int)<=1000 then some (rngL 0 (((S.length:Nat):Int)).toNat) else none)=some ((KG S.length).map λk:Nat=>Kj (k:Nat)):=by
   rw [ag '$',Vl,yt]
  have hc:QR tT (ev2 (vr 5) (vr 7) ix2D) [some (.tuple [.list (S.map eC),.list (J.map eS)]),some (.int f0),some pd,some (.dict (eW W)),some (.dict (eO os)),some (.dict (eO (dP os P))),r6] ((KG S.length).map λk:Nat=>Kj (k:Nat))=some ((KG S.length).map λk:Nat=>poD P (k:Int)) :=
   qai (λk:Nat=>Kj (k:Nat)) _ _ λk hk=>by
    have hm:=all (k:Int) '$' (by have:=UT.mp hk;omega)
    obtain ⟨i,ei⟩:=VV hm
    obtain ⟨d,ei⟩:=qaO ei
    have x:=qfp (os:=dP os P) (by rw [qfu];exact tk.nd) (qhl (P:=P) ei)
    simp_arith [x]
  have hlen:((KG S.length).map λk:Nat=>Kj (k:Nat)).length<=1000:=by rw [Kf,Vh];omega
  have hco:zH [.list ((KG S.length).map λk:Nat=>poD P (k:Int))]=some (cofD ((KG S.length).map λk:Nat=>P (k:Int))):=by
   have:=cof16 (ps:=(KG S.length).map λk:Nat=>P (k:Int)) (by rw [Kf,Vh];omega)
   rw [K6] at this
   exact this
  unfold Qh wK
  rw [r0,JF s3 (JF s4 (JF s5 (JF fl rfl)))]
  simp_arith [lenS,hr,hlen,hc,hco]
 ·refine ⟨os,P,_,?_,w,all,tk.kr,tk.hd,by have:=tk.size;omega,.inr ⟨t,ht,nok,ks,rfl,rg⟩⟩
  have fl:sFor (evI (ev2 (vr 0) (kd (.int 1)) ixD) seqD) (gNm 6) Zf [some (.tuple [.list (S.map eC),.list (J.map eS)]),some (.int f0),some pd,some (.dict (eW W)),some (.dict (eO os)),some (.dict (eO (dP os P))),none]=some (.rt (.tuple [.str "ring", .list (ks.map .int)])):=by
   simp_arith [e6]
  unfold Qh wK
  rw [r0,JF s3 (JF s4 (JF s5 (qmL fl)))]
  rfl
theorem qhB {S:List Ce}{J:List Sp}(h:J13 S J){P:Int->Sp3×Tr}(tn:∀ k,0<=k->k<(S.length:Int)->(P k).2∈qz)(g:∀ t∈J,Okj S J P t){a b:Int}{s:Sp}(e:lk13 S J a b=some s):P b=ledP (P a) s:=by
 obtain ⟨t,ht,q⟩:=qcs h e
 rcases q with ⟨rfl,rfl⟩|⟨rfl,rfl⟩
 ·exact g t ht s e
 ·obtain ⟨s',e',h1,h2⟩:=qaH h e
  obtain ⟨s0,e0,h3,h4⟩:=qaH h e'
  rw [e] at e0
  cases e0
  obtain ⟨hw,hb⟩:=yl h e'
  obtain ⟨⟨a0,a1⟩,_⟩:=yZ h (je e').1
  rw [g t ht s' e',qaF (tn _ a0 a1) hw hb h3 h4]
theorem qbt {S:List Ce}{J:List Sp}{os:List Og}{f0:Int}{p0:Sp3×Tr}{P:Int->Sp3×Tr}{r:Ka}(f:Fo S J os f0 p0 P r)(k:Int)(k0:0<=k)(k1:k<(S.length:Int)):(P k).2∈qz:=by
 obtain ⟨i,ei⟩:=VV (f.all k k0 k1)
 obtain ⟨d,ei⟩:=qaO ei
 exact f.wy.tn i k d (Kk.mp ei).1 ei
theorem tr24:∀ t∈qz,trT t∈qz/\mulT t (trT t)=idT/\mulT (trT t) t=idT:=by decide +kernel
theorem qkZ {p q:Sp3×Tr}(hp:p.2∈qz)(hq:q.2∈qz):∃ m:Sp3×Tr,m.2∈qz/\mvP m q=p:=by
 obtain ⟨h1,h2,_⟩:=tr24 q.2 hq
 refine ⟨(addS p.1 (negS (app (mulT (trT q.2) p.2) q.1)),mulT (trT q.2) p.2),qh6 _ h1 _ hp,?_⟩
 unfold mvP
 dsimp only
 rw [QM,qcx,wN,← Jx,h2,qhG]
theorem qkO {S:List Ce}{J:List Sp}(h:J13 S J){os:List Og}{f0:Int}{p0:Sp3×Tr}{P Q:Int->Sp3×Tr}{r:Ka}(f:Fo S J os f0 p0 P r)(tq:∀ k,0<=k->k<(S.length:Int)->(Q k).2∈qz)(gq:∀ a b s,lk13 S J a b=some s->Q b=ledP (Q a) s){m:Sp3×Tr}(hm:m.2∈qz)(e0:mvP m (Q f0)=p0):∀ (n i:Nat) (k:Int) (d:Ka),i<n->os[i]?=some (k,d)->P k=mvP m (Q k)
 | 0,_,_,_,h,_=>absurd h (U9 _)
 | n+1,i,k,d,hi,e=>by
  by_cases h0:i=0
  ·subst h0
   rw [f.hd] at e
   cases e
   rw [e0,f.wy.at0]
  ·obtain ⟨j,q,dq,s,hj,_,ej,es,ep⟩:=f.wy.al i k d (Kk.mp e).1 e '$'
   have ih:=qkO h f tq gq hm e0 n j q dq '$' ej
   obtain ⟨hw,hb⟩:=yl h es
   obtain ⟨⟨a0,a1⟩,_⟩:=yZ h (je es).1
   rw [ep,ih,qev hm (tq q a0 a1) hw hb,gq q k s es]
theorem fo_mv {S:List Ce}{J:List Sp}(h:J13 S J){os:List Og}{f0:Int}{p0:Sp3×Tr}{P Q:Int->Sp3×Tr}{r:Ka}(f:Fo S J os f0 p0 P r)(tq:∀ k,0<=k->k<(S.length:Int)->(Q k).2∈qz)(gq:∀ a b s,lk13 S J a b=some s->Q b=ledP (Q a) s){m:Sp3×Tr}(hm:m.2∈qz)(e0:mvP m (Q f0)=p0)(k:Int)(k0:0<=k)(k1:k<(S.length:Int)):P k=mvP m (Q k):=by
 obtain ⟨i,ei⟩:=VV (f.all k k0 k1)
 obtain ⟨d,ei⟩:=qaO ei
 exact qkO h f tq gq hm e0 (i+1) i k d '$' ei
theorem qkS {S:List Ce}{J:List Sp}{os:List Og}{f0:Int}{p0:Sp3×Tr}{P:Int->Sp3×Tr}{r:Ka}(f:Fo S J os f0 p0 P r):0<=f0/\f0<(S.length:Int):=f.kr f0 (KQ.mpr ⟨_,KN f.hd,rfl⟩)
theorem qfn {S:List Ce}{J:List Sp}(h:J13 S J){os:List Og}{f0:Int}{p0:Sp3×Tr}{P Q:Int->Sp3×Tr}{r:Ka}(f:Fo S J os f0 p0 P r)(tq:∀ k,0<=k->k<(S.length:Int)->(Q k).2∈qz)(gq:∀ t∈J,Okj S J Q t):∃ m:Sp3×Tr,m.2∈qz/\(∀ k,0<=k->k<(S.length:Int)->P k=mvP m (Q k))/\∀ t∈J,Okj S J P t:=by
 have tp:=qbt f
 obtain ⟨f1,f2⟩:=qkS f
 have hp0:p0.2∈qz:=by rw [← f.wy.at0];exact tp _ f1 f2
 obtain ⟨m,hm,e0⟩:=qkZ hp0 (tq f0 f1 f2)
 have ga:∀ a b s,lk13 S J a b=some s->Q b=ledP (Q a) s:=λa b s e=>qhB h tq gq e
 have eq:=fo_mv h f tq ga hm e0
 refine ⟨m,hm,eq,λt ht s e=>?_⟩
 obtain ⟨hw,hb⟩:=yl h e
 obtain ⟨⟨a0,a1⟩,b0,b1⟩:=yZ h (je e).1
 rw [(je e).2] at b0 b1
 rw [eq _ a0 a1,eq _ b0 b1,qev hm (tq _ a0 a1) hw hb,ga _ _ s e]
def Rr (S:List Ce)(J:List Sp)(P:Int->Sp3×Tr)(a b:Int):Prop:=∃ s,lk13 S J a b=some s/\P b=ledP (P a) s
theorem qmC {S:List Ce}{J:List Sp}(h:J13 S J){P:Int->Sp3×Tr}(tn:∀ k,0<=k->k<(S.length:Int)->(P k).2∈qz){a b:Int}(e:Rr S J P a b):Rr S J P b a:=by
 obtain ⟨s,es,ep⟩:=e
 obtain ⟨s',e',h1,h2⟩:=qaH h es
 obtain ⟨hw,hb⟩:=yl h es
 obtain ⟨⟨a0,a1⟩,_⟩:=yZ h (je es).1
 exact ⟨s',e',by rw [ep,qaF (tn _ a0 a1) hw hb h1 h2]⟩
theorem qid {S:List Ce}{J:List Sp}{os:List Og}{f0:Int}{p0:Sp3×Tr}{P:Int->Sp3×Tr}{r:Ka}(f:Fo S J os f0 p0 P r){a b:Int}(e:Par os a b):Rr S J P b a:=by
 obtain ⟨i,ei⟩:=e
 by_cases h0:i=0
 ·subst h0
  rw [f.hd] at ei
  cases ei
 ·obtain ⟨j,q,dq,s,_,ed,_,es,ep⟩:=f.wy.al i a _ (Kk.mp ei).1 ei '$'
  cases ed
  exact ⟨s,es,ep⟩
theorem ql3 {S:List Ce}{J:List Sp}(h:J13 S J){os:List Og}{f0:Int}{p0:Sp3×Tr}{P:Int->Sp3×Tr}{r:Ka}(f:Fo S J os f0 p0 P r)(a b:Int)(e:Nxt os a b):Rr S J P a b :=
 e.elim (λz=>qmC h (qbt f) (qid f z)) (λz=>qid f z)
theorem qd4 {S:List Ce}{J:List Sp}{P:Int->Sp3×Tr}(c:Int):∀ (l:List Int) (a z:Int) (n:Nat),Lnk (Rr S J P) (a::l)->(a::l).getLast?=some z->
  ∃ n',Q3 S J ((a::(l++[c])).zip (l++[c])) n (P a).1 (P a).2=Q3 S J [(z,c)] n' (P z).1 (P z).2
 | [],a,z,n,_,hz=>by
  cases hz
  exact ⟨n,rfl⟩
 | b::l,a,z,n,hl,hz=>by
  obtain ⟨⟨s,es,ep⟩,h2⟩:=hl
  rw [ED] at hz
  obtain ⟨n',ih⟩:=qd4 c l b z (n+1) h2 hz
  refine ⟨n',?_⟩
  rw [← ih]
  show Q3 S J ((a,b)::((b::(l++[c])).zip (l++[c]))) n (P a).1 (P a).2=_
  rw [Q3]
  dsimp only
  rw [es]
  show Q3 S J _ (n+1) (ledP (P a) s).1 (ledP (P a) s).2=_
  rw [← ep]
theorem qmB {S:List Ce}{J:List Sp}(h:J13 S J){os:List Og}{f0:Int}{p0:Sp3×Tr}{P:Int->Sp3×Tr}{r:Ka}(f:Fo S J os f0 p0 P r){t:Sp}(ht:t∈J)(nok:¬ Okj S J P t){ks:List Int}(rg:Rg S os t ks){p:Sp3×Tr}(hp:p.2∈qz) :
  ∃ q:Sp3×Tr,Q3 S J ((ks++ks.take 1).zip ((ks++ks.take 1).drop 1)) 0 p.1 p.2=.inr q/\q.2∈qz/\q≠p:=by
 have tn:=qbt f
 obtain ⟨l,rfl⟩:∃ l,ks=t.1::l:=by
  have:=rg.hd
  cases ks with
  | nil=>cases this
  | cons a l=>cases this;exact ⟨l,rfl⟩
 have el:(t.1::l++List.take 1 (t.1::l)).zip ((t.1::l++List.take 1 (t.1::l)).drop 1)=(t.1::(l++[t.1])).zip (l++[t.1]):=rfl
 rw [el]
 obtain ⟨n',e⟩:=qd4 (S:=S) (J:=J) (P:=P) t.1 l t.1 t.2.1 0 (Y8 (ql3 h f) rg.ln) rg.la
 obtain ⟨wt,_,e1,e2⟩:=lk_t h ht
 obtain ⟨s',e',h1,h2⟩:=qaH h e1
 obtain ⟨s0,e0,h3,h4⟩:=qaH h e'
 rw [e1] at e0
 cases e0
 obtain ⟨hw,hb⟩:=yl h e'
 obtain ⟨⟨a0,a1⟩,b0,b1⟩:=yZ h (je e').1
 rw [(je e').2] at b0 b1
 have tb:=tn _ b0 b1
 have ta:=tn _ a0 a1
 have ef:Q3 S J [(t.2.1,t.1)] n' (P t.2.1).1 (P t.2.1).2=.inr (ledP (P t.2.1) s'):=by
  rw [Q3]
  dsimp only
  rw [e']
  rfl
 rw [ef] at e
 have ne:ledP (P t.2.1) s'≠P t.1:=λz=>nok λs es=>by
  rw [e1] at es
  cases es
  rw [← z,qaF ta hw hb h3 h4]
 obtain ⟨m,hm,em⟩:=qkZ hp tb
 have wm:=qfW h hm ((t.1::(l++[t.1])).zip (l++[t.1])) 0 (P t.1) tb
 rw [em,e] at wm
 refine ⟨_,wm,qh6 _ (qcp ta hw hb) _ hm,λz=>ne (qfA hm (z.trans em.symm))⟩
theorem uu_bd:∀ t∈qz,∀ w∈Q7,∀ b∈zF,SpBd 2 (app t (uu w b)):=by
 have:∀ t∈qz,∀ w∈Q7,∀ b∈zF,(app t (uu w b)).x.natAbs<2 ^ 2/\(app t (uu w b)).y.natAbs<2 ^ 2/\(app t (uu w b)).z.natAbs<2 ^ 2:=by decide +kernel
 exact λt ht w hw b hb=>⟨Bd.of (this t ht w hw b hb).1,Bd.of (this t ht w hw b hb).2.1,Bd.of (this t ht w hw b hb).2.2⟩
theorem SpBd.mono {n m:Nat}{a:Sp3}(h:SpBd n a)(e:n<=m):SpBd m a:=⟨h.1.mono e,h.2.1.mono e,h.2.2.mono e⟩
theorem qkN {S:List Ce}{J:List Sp}(h:J13 S J){os:List Og}{f0:Int}{p0:Sp3×Tr}{P:Int->Sp3×Tr}{r:Ka}(f:Fo S J os f0 p0 P r){N:Nat}(hN:2<=N)(b0:SpBd N p0.1):∀ (n i:Nat) (k:Int) (d:Ka),i<n->os[i]?=some (k,d)->SpBd (N+i) (P k).1
 | 0,_,_,_,h,_=>absurd h (U9 _)
 | n+1,i,k,d,hi,e=>by
  by_cases h0:i=0
  ·subst h0
   rw [f.hd] at e
   cases e
   rw [f.wy.at0]
   exact b0
  ·obtain ⟨j,q,dq,s,hj,_,ej,es,ep⟩:=f.wy.al i k d (Kk.mp e).1 e '$'
   have ih:=qkN h f hN b0 n j q dq '$' ej
   obtain ⟨hw,hb⟩:=yl h es
   obtain ⟨⟨a0,a1⟩,_⟩:=yZ h (je es).1
   have tq:=qbt f q a0 a1
   have e1:(ledP (P q) s).1=addS (P q).1 (app (P q).2 (uu s.1 s.2.2)):=qeL tq hw hb
   rw [ep,e1]
   exact (qeW ih (uu_bd _ tq _ hw _ hb)).mono '$'
theorem qhy {S:List Ce}{J:List Sp}(h:J13 S J){os:List Og}{f0:Int}{p0:Sp3×Tr}{P:Int->Sp3×Tr}{r:Ka}(f:Fo S J os f0 p0 P r)(b0:SpBd 200 p0.1)(k:Int)(k0:0<=k)(k1:k<(S.length:Int)):SpBd 300 (P k).1:=by
 obtain ⟨i,ei⟩:=VV (f.all k k0 k1)
 obtain ⟨d,ei⟩:=qaO ei
 exact (qkN h f '#' b0 (i+1) i k d '$' ei).mono (by have:=(Kk.mp ei).1;have:=f.ol;omega)
noncomputable def lS (a:Sp3):Ka:=.list [.int a.x,.int a.y,.int a.z]
noncomputable def snA (p o:Sp3×Tr):Sp3×Sp3×Sp3:=(app (trT p.2) (addS o.1 (negS p.1)),app (trT p.2) (rowP o.2),app (trT p.2) (rowQ o.2))
noncomputable def snD (a:Sp3×Sp3×Sp3):Ka:=.list [lS a.1,lS a.2.1,lS a.2.2]
theorem qkG (a b:Sp3):sumS a (-1) b=addS a (negS b):=by
 unfold sumS addS negS
 simp only [Int.neg_mul,Int.one_mul]
theorem qiL {p o:Sp3×Tr}(hp:p.2∈qz)(ho:o.2∈qz)(b1:SpBd 300 p.1)(b2:SpBd 300 o.1):zX [encP p.1 p.2,encP o.1 o.2]=some (snD (snA p o)):=by
 have tp:=Tn.of hp
 have to:=Tn.of ho
 have cr:=qcn tp.bp tp.bq
 rw [tp.cr] at cr
 have m1:Bd 1 (-1):=by decide
 have su:=sumE o.1 m1 b1
 rw [qkG] at su
 have bo:SpBd 302 (addS o.1 (negS p.1)):=(qeW b2 (qjZ b1)).mono '#'
 have d1:=dotE bo tp.bp
 have d2:=dotE bo tp.bq
 have d3:=dotE bo tp.br
 have d4:=dotE to.bp tp.bp
 have d5:=dotE to.bp tp.bq
 have d6:=dotE to.bp tp.br
 have d7:=dotE to.bq tp.bp
 have d8:=dotE to.bq tp.bq
 have d9:=dotE to.bq tp.br
 simp only [zX,Z2]
 simp_arith [ixP0,ixP1,ixP2,cr,su,d1,d2,d3,d4,d5,d6,d7,d8,d9]
 rfl
theorem qbX {m:Tr}(hm:m∈qz)(p:Tr)(x:Sp3):app (trT (mulT p m)) (app m x)=app (trT p) x:=by
 rw [qiT,J5,← J5 m,(qk9 m hm).1,qbW]
theorem sn_mv {m:Sp3×Tr}(hm:m.2∈qz)(p o:Sp3×Tr):snA (mvP m p) (mvP m o)=snA p o:=by
 have e:addS (mvP m o).1 (negS (mvP m p).1)=app m.2 (addS o.1 (negS p.1)):=by
  rw [qcU,qg0]
  unfold mvP addS negS
  dsimp only
  congr 1<;>omega
 have r1:rowP (mvP m o).2=app m.2 (rowP o.2):=rfl
 have r2:rowQ (mvP m o).2=app m.2 (rowQ o.2):=rfl
 unfold snA
 rw [e,r1,r2]
 show (app (trT (mulT p.2 m.2)) _,app (trT (mulT p.2 m.2)) _,app (trT (mulT p.2 m.2)) _)=_
 rw [qbX hm,qbX hm,qbX hm]
theorem qg7:∀ n:Nat,boolsOf (Vf n (.bool true))=some (Vf n true)
 | 0=>rfl
 | n+1=>by
  rw [NO,NO,boolsOf,qg7 n]
  rfl
theorem allb (n:Nat):allD [.list (Vf n (.bool true))]=some (.bool true):=by
 show ob (boolsOf (Vf n (.bool true))) (λbs=>some (UC (bs.all id)))=_
 rw [qg7,ob_s]
 congr 2
 exact K4.mpr λx hx=>by rw [List.eq_of_mem_replicate hx];rfl
theorem qgZ {ps:List (Sp3×Tr)}(hl:ps.length<=100):zG [.list (ps.map λp=>encP p.1 p.2),.int (ps.length:Nat)]=some (.bool true):=by
 have hc:QR tT (evC 1 (aC (vr 2) aN) QS) [some (.list (ps.map λp=>encP p.1 p.2)),some (.int (ps.length:Nat))] (ps.map λp=>encP p.1 p.2)=some (ps.map λ_=>.bool true) :=
  qai (λp:Sp3×Tr=>encP p.1 p.2) _ _ λp _=>by
   have:=qhK p.1 p.2
   simp_arith [this]
 have hlen:(ps.map λp=>encP p.1 p.2).length<=1000:=by rw [Kf];omega
 have hal:allD [.list (ps.map λ_=>.bool true)]=some (.bool true):=by
  rw [List.map_const']
  exact allb _
 have hle:lenD [.list (ps.map λp=>encP p.1 p.2)]=some (.int (ps.length:Nat)):=by
  show some (Kj (((ps.map λp=>encP p.1 p.2).length:Nat):Int))=_
  rw [Kf]
 have hne:neD (.int (ps.length:Nat)) (.int (ps.length:Nat))=some (.bool false):=by
  show some (UC (!((ps.length:Int)==(ps.length:Int))))=_
  rw [aL]
  rfl
 have hil:isiT "list" (.list (ps.map λp=>encP p.1 p.2))=true:=rfl
 simp only [zG,Z0]
 simp_arith [hil,hle,hne,hc,hlen,hal]
theorem fo_ks {S:List Ce}{J:List Sp}{os:List Og}{f0:Int}{p0:Sp3×Tr}{P:Int->Sp3×Tr}{r:Ka}(f:Fo S J os f0 p0 P r){t:Sp}{ks:List Int}(rg:Rg S os t ks):∀ k∈ks,0<=k/\k<(S.length:Int):=λk hk=>f.kr k (rg.mem k hk)
theorem qew (S:List Ce)(J:List Sp):lenD [eLS (nrL S J)]=some (.int ((S.length:Nat):Int)):=by
 show some (Kj ((((nrL S J).map λl=>Vk (l.map eS)).length:Nat):Int))=_
 rw [Kf,nrL,Kf,Vh]
theorem qjW {S:List Ce}{J:List Sp}(h:J13 S J){os:List Og}{f0:Int}{p0:Sp3×Tr}{P:Int->Sp3×Tr}{r:Ka}(f:Fo S J os f0 p0 P r){t:Sp}(ht:t∈J)(nok:¬ Okj S J P t){ks:List Int}(rg:Rg S os t ks){p:Sp3×Tr}(hp:p.2∈qz) :
  Z8 [eLS (nrL S J),.list (ks.map .int),encP p.1 p.2]=some (.bool true):=by
 have ls:=h.ls
 have hk:=fo_ks f rg
 have kl:=rg.len
 obtain ⟨q,ew,tq,ne⟩:=qmB h f ht nok rg hp
 have k0:0<ks.length:=by
  cases ks with
  | nil=>exact nomatch rg.hd
  | cons a l=>exact Nat.succ_pos _
 have hk':∀ k∈ks++ks.take 1,0<=k/\k<(S.length:Int):=λk hm=>(K8.mp hm).elim (hk k) λz=>hk k (E3 z)
 have lw:=qgv h hk' (by rw [Km];omega) (by rw [Km,Uq];omega) p.1 (Tn.of hp)
 rw [ew] at lw
 have lw:QB [eLS (nrL S J),.list ((ks++ks.take 1).map .int),encP p.1 p.2]=some (encP q.1 q.2):=lw
 have nq:=qk1 q p tq hp
 rw [ab ne] at nq
 have sl:sliD (.list (ks.map Kj)) none (some 1)=some (.list ((ks.take 1).map .int)):=qb2 Kj ks (k:=1) '#'
 have ad:Qq (.list (ks.map Kj)) (.list ((ks.take 1).map .int))=some (.list ((ks++ks.take 1).map .int)):=by
  show (if (ks.map Kj).length+((ks.take 1).map Kj).length<=1000 then some (Vk (ks.map Kj++(ks.take 1).map Kj)) else none)=_
  rw [ag (by rw [Kf,Kf,Uq];omega),← Kx]
 have lN:=qew S J
 obtain ⟨ρ',el,o3,rfl⟩:=Zz Kj (g:=gNm 3) (u:=yV) (λ_ ρ=>∃ o3:Option Ka,ρ=[some (eLS (nrL S J)),some (.list (ks.map .int)),some (encP p.1 p.2),o3,none]) ks [some (eLS (nrL S J)),some (.list (ks.map .int)),some (encP p.1 p.2),none,none] ⟨none,rfl⟩ (by
  rintro k hm done ρ _ ⟨o3,rfl⟩
  obtain ⟨a0,a1⟩:=hk k hm
  have hwh:Q6 [.int k]=some (.bool true):=by kernel_rfl
  have c1:leD (.int 0) (.int k)=some (.bool true):=by
   show some (UC (decide ((0:Int)<=k)))=_
   rw [ae a0]
  have c2:ltD2 (.int k) (.int ((S.length:Nat):Int))=some (.bool true):=by
   show some (UC (decide (k<((S.length:Nat):Int))))=_
   rw [ae a1]
  refine ⟨_,?_,some (.int k),rfl⟩
  simp_arith [hwh,c1,lN,c2])
 have hil:isiT "list" (.list (ks.map Kj))=true:=rfl
 have hit:isiT "tuple" (encP q.1 q.2)=true:=rfl
 have hle:lenD [.list (ks.map Kj)]=some (.int ((ks.length:Nat):Int)):=by
  show some (Kj (((ks.map Kj).length:Nat):Int))=_
  rw [Kf]
 have h0:(((ks.length:Nat):Int)==0)=false:=ar.mpr '$'
 simp only [Z8,yD]
 simp_arith [hil,hle,h0,el,sl,ad,lw,hit,nq]
noncomputable def rngP (S:List Ce)(P:Int->Sp3×Tr):List (Sp3×Tr):=(KG S.length).map λk:Nat=>P (k:Int)
theorem qh7 {m:Sp3×Tr}(hm:m.2∈qz)(a b:Sp3)(e:addS m.1 (app m.2 a)=addS m.1 (app m.2 b)):a=b:=by
 have:=qfA (p:=m) (q:=(a,idT)) (r:=(b,idT)) hm (by unfold mvP;dsimp only;rw [e])
 exact congrArg Prod.fst this
theorem fm_mv {S:List Ce}{P Q:Int->Sp3×Tr}{m:Sp3×Tr}(hm:m.2∈qz)(e:∀ k,0<=k->k<(S.length:Int)->P k=mvP m (Q k)):fmA [] 0 ((rngP S P).map (·.1))=fmA [] 0 ((rngP S Q).map (·.1)):=by
 have h:=qfj (g:=λa=>addS m.1 (app m.2 a)) (qh7 hm) ((rngP S Q).map (·.1)) [] 0
 rw [← h,VR]
 congr 1
 unfold rngP
 rw [K6,K6,K6]
 refine V9 λk hk=>?_
 have:=UT.mp hk
 show (P (k:Int)).1=_
 rw [e k '$' '$']
 rfl
theorem W2 {S:List Ce}{P:Int->Sp3×Tr}{k:Int}(k0:0<=k)(k1:k<(S.length:Int)):atI ((rngP S P).map λp=>encP p.1 p.2) k=some (encP (P k).1 (P k).2):=by
 have e:(rngP S P)[k.toNat]?=some (P k):=by
  unfold rngP
  rw [Kw,Xk '$']
  show some (P ((k.toNat:Nat):Int))=_
  rw [show ((k.toNat:Nat):Int)=k by omega]
 exact QG (f:=λp:Sp3×Tr=>encP p.1 p.2) k0 e
theorem eqvSn (a:Sp3×Sp3×Sp3):neD (snD a) (snD a)=some (.bool false):=by
 have h:neD (snD a) (snD a)=some (.bool (!PyData.eqv (snD a) (snD a))):=rfl
 rw [h]
 have:Ks (snD a) (snD a)=true:=by
  have e:Ks (snD a) (snD a)=(((a.1.x==a.1.x)&&((a.1.y==a.1.y)&&((a.1.z==a.1.z)&&true)))&&(((a.2.1.x==a.2.1.x)&&((a.2.1.y==a.2.1.y)&&((a.2.1.z==a.2.1.z)&&true)))&&(((a.2.2.x==a.2.2.x)&&((a.2.2.y==a.2.2.y)&&((a.2.2.z==a.2.2.z)&&true)))&&true))):=rfl
  rw [e]
  simp
 rw [this]
 rfl
theorem qfy {S:List Ce}{J:List Sp}(h:J13 S J){osa osb:List Og}{fa fb:Int}{pa pb:Sp3×Tr}{Pa Pb:Int->Sp3×Tr}{ra rb:Ka}(a:Fo S J osa fa pa Pa ra)(b:Fo S J osb fb pb Pb rb)(ba:SpBd 200 pa.1)(bb:SpBd 200 pb.1) :
  za [eLS (nrL S J),ra,rb,.int fb,encP pb.1 pb.2]=some (.bool true):=by
 have ls:=h.ls
 have ta:=qbt a
 have tb:=qbt b
 obtain ⟨f1,f2⟩:=qkS b
 have hpb:pb.2∈qz:=by rw [← b.wy.at0];exact tb _ f1 f2
 have lN:=qew S J
 have n1:neD (.str "ring") (.str "ring")=some (.bool false):=by kernel_rfl
 have n2:neD (.str "clash") (.str "clash")=some (.bool false):=by kernel_rfl
 have n3:neD (.str "folded") (.str "folded")=some (.bool false):=by kernel_rfl
 have q1:eqD (.str "ring") (.str "ring")=some (.bool true):=by kernel_rfl
 have q2:eqD (.str "clash") (.str "ring")=some (.bool false):=by kernel_rfl
 have q3:eqD (.str "folded") (.str "ring")=some (.bool false):=by kernel_rfl
 have q4:eqD (.str "clash") (.str "clash")=some (.bool true):=by kernel_rfl
 have q5:eqD (.str "folded") (.str "clash")=some (.bool false):=by kernel_rfl
 rcases a.or with ⟨ga,rfl⟩|⟨t,ht,nok,ks,rfl,rg⟩
 ·obtain ⟨m,hm,em,gb⟩:=qfn h b ta ga
  rcases b.or with ⟨_,rfl⟩|⟨t,ht,nok,_⟩
  ·have fm:=fm_mv (S:=S) hm em
   show za [eLS (nrL S J),cofD (rngP S Pa),cofD (rngP S Pb),.int fb,encP pb.1 pb.2]=some (.bool true)
   unfold cofD
   rw [fm]
   cases e:fmA [] 0 ((rngP S Pa).map (·.1)) with
   | some z =>
    have i1:isiT "tuple" (.tuple [.str "clash", .int (z.1:Nat),.int (z.2:Nat)])=true:=rfl
    have l1:lenD [.tuple [.str "clash", .int (z.1:Nat),.int (z.2:Nat)]]=some (.int 3):=rfl
    have c1:ltD2 (.int 3) (.int 2)=some (.bool false):=rfl
    have ee:eqD (.tuple [.str "clash", .int (z.1:Nat),.int (z.2:Nat)]) (.tuple [.str "clash", .int (z.1:Nat),.int (z.2:Nat)])=some (.bool true):=by
     have ev:Ks (.tuple [.str "clash", .int (z.1:Nat),.int (z.2:Nat)]) (.tuple [.str "clash", .int (z.1:Nat),.int (z.2:Nat)])=(Ks (.str "clash") (.str "clash")&&(((z.1:Int)==(z.1:Int))&&(((z.2:Int)==(z.2:Int))&&true))):=rfl
     have es:Ks (.str "clash") (.str "clash")=true:=by kernel_rfl
     unfold eqD
     have sh:K7 (.tuple [.str "clash", .int (z.1:Nat),.int (z.2:Nat)])=true:=by kernel_rfl
     rw [ev,es,aL,aL,ag ⟨sh,sh⟩]
     rfl
    dsimp only
    simp only [za,Ql]
    simp_arith [i1,l1,c1,n2,q2,q4,ee]
   | none =>
    have i1:isiT "tuple" (.tuple [.str "folded", .list ((rngP S Pb).map λp=>encP p.1 p.2)])=true:=rfl
    have l1:lenD [.tuple [.str "folded", .list ((rngP S Pb).map λp=>encP p.1 p.2)]]=some (.int 2):=rfl
    have c1:ltD2 (.int 2) (.int 2)=some (.bool false):=rfl
    have rl:∀ P:Int->Sp3×Tr,(rngP S P).length=S.length:=λP=>by unfold rngP;rw [Kf,Vh]
    have al:=qgZ (ps:=rngP S Pb) (by rw [rl];omega)
    rw [rl] at al
    have xf:atI ((rngP S Pb).map λp=>encP p.1 p.2) fb=some (encP pb.1 pb.2):=by rw [W2 f1 f2,b.wy.at0]
    have nf:=neP pb.1 pb.2
    have xa:=W2 (P:=Pa) f1 f2
    have hr:(if (-1000:Int)<=((S.length:Nat):Int)/\((S.length:Nat):Int)<=1000 then some (rngL 0 (((S.length:Nat):Int)).toNat) else none)=some ((KG S.length).map λk:Nat=>Kj (k:Nat)):=by
     rw [ag '$',Vl,yt]
    obtain ⟨ρ',el,o5,rfl⟩:=Zz (λk:Nat=>Kj (k:Nat)) (g:=gNm 5) (u:=jh) (λ_ ρ=>∃ o5:Option Ka,ρ=[some (eLS (nrL S J)),some (.tuple [.str "folded", .list ((rngP S Pa).map λp=>encP p.1 p.2)]),some (.tuple [.str "folded", .list ((rngP S Pb).map λp=>encP p.1 p.2)]),some (.int fb),some (encP pb.1 pb.2),o5]) (KG S.length) [some (eLS (nrL S J)),some (.tuple [.str "folded", .list ((rngP S Pa).map λp=>encP p.1 p.2)]),some (.tuple [.str "folded", .list ((rngP S Pb).map λp=>encP p.1 p.2)]),some (.int fb),some (encP pb.1 pb.2),none] ⟨none,rfl⟩ (by
     rintro k hk done ρ _ ⟨o5,rfl⟩
     have hk:=UT.mp hk
     have k0:(0:Int)<=(k:Int):=by omega
     have k1:(k:Int)<(S.length:Int):=by omega
     have xk:=W2 (P:=Pb) k0 k1
     have yk:=W2 (P:=Pa) k0 k1
     have s1:=qiL (p:=pb) (o:=Pb (k:Int)) hpb (tb _ k0 k1) (bb.mono '#') (qhy h b bb _ k0 k1)
     have s2:=qiL (p:=Pa fb) (o:=Pa (k:Int)) (ta _ f1 f2) (ta _ k0 k1) (qhy h a ba _ f1 f2) (qhy h a ba _ k0 k1)
     have es:snA pb (Pb (k:Int))=snA (Pa fb) (Pa (k:Int)):=by
      rw [em _ k0 k1,show pb=mvP m (Pa fb) by rw [← em _ f1 f2,b.wy.at0],sn_mv hm]
     rw [es] at s1
     have ns:=eqvSn (snA (Pa fb) (Pa (k:Int)))
     refine ⟨_,?_,some (.int (k:Nat)),rfl⟩
     simp_arith [xk,yk,xa,s1,s2,ns])
    dsimp only
    simp only [za,Ql]
    simp_arith [i1,l1,c1,n3,q3,q5,lN,al,xf,nf,hr,el]
  ·exact absurd (gb t ht) nok
 ·rcases b.or with ⟨gb,_⟩|⟨t',ht',nok',ks',rfl,rg'⟩
  ·obtain ⟨_,_,_,g⟩:=qfn h a tb gb
   exact absurd (g t ht) nok
  ·have i1:isiT "tuple" (.tuple [.str "ring", .list (ks'.map .int)])=true:=rfl
   have l1:lenD [.tuple [.str "ring", .list (ks'.map .int)]]=some (.int 2):=rfl
   have c1:ltD2 (.int 2) (.int 2)=some (.bool false):=rfl
   have lr:=qjW h b ht' nok' rg' hpb
   simp only [za,Ql]
   simp_arith [i1,l1,c1,n1,q1,lr]
def Cc (fs:List Ce)(T:List Jn):Prop:=∀ (i:Nat) (c:Ce),fs[i]?=some c->0<i->∃ (j:Nat) (c':Ce),j<i/\fs[j]?=some c'/\((c',c)∈T.map (·.1)\/(c,c')∈T.map (·.1))
theorem qlo (s:Ce):Cc [s] []:=λi c e h=>by
 cases i with
 | zero=>exact absurd h (Ud _)
 | succ i=>cases e
theorem WX {T:List Jn}{k q:Ce×Ce}{v:Int}(h:q∈T.map (·.1)):q∈(jnd T k v).map (·.1):=by
 unfold jnd
 split
 ·exact h
 ·rw [Kx];exact Va _ h
theorem qkU (T:List Jn)(k:Ce×Ce)(v:Int):k∈(jnd T k v).map (·.1):=by
 unfold jnd
 split
 ·assumption
 ·rw [Kx];exact KP _ (Ky.mpr rfl)
theorem Cc.put {fs:List Ce}{T:List Jn}(cc:Cc fs T)(k:Ce×Ce)(v:Int):Cc fs (jnd T k v):=λi c e h=>by
 obtain ⟨j,c',h1,h2,h3⟩:=cc i c e h
 exact ⟨j,c',h1,h2,h3.elim (λz=>.inl (WX z)) (λz=>.inr (WX z))⟩
theorem Cc.more {fs:List Ce}{T:List Jn}(cc:Cc fs T){k:Ce×Ce}(v:Int){c o:Ce}(hc:c∈fs)(hk:k=(c,o)\/k=(o,c)):Cc (fs++[o]) (jnd T k v):=λi x e h=>by
 by_cases hi:i<fs.length
 ·rw [KL hi] at e
  obtain ⟨j,c',h1,h2,h3⟩:=cc.put k v i x e h
  exact ⟨j,c',h1,by rw [KL '$'];exact h2,h3⟩
 ·have hl:=(Kk.mp e).1
  rw [Km,Ku] at hl
  have hi':i=fs.length:=by omega
  subst hi'
  rw [Vb (Kq _),XE] at e
  cases e
  obtain ⟨j,ej⟩:=VV hc
  have jl:=(Kk.mp ej).1
  refine ⟨j,c,jl,by rw [KL jl];exact ej,?_⟩
  have:=qkU T k v
  rcases hk with z|z
  ·exact .inl (by rw [← z];exact this)
  ·exact .inr (by rw [← z];exact this)
theorem qhC {ns ms:List Int}(hb:∀ k∈ns,Vz k<=2 ^ 20)(hm:∀ m∈ms,m∈ns)(hl:ms.length<=58)(d0 d1 d2 d5:Ka)(s:Ce){mo L:Int}{bl:'('}(hmo:mo<=26)(lb:lenD [.list bl]=some (.int L))(hL:0<L)(hbl:∀ y:Int,∃ v,atI bl (y % L)=some (.int v)/\v∈zF) :
  ∃ (fs:List Ce) (T:List Jn) (o8 o9 o10 o11:Option Ka),forD (gNm 8) QQ (ms.map .int) [some d0,some d1,some d2,some (.int mo),some (.list bl),some d5,some (.list [eC s]),some (.list []),none,none,none,none] =
   some (.nx [some d0,some d1,some d2,some (.int mo),some (.list bl),some d5,some (.list (fs.map eC)),some (.list (T.map eT3)),o8,o9,o10,o11])/\G13 ms.length fs T/\Cc fs T:=by
 obtain ⟨ρ',e,fs,T,o8,o9,o10,o11,rfl,g,cc⟩:=Zz Kj (g:=gNm 8) (u:=QQ)
  (λdone ρ=>∃ (fs:List Ce) (T:List Jn) (o8 o9 o10 o11:Option Ka),ρ=[some d0,some d1,some d2,some (.int mo),some (.list bl),some d5,some (.list (fs.map eC)),some (.list (T.map eT3)),o8,o9,o10,o11]/\G13 done.length fs T/\Cc fs T) ms [some d0,some d1,some d2,some (.int mo),some (.list bl),some d5,some (.list [eC s]),some (.list []),none,none,none,none]
  ⟨[s],[],none,none,none,none,rfl,⟨by simp,by simp,by simp,by simp,by simp,λp hp=>nomatch hp⟩,qlo s⟩ (by
   rintro x hx done ρ hdl ⟨fs,T,o8,o9,o10,o11,rfl,g,cc⟩
   have hlen:(done++[x]).length=done.length+1:=by simp
   have bx:Bd 1048576 x:=hb x (hm x hx)
   have em:mulD (.int x) (.int 48271)=some (.int (x*48271)):=zf (bx.ok (Bd.of (n:=16) '#'))
   have e1:modD (.int (x*48271)) (.int 1000003)=some (.int (x*48271 % 1000003)):=ZC _ '#'
   generalize x*48271 % 1000003=y at e1
   obtain ⟨c,hc,ec⟩:=qfe y g.h0
   have e3:modD (.int y) (.int (((fs.map eC).length:Nat):Int))=some (.int (y % (fs.length:Int))):=by rw [Kf];exact ZC _ (by have:=g.h0;omega)
   have e4:atI (fs.map eC) (y % (fs.length:Int))=some (eC c):=QG (XX _ (by have:=g.h0;omega)) ec
   obtain ⟨w,hw,ew⟩:=qkR (y / 64)
   have e5:=Zo c hw
   obtain ⟨m1,m2⟩:=qh2 c hw
   obtain ⟨ad,hp⟩:=qcC c hw
   have nn:=qfB fs (bs w c)
   have ii:=qei fs (bs w c)
   obtain ⟨v,ev,hv⟩:=hbl (y / 256)
   have mdL:modD (.int (y / 256)) (.int L)=some (.int (y / 256 % L)):=ZC _ hL
   have hT:T.length<=900:=by have:=g.h3;omega
   have hz:(fs.map eC).length<1000:=by rw [Kf];have:=g.h1;omega
   generalize ho:bs w c=o at *
   generalize hk:pk w c=k at *
   have fo:=yL (jnd T k v)
   by_cases hin:o∈fs
   ·have ej:=yg (.list (fs.map eC)) T hT m1 m2 v
    have mk:k.1∈fs/\k.2∈fs:=by rcases hp with z|z<;>rw [z]<;>exact ⟨by assumption,by assumption⟩
    refine ⟨[some d0,some d1,some d2,some (.int mo),some (.list bl),some d5,some (.list (fs.map eC)),some (.list ((jnd T k v).map eT3)),some (.int x),some (.int y),some (eC c),some (eC o)],?_,fs,_,_,_,_,_,rfl,by rw [hlen];exact g.put mk.1 mk.2 ad hv,cc.put k v⟩
    simp_arith [em,e1,e3,e4,yM,ew,e5,ii,nn,ae hin,yu,lb,mdL,ev,ej,fo]
   ·cases hlt:decide ((((fs.map eC).length:Nat):Int)<mo) with
    | false =>
     refine ⟨[some d0,some d1,some d2,some (.int mo),some (.list bl),some d5,some (.list (fs.map eC)),some (.list (T.map eT3)),some (.int x),some (.int y),some (eC c),some (eC o)],?_,fs,T,_,_,_,_,rfl,by rw [hlen];exact ⟨g.h0,g.h1,g.h2,Nc g.h3,g.h4,g.h5⟩,cc⟩
     simp_arith [em,e1,e3,e4,yM,ew,e5,ii,nn,ab hin,hlt]
    | true =>
     have hlt':fs.length<26:=by have:=ao hlt;rw [Kf] at this;omega
     have g':=g.more hin hlt'
     have ej:=yg (.list ((fs++[o]).map eC)) T hT m1 m2 v
     have em2:∀ z:Ce,z∈fs++[o]↔z∈fs\/z=o:=λz=>by simp
     have mk:k.1∈fs++[o]/\k.2∈fs++[o]:=by rcases hp with z|z<;>rw [z]<;>simp [hc]
     refine ⟨[some d0,some d1,some d2,some (.int mo),some (.list bl),some d5,some (.list ((fs++[o]).map eC)),some (.list ((jnd T k v).map eT3)),some (.int x),some (.int y),some (eC c),some (eC o)],?_,_,_,_,_,_,_,rfl,by rw [hlen];exact g'.put mk.1 mk.2 ad hv,cc.more v hc hp⟩
     rw [Kx,Kt,VR] at ej
     simp_arith [em,e1,e3,e4,yM,ew,e5,ii,nn,ab hin,hlt,hz,yu,lb,mdL,ev]
     rw [ej]
     simp_arith [fo]
     simp only [Kx,Kt,VR])
 exact ⟨fs,T,o8,o9,o10,o11,e,g,cc⟩
theorem qjE {ns:List Int}(hb:∀ k∈ns,Vz k<=2 ^ 20)(A B:Nat)(hAB:B-A<=58){mo L:Int}{bl:'('}(hmo:mo<=26)(lb:lenD [.list bl]=some (.int L))(hL:0<L)(hbl:∀ y:Int,∃ v,atI bl (y % L)=some (.int v)/\v∈zF):∃ (fs:List Ce) (T:List Jn),Qg [.list (ns.map .int),.int (A:Nat),.int (B:Nat),.int mo,.list bl]=some (.tuple [.list (fs.map eC),.list (T.map eT3)])/\G13 58 fs T/\Cc fs T:=by
 obtain ⟨ms,es,hl,hm⟩:=cut13 ns (a:=A) (b:=B)
 have hl:ms.length<=58:=Vg hl hAB
 have c0:=wR ns 0 '#'
 have c1:=wR ns 1 '#'
 generalize ji ns 0=x at c0
 generalize ji ns 1=y at c1
 have p19:powD (.int 10) (.int 19)=some (.int (10 ^ 19)):=rfl
 have mx:modD (.int x) (.int (10 ^ 19))=some (.int (x % 10 ^ 19)):=ZC _ '#'
 have my:modD (.int y) (.int (10 ^ 19))=some (.int (y % 10 ^ 19)):=ZC _ '#'
 have es':sliD (.list (ns.map .int)) (some (A:Int)) (some (B:Int))=some (.list (ms.map .int)):=es
 have pc:∀ a b:Int,(Vi [.int a,.int b])=eC (a,b):=λ_ _=>rfl
 cases hq:(x / 7 % 4==3) with
 | true =>
  obtain ⟨fs,T,o8,o9,o10,o11,e,g,cc⟩:=qhC hb hm hl (.list (ns.map .int)) (.int (A:Nat)) (.int (B:Nat)) (eC (x % 10 ^ 19,-(y % 10 ^ 19))) (x % 10 ^ 19,-(y % 10 ^ 19)) hmo lb hL hbl
  refine ⟨fs,T,?_,⟨g.h0,g.h1,g.h2,Vg g.h3 hl,g.h4,g.h5⟩,cc⟩
  simp only [Qg,jr]
  simp_arith [c0,c1,p19,mx,my,hq,es',pc,e]
 | false =>
  obtain ⟨fs,T,o8,o9,o10,o11,e,g,cc⟩:=qhC hb hm hl (.list (ns.map .int)) (.int (A:Nat)) (.int (B:Nat)) (eC (x % 7-3,y % 7-3)) (x % 7-3,y % 7-3) hmo lb hL hbl
  refine ⟨fs,T,?_,⟨g.h0,g.h1,g.h2,Vg g.h3 hl,g.h4,g.h5⟩,cc⟩
  simp only [Qg,jr]
  simp_arith [c0,c1,p19,mx,my,hq,es',pc,e]
theorem qlk {S:List Ce}{c:Ce}(h:c∈S):S[S.idxOf c]?=some c:=by
 have hl:=EB.mpr h
 rw [Kl hl,List.getElem_idxOf hl]
theorem cn16 {fs S:List Ce}{T:List Jn}{J:List Sp}(h:J13 S J)(cc:Cc fs T)(pS:S.Perm fs)(pJ:J.Perm (T.map (jn S))):Cn S J:=by
 intro a b a0 a1 b0 b1 K ka cl
 have lkT:∀ c c':Ce,(c',c)∈T.map (·.1)\/(c,c')∈T.map (·.1)->(K (S.idxOf c:Nat)↔K (S.idxOf c':Nat)):=by
  have one:∀ c c':Ce,(c,c')∈T.map (·.1)->(K (S.idxOf c:Nat)↔K (S.idxOf c':Nat)):=λc c' hm=>by
   obtain ⟨p,hp,e⟩:=KQ.mp hm
   have hj:jn S p∈J:=pJ.mem_iff.mpr (KQ.mpr ⟨p,hp,rfl⟩)
   obtain ⟨w,_,e1,e2⟩:=lk_t h hj
   have i1:(jn S p).1=((S.idxOf c:Nat):Int):=by show ((S.idxOf p.1.1:Nat):Int)=_;rw [e]
   have i2:(jn S p).2.1=((S.idxOf c':Nat):Int):=by show ((S.idxOf p.1.2:Nat):Int)=_;rw [e]
   rw [i1,i2] at e1 e2
   exact ⟨λz=>cl _ _ _ z e1,λz=>cl _ _ _ z e2⟩
  exact λc c' hm=>hm.elim (λz=>(one c' c z).symm) (one c c')
 have ix:∀ x:Int,0<=x->x<(S.length:Int)->∃ (i:Nat) (c:Ce),fs[i]?=some c/\((S.idxOf c:Nat):Int)=x:=λx x0 x1=>by
  have hl:x.toNat<S.length:=by omega
  have hm:S[x.toNat]∈S:=XM hl
  obtain ⟨i,ei⟩:=VV (pS.mem_iff.mp hm)
  refine ⟨i,_,ei,?_⟩
  have e1:=qlk hm
  have e2:S[x.toNat]?=some S[x.toNat]:=Kl hl
  have:=(List.getElem?_inj hl h.nd).mp (e2.trans e1.symm)
  omega
 have f0:0<fs.length:=by rw [← pS.length_eq];exact h.s0
 obtain ⟨z,ez⟩:∃ z,fs[0]?=some z:=⟨_,Kl f0⟩
 have key:∀ (n i:Nat) (c:Ce),i<n->fs[i]?=some c->(K (S.idxOf c:Nat)↔K (S.idxOf z:Nat)):=by
  intro n
  induction n with
  | zero=>exact λ_ _ h=>absurd h (U9 _)
  | succ n ih =>
   intro i c hi e
   by_cases h0:i=0
   ·subst h0
    rw [ez] at e
    cases e
    exact Iff.rfl
   ·obtain ⟨j,c',hj,ej,hm⟩:=cc i c e '$'
    exact (lkT c c' hm).trans (ih j c' '$' ej)
 obtain ⟨i,c,ei,rfl⟩:=ix a a0 a1
 obtain ⟨j,d,ej,rfl⟩:=ix b b0 b1
 exact (key (j+1) j d '$' ej).mpr ((key (i+1) i c '$' ei).mp ka)
theorem qfO:∀ (n:Nat) (lo:Int),rngL lo n=(KG n).map λk:Nat=>Kj (lo+(k:Int))
 | 0,_=>rfl
 | n+1,lo=>by
  rw [rngL,qfO n (lo+1),List.range_succ_eq_map,Kt,K6]
  congr 1
  ·show Kj lo=Kj (lo+((0:Nat):Int));congr 1;omega
  ·refine V9 λk _=>?_
   show Kj (lo+1+(k:Int))=Kj (lo+((k+1:Nat):Int))
   congr 1;omega
theorem qe0 (c:Ce){w:Nat}(hw:w<4):∃ w',w'<4/\bs w' (bs w c)=c:=by
 have h:w=0\/w=1\/w=2\/w=3:=by omega
 obtain ⟨x,y⟩:=c
 rcases h with rfl|rfl|rfl|rfl
 ·exact ⟨2,by decide,by show (x+1-1,y)=(x,y);congr 1;omega⟩
 ·exact ⟨3,by decide,by show (x,y+1-1)=(x,y);congr 1;omega⟩
 ·exact ⟨0,by decide,by show (x-1+1,y)=(x,y);congr 1;omega⟩
 ·exact ⟨1,by decide,by show (x,y-1+1)=(x,y);congr 1;omega⟩
theorem qgX {a b:Ce}(h:Adj a b):(∃ w,w<4/\b=bs w a)/\∃ w,w<4/\a=bs w b:=by
 have one:∃ w,w<4/\b=bs w a:=h.elim (λe=>⟨0,by decide,e⟩) (λe=>⟨1,by decide,e⟩)
 obtain ⟨w,hw,e⟩:=one
 obtain ⟨w',hw',e'⟩:=qe0 a hw
 exact ⟨⟨w,hw,e⟩,w',hw',by rw [e,e']⟩
def CcN (m:Nat)(fs:List Ce)(T:List Jn):Prop:=∀ (i:Nat) (c:Ce),i<m->fs[i]?=some c->0<i->∃ (j:Nat) (c':Ce),j<i/\fs[j]?=some c'/\((c',c)∈T.map (·.1)\/(c,c')∈T.map (·.1))
noncomputable def rw4 (c:Ce):List Ce:=[bs 0 c,bs 1 c,bs 2 c,bs 3 c]
theorem qcv {c x:Ce}:x∈rw4 c↔∃ w,w<4/\x=bs w c:=by
 unfold rw4
 constructor
 ·intro h
  simp only [Kr,VN,aU] at h
  rcases h with h|h|h|h
  ·exact ⟨0,by decide,h⟩
  ·exact ⟨1,by decide,h⟩
  ·exact ⟨2,by decide,h⟩
  ·exact ⟨3,by decide,h⟩
 ·rintro ⟨w,hw,rfl⟩
  have h:w=0\/w=1\/w=2\/w=3:=by omega
  rcases h with rfl|rfl|rfl|rfl<;>simp
theorem qlm (y:Int):(y % 4+1) % 3-1∈zF:=by
 have h:(y % 4+1) % 3-1=0\/(y % 4+1) % 3-1=1\/(y % 4+1) % 3-1=-1:=by omega
 rcases h with h|h|h<;>rw [h]<;>decide
theorem qlh {ns:List Int}(hb:∀ k∈ns,Vz k<=2 ^ 20){n0:Nat}{fs:List Ce}{T0:List Jn}(g:G13 n0 fs T0)(cc:Cc fs T0)(o4 o5 o6:Option Ka)(tl:Rho)(htl:tl.length=7) :
  ∃ (T:List Jn) (r3 r4 r5 r6:Option Ka),forD (gNm 3) WP ((KG (fs.length-1)).map λk:Nat=>Kj (1+(k:Int))) (some (.list (ns.map .int))::some (.list (fs.map eC))::some (.list [])::none::o4::o5::o6::tl) =
   some (.nx (some (.list (ns.map .int))::some (.list (fs.map eC))::some (.list (T.map eT3))::r3::r4::r5::r6::tl))/\G13 58 fs T/\Cc fs T:=by
 have h1:=g.h1
 obtain ⟨t1,t2,t3,t4,t5,t6,t7,rfl⟩:∃ t1 t2 t3 t4 t5 t6 t7,tl=[t1,t2,t3,t4,t5,t6,t7]:=by
  match tl,htl with
  | [t1,t2,t3,t4,t5,t6,t7],_=>exact ⟨_,_,_,_,_,_,_,rfl⟩
 obtain ⟨ρ',e,T,r3,r4,r5,r6,rfl,gT,cT⟩:=YX (λk:Nat=>Kj (1+(k:Int))) (g:=gNm 3) (u:=WP)
  (λdone ρ=>∃ (T:List Jn) (o3 o4 o5 o6:Option Ka),ρ=[some (.list (ns.map .int)),some (.list (fs.map eC)),some (.list (T.map eT3)),o3,o4,o5,o6,t1,t2,t3,t4,t5,t6,t7]/\G13 done.length fs T/\CcN (done.length+1) fs T) (KG (fs.length-1)) [some (.list (ns.map .int)),some (.list (fs.map eC)),some (.list []),none,o4,o5,o6,t1,t2,t3,t4,t5,t6,t7]
  ⟨[],none,o4,o5,o6,rfl,⟨g.h0,g.h1,g.h2,by simp,by simp,λp hp=>nomatch hp⟩,λi c hi e h0=>absurd h0 (by simp at hi;omega)⟩ (by
   rintro k done rest ρ eall ⟨T,o3,o4,o5,o6,rfl,gT,cT⟩
   have hlt:done.length<fs.length-1:=by
    have:=congrArg Xy eall
    simp at this
    omega
   have hk:k=done.length:=by
    have h2:(KG (fs.length-1))[done.length]?=(done++k::rest)[done.length]?:=by rw [← eall]
    rw [Xk hlt,Vb (Kq _),XE] at h2
    exact (VY h2).symm
   subst hk
   have hlen:(done++[done.length]).length=done.length+1:=by simp
   obtain ⟨c,ec⟩:∃ c,fs[done.length+1]?=some c:=⟨_,Kl '$'⟩
   obtain ⟨j,c',hj,ej,hm⟩:=cc (done.length+1) c ec '$'
   have hc':c'∈rw4 c:=by
    rcases hm with hm|hm
    ·obtain ⟨p,hp,e⟩:=KQ.mp hm
     have ad:=(g.h5 p hp).2.2.1
     rw [e] at ad
     exact qcv.mpr (qgX ad).2
    ·obtain ⟨p,hp,e⟩:=KQ.mp hm
     have ad:=(g.h5 p hp).2.2.1
     rw [e] at ad
     exact qcv.mpr (qgX ad).1
   have hcA:c'∈(fs.take (done.length+1)).filter λx=>decide (x∈rw4 c):=Nx.mpr ⟨KN (i:=j) (by rw [XZ hj];exact ej),ae hc'⟩
   obtain ⟨x,rs,eA⟩:∃ x rs,(fs.take (done.length+1)).filter (λx=>decide (x∈rw4 c))=x::rs:=by
    cases e:(fs.take (done.length+1)).filter (λx=>decide (x∈rw4 c)) with
    | nil=>rw [e] at hcA;cases hcA
    | cons x rs=>exact ⟨x,rs,rfl⟩
   obtain ⟨hxt,hx4⟩:=Nx.mp (show x∈(fs.take (done.length+1)).filter λx=>decide (x∈rw4 c) by rw [eA];exact .head _)
   obtain ⟨w,hw,ew⟩:=qcv.mp (ao hx4)
   obtain ⟨w',hw',eb⟩:=qe0 c hw
   rw [← ew] at eb
   obtain ⟨m1,m2⟩:=qh2 x hw'
   obtain ⟨ad,hp⟩:=qcC x hw'
   rw [eb] at m1 m2 hp
   generalize pk w' x=k at *
   obtain ⟨jx,ejx⟩:=VV hxt
   have hjx:jx<done.length+1:=by have:=(Kk.mp ejx).1;rw [Uq] at this;omega
   rw [XZ hjx] at ejx
   have xf:x∈fs:=KN ejx
   have cf:c∈fs:=KN ec
   have mk:k.1∈fs/\k.2∈fs:=by rcases hp with z|z<;>rw [z]<;>exact ⟨by assumption,by assumption⟩
   have xk:atI (fs.map eC) (1+(done.length:Int))=some (eC c):=QG '$' (by rw [show (1+(done.length:Int)).toNat=done.length+1 by omega];exact ec)
   have y0:=Zo c (w:=0) '#'
   have y1:=Zo c (w:=1) '#'
   have y2:=Zo c (w:=2) '#'
   have y3:=Zo c (w:=3) '#'
   have y0:zc [eC c,.int 0]=some (eC (bs 0 c)):=y0
   have y1:zc [eC c,.int 1]=some (eC (bs 1 c)):=y1
   have y2:zc [eC c,.int 2]=some (eC (bs 2 c)):=y2
   have y3:zc [eC c,.int 3]=some (eC (bs 3 c)):=y3
   have hr:∀ ρ:Rho,(evR (aC (kd (.int 4)) aN) Q0) ρ=some [.int 0,.int 1,.int 2,.int 3]:=λ_=>rfl
   have ii:∀ x:Ce,inD (eC x) (.list [eC (bs 0 c),eC (bs 1 c),eC (bs 2 c),eC (bs 3 c)])=some (.bool (decide (x∈rw4 c))):=qei (rw4 c)
   have sl:sliD (.list (fs.map eC)) none (some (1+(done.length:Int)))=some (.list ((fs.take (done.length+1)).map eC)):=by
    have:=qb2 eC fs (k:=1+(done.length:Int)) '$'
    rw [show (1+(done.length:Int)).toNat=done.length+1 by omega] at this
    exact this
   have hc:∀ o5 o6:Option Ka,QR (tV (ev2 (vr 14) (vr 4) inD)) (vr 14) [some (.list (ns.map .int)),some (.list (fs.map eC)),some (.list (T.map eT3)),some (.int (1+(done.length:Int))),some (.list [eC (bs 0 c),eC (bs 1 c),eC (bs 2 c),eC (bs 3 c)]),o5,o6,t1,t2,t3,t4,t5,t6,t7] ((fs.take (done.length+1)).map eC)=some ((x::rs).map eC):=λo5 o6=>by
    rw [← eA]
    exact Jg eC (λx=>decide (x∈rw4 c)) eC _ (λz _=>by simp_arith [ii]) (λz _ _=>by simp_arith [])
   have hln:((fs.take (done.length+1)).map eC).length<=1000:=by rw [Kf,Uq];omega
   have x0:atI ((x::rs).map eC) 0=some (eC x):=QG (xs:=x::rs) (Int.le_refl 0) rfl
   have cl:=wR ns (5+(1+(done.length:Int))) '$'
   have bc:Bd 1048576 (ji ns (5+(1+(done.length:Int)))):=by
    unfold ji
    rw [V3]
    cases e:ns[(5+(1+(done.length:Int))).toNat]? with
    | none=>decide
    | some z=>exact hb z (KN e)
   generalize ji ns (5+(1+(done.length:Int)))=y at cl bc
   have em:mulD (.int y) (.int 48271)=some (.int (y*48271)):=zf (bc.ok (Bd.of (n:=16) '#'))
   have e1:modD (.int (y*48271)) (.int 1009)=some (.int (y*48271 % 1009)):=ZC _ '#'
   generalize y*48271 % 1009=z at e1
   have hv:=qlm z
   have hT:T.length<=900:=by have:=gT.h3;omega
   have ej:=yg (.list (fs.map eC)) T hT m1 m2 ((z % 4+1) % 3-1)
   have fo:=yL (jnd T k ((z % 4+1) % 3-1))
   refine ⟨[some (.list (ns.map .int)),some (.list (fs.map eC)),some (.list ((jnd T k ((z % 4+1) % 3-1)).map eT3)),some (.int (1+(done.length:Int))),some (.list [eC (bs 0 c),eC (bs 1 c),eC (bs 2 c),eC (bs 3 c)]),some (.list ((x::rs).map eC)),some (.int ((z % 4+1) % 3-1)),t1,t2,t3,t4,t5,t6,t7],?_,_,_,_,_,_,rfl,by rw [hlen];exact gT.put mk.1 mk.2 ad hv,λi a hi e h0=>?_⟩
   ·simp_arith [xk,hr,y0,y1,y2,y3,sl,hc,hln,x0,cl,em,e1,yu,ej,fo]
   ·rw [hlen] at hi
    by_cases hi':i<done.length+1
    ·obtain ⟨j2,c2,q1,q2,q3⟩:=cT i a hi' e h0
     exact ⟨j2,c2,q1,q2,q3.elim (λz=>.inl (WX z)) (λz=>.inr (WX z))⟩
    ·have:i=done.length+1:=by omega
     subst this
     rw [ec] at e
     cases e
     refine ⟨jx,x,hjx,ejx,?_⟩
     have q:=qkU T k ((z % 4+1) % 3-1)
     rcases hp with h|h
     ·exact .inl (by rw [← h];exact q)
     ·exact .inr (by rw [← h];exact q))
 rw [Vh] at gT cT
 refine ⟨T,r3,r4,r5,r6,e,⟨gT.h0,gT.h1,gT.h2,by have:=gT.h3;omega,gT.h4,gT.h5⟩,λi c ei h0=>cT i c (by have:=(Kk.mp ei).1;omega) ei h0⟩
theorem bdn {z o:Int}(h:Bd 100 z)(ho:Bd 1 o):Bd 200 (2*z+1-if o<0 then -o else o):=by
 have h1:=EV.mp h
 have h2:=EV.mp ho
 refine Bd.of (KZ (m:=2*2 ^ 100+4) ?_ '%')
 generalize (2 ^ 100:Nat)=N at h1 ⊢
 split<;>omega
theorem n9 (z:Int):Bd 100 (z % 9-4):=Bd.of (KZ (m:=16) '$' '%')
theorem pl16 {P Q:Int}(p1:powD (.int 10) (.int 29)=some (.int P))(p2:powD (.int 10) (.int 28)=some (.int Q))(md:∀ z:Int,modD (.int z) (.int P)=some (.int (z % P)))(m2:∀ z:Int,mulD (.int 2) (.int (z % P-Q))=some (.int (2*(z % P-Q))))(hq:∀ z:Int,Bd 100 (z % P-Q))(a0 a2 a3 a4:Option Ka)(far o0 o1 o2:Int):∃ (i j k:Int) (a7 a8:Option Ka),forD (gNm 7) j4 [.int 0,.int 1,.int 2] [a0,some (.int far),a2,a3,a4,some (.tuple [.int o0,.int o1,.int o2]),some (.list []),none,none] =
  some (.nx [a0,some (.int far),a2,a3,a4,some (.tuple [.int o0,.int o1,.int o2]),some (.list [.int i,.int j,.int k]),a7,a8])/\(Bd 1 o0->Bd 1 o1->Bd 1 o2->SpBd 200 ⟨i,j,k⟩):=by
 have k0:mulD (.int 4) (.int 0)=some (.int 0):=rfl
 have k1:mulD (.int 4) (.int 1)=some (.int 4):=rfl
 have k2:mulD (.int 4) (.int 2)=some (.int 8):=rfl
 by_cases h:far % 3=1
 ·simp_arith [k0,k1,k2,ma13,m2,md,p1,p2,h,aL]
  exact ⟨_,_,_,_,_,rfl,λh0 h1 h2=>⟨bdn (hq _) h0,bdn (hq _) h1,bdn (hq _) h2⟩⟩
 ·have e:(far % 3==1)=false:=ar.mpr h
  simp_arith [k0,k1,k2,ma13,m2,md,p1,p2,e]
  exact ⟨_,_,_,_,_,rfl,λh0 h1 h2=>⟨bdn (n9 _) h0,bdn (n9 _) h1,bdn (n9 _) h2⟩⟩
theorem qms (c far:Int):∃ x t,QT [.int c,.int far]=some (encP x t)/\Tn t/\SpBd 200 x:=by
 have h6:c % 6=0\/c % 6=1\/c % 6=2\/c % 6=3\/c % 6=4\/c % 6=5:=by omega
 have h4:c / 6 % 4=0\/c / 6 % 4=1\/c / 6 % 4=2\/c / 6 % 4=3:=by omega
 have k00:mulD (.int 0) (.int 0)=some (.int 0):=rfl
 have k01:mulD (.int 0) (.int 1)=some (.int 0):=rfl
 have k02:mulD (.int 0) (.int (-1))=some (.int 0):=rfl
 have k10:mulD (.int 1) (.int 0)=some (.int 0):=rfl
 have k11:mulD (.int 1) (.int 1)=some (.int 1):=rfl
 have k12:mulD (.int 1) (.int (-1))=some (.int (-1)):=rfl
 have k20:mulD (.int (-1)) (.int 0)=some (.int 0):=rfl
 have k21:mulD (.int (-1)) (.int 1)=some (.int (-1)):=rfl
 have k22:mulD (.int (-1)) (.int (-1))=some (.int 1):=rfl
 have hr:∀ ρ:Rho,(evR (aC (kd (.int 3)) aN) Q0) ρ=some [.int 0,.int 1,.int 2]:=λ_=>rfl
 simp only [QT,jY]
 rcases h6 with h6|h6|h6|h6|h6|h6<;>rcases h4 with h4|h4|h4|h4 <;>
  (
   simp_arith [-L2.jd,-L2.qcb,h6,h4,zr,ZK,zV,jP,k00,k01,k02,k10,k11,k12,k20,k21,k22,E7,E8,hr]
   obtain ⟨i,j,k,a7,a8,e,bd⟩:=pl16 rfl rfl md13 mb13 qfC _ _ _ _ far _ _ _
   rw [e]
   simp_arith []
   exact ⟨⟨i,j,k⟩,tw13 ⟨_,_,_⟩ ⟨_,_,_⟩,rfl,Tn.of '#',bd '#' '#' '#'⟩)
theorem qlz (cs:List Ce)(js:List Sp):eqD (.tuple [.list (cs.map eC),.list (js.map eS)]) (.tuple [.list (cs.map eC),.list (js.map eS)])=some (.bool true):=by
 have hc:=qd9 cs
 have hj:=qhc js
 have sh:K7 (.tuple [.list (cs.map eC),.list (js.map eS)])=true:=by
  have h2:UD (.tuple [.list (cs.map eC),.list (js.map eS)])=max (KC (cs.map eC)+1) (max (KC (js.map eS)+1) 0)+1:=rfl
  have h3:KM (.tuple [.list (cs.map eC),.list (js.map eS)])=(Kp (cs.map eC)&&(Kp (js.map eS)&&true)):=rfl
  unfold K7
  rw [h2,h3,hc.1,hj.1,KI]
  exact ⟨rfl,ae '$'⟩
 unfold eqD
 have:Ks (.tuple [.list (cs.map eC),.list (js.map eS)]) (.tuple [.list (cs.map eC),.list (js.map eS)])=(Ks (.list (cs.map eC)) (.list (cs.map eC))&&(Ks (.list (js.map eS)) (.list (js.map eS))&&true)):=rfl
 rw [ag ⟨sh,sh⟩,this,Jl qfR cs,Jl qfS js]
 rfl
noncomputable def bl16:List Ka:=[.int 0,.int 1,.int 0,.int (-1)]
theorem qja (y:Int):∃ v,atI bl16 (y % 4)=some (.int v)/\v∈zF:=by
 have h:y % 4=0\/y % 4=1\/y % 4=2\/y % 4=3:=by omega
 rcases h with h|h|h|h<;>rw [h]
 ·exact ⟨0,rfl,by decide⟩
 ·exact ⟨1,rfl,by decide⟩
 ·exact ⟨0,rfl,by decide⟩
 ·exact ⟨-1,rfl,by decide⟩
theorem qjK {ns:List Int}(hb:∀ k∈ns,Vz k<=2 ^ 20){fs:List Ce}{T0:List Jn}(g:G13 58 fs T0)(cc:Cc fs T0) :
  ∃ (T:List Jn) (r3 r4 r5 r6:Option Ka),(sIf (tV (ev2 (ev2 (evC 2 (aC (vr 0) (aC (kd (.int 4)) aN)) zm) (kd (.int 2)) modD) ')' eqD)) (seqO (QJ 2 (evSL (vr 2) oN (oS ')'))) (sFor (evR (aC (kd (.int 1)) (aC (evA (aC (vr 1) aN) lenD) aN)) qdY) (gNm 3) WP)) sN) [some (.list (ns.map .int)),some (.list (fs.map eC)),some (.list (T0.map eT3)),none,none,none,none,none,none,none,none,none,none,none] =
   some (.nx [some (.list (ns.map .int)),some (.list (fs.map eC)),some (.list (T.map eT3)),r3,r4,r5,r6,none,none,none,none,none,none,none])/\G13 58 fs T/\Cc fs T:=by
 have c4:=wR ns 4 '#'
 generalize ji ns 4=v4 at c4
 cases hq:(v4 % 2==0) with
 | false =>
  refine ⟨T0,none,none,none,none,?_,g,cc⟩
  simp_arith [c4,hq]
 | true =>
  obtain ⟨T,r3,r4,r5,r6,e,gT,cT⟩:=qlh hb g cc none none none [none,none,none,none,none,none,none] rfl
  refine ⟨T,r3,r4,r5,r6,?_,gT,cT⟩
  have h0:=g.h0
  have h1:=g.h1
  have rr:(if -1000<=(((fs.map eC).length:Nat):Int)/\(((fs.map eC).length:Nat):Int)<=1000 then some (rngL 1 ((((fs.map eC).length:Nat):Int)-1).toNat) else none)=some ((KG (fs.length-1)).map λk:Nat=>Kj (1+(k:Int))):=by
   rw [Kf,ag '$',qfO,show (((fs.length:Nat):Int)-1).toNat=fs.length-1 by omega]
  have sl:evSL (vr 2) oN (oS ')') [some (.list (ns.map .int)),some (.list (fs.map eC)),some (.list (T0.map eT3)),none,none,none,none,none,none,none,none,none,none,none]=some (.list []):=by
   rw [qlu (ds:=T0.map eT3) (l:=none) (h:=some 0) (h1:=rfl) (h2:=rfl) (h3:=rfl)]
   exact qb2 eT3 T0 (k:=0) '#'
  simp_arith [c4,hq,sl,rr,e]
theorem qgp (ns:List Int)(_:ns.length<=63)(hb:∀ k∈ns,Vz k<=2 ^ 20):qhv [.list (ns.map .int)]=some (.bool true):=by
 obtain ⟨fs,T0,eg,g0,cc0⟩:=qjE hb 5 63 '#' (mo:=26) (L:=4) (bl:=bl16) '#' rfl '#' qja
 have eg:Qg [.list (ns.map .int),.int 5,.int 63,.int 26,.list [.int 0,.int 1,.int 0,.int (-1)]]=some (.tuple [.list (fs.map eC),.list (T0.map eT3)]):=eg
 obtain ⟨T,r3,r4,r5,r6,ej,g,cc⟩:=qjK hb g0 cc0
 obtain ⟨S,J,es,pS,_,pJ,_⟩:=qkD (fs:=fs) (T:=T) (by have:=g.h1;omega) (by have:=g.h3;omega) λp hp=>⟨(g.h5 p hp).1,(g.h5 p hp).2.1⟩
 have h:=jok13 g pS pJ
 have cn:=cn16 h cc pS pJ
 have en:=qlZ h
 have c2:=wR ns 2 '#'
 have c3:=wR ns 3 '#'
 generalize ji ns 2=v2 at c2
 generalize ji ns 3=v3 at c3
 obtain ⟨x,t,ep,ht,bx⟩:=qms (v2 / 26) v3
 have s0:=h.s0
 have hf:0<=v2 % (S.length:Int)/\v2 % (S.length:Int)<(S.length:Int):=⟨XX _ '$',N2 _ '$'⟩
 have md:modD (.int v2) (.int ((S.length:Nat):Int))=some (.int (v2 % (S.length:Int))):=ZC _ '$'
 have t16:st16∈qz:=by decide
 obtain ⟨osa,Pa,ra,ea,a⟩:=qed h cn (f0:=0) ⟨Int.le_refl 0,by omega⟩ (p0:=(sp16,st16)) t16 (.inl ⟨rfl,rfl⟩)
 obtain ⟨osb,Pb,rb,eb,b⟩:=qed h cn hf (p0:=(x,t)) ht.mem (.inr rfl)
 obtain ⟨osc,Pc,rc,ec,c⟩:=qed h cn hf (p0:=(sp16,st16)) t16 (.inl ⟨rfl,rfl⟩)
 have b16:SpBd 200 sp16:=⟨by decide,by decide,by decide⟩
 have mb:=qfy h a b b16 bx
 have mc:=qfy h a c b16 b16
 have eb:Qh [.tuple [.list (S.map eC),.list (J.map eS)],.int (v2 % (S.length:Int)),encP x t]=some rb:=eb
 have mb:za [eLS (nrL S J),ra,rb,.int (v2 % (S.length:Int)),encP x t]=some (.bool true):=mb
 have mc:za [eLS (nrL S J),ra,rc,.int (v2 % (S.length:Int)),.tuple [.tuple [.int 1,.int 1,.int 0],.tuple [.int 1,.int 0,.int 0],.tuple [.int 0,.int 1,.int 0]]]=some (.bool true):=mc
 have lN:=qew S J
 have hl:∀ xs:List Ka,qbB [.list xs]=some (.list xs):=λ_=>rfl
 have hh:=qlz S J
 have bs:isiT "tuple" ra=true/\(∃ n:Int,lenD [ra]=some (.int n)/\decide (n<2)=false)/\∃ nm,ixD ra (.int 0)=some nm/\ninD nm (.tuple [.str "folded", .str "ring", .str "clash"])=some (.bool false)/\(eqD nm (.str "folded")=some (.bool false)\/(eqD nm (.str "folded")=some (.bool true)/\∃ ps,ixD ra (.int 1)=some ps/\zG [ps,.int ((S.length:Nat):Int)]=some (.bool true))):=by
  rcases a.or with ⟨_,rfl⟩|⟨_,_,_,ks,rfl,_⟩
  ·unfold cofD
   cases fmA [] 0 (((KG S.length).map λk:Nat=>Pa (k:Int)).map (·.1)) with
   | none =>
    refine ⟨rfl,⟨2,rfl,rfl⟩,_,rfl,by kernel_rfl,.inr ⟨by kernel_rfl,_,rfl,?_⟩⟩
    have:=qgZ (ps:=(KG S.length).map λk:Nat=>Pa (k:Int)) (by rw [Kf,Vh];have:=h.ls;omega)
    rw [Kf,Vh] at this
    exact this
   | some q=>exact ⟨rfl,⟨3,rfl,rfl⟩,_,rfl,by kernel_rfl,.inl (by kernel_rfl)⟩
  ·exact ⟨rfl,⟨2,rfl,rfl⟩,_,rfl,by kernel_rfl,.inl (by kernel_rfl)⟩
 obtain ⟨b1,⟨n,b2,b3⟩,nm,b4,b5,b6⟩:=bs
 have sA:sAsg (evC 5 (aC (vr 0) (aC (kd (.int 5)) (aC (kd (.int 63)) (aC (kd (.int 26)) (aC (evA (aC ')' (aC (kd (.int 1)) (aC ')' (aC (ev1 (kd (.int 1)) negD) aN)))) lstD) aN))))) Qg) (unpD 2 (gsC (gNm 1) (gsC (gNm 2) gsN))) [some (.list (ns.map .int)),none,none,none,none,none,none,none,none,none,none,none,none,none]=some (.nx [some (.list (ns.map .int)),some (.list (fs.map eC)),some (.list (T0.map eT3)),none,none,none,none,none,none,none,none,none,none,none]):=by
  simp_arith [eg]
 have r0:rho0 qcQ.length [.list (ns.map .int)]=[some (.list (ns.map .int)),none,none,none,none,none,none,none,none,none,none,none,none,none]:=rfl
 unfold qhv qi1
 rw [r0,JF sA (JF ej rfl)]
 rcases b6 with b6|⟨b6,ps,b7,b8⟩
 ·simp_arith [es,en,c2,lN,md,c3,ep,hl,ea,b1,b2,b3,b4,b5,b6,eb,mb,ec,mc,hh]
 ·simp_arith [es,en,c2,lN,md,c3,ep,hl,ea,b1,b2,b3,b4,b5,b6,b7,b8,eb,mb,ec,mc,hh]
theorem qlg {l:Ef}{w:K1}{K:Kb}{h:KU}{fa f46 f47:Ke}(X:K.In h)(G:h.Ns aj mg)(hfa:mg "law" = some (.ref fa))
  {od46 an46 od47 an47:Option Ke} {sl46 sl47:Array (Option Kd)} {oc46 kV46 dc46 pm46 cd46 ct46 oc47 kV47 dc47 pm47 cd47 ct47:Kd}
  (h0:FnK K "links_of" Tq30)
  (h1:FnK K "reached_from" Tq6)
  (h2:FnK K "first_meeting" Tq5)
  (h3:FnK K "path_back" Tq23)
  (h4:FnK K "path_between" Tq7)
  (h5:FnK K "is_whole" Tq31)
  (h6:FnK K "added" Tq45)
  (h7:FnK K "negated" Tq37)
  (h8:FnK K "cross" Tq46)
  (h9:FnK K "turned" Tq41)
  (h10:FnK K "joined_turns" Tq8)
  (h11:FnK K "turn_back" Tq24)
  (h12:FnK K "out_of" Tq42)
  (h13:FnK K "unit_of" Tq38)
  (h14:FnK K "is_bend" Tq39)
  (h15:FnK K "join_of" Tq40)
  (h16:FnK K "step_between" Tq9)
  (h17:FnK K "neighbours" Tq17)
  (h18:FnK K "steps_of" Tq32)
  (h19:FnK K "clash_or_folded" Tq0)
  (h20:FnK K "_law_cell" Tq25)
  (h21:FnK K "_law_whole" Tq18)
  (h22:FnK K "_law_cross" Tq19)
  (h23:FnK K "_law_dot" Tq33)
  (h24:FnK K "_law_sum" Tq34)
  (h25:FnK K "_law_unit" Tq26)
  (h26:FnK K "_law_led" Tq35)
  (h27:FnK K "_law_pose" Tq27)
  (h28:FnK K "_law_is_spot" Tq10)
  (h29:FnK K "_law_is_pose" Tq11)
  (h30:FnK K "_law_neighbour" Tq2)
  (h31:FnK K "_law_joined" Tq14)
  (h32:FnK K "_law_grown" Tq20)
  (h33:FnK K "_law_sheet" Tq21)
  (h34:FnK K "_law_near" Tq28)
  (h35:FnK K "_law_walked" Tq15)
  (h36:FnK K "_law_seen_from" Tq3)
  (h37:FnK K "_law_ring" Tq29)
  (h38:FnK K "_law_all_poses" Tq4)
  (h39:FnK K "_law_moved_well" Tq1)
  (h44:FnK K "led_by" Tq43)
  (h45:FnK K "poses_along" Tq16)
  {df46_t0:Tok}
  {df46:Ke} {df46c:Kd} {df46d:Option Ke} {df46n:Nat} {df46s:Array (Option Kd)}
  (a46:KO K aj "folded" = some (some (.ref f46))) (l46:K.lookup f46=some ⟨oc46,od46,.func (Ue "folded" "folded" (Za Tq44) (Qa Tq44) (qe Tq44) (.ref df46) kV46 dc46 pm46 an46 cd46 ct46),sl46⟩) (c46:UI K cd46 "folded" = true) (k46:Vx K (.ref f46)=true)
  (a47:KO K aj "law" = some (some (.ref f47))) (l47:K.lookup f47=some ⟨oc47,od47,.func (Ue "law" "law" (Za Tq47) (Qa Tq47) (qe Tq47) .none kV47 dc47 pm47 an47 cd47 ct47),sl47⟩) (c47:UI K cd47 "law" = true) (k47:Vx K (.ref f47)=true)
  (y46:K.lookup df46=some ⟨df46c,df46d,.seq #[(.int (0) df46_t0),.none] df46n,df46s⟩)
  (z0:KO K aj "range" = some none)
  (z1:KO K aj "enumerate" = some none)
  (z2:KO K aj "len" = some none)
  (z3:KO K aj "list" = some none)
  (z4:KO K aj "reversed" = some none)
  (z5:KO K aj "isinstance" = some none)
  (z6:KO K aj "int" = some none)
  (z7:KO K aj "bool" = some none)
  (z8:KO K aj "tuple" = some none)
  (z9:KO K aj "sorted" = some none)
  (z10:KO K aj "abs" = some none)
  (z11:KO K aj "all" = some none)
  (z12:KO K aj "max" = some none)
  (z13:KO K aj "min" = some none)
  (ct:ctB K CS=true)
  (hm0:MthK K "Join" "goes_on" "Join.goes_on" Tq12)
  (hm1:MthK K "Up" "goes_on" "Up.goes_on" Tq22)
  (hm2:MthK K "Down" "goes_on" "Down.goes_on" Tq13)
  (hm3:MthK K "Join" "led" "Join.led" Tq36)
  (hm4:MthK K "Up" "led" "Join.led" Tq36)
  (hm5:MthK K "Down" "led" "Join.led" Tq36)
  {kc0_a0:Ke}
  {kc0_d0:Option Ke}
  {kc0_n0:Nat}
  {kc0_s0:Array (Option Kd)}
  {kc0_t4:Tok}
  {kc0_t5:Tok}
  {kc0_t6:Tok}
  (kc0:KO K aj "BENDS" = some (some (.ref kc0_a0)))
  (kc0_h0:K.lookup kc0_a0=some ⟨.type "tuple", kc0_d0,.seq #[(.int (-1) kc0_t4),(.int (0) kc0_t5),(.int (1) kc0_t6)] kc0_n0,kc0_s0⟩)
  {kc1_a0:Ke}
  {kc1_n0:Nat}
  {kc1_s0:Array (Option Kd)}
  {kc1_a3:Ke}
  {kc1_d3:Option Ke}
  {kc1_n3:Nat}
  {kc1_s3:Array (Option Kd)}
  {kc1_t7:Tok}
  {kc1_t8:Tok}
  {kc1_a9:Ke}
  {kc1_d9:Option Ke}
  {kc1_n9:Nat}
  {kc1_s9:Array (Option Kd)}
  {kc1_t13:Tok}
  {kc1_t14:Tok}
  {kc1_a15:Ke}
  {kc1_d15:Option Ke}
  {kc1_n15:Nat}
  {kc1_s15:Array (Option Kd)}
  {kc1_t19:Tok}
  {kc1_t20:Tok}
  {kc1_a21:Ke}
  {kc1_d21:Option Ke}
  {kc1_n21:Nat}
  {kc1_s21:Array (Option Kd)}
  {kc1_t25:Tok}
  {kc1_t26:Tok}
  (kc1:KO K aj "STEPS" = some (some (.ref kc1_a0)))
  (kc1_h0:K.lookup kc1_a0=some ⟨.type "tuple", none,.seq #[(.ref kc1_a3),(.ref kc1_a9),(.ref kc1_a15),(.ref kc1_a21)] kc1_n0,kc1_s0⟩)
  (kc1_h3:K.lookup kc1_a3=some ⟨.type "tuple", kc1_d3,.seq #[(.int (1) kc1_t7),(.int (0) kc1_t8)] kc1_n3,kc1_s3⟩)
  (kc1_h9:K.lookup kc1_a9=some ⟨.type "tuple", kc1_d9,.seq #[(.int (0) kc1_t13),(.int (1) kc1_t14)] kc1_n9,kc1_s9⟩)
  (kc1_h15:K.lookup kc1_a15=some ⟨.type "tuple", kc1_d15,.seq #[(.int (-1) kc1_t19),(.int (0) kc1_t20)] kc1_n15,kc1_s15⟩)
  (kc1_h21:K.lookup kc1_a21=some ⟨.type "tuple", kc1_d21,.seq #[(.int (0) kc1_t25),(.int (-1) kc1_t26)] kc1_n21,kc1_s21⟩)
  {kc2_a0:Ke}
  {kc2_d0:Option Ke}
  {kc2_n0:Nat}
  {kc2_s0:Array (Option Kd)}
  {kc2_a4:Ke}
  {kc2_d4:Option Ke}
  {kc2_n4:Nat}
  {kc2_s4:Array (Option Kd)}
  {kc2_t8:Tok}
  {kc2_t9:Tok}
  {kc2_t10:Tok}
  {kc2_a11:Ke}
  {kc2_d11:Option Ke}
  {kc2_n11:Nat}
  {kc2_s11:Array (Option Kd)}
  {kc2_t15:Tok}
  {kc2_t16:Tok}
  {kc2_t17:Tok}
  {kc2_a18:Ke}
  {kc2_d18:Option Ke}
  {kc2_n18:Nat}
  {kc2_s18:Array (Option Kd)}
  {kc2_t22:Tok}
  {kc2_t23:Tok}
  {kc2_t24:Tok}
  (kc2:KO K aj "START" = some (some (.ref kc2_a0)))
  (kc2_h0:K.lookup kc2_a0=some ⟨.type "tuple", kc2_d0,.seq #[(.ref kc2_a4),(.ref kc2_a11),(.ref kc2_a18)] kc2_n0,kc2_s0⟩)
  (kc2_h4:K.lookup kc2_a4=some ⟨.type "tuple", kc2_d4,.seq #[(.int (1) kc2_t8),(.int (1) kc2_t9),(.int (0) kc2_t10)] kc2_n4,kc2_s4⟩)
  (kc2_h11:K.lookup kc2_a11=some ⟨.type "tuple", kc2_d11,.seq #[(.int (1) kc2_t15),(.int (0) kc2_t16),(.int (0) kc2_t17)] kc2_n11,kc2_s11⟩)
  (kc2_h18:K.lookup kc2_a18=some ⟨.type "tuple", kc2_d18,.seq #[(.int (0) kc2_t22),(.int (1) kc2_t23),(.int (0) kc2_t24)] kc2_n18,kc2_s18⟩)
  : ∃ fd:VD,(∀ (s:Kh) (v:Kd),BindsTo s fd ⟨[v],[]⟩ [("_law_script", v)])/\∀ base:KU,K.In base->base.Ns aj mg->FnOk l.prog w K mg base CX0 7 fa fd ["_law_script"] (qeK K 63):=by
 have g {n:Str} {v:Kd} (e:KO K aj n=some (some v)):mg n=some v:=Ni X G e
 have e:=hfa.symm.trans (g a47)
 cases e
 obtain ⟨f0,d0,a0,F0⟩:=h0
 have b0:=F0.binds (ps:=["count", "pairs"]) λ_ _ _ _ _ _ us hl=>match us,hl with | [_,_],_=>rfl
 obtain ⟨f1,d1,a1,F1⟩:=h1
 have b1:=F1.binds (ps:=["start", "links"]) λ_ _ _ _ _ _ us hl=>match us,hl with | [_,_],_=>rfl
 obtain ⟨f2,d2,a2,F2⟩:=h2
 have b2:=F2.binds (ps:=["things"]) λ_ _ _ _ _ _ us hl=>match us,hl with | [_],_=>rfl
 obtain ⟨f3,d3,a3,F3⟩:=h3
 have b3:=F3.binds (ps:=["origins", "k"]) λ_ _ _ _ _ _ us hl=>match us,hl with | [_,_],_=>rfl
 obtain ⟨f4,d4,a4,F4⟩:=h4
 have b4:=F4.binds (ps:=["origins", "i", "j"]) λ_ _ _ _ _ _ us hl=>match us,hl with | [_,_,_],_=>rfl
 obtain ⟨f5,d5,a5,F5⟩:=h5
 have b5:=F5.binds (ps:=["thing"]) λ_ _ _ _ _ _ us hl=>match us,hl with | [_],_=>rfl
 obtain ⟨f6,d6,a6,F6⟩:=h6
 have b6:=F6.binds (ps:=["one", "other"]) λ_ _ _ _ _ _ us hl=>match us,hl with | [_,_],_=>rfl
 obtain ⟨f7,d7,a7,F7⟩:=h7
 have b7:=F7.binds (ps:=["spot"]) λ_ _ _ _ _ _ us hl=>match us,hl with | [_],_=>rfl
 obtain ⟨f8,d8,a8,F8⟩:=h8
 have b8:=F8.binds (ps:=["one", "other"]) λ_ _ _ _ _ _ us hl=>match us,hl with | [_,_],_=>rfl
 obtain ⟨f9,d9,a9,F9⟩:=h9
 have b9:=F9.binds (ps:=["turn", "spot"]) λ_ _ _ _ _ _ us hl=>match us,hl with | [_,_],_=>rfl
 obtain ⟨f10,d10,a10,F10⟩:=h10
 have b10:=F10.binds (ps:=["first", "second"]) λ_ _ _ _ _ _ us hl=>match us,hl with | [_,_],_=>rfl
 obtain ⟨f11,d11,a11,F11⟩:=h11
 have b11:=F11.binds (ps:=["turn"]) λ_ _ _ _ _ _ us hl=>match us,hl with | [_],_=>rfl
 obtain ⟨f12,d12,a12,F12⟩:=h12
 have b12:=F12.binds (ps:=["pose"]) λ_ _ _ _ _ _ us hl=>match us,hl with | [_],_=>rfl
 obtain ⟨f13,d13,a13,F13⟩:=h13
 have b13:=F13.binds (ps:=["pose", "way"]) λ_ _ _ _ _ _ us hl=>match us,hl with | [_,_],_=>rfl
 obtain ⟨f14,d14,a14,F14⟩:=h14
 have b14:=F14.binds (ps:=["thing"]) λ_ _ _ _ _ _ us hl=>match us,hl with | [_],_=>rfl
 obtain ⟨f15,d15,a15,F15⟩:=h15
 have b15:=F15.binds (ps:=["bend"]) λ_ _ _ _ _ _ us hl=>match us,hl with | [_],_=>rfl
 obtain ⟨f16,d16,a16,F16⟩:=h16
 have b16:=F16.binds (ps:=["cell", "other"]) λ_ _ _ _ _ _ us hl=>match us,hl with | [_,_],_=>rfl
 obtain ⟨f17,d17,a17,F17⟩:=h17
 have b17:=F17.binds (ps:=["sheet", "k"]) λ_ _ _ _ _ _ us hl=>match us,hl with | [_,_],_=>rfl
 obtain ⟨f18,d18,a18,F18⟩:=h18
 have b18:=F18.binds (ps:=["sheet"]) λ_ _ _ _ _ _ us hl=>match us,hl with | [_],_=>rfl
 obtain ⟨f19,d19,a19,F19⟩:=h19
 have b19:=F19.binds (ps:=["poses"]) λ_ _ _ _ _ _ us hl=>match us,hl with | [_],_=>rfl
 obtain ⟨f20,d20,a20,F20⟩:=h20
 have b20:=F20.binds (ps:=["_law_script", "_law_k"]) λ_ _ _ _ _ _ us hl=>match us,hl with | [_,_],_=>rfl
 obtain ⟨f21,d21,a21,F21⟩:=h21
 have b21:=F21.binds (ps:=["_law_found"]) λ_ _ _ _ _ _ us hl=>match us,hl with | [_],_=>rfl
 obtain ⟨f22,d22,a22,F22⟩:=h22
 have b22:=F22.binds (ps:=["_law_one", "_law_other"]) λ_ _ _ _ _ _ us hl=>match us,hl with | [_,_],_=>rfl
 obtain ⟨f23,d23,a23,F23⟩:=h23
 have b23:=F23.binds (ps:=["_law_one", "_law_other"]) λ_ _ _ _ _ _ us hl=>match us,hl with | [_,_],_=>rfl
 obtain ⟨f24,d24,a24,F24⟩:=h24
 have b24:=F24.binds (ps:=["_law_one", "_law_many", "_law_other"]) λ_ _ _ _ _ _ us hl=>match us,hl with | [_,_,_],_=>rfl
 obtain ⟨f25,d25,a25,F25⟩:=h25
 have b25:=F25.binds (ps:=["_law_pose_here", "_law_way"]) λ_ _ _ _ _ _ us hl=>match us,hl with | [_,_],_=>rfl
 obtain ⟨f26,d26,a26,F26⟩:=h26
 have b26:=F26.binds (ps:=["_law_pose_here", "_law_way", "_law_bend"]) λ_ _ _ _ _ _ us hl=>match us,hl with | [_,_,_],_=>rfl
 obtain ⟨f27,d27,a27,F27⟩:=h27
 have b27:=F27.binds (ps:=["_law_cell_here", "_law_far"]) λ_ _ _ _ _ _ us hl=>match us,hl with | [_,_],_=>rfl
 obtain ⟨f28,d28,a28,F28⟩:=h28
 have b28:=F28.binds (ps:=["_law_thing"]) λ_ _ _ _ _ _ us hl=>match us,hl with | [_],_=>rfl
 obtain ⟨f29,d29,a29,F29⟩:=h29
 have b29:=F29.binds (ps:=["_law_thing"]) λ_ _ _ _ _ _ us hl=>match us,hl with | [_],_=>rfl
 obtain ⟨f30,d30,a30,F30⟩:=h30
 have b30:=F30.binds (ps:=["_law_cell_here", "_law_way"]) λ_ _ _ _ _ _ us hl=>match us,hl with | [_,_],_=>rfl
 obtain ⟨f31,d31,a31,F31⟩:=h31
 have b31:=F31.binds (ps:=["_law_cells", "_law_joins", "_law_one", "_law_other", "_law_bend"]) λ_ _ _ _ _ _ us hl=>match us,hl with | [_,_,_,_,_],_=>rfl
 obtain ⟨f32,d32,a32,F32⟩:=h32
 have b32:=F32.binds (ps:=["_law_script", "_law_first", "_law_last", "_law_most", "_law_bends"]) λ_ _ _ _ _ _ us hl=>match us,hl with | [_,_,_,_,_],_=>rfl
 obtain ⟨f33,d33,a33,F33⟩:=h33
 have b33:=F33.binds (ps:=["_law_cells", "_law_joins"]) λ_ _ _ _ _ _ us hl=>match us,hl with | [_,_],_=>rfl
 obtain ⟨f34,d34,a34,F34⟩:=h34
 have b34:=F34.binds (ps:=["_law_sheet_here"]) λ_ _ _ _ _ _ us hl=>match us,hl with | [_],_=>rfl
 obtain ⟨f35,d35,a35,F35⟩:=h35
 have b35:=F35.binds (ps:=["_law_near_here", "_law_numbers", "_law_pose_here"]) λ_ _ _ _ _ _ us hl=>match us,hl with | [_,_,_],_=>rfl
 obtain ⟨f36,d36,a36,F36⟩:=h36
 have b36:=F36.binds (ps:=["_law_pose_here", "_law_other"]) λ_ _ _ _ _ _ us hl=>match us,hl with | [_,_],_=>rfl
 obtain ⟨f37,d37,a37,F37⟩:=h37
 have b37:=F37.binds (ps:=["_law_near_here", "_law_numbers", "_law_pose_here"]) λ_ _ _ _ _ _ us hl=>match us,hl with | [_,_,_],_=>rfl
 obtain ⟨f38,d38,a38,F38⟩:=h38
 have b38:=F38.binds (ps:=["_law_poses", "_law_many"]) λ_ _ _ _ _ _ us hl=>match us,hl with | [_,_],_=>rfl
 obtain ⟨f39,d39,a39,F39⟩:=h39
 have b39:=F39.binds (ps:=["_law_near_here", "_law_base", "_law_found", "_law_first", "_law_pose_here"]) λ_ _ _ _ _ _ us hl=>match us,hl with | [_,_,_,_,_],_=>rfl
 obtain ⟨f44,d44,a44,F44⟩:=h44
 have b44:=F44.binds (ps:=["step", "pose"]) λ_ _ _ _ _ _ us hl=>match us,hl with | [_,_],_=>rfl
 obtain ⟨f45,d45,a45,F45⟩:=h45
 have b45:=F45.binds (ps:=["steps", "origins", "pose"]) λ_ _ _ _ _ _ us hl=>match us,hl with | [_,_,_],_=>rfl
 have F46:=qjD (st:=Tq44) l46 c46 k46
 have F47:=qee (st:=Tq47) l47 c47 k47
 have z_range:=Vy X G z0
 have z_enumerate:=Vy X G z1
 have z_len:=Vy X G z2
 have z_list:=Vy X G z3
 have z_reversed:=Vy X G z4
 have z_isinstance:=Vy X G z5
 have z_int:=Vy X G z6
 have z_bool:=Vy X G z7
 have z_tuple:=Vy X G z8
 have z_sorted:=Vy X G z9
 have z_abs:=Vy X G z10
 have z_all:=Vy X G z11
 have z_max:=Vy X G z12
 have z_min:=Vy X G z13
 obtain ⟨C_0,g_0,e_0,n_0,me_0,Fm_0⟩:=hm0
 have bm_0:=Fm_0.binds (ps:=["self", "unit", "out"]) λ_ _ _ _ _ _ us hl=>match us,hl with | [_,_,_],_=>rfl
 obtain ⟨C_1,g_1,e_1,n_1,me_1,Fm_1⟩:=hm1
 have bm_1:=Fm_1.binds (ps:=["self", "unit", "out"]) λ_ _ _ _ _ _ us hl=>match us,hl with | [_,_,_],_=>rfl
 obtain ⟨C_2,g_2,e_2,n_2,me_2,Fm_2⟩:=hm2
 have bm_2:=Fm_2.binds (ps:=["self", "unit", "out"]) λ_ _ _ _ _ _ us hl=>match us,hl with | [_,_,_],_=>rfl
 obtain ⟨C_3,g_3,e_3,n_3,me_3,Fm_3⟩:=hm3
 have bm_3:=Fm_3.binds (ps:=["self", "pose", "way"]) λ_ _ _ _ _ _ us hl=>match us,hl with | [_,_,_],_=>rfl
 obtain ⟨C_4,g_4,e_4,n_4,me_4,Fm_4⟩:=hm4
 have bm_4:=Fm_4.binds (ps:=["self", "pose", "way"]) λ_ _ _ _ _ _ us hl=>match us,hl with | [_,_,_],_=>rfl
 obtain ⟨C_5,g_5,e_5,n_5,me_5,Fm_5⟩:=hm5
 have bm_5:=Fm_5.binds (ps:=["self", "pose", "way"]) λ_ _ _ _ _ _ us hl=>match us,hl with | [_,_,_],_=>rfl
 have CT:=qjn X G ct
 have C_BENDS:W6 K mg "BENDS" qb3:=⟨(.ref kc0_a0),(.ref kc0_a0),Ni X G kc0,rfl,λH S=>(.tuple (xs:=[(.int (-1)),(.int (0)),(.int (1))]) (.inr ⟨_,_,_,kc0_h0,rfl,rfl,(show 3<=ak by decide),(.cons ⟨_,rfl⟩ (.cons ⟨_,rfl⟩ (.cons ⟨_,rfl⟩ .nil)))⟩) (.cons (.int (-1)) (.cons (.int (0)) (.cons (.int (1)) .nil))))⟩
 have C_STEPS:qd5 K mg "STEPS" jk:=⟨_,_,Ni X G kc1,kc1_h0,rfl,rfl,λH S=>(.tuple (xs:=[(.ref kc1_a3),(.ref kc1_a9),(.ref kc1_a15),(.ref kc1_a21)]) (.inr ⟨_,_,_,kc1_h0,rfl,rfl,(show 4<=ak by decide),(.cons rfl (.cons rfl (.cons rfl (.cons rfl .nil))))⟩) (.cons (.tuple (xs:=[(.int (1)),(.int (0))]) (.inr ⟨_,_,_,kc1_h3,rfl,rfl,(show 2<=ak by decide),(.cons ⟨_,rfl⟩ (.cons ⟨_,rfl⟩ .nil))⟩) (.cons (.int (1)) (.cons (.int (0)) .nil))) (.cons (.tuple (xs:=[(.int (0)),(.int (1))]) (.inr ⟨_,_,_,kc1_h9,rfl,rfl,(show 2<=ak by decide),(.cons ⟨_,rfl⟩ (.cons ⟨_,rfl⟩ .nil))⟩) (.cons (.int (0)) (.cons (.int (1)) .nil))) (.cons (.tuple (xs:=[(.int (-1)),(.int (0))]) (.inr ⟨_,_,_,kc1_h15,rfl,rfl,(show 2<=ak by decide),(.cons ⟨_,rfl⟩ (.cons ⟨_,rfl⟩ .nil))⟩) (.cons (.int (-1)) (.cons (.int (0)) .nil))) (.cons (.tuple (xs:=[(.int (0)),(.int (-1))]) (.inr ⟨_,_,_,kc1_h21,rfl,rfl,(show 2<=ak by decide),(.cons ⟨_,rfl⟩ (.cons ⟨_,rfl⟩ .nil))⟩) (.cons (.int (0)) (.cons (.int (-1)) .nil))) .nil)))))⟩
 have C_START:W6 K mg "START" YJ:=⟨(.ref kc2_a0),(.ref kc2_a0),Ni X G kc2,rfl,λH S=>(.tuple (xs:=[(.ref kc2_a4),(.ref kc2_a11),(.ref kc2_a18)]) (.inr ⟨_,_,_,kc2_h0,rfl,rfl,(show 3<=ak by decide),(.cons rfl (.cons rfl (.cons rfl .nil)))⟩) (.cons (.tuple (xs:=[(.int (1)),(.int (1)),(.int (0))]) (.inr ⟨_,_,_,kc2_h4,rfl,rfl,(show 3<=ak by decide),(.cons ⟨_,rfl⟩ (.cons ⟨_,rfl⟩ (.cons ⟨_,rfl⟩ .nil)))⟩) (.cons (.int (1)) (.cons (.int (1)) (.cons (.int (0)) .nil)))) (.cons (.tuple (xs:=[(.int (1)),(.int (0)),(.int (0))]) (.inr ⟨_,_,_,kc2_h11,rfl,rfl,(show 3<=ak by decide),(.cons ⟨_,rfl⟩ (.cons ⟨_,rfl⟩ (.cons ⟨_,rfl⟩ .nil)))⟩) (.cons (.int (1)) (.cons (.int (0)) (.cons (.int (0)) .nil)))) (.cons (.tuple (xs:=[(.int (0)),(.int (1)),(.int (0))]) (.inr ⟨_,_,_,kc2_h18,rfl,rfl,(show 3<=ak by decide),(.cons ⟨_,rfl⟩ (.cons ⟨_,rfl⟩ (.cons ⟨_,rfl⟩ .nil)))⟩) (.cons (.int (0)) (.cons (.int (1)) (.cons (.int (0)) .nil)))) .nil))))⟩
 refine ⟨Ue "law" "law" (Za Tq47) (Qa Tq47) (qe Tq47) .none kV47 dc47 pm47 an47 cd47 ct47,λs v=>.of_eq rfl,λbase _ _=>?_⟩
 have b47:=F47.binds (ps:=["_law_script"]) λ_ _ _ _ _ _ us hl=>match us,hl with | [_],_=>rfl
 have K_links_of:=qet l.prog w base F0 (g a0) b0 z_range
 have K_reached_from:=qaA l.prog w base F1 (g a1) b1
 have K_first_meeting:=WL l.prog w base F2 (g a2) b2 z_enumerate
 have K_path_back:=qdm l.prog w base F3 (g a3) b3
 have K_path_between:=qaz l.prog w base F4 (g a4) b4 K_path_back z_len z_list z_reversed
 have K_is_whole:=qes l.prog w base F5 (g a5) b5 z_isinstance z_int z_bool
 have K_added:=qjO l.prog w base F6 (g a6) b6
 have K_negated:=qgl l.prog w base F7 (g a7) b7
 have K_cross:=qjP l.prog w base F8 (g a8) b8
 have K_turned:=qhQ l.prog w base F9 (g a9) b9 z_tuple z_range
 have K_joined_turns:=qay l.prog w base F10 (g a10) b10 K_turned
 have K_turn_back:=qdn l.prog w base F11 (g a11) b11 z_tuple z_range
 have K_out_of:=qhP l.prog w base F12 (g a12) b12 K_cross
 have K_unit_of:=qgm l.prog w base F13 (g a13) b13 K_negated
 have K_is_bend:=qgj l.prog w base F14 (g a14) b14 K_is_whole C_BENDS
 have K_join_of:=qgk l.prog w base F15 (g a15) b15 K_is_bend CT
 have K_step_between:=qaB l.prog w base F16 (g a16) b16
 have K_neighbours:=qck l.prog w base F17 (g a17) b17 K_step_between z_sorted C_STEPS
 have K_steps_of:=qeu l.prog w base F18 (g a18) b18 K_neighbours z_range z_len
 have K_clash_or_folded:=Y6 l.prog w base F19 (g a19) b19 K_first_meeting
 have K__law_cell:=qdh l.prog w base F20 (g a20) b20 z_len
 have K__law_whole:=qcj l.prog w base F21 (g a21) b21 z_isinstance z_int z_bool
 have K__law_cross:=qcg l.prog w base F22 (g a22) b22
 have K__law_dot:=qep l.prog w base F23 (g a23) b23
 have K__law_sum:=qer l.prog w base F24 (g a24) b24
 have K__law_unit:=qdl l.prog w base F25 (g a25) b25 K__law_sum
 have K__law_led:=qeq l.prog w base F26 (g a26) b26 K__law_unit K__law_cross K__law_sum K__law_dot z_tuple
 have K__law_pose:=qdj l.prog w base F27 (g a27) b27 K__law_dot K__law_cross z_abs z_range z_tuple
 have K__law_is_spot:=qax l.prog w base F28 (g a28) b28 K__law_whole z_isinstance z_tuple z_len z_all
 have K__law_is_pose:=qaw l.prog w base F29 (g a29) b29 K__law_is_spot z_isinstance z_tuple z_len z_all
 have K__law_neighbour:=w5 l.prog w base F30 (g a30) b30
 have K__law_joined:=qbb l.prog w base F31 (g a31) b31 z_max z_min
 have K__law_grown:=qch l.prog w base F32 (g a32) b32 K__law_cell K__law_neighbour K__law_joined z_len
 have K__law_sheet:=qci l.prog w base F33 (g a33) b33 z_sorted
 have K__law_near:=qdi l.prog w base F34 (g a34) b34 z_int
 have K__law_walked:=qbc l.prog w base F35 (g a35) b35 K__law_led z_len z_range
 have K__law_seen_from:=w6 l.prog w base F36 (g a36) b36 K__law_cross K__law_sum K__law_dot
 have K__law_ring:=qdk l.prog w base F37 (g a37) b37 K__law_whole K__law_walked z_isinstance z_list z_len z_tuple
 have K__law_all_poses:=wZ l.prog w base F38 (g a38) b38 K__law_is_pose z_isinstance z_list z_len z_all
 have K__law_moved_well:=Y5 l.prog w base F39 (g a39) b39 K__law_ring K__law_all_poses K__law_seen_from z_isinstance z_tuple z_len z_range
 have M_goes_on:KnownC l.prog w K mg base "goes_on" 3 2 zZ:=⟨λp hp=>by
  simp only [zZ,Kr,VN,aU] at hp
  rcases hp with rfl|rfl|rfl
  ·exact ⟨_,_,_,_,_,n_0,me_0,by decide,qav l.prog w base Fm_0,bm_0⟩
  ·exact ⟨_,_,_,_,_,n_1,me_1,by decide,qcf l.prog w base Fm_1,bm_1⟩
  ·exact ⟨_,_,_,_,_,n_2,me_2,by decide,qau l.prog w base Fm_2 K_negated,bm_2⟩⟩
 have M_led:KnownC l.prog w K mg base "led" 3 3 qaK:=⟨λp hp=>by
  simp only [qaK,Kr,VN,aU] at hp
  rcases hp with rfl|rfl|rfl
  ·exact ⟨_,_,_,_,_,n_3,me_3,by decide,Yh l.prog w base Fm_3 K_unit_of K_out_of K_cross K_joined_turns K_turn_back K_turned K_added M_goes_on,bm_3⟩
  ·exact ⟨_,_,_,_,_,n_4,me_4,by decide,Yh l.prog w base Fm_4 K_unit_of K_out_of K_cross K_joined_turns K_turn_back K_turned K_added M_goes_on,bm_4⟩
  ·exact ⟨_,_,_,_,_,n_5,me_5,by decide,Yh l.prog w base Fm_5 K_unit_of K_out_of K_cross K_joined_turns K_turn_back K_turned K_added M_goes_on,bm_5⟩⟩
 have K_led_by:=qhO l.prog w base F44 (g a44) b44 K_join_of M_led
 have K_poses_along:=qbd l.prog w base F45 (g a45) b45 K_led_by
 have O46:=qib (mg:=mg) l.prog w base F46 K_steps_of K_reached_from K_links_of K_poses_along K_led_by K_path_between K_clash_or_folded z_len z_range C_START
 have K_folded:Known l.prog w K mg base "folded" 3 6 Qh:=⟨_,_,_,O46,g a46,F46.kp,Yb (us:=[]) (j:=3) y46 rfl rfl (λxs hl=>match xs,hl with | [_,_,_],_=>⟨_,rfl,rfl⟩)⟩
 have X_folded_1:KnownX l.prog w K mg base "folded" 3 6 Qh [.none]:=⟨_,_,_,_,[.non],O46,g a46,F46.kp,Yb (us:=[.none]) (j:=2) y46 rfl rfl (λxs hl=>match xs,hl with | [_,_],_=>⟨_,rfl,rfl⟩),(.cons rfl .nil),λH S=>(.cons .none .nil)⟩
 have X_folded_2:KnownX l.prog w K mg base "folded" 3 6 Qh [(.int (0)),.none]:=⟨_,_,_,_,[(.int (0)),.non],O46,g a46,F46.kp,Yb (us:=[(.int (0) df46_t0),.none]) (j:=1) y46 rfl rfl (λxs hl=>match xs,hl with | [_],_=>⟨_,rfl,rfl⟩),(.cons ⟨_,rfl⟩ (.cons rfl .nil)),λH S=>(.cons (.int (0)) (.cons .none .nil))⟩
 exact qhT (ql4 l.prog w base F47 K__law_grown K__law_cell K__law_neighbour K__law_joined K__law_sheet K__law_near K__law_pose K_folded K__law_all_poses K__law_moved_well X_folded_2 X_folded_1 z_range z_len z_list z_isinstance z_tuple) qgp
end SF
open PySem PySem.W PyProof.Rows
set_option maxRecDepth 100000 in
set_option maxHeartbeats 0 in
theorem PySem.Challenge.cw_sheetfold_k16_folded_from_elsewhere_holds : PySem.Challenge.rw_sheetfold_k16_folded_from_elsewhere.Holds := by
 w_on;o_law
 refine PySem.W.holds_open (q:=HD.vw) (YP:=(PySem.W.kHook HD.KH HD.kA HD.kE).says) HD.left (PySem.W.Hook.of _) (PySem.W.Hook.keeps _) (λs e=>PySem.W.xl_of s (E4.mp e).1) PySem.W.XL.keeps (by rfl) (by rfl) (by rfl) (λs e=>PySem.W.recFacts_of (E4.mp e).2) (by rfl) (by first|assumption|decide +kernel) '%' ⟨rfl,rfl,rfl,rfl,rfl,by decide +kernel⟩ ?hw ?hc
 case hw=>w_witness2
 k_fill
 refine L2.qgU (l:=PySem.Challenge.rw_sheetfold_k16_folded_from_elsewhere) (n:=63) (k:=7) (x := "_law_script") rfl '#' rfl ⟨rfl,by decide,by decide,rfl⟩ (λw h Y=>PySem.W.kIn_of Y) ?F
 case F =>
  intro w mg fa h KX G hmg
  refine' SF.qlg KX G hmg ?_ ?_ ?_ ?_ ?_ ?_ ?_ ?_ ?_ ?_ ?_ ?_ ?_ ?_ ?_ ?_ ?_ ?_ ?_ ?_ ?_ ?_ ?_ ?_ ?_ ?_ ?_ ?_ ?_ ?_ ?_ ?_ ?_ ?_ ?_ ?_ ?_ ?_ ?_ ?_ ?_ ?_ ?_ ?_ ?_ ?_ ?_ ?_ ?_ ?_ ?_ ?_ ?_ ?_ ?_ ?_ ?_ ?_ ?_ ?_ ?_ ?_ ?_ ?_ ?_ ?_ ?_ ?_ ?_ ?_ ?_ ?_ ?_ ?_ ?_ ?_ ?_ ?_ ?_ ?_ ?_ ?_ ?_ ?_ ?_
  all_goals try first|k_is|exact L2.FnK.of (by k_is) (by k_is) (by k_is) (by k_is)|exact L2.MthK.of (by k_is) (by k_is) (by k_is) (by k_is) (by k_is) (by k_is)|kernel_rfl
